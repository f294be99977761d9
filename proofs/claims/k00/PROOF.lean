import PyProof.Rows.All
import Wide.All
import OpenK.AllK
import Wide.FinOn
import HandS.ForMost
import HandS.Wide
import HandS.Evl
import HandS.Head0
import HandS.Head1
import HandS.Head2
import HandS.HeadHook1
import HandS.HeadEnd
import HandS.ForExc
import HandS.ExcInit
import HandS.ExcIs
import HandS.ExcField
import HandS.ExcValue
import HandS.IsInst
import HandS.TryOnly
import HandS.WordsExc
import HandS.TupLe
import PySem.Challenge.RW_farheld_k00_whole_errors_side_by_side
set_option Elab.async false
set_option linter.all false
set_option maxRecDepth 100000
set_option maxHeartbeats 4000000
namespace Far
open PySem L2
def topS (i : Nat) : Stmt := PySem.Challenge.pw_farheld_k00_whole_errors_side_by_side.main.body.getD i (.Pass ⟨0, 0, 0, 0⟩)

abbrev veL : List Value := [.type "ValueError", .type "Exception", .type "BaseException", .type "object"]
/-- all that is asked of an exception class right under HeldError, in one look -/
def coreB (K : PySem.W.Frag) (C H : Addr) : Bool := match K.lookup C with
  | some ⟨.type "type", _, .cls cd, sl⟩ => (match sl.toList with
    | [_, _, _, _, some (.builtin n), _] => n == "ValueError.__new__"
    | _ => false) && (cd.mro == .ref C :: .ref H :: veL) && cd.hasDict && !cd.hasDel
  | _ => false
def moreB (K : PySem.W.Frag) (C : Addr) : Bool :=
  (PySem.W.findIn K (.ref C) "__setattr__" == some (some (.builtin "object.__setattr__"))) && (PySem.W.keepIn K (.ref C)) &&
  (PySem.W.findIn K (.ref C) "__getattribute__" == some (some (.builtin "BaseException.__getattribute__"))) && (PySem.W.findIn K (.ref C) "__getattr__" == some none) && (PySem.W.findIn K (.ref C) "__class__" == some (some (.builtin "object.__class__")))
def noB (K : PySem.W.Frag) (C : Addr) (names : List Str) : Bool := names.all fun n => PySem.W.findIn K (.ref C) n == some none
end Far
namespace FarH
open PySem L2 Far
open He (ga ma frG frG_in frG_at FnD SaysE obsE valE eqO eqO_ok ba refV)
structure ClD where
  x : Str
  names : List Str
def initOk (K : PySem.W.Frag) (x : Str) : Bool :=
  eqO (PySem.W.findIn K (.ref (ga K x)) "__init__") (some (some (.ref (ma K (ga K x) "__init__")))) && (decide (PySem.W.typeIn K (.ref (ma K (ga K x) "__init__")) = some (.type "function")) && PySem.W.keepIn K (.ref (ma K (ga K x) "__init__")))
def ClD.ok (K : PySem.W.Frag) (d : ClD) : Bool :=
  eqO (PySem.W.nsIn K mainGlobals d.x) (some (some (.ref (ga K d.x)))) && (coreB K (ga K d.x) (ga K "HeldError") && (moreB K (ga K d.x) && (match d.names with
    | [] => PySem.W.excIn K (ga K d.x) veL "ValueError.__new__"
    | n :: ns => noB K (ga K d.x) (n :: ns) && initOk K d.x)))
def fnOk (K : PySem.W.Frag) (x : Str) : Bool := eqO (PySem.W.nsIn K mainGlobals x) (some (some (.ref (ga K x)))) && PySem.W.keepIn K (.ref (ga K x))
def noDup : List Addr → Bool
  | [] => true
  | a :: l => !(l.any fun b => Nat.beq a b) && noDup l
theorem noDup_ok : ∀ {l : List Addr}, noDup l = true → l.Nodup
  | [], _ => List.nodup_nil
  | a :: l, h => by
    obtain ⟨h1, h2⟩ := ba (show (!(l.any fun b => Nat.beq a b) && noDup l) = true from h)
    refine List.nodup_cons.mpr ⟨fun hm => ?_, noDup_ok h2⟩
    have h3 : (l.any fun b => Nat.beq a b) = true := List.any_eq_true.mpr ⟨a, hm, Nat.beq_refl a⟩
    rw [h3] at h1
    cases h1

def cds0 : List ClD := [⟨"BadRatio", ["what"]⟩, ⟨"BadPlant", ["what", "mode"]⟩, ⟨"NoMode", ["mode"]⟩, ⟨"BadPhase", ["phase"]⟩, ⟨"BadTicks", ["ticks"]⟩, ⟨"BadTimes", ["repeats"]⟩, ⟨"BadUnit", ["unit"]⟩, ⟨"BadChannel", ["what", "phase", "word"]⟩, ⟨"NoWord", ["word"]⟩, ⟨"BadOrder", ["what"]⟩, ⟨"BadPeriod", ["one", "other"]⟩, ⟨"BadLots", ["index", "what"]⟩, ⟨"BadSensor", ["what"]⟩, ⟨"BadWorld", ["what", "sensor"]⟩, ⟨"NoSensor", ["sensor"]⟩, ⟨"BadOutcomes", []⟩, ⟨"BadText", ["row", "what"]⟩, ⟨"Rising", ["ray"]⟩, ⟨"BadBase", []⟩, ⟨"CountFull", ["tried"]⟩]
def cds1 : List ClD := [⟨"ManyMessages", ["greatest"]⟩, ⟨"Barred", ["bar"]⟩, ⟨"LastMode", []⟩, ⟨"NoOutcome", ["word", "outcome"]⟩, ⟨"LastOutcome", ["word"]⟩, ⟨"NoLot", ["lot"]⟩, ⟨"TooNear", ["tried"]⟩, ⟨"BadProgram", ["who", "what"]⟩, ⟨"NoEntry", ["what"]⟩, ⟨"BadLate", ["late"]⟩, ⟨"BadStart", ["mode"]⟩, ⟨"BadTick", ["what"]⟩, ⟨"BadRun", ["tick", "what"]⟩, ⟨"Unheard", ["outcomes"]⟩, ⟨"BadPoint", []⟩, ⟨"NoBar", ["what"]⟩, ⟨"BadBound", ["bound"]⟩, ⟨"TooLong", ["ticks"]⟩, ⟨"BadSplits", ["place"]⟩, ⟨"TooLarge", []⟩]
def cds2 : List ClD := [⟨"NotQuiet", ["state"]⟩, ⟨"NotLink", ["what"]⟩, ⟨"NoLeast", []⟩, ⟨"TooWide", ["late"]⟩, ⟨"NoFit", ["fault"]⟩, ⟨"NotBelow", ["least"]⟩, ⟨"TooFar", ["ticks"]⟩, ⟨"BadKeeping", ["what", "index"]⟩, ⟨"NoGroup", []⟩, ⟨"NotClosed", ["key"]⟩, ⟨"NotDone", ["most"]⟩, ⟨"BadGroup", []⟩, ⟨"BadPrices", ["sensor"]⟩, ⟨"BadMany", ["many"]⟩, ⟨"BadLiars", []⟩, ⟨"BadDeed", ["what"]⟩, ⟨"NotNow", []⟩, ⟨"NoPlan", []⟩, ⟨"NoDeed", []⟩]
def fnNames : List Str := ["_law_mix", "_law_hand", "_law_draw", "_law_name", "_law_first", "_law_second", "_law_third", "_law_classes", "_law_raised", "law"]
def freeNames : List Str := ["int", "abs", "len", "enumerate", "range", "isinstance", "any", "ValueError"]
def addrs (K : PySem.W.Frag) : List Addr := [ga K "HeldError", ga K "BadRatio", ga K "BadPlant", ga K "NoMode", ga K "BadPhase", ga K "BadTicks", ga K "BadTimes", ga K "BadUnit", ga K "BadOutcomes", ga K "BadChannel", ga K "NoWord", ga K "BadOrder", ga K "BadPeriod", ga K "BadLots", ga K "BadSensor", ga K "BadWorld", ga K "NoSensor", ga K "BadText", ga K "Rising", ga K "BadBase", ga K "CountFull", ga K "ManyMessages", ga K "Barred", ga K "LastMode", ga K "NoOutcome", ga K "LastOutcome", ga K "NoLot", ga K "TooNear", ga K "BadProgram", ga K "NoEntry", ga K "BadLate", ga K "BadStart", ga K "BadTick", ga K "BadRun", ga K "Unheard", ga K "BadPoint", ga K "NoBar", ga K "BadBound", ga K "TooLong", ga K "BadSplits", ga K "TooLarge", ga K "NotQuiet", ga K "NotLink", ga K "NoLeast", ga K "TooWide", ga K "NoFit", ga K "NotBelow", ga K "TooFar", ga K "BadKeeping", ga K "NoGroup", ga K "NotClosed", ga K "NotDone", ga K "BadGroup", ga K "BadPrices", ga K "BadMany", ga K "BadLiars", ga K "BadDeed", ga K "NotNow", ga K "NoPlan", ga K "NoDeed"]
def headOk (K : PySem.W.Frag) : Bool :=
  eqO (PySem.W.nsIn K mainGlobals "HeldError") (some (some (.ref (ga K "HeldError")))) && (decide (PySem.W.typeIn K (.ref (ga K "HeldError")) = some (.type "type")) && (PySem.W.isClsIn K (ga K "HeldError") &&
    (decide (PySem.W.subIn K (.ref (ga K "HeldError")) (.type "BaseException") = some true) && (eqO (PySem.W.specialIn K (.builtin "object.__class__") "__get__") (some (some (.builtin "getset_descriptor.__get__"))) && decide (PySem.W.takesIn K (.builtin "object.__class__") = some true)))))
def exB (K : PySem.W.Frag) : Bool := headOk K && (fnNames.all (fun x => fnOk K x) && (freeNames.all (fun x => eqO (PySem.W.nsIn K mainGlobals x) (some none)) && noDup (addrs K)))

def clB0 (K : PySem.W.Frag) : Bool := cds0.all (fun d => d.ok K)
def clB1 (K : PySem.W.Frag) : Bool := cds1.all (fun d => d.ok K)
def clB2 (K : PySem.W.Frag) : Bool := cds2.all (fun d => d.ok K)
def fds0 : List FnD := [⟨("BadRatio", some "__init__"), "__init__", "BadRatio.__init__", defArgs (inClass (topS 2) 0), defBody (inClass (topS 2) 0), defScope (inClass (topS 2) 0)⟩,
  ⟨("BadPlant", some "__init__"), "__init__", "BadPlant.__init__", defArgs (inClass (topS 3) 0), defBody (inClass (topS 3) 0), defScope (inClass (topS 3) 0)⟩,
  ⟨("NoMode", some "__init__"), "__init__", "NoMode.__init__", defArgs (inClass (topS 4) 0), defBody (inClass (topS 4) 0), defScope (inClass (topS 4) 0)⟩,
  ⟨("BadPhase", some "__init__"), "__init__", "BadPhase.__init__", defArgs (inClass (topS 5) 0), defBody (inClass (topS 5) 0), defScope (inClass (topS 5) 0)⟩,
  ⟨("BadTicks", some "__init__"), "__init__", "BadTicks.__init__", defArgs (inClass (topS 6) 0), defBody (inClass (topS 6) 0), defScope (inClass (topS 6) 0)⟩,
  ⟨("BadTimes", some "__init__"), "__init__", "BadTimes.__init__", defArgs (inClass (topS 7) 0), defBody (inClass (topS 7) 0), defScope (inClass (topS 7) 0)⟩,
  ⟨("BadUnit", some "__init__"), "__init__", "BadUnit.__init__", defArgs (inClass (topS 8) 0), defBody (inClass (topS 8) 0), defScope (inClass (topS 8) 0)⟩,
  ⟨("BadChannel", some "__init__"), "__init__", "BadChannel.__init__", defArgs (inClass (topS 9) 0), defBody (inClass (topS 9) 0), defScope (inClass (topS 9) 0)⟩,
  ⟨("NoWord", some "__init__"), "__init__", "NoWord.__init__", defArgs (inClass (topS 10) 0), defBody (inClass (topS 10) 0), defScope (inClass (topS 10) 0)⟩,
  ⟨("BadOrder", some "__init__"), "__init__", "BadOrder.__init__", defArgs (inClass (topS 11) 0), defBody (inClass (topS 11) 0), defScope (inClass (topS 11) 0)⟩,
  ⟨("BadPeriod", some "__init__"), "__init__", "BadPeriod.__init__", defArgs (inClass (topS 12) 0), defBody (inClass (topS 12) 0), defScope (inClass (topS 12) 0)⟩,
  ⟨("BadLots", some "__init__"), "__init__", "BadLots.__init__", defArgs (inClass (topS 13) 0), defBody (inClass (topS 13) 0), defScope (inClass (topS 13) 0)⟩,
  ⟨("BadSensor", some "__init__"), "__init__", "BadSensor.__init__", defArgs (inClass (topS 14) 0), defBody (inClass (topS 14) 0), defScope (inClass (topS 14) 0)⟩,
  ⟨("BadWorld", some "__init__"), "__init__", "BadWorld.__init__", defArgs (inClass (topS 15) 0), defBody (inClass (topS 15) 0), defScope (inClass (topS 15) 0)⟩,
  ⟨("NoSensor", some "__init__"), "__init__", "NoSensor.__init__", defArgs (inClass (topS 16) 0), defBody (inClass (topS 16) 0), defScope (inClass (topS 16) 0)⟩,
  ⟨("BadText", some "__init__"), "__init__", "BadText.__init__", defArgs (inClass (topS 18) 0), defBody (inClass (topS 18) 0), defScope (inClass (topS 18) 0)⟩,
  ⟨("Rising", some "__init__"), "__init__", "Rising.__init__", defArgs (inClass (topS 19) 0), defBody (inClass (topS 19) 0), defScope (inClass (topS 19) 0)⟩,
  ⟨("CountFull", some "__init__"), "__init__", "CountFull.__init__", defArgs (inClass (topS 21) 0), defBody (inClass (topS 21) 0), defScope (inClass (topS 21) 0)⟩,
  ⟨("ManyMessages", some "__init__"), "__init__", "ManyMessages.__init__", defArgs (inClass (topS 22) 0), defBody (inClass (topS 22) 0), defScope (inClass (topS 22) 0)⟩,
  ⟨("Barred", some "__init__"), "__init__", "Barred.__init__", defArgs (inClass (topS 23) 0), defBody (inClass (topS 23) 0), defScope (inClass (topS 23) 0)⟩,
  ⟨("NoOutcome", some "__init__"), "__init__", "NoOutcome.__init__", defArgs (inClass (topS 25) 0), defBody (inClass (topS 25) 0), defScope (inClass (topS 25) 0)⟩,
  ⟨("LastOutcome", some "__init__"), "__init__", "LastOutcome.__init__", defArgs (inClass (topS 26) 0), defBody (inClass (topS 26) 0), defScope (inClass (topS 26) 0)⟩,
  ⟨("NoLot", some "__init__"), "__init__", "NoLot.__init__", defArgs (inClass (topS 27) 0), defBody (inClass (topS 27) 0), defScope (inClass (topS 27) 0)⟩,
  ⟨("TooNear", some "__init__"), "__init__", "TooNear.__init__", defArgs (inClass (topS 28) 0), defBody (inClass (topS 28) 0), defScope (inClass (topS 28) 0)⟩,
  ⟨("BadProgram", some "__init__"), "__init__", "BadProgram.__init__", defArgs (inClass (topS 29) 0), defBody (inClass (topS 29) 0), defScope (inClass (topS 29) 0)⟩,
  ⟨("NoEntry", some "__init__"), "__init__", "NoEntry.__init__", defArgs (inClass (topS 30) 0), defBody (inClass (topS 30) 0), defScope (inClass (topS 30) 0)⟩,
  ⟨("BadLate", some "__init__"), "__init__", "BadLate.__init__", defArgs (inClass (topS 31) 0), defBody (inClass (topS 31) 0), defScope (inClass (topS 31) 0)⟩,
  ⟨("BadStart", some "__init__"), "__init__", "BadStart.__init__", defArgs (inClass (topS 32) 0), defBody (inClass (topS 32) 0), defScope (inClass (topS 32) 0)⟩,
  ⟨("BadTick", some "__init__"), "__init__", "BadTick.__init__", defArgs (inClass (topS 33) 0), defBody (inClass (topS 33) 0), defScope (inClass (topS 33) 0)⟩]
def fds1 : List FnD := [⟨("BadRun", some "__init__"), "__init__", "BadRun.__init__", defArgs (inClass (topS 34) 0), defBody (inClass (topS 34) 0), defScope (inClass (topS 34) 0)⟩,
  ⟨("Unheard", some "__init__"), "__init__", "Unheard.__init__", defArgs (inClass (topS 35) 0), defBody (inClass (topS 35) 0), defScope (inClass (topS 35) 0)⟩,
  ⟨("NoBar", some "__init__"), "__init__", "NoBar.__init__", defArgs (inClass (topS 37) 0), defBody (inClass (topS 37) 0), defScope (inClass (topS 37) 0)⟩,
  ⟨("BadBound", some "__init__"), "__init__", "BadBound.__init__", defArgs (inClass (topS 38) 0), defBody (inClass (topS 38) 0), defScope (inClass (topS 38) 0)⟩,
  ⟨("TooLong", some "__init__"), "__init__", "TooLong.__init__", defArgs (inClass (topS 39) 0), defBody (inClass (topS 39) 0), defScope (inClass (topS 39) 0)⟩,
  ⟨("BadSplits", some "__init__"), "__init__", "BadSplits.__init__", defArgs (inClass (topS 40) 0), defBody (inClass (topS 40) 0), defScope (inClass (topS 40) 0)⟩,
  ⟨("NotQuiet", some "__init__"), "__init__", "NotQuiet.__init__", defArgs (inClass (topS 42) 0), defBody (inClass (topS 42) 0), defScope (inClass (topS 42) 0)⟩,
  ⟨("NotLink", some "__init__"), "__init__", "NotLink.__init__", defArgs (inClass (topS 43) 0), defBody (inClass (topS 43) 0), defScope (inClass (topS 43) 0)⟩,
  ⟨("TooWide", some "__init__"), "__init__", "TooWide.__init__", defArgs (inClass (topS 45) 0), defBody (inClass (topS 45) 0), defScope (inClass (topS 45) 0)⟩,
  ⟨("NoFit", some "__init__"), "__init__", "NoFit.__init__", defArgs (inClass (topS 46) 0), defBody (inClass (topS 46) 0), defScope (inClass (topS 46) 0)⟩,
  ⟨("NotBelow", some "__init__"), "__init__", "NotBelow.__init__", defArgs (inClass (topS 47) 0), defBody (inClass (topS 47) 0), defScope (inClass (topS 47) 0)⟩,
  ⟨("TooFar", some "__init__"), "__init__", "TooFar.__init__", defArgs (inClass (topS 48) 0), defBody (inClass (topS 48) 0), defScope (inClass (topS 48) 0)⟩,
  ⟨("BadKeeping", some "__init__"), "__init__", "BadKeeping.__init__", defArgs (inClass (topS 49) 0), defBody (inClass (topS 49) 0), defScope (inClass (topS 49) 0)⟩,
  ⟨("NotClosed", some "__init__"), "__init__", "NotClosed.__init__", defArgs (inClass (topS 51) 0), defBody (inClass (topS 51) 0), defScope (inClass (topS 51) 0)⟩,
  ⟨("NotDone", some "__init__"), "__init__", "NotDone.__init__", defArgs (inClass (topS 52) 0), defBody (inClass (topS 52) 0), defScope (inClass (topS 52) 0)⟩,
  ⟨("BadPrices", some "__init__"), "__init__", "BadPrices.__init__", defArgs (inClass (topS 54) 0), defBody (inClass (topS 54) 0), defScope (inClass (topS 54) 0)⟩,
  ⟨("BadMany", some "__init__"), "__init__", "BadMany.__init__", defArgs (inClass (topS 55) 0), defBody (inClass (topS 55) 0), defScope (inClass (topS 55) 0)⟩,
  ⟨("BadDeed", some "__init__"), "__init__", "BadDeed.__init__", defArgs (inClass (topS 57) 0), defBody (inClass (topS 57) 0), defScope (inClass (topS 57) 0)⟩,
  ⟨("_law_mix", none), "_law_mix", "_law_mix", defArgs (topS 62), defBody (topS 62), defScope (topS 62)⟩,
  ⟨("_law_hand", none), "_law_hand", "_law_hand", defArgs (topS 63), defBody (topS 63), defScope (topS 63)⟩,
  ⟨("_law_draw", none), "_law_draw", "_law_draw", defArgs (topS 64), defBody (topS 64), defScope (topS 64)⟩,
  ⟨("_law_name", none), "_law_name", "_law_name", defArgs (topS 65), defBody (topS 65), defScope (topS 65)⟩,
  ⟨("_law_first", none), "_law_first", "_law_first", defArgs (topS 66), defBody (topS 66), defScope (topS 66)⟩,
  ⟨("_law_second", none), "_law_second", "_law_second", defArgs (topS 67), defBody (topS 67), defScope (topS 67)⟩,
  ⟨("_law_third", none), "_law_third", "_law_third", defArgs (topS 68), defBody (topS 68), defScope (topS 68)⟩,
  ⟨("_law_classes", none), "_law_classes", "_law_classes", defArgs (topS 69), defBody (topS 69), defScope (topS 69)⟩,
  ⟨("_law_raised", none), "_law_raised", "_law_raised", defArgs (topS 70), defBody (topS 70), defScope (topS 70)⟩,
  ⟨("law", none), "law", "law", defArgs (topS 71), defBody (topS 71), defScope (topS 71)⟩]
def refsN (o : Obj) : List Addr := match o.data with
  | .dict es _ => es.toList.flatMap fun e => refV e.val
  | .func fd => refV fd.code
  | .cls cd => [cd.ns]
  | _ => []
def stepN (g : Addr → Option Obj) (as : List Addr) : List Addr := as.flatMap fun a => match g a with
  | some o => refsN o
  | none => []
/-- the module's names, their dicts and codes, these dicts' functions, their codes -/
def asN (g : Addr → Option Obj) : List Addr := mainGlobals :: (stepN g [mainGlobals] ++ (stepN g (stepN g [mainGlobals]) ++ (stepN g (stepN g (stepN g [mainGlobals])) ++ stepN g (stepN g (stepN g (stepN g [mainGlobals]))))))
def kOf (g : Addr → Option Obj) : PySem.W.Frag := frG g (asN g)

abbrev AlC : Type := Bool × Bool × Bool × Bool × He.Al × He.Al
def obC (K : PySem.W.Frag) : AlC := (exB K, clB0 K, clB1 K, clB2 K, obsE [] fds0 K, obsE [] fds1 K)
def valC : AlC := (true, true, true, true, valE fds0, valE fds1)
structure Says (K : PySem.W.Frag) : Prop where
  b : exB K = true
  c0 : clB0 K = true
  c1 : clB1 K = true
  c2 : clB2 K = true
  f0 : SaysE [] fds0 K
  f1 : SaysE [] fds1 K
def hk : PySem.W.Hook where
  α := AlC
  obs := fun s => obC (kOf s.heap.get?)
  val := fun _ => valC
  says := fun _ h => ∃ K : PySem.W.Frag, K.In h ∧ Says K
  of := fun _ _ e => ⟨_, frG_in, ⟨congrArg (fun z : AlC => z.1) e, congrArg (fun z : AlC => z.2.1) e, congrArg (fun z : AlC => z.2.2.1) e, congrArg (fun z : AlC => z.2.2.2.1) e, congrArg (fun z : AlC => z.2.2.2.2.1) e, congrArg (fun z : AlC => z.2.2.2.2.2) e⟩⟩
  keeps := fun _ _ _ ⟨K, hK, c⟩ k => ⟨K, PySem.W.Frag.In.keeps hK k, c⟩
def ob (s : PySem.W.SharedT) : AlC := obC (kOf (HandSHeadRun.getT s))
theorem ob_eq (s : PySem.W.SharedT) : ob s = hk.obs s.abs := by
  have e : HandSHeadRun.getT s = s.abs.heap.get? := funext (HandSHeadRun.getT_eq s)
  unfold ob
  rw [e]
  rfl
end FarH
namespace FarHead
open PySem PySem.W PySem.Calls PyProof.Rows
abbrev R : OpenRow := OpenLaw.row PySem.Challenge.rw_farheld_k00_whole_errors_side_by_side
def names0 : List PySem.Str := ["HeldError", "BadRatio", "BadPlant", "NoMode", "BadPhase", "BadTicks", "BadTimes", "BadUnit", "BadChannel", "NoWord", "BadOrder", "BadPeriod", "BadLots", "BadSensor", "BadWorld", "NoSensor", "BadOutcomes", "BadText", "Rising", "BadBase", "CountFull", "ManyMessages", "Barred", "LastMode", "NoOutcome", "LastOutcome", "NoLot", "TooNear", "BadProgram", "NoEntry"]
def names1 : List PySem.Str := ["BadLate", "BadStart", "BadTick", "BadRun", "Unheard", "BadPoint", "NoBar", "BadBound", "TooLong", "BadSplits", "TooLarge", "NotQuiet", "NotLink", "NoLeast", "TooWide", "NoFit", "NotBelow", "TooFar", "BadKeeping", "NoGroup", "NotClosed", "NotDone", "BadGroup", "BadPrices", "BadMany", "BadLiars", "BadDeed", "NotNow", "NoPlan", "NoDeed"]
def names2 : List PySem.Str := ["_law_mix", "_law_hand", "_law_draw", "_law_name", "_law_first", "_law_second", "_law_third", "_law_classes", "_law_raised"]
def names : List PySem.Str := names0 ++ names1 ++ names2
noncomputable def endS (w : World) (os : OsState) : Option SharedT := HandSHeadRun.endF (HandSHeadRun.stepQ (HandSHeadRun.denQ HandSHeadRun.tabQ) R.prog w) 15000 R.prog w os
theorem pair {s a b : Type} {E : Option s} {f : s → a} {g : s → b} {x : a} {y : b} (h1 : E.map f = some x) (h2 : E.map g = some y) : E.map (fun z => (f z, g z)) = some (x, y) := by
  cases E with
  | none => cases h1
  | some z =>
    have e1 : f z = x := Option.some.inj h1
    have e2 : g z = y := Option.some.inj h2
    show some (f z, g z) = some (x, y)
    rw [e1, e2]
theorem under {s a b c d : Type} {E : Option s} {f : s → a} {g : s → b} {g2 : s → c} {h : s → d} {x : a} {y : b} {y2 : c} {v : d} (h1 : E.map (fun z => (f z, g z, g2 z)) = some (x, y, y2)) (h2 : E.map h = some v) : E.map (fun z => (f z, g z, h z)) = some (x, y, v) := by
  cases E with
  | none => cases h1
  | some z =>
    have e1 : (f z, g z, g2 z) = (x, y, y2) := Option.some.inj h1
    have e2 : h z = v := Option.some.inj h2
    injection e1 with e3 e4
    injection e4 with e4 e5
    show some (f z, g z, h z) = some (x, y, v)
    rw [e3, e4, e2]
theorem run0 (w : World) : HandSHeadRun.RunEq R (view R.prog [71]) Hook.none (fun _ => ()) 15000 names w := by
  intro os
  kernel_rfl

theorem part0 (w : World) (os : OsState) : (endS w os).map (fun s => FarH.exB (FarH.kOf (HandSHeadRun.getT s))) = some (true) := by
  kernel_rfl
theorem part1 (w : World) (os : OsState) : (endS w os).map (fun s => FarH.clB0 (FarH.kOf (HandSHeadRun.getT s))) = some (true) := by
  kernel_rfl
theorem part2 (w : World) (os : OsState) : (endS w os).map (fun s => FarH.clB1 (FarH.kOf (HandSHeadRun.getT s))) = some (true) := by
  kernel_rfl
theorem part3 (w : World) (os : OsState) : (endS w os).map (fun s => FarH.clB2 (FarH.kOf (HandSHeadRun.getT s))) = some (true) := by
  kernel_rfl
theorem part4 (w : World) (os : OsState) : (endS w os).map (fun s => He.obsE [] FarH.fds0 (FarH.kOf (HandSHeadRun.getT s))) = some (He.valE FarH.fds0) := by
  kernel_rfl
theorem part5 (w : World) (os : OsState) : (endS w os).map (fun s => He.obsE [] FarH.fds1 (FarH.kOf (HandSHeadRun.getT s))) = some (He.valE FarH.fds1) := by
  kernel_rfl
theorem run (w : World) : HandSHeadRun.RunEq R (view R.prog [71]) FarH.hk FarH.ob 15000 names w := by
  intro os
  exact under (run0 w os) (show (endS w os).map (fun s => FarH.ob s) = some FarH.valC from pair (part0 w os) (pair (part1 w os) (pair (part2 w os) (pair (part3 w os) (pair (part4 w os) (part5 w os))))))
end FarHead
namespace Far
open PySem L2
/-! ### a def as its callers know it -/
structure Def (P : Program) (w : World) (K : PySem.W.Frag) (mg : Str → Option Value) (base : Heap) (CX : CXT) (k : Nat) (x : Str) (ps : List Str) (sp : Sp) : Prop where
  ex : ∃ (f : Addr) (fd : FuncData), FnOk P w K mg base CX k f fd ps sp ∧ mg x = some (.ref f) ∧ PySem.W.keepIn K (.ref f) = true ∧ Binds K fd ps []
section
variable {X : Cx} {CX : CXT} {k : Nat} {ps : List Str} {sp : Sp} {E : XK} {x : Str} {p pos : Pos} {e : Expr} {es : List Expr} {t : TA}
theorem pe_dcall (D : Def X.prog X.w X.K X.mg X.base CX k x ps sp) (hr : Room k X.A) (hx : Passes CX X E) (ha : PA X (e :: es) t) (hg : Gl X x := by rfl)
    (hdb : (x == ("__debug__" : Str)) = false := by decide) (he : starEach (e :: es) X.env = (false, eval e X.env) :: starEach es X.env := by rfl) (hpl : (backTo pos (starEach es X.env)).any (·.1) = false := by rfl) :
    PE X (.Call (.Name x p) (e :: es) [] pos) (tCall sp [] E t) := by
  obtain ⟨f, fd, F, hm, hk, hb⟩ := D.ex
  exact pe_call F hr hg hm hk hb .nil hx ha hdb he hpl
theorem pe_dcall0 (D : Def X.prog X.w X.K X.mg X.base CX k x ps sp) (hr : Room k X.A) (hx : Passes CX X E) (hg : Gl X x := by rfl) (hdb : (x == ("__debug__" : Str)) = false := by decide) :
    PE X (.Call (.Name x p) [] [] pos) (tCall sp [] E tNil) := by
  obtain ⟨f, fd, F, hm, hk, hb⟩ := D.ex
  exact pe_call0 F hr hg hm hk hb .nil hx hdb
end
/-- the built-in names that no name of the program hides -/
structure Bl (mg : Str → Option Value) : Prop where
  b_int : mg "int" = none
  b_abs : mg "abs" = none
  b_len : mg "len" = none
  b_enumerate : mg "enumerate" = none
  b_range : mg "range" = none
  b_isinstance : mg "isinstance" = none
  b_any : mg "any" = none
  b_ValueError : mg "ValueError" = none

/-! ### the hand -/
/-- a hand at h: its cells at c (never changed), and three numbers -/
def HandOk (H : Hp) (h c : Addr) (ns : List Int) : Prop := ∃ (p r t : Int), H h = some (.lst [.ref c, .int p, .int r, .int t]) ∧ H c = some (.lst (ns.map V.int)) ∧
  ns.length ≤ 63 ∧ (∀ n ∈ ns, 0 ≤ n) ∧ 0 ≤ p ∧ p ≤ 64 ∧ 0 ≤ r ∧ 0 ≤ t ∧ t < 2147483629
def spMix : Sp := fun vs H Q _ => ∃ n k : Int, vs = [.int n, .int k] ∧ 0 ≤ n ∧ n < 2147483647 ∧ 0 ≤ k ∧ k ≤ 1000 ∧ ∀ r, Q (.int r) H
def spHand (K : PySem.W.Frag) : Sp := fun vs H Q _ => ∃ (a : Addr) (ns : List Int), vs = [.ref a] ∧ SqL K H a (ns.map V.int) ∧ ns.length ≤ 63 ∧
  ∀ H' h c ms, Same H H' → H h = none → H c = none → HandOk H' h c ms → Q (.ref h) H'
def spDraw : Sp := fun vs H Q _ => ∃ (h c : Addr) (ns : List Int) (many : Int), vs = [.ref h, .int many] ∧ 0 < many ∧ many.natAbs < 2 ^ 1000 ∧ HandOk H h c ns ∧
  ∀ r H', 0 ≤ r → r < many → HandOk H' h c ns → (∀ a, a ≠ h → H' a = H a) → Q (.int r) H'
section
variable {P : Program} {w : World} {K : PySem.W.Frag} {mg : Str → Option Value} {base : Heap}
abbrev s_mix : Stmt := topS 62
abbrev N_mix : List Str := ["number", "turn", "once", "twice"]
theorem sc_mix : FnScope N_mix ["number", "turn"] (defScope s_mix) := ⟨rfl, rfl, rfl, by decide +kernel, rfl, by decide +kernel, by decide +kernel⟩
theorem ok_mix {f : Addr} {fd : FuncData} (F : Fun K "_law_mix" "_law_mix" s_mix f fd) (T : Bl mg) : FnOk P w K mg base CX0 1 f fd ["number", "turn"] spMix := by
  refine F.ok sc_mix (fun vs H Q E h => ?_) (fun cdv A outer s H vs Q E hr h => ?_)
  · obtain ⟨n, k, rfl, _⟩ := h
    rfl
  · obtain ⟨n, k, rfl, n0, n1, k0, k1, q⟩ := h
    refine ⟨_, (pss_cons (ps_set (i := 2) sc_mix.nd rfl (Or.inl rfl) (pe_op op_mod (pe_callTy call_int1 (by rfl) T.b_int (by decide +kernel) (pa_cons (pe_op op_add (pe_op op_add (pe_op op_mul (pv 0) pe_int) (pe_op op_mul (pv 1) pe_int)) pe_int) pa_nil)) pe_int))
    (pss_cons (ps_set (i := 3) sc_mix.nd rfl (Or.inl rfl) (pe_op op_mod (pe_callTy call_int1 (by rfl) T.b_int (by decide +kernel) (pa_cons (pe_op op_add (pe_op op_add (pe_op op_mul (pv 2) (pv 2)) (pe_op op_mul (pe_op op_fdiv (pv 2) pe_int) pe_int)) (pe_op op_mul (pv 1) pe_int)) pa_nil)) pe_int))
    (pss_one (ps_ret (pe_op op_fdiv (pe_op op_mod (pe_callTy call_int1 (by rfl) T.b_int (by decide +kernel) (pa_cons (pe_op op_add (pe_op op_fdiv (pe_op op_mul (pv 3) (pv 3)) pe_int) (pv 2)) pa_nil)) pe_int) pe_int))))), ?_⟩
    refine ⟨_, rfl, _, _, rfl, rfl, .inr (by decide), _, rfl, _, _, rfl, rfl, .inr (by decide), _, _, rfl, rfl, _, _, rfl, rfl, .inl ⟨_, rfl, _, _, rfl, rfl, (by show (0 : Int) < 2147483647; decide), ?_⟩⟩
    generalize ho : (n * 48271 + k * 16807 + 11) % 2147483647 = once
    have o0 : 0 ≤ once := by omega
    have o1 : once < 2147483647 := by omega
    refine ⟨_, rfl, _, rfl, _, _, rfl, rfl, .inl ⟨by omega, by omega⟩, _, rfl, _, _, rfl, rfl, ⟨by decide, by decide⟩, _, _, rfl, rfl, .inr (by decide), _, _, rfl, rfl, _, rfl, _, _, rfl, rfl, .inr (by decide), _, _, rfl, rfl, .inl ⟨_, rfl, _, _, rfl, rfl, (by show (0 : Int) < 2147483399; decide), ?_⟩⟩
    generalize ht : (once * once + once / 127 * 40692 + k * 69621) % 2147483399 = twice
    have t0 : 0 ≤ twice := by omega
    have t1 : twice < 2147483399 := by omega
    refine ⟨_, rfl, _, rfl, _, _, rfl, rfl, .inl ⟨by omega, by omega⟩, _, _, rfl, rfl, ⟨by decide, by decide⟩, _, rfl, _, _, rfl, rfl, .inl ⟨_, rfl, _, _, rfl, rfl, (by show (0 : Int) < 2147483563; decide), _, _, rfl, rfl, ⟨by decide, by decide⟩, q _⟩⟩
end
end Far
namespace Far
open PySem L2
section
variable {P : Program} {w : World} {K : PySem.W.Frag} {mg : Str → Option Value} {base : Heap}
abbrev s_draw : Stmt := topS 64
abbrev N_draw : List Str := ["hand", "many", "cell", "rest"]
theorem sc_draw : FnScope N_draw ["hand", "many"] (defScope s_draw) := ⟨rfl, rfl, rfl, by decide +kernel, rfl, by decide +kernel, by decide +kernel⟩
theorem ok_draw {f : Addr} {fd : FuncData} (F : Fun K "_law_draw" "_law_draw" s_draw f fd) (T : Bl mg) (D_law_mix : Def P w K mg base CX0 1 "_law_mix" ["number", "turn"] spMix) : FnOk P w K mg base CX0 2 f fd ["hand", "many"] spDraw := by
  refine F.ok sc_draw (fun vs H Q E h => ?_) (fun cdv A outer s H vs Q E hr h => ?_)
  · obtain ⟨a, c, ns, many, rfl, _⟩ := h
    rfl
  · obtain ⟨a, c, ns, many, rfl, m0, m1, ⟨p, r, t, hH, hC, hl, hns, p0, p1, r0, t0, t1⟩, q⟩ := h
    refine ⟨_, (Evl.pss_cut (ps_if (PW.pt (pw_and (pt_cmpR op_eq (pe_ix ix_list (pv 0) pe_int (fun _ _ => rfl)) pe_int (nomark _)) (pw_and1 (pt_cmpR op_lt (pe_ix ix_list (pv 0) pe_int (fun _ _ => rfl)) (pe_callB call_len_seq (by rfl) T.b_len (by decide +kernel) (pa_cons (pe_ix ix_list (pv 0) pe_int (fun _ _ => rfl)) pa_nil)) (nomark _))))) (pss_cons (ps_set (i := 2) sc_draw.nd rfl (Or.inl rfl) (pe_ix ix_list (pe_ix ix_list (pv 0) pe_int (fun _ _ => rfl)) (pe_ix ix_list (pv 0) pe_int (fun _ _ => rfl)) (fun _ _ => rfl)))
    (pss_cons (ps_asg (pe_op op_add (pe_ix ix_list (pv 0) pe_int (fun _ _ => rfl)) pe_int) (pg_sub (pv 0) pe_int set_list) rfl)
    (pss_cons (ps_if (pt_cmpR op_lt (pv 2) (pe_op op_pow pe_int pe_int) (nomark _)) (pss_one (ps_ret (pe_op op_mod (pe_callTy call_int1 (by rfl) T.b_int (by decide +kernel) (pa_cons (pe_dcall D_law_mix (hr.mono (by decide)) pass0 (pa_cons (pe_op op_mod (pe_callTy call_int1 (by rfl) T.b_int (by decide +kernel) (pa_cons (pv 2) pa_nil)) pe_int) (pa_cons (pe_ix ix_list (pv 0) pe_int (fun _ _ => rfl)) pa_nil))) pa_nil)) (pv 1)))) pss_nil)
    (pss_one (ps_asg (pv 2) (pg_sub (pv 0) pe_int set_list) rfl))))) pss_nil)
    (pss_cons (ps_if (pt_cmpR op_gt (pe_ix ix_list (pv 0) pe_int (fun _ _ => rfl)) pe_int (nomark _)) (pss_cons (ps_set (i := 3) sc_draw.nd rfl (Or.inl rfl) (pe_ix ix_list (pv 0) pe_int (fun _ _ => rfl)))
    (pss_cons (ps_asg (pe_op op_fdivW (pv 3) (pv 1)) (pg_sub (pv 0) pe_int set_list) rfl)
    (pss_one (ps_ret (pe_op op_mod (pe_callTy call_int1 (by rfl) T.b_int (by decide +kernel) (pa_cons (pv 3) pa_nil)) (pv 1)))))) pss_nil)
    (pss_cons (ps_asg (pe_op op_mod (pe_callTy call_int1 (by rfl) T.b_int (by decide +kernel) (pa_cons (pe_op op_add (pe_ix ix_list (pv 0) pe_int (fun _ _ => rfl)) pe_int) pa_nil)) pe_int) (pg_sub (pv 0) pe_int set_list) rfl)
    (pss_one (ps_ret (pe_op op_mod (pe_callTy call_int1 (by rfl) T.b_int (by decide +kernel) (pa_cons (pe_dcall D_law_mix (hr.mono (by decide)) pass0 (pa_cons (pe_ix ix_list (pv 0) pe_int (fun _ _ => rfl)) (pa_cons (pe_ix ix_list (pv 0) pe_int (fun _ _ => rfl)) pa_nil))) pa_nil)) (pv 1))))))), ?_⟩
    have nca : c ≠ a := fun e => by
      rw [e, hH] at hC
      have := Option.some.inj hC
      injection this with e1
      cases ns with
      | nil => cases e1
      | cons n l =>
        rw [List.map_cons] at e1
        injection e1 with e2
        cases e2
    have nac : a ≠ c := fun e => nca e.symm
    refine ⟨fun σ' H' => ∃ (v2 : Option V) (p r t : Int), σ' = [some (.ref a), some (.int many), v2, none] ∧ H' a = some (.lst [.ref c, .int p, .int r, .int t]) ∧ H' c = some (.lst (ns.map V.int)) ∧ (∀ b, b ≠ a → H' b = H b) ∧ 0 ≤ p ∧ p ≤ 64 ∧ 0 ≤ r ∧ 0 ≤ t ∧ t < 2147483629, ?_, ?_⟩
    · refine ⟨_, rfl, a, _, 2, _, rfl, rfl, SqL.of hH, rfl, rfl, _, rfl, ?_⟩
      refine ite2 (fun e1 => ?_) (fun e1 => ?_)
      · refine ⟨_, rfl, a, _, 1, _, rfl, rfl, SqL.of hH, rfl, _, rfl, a, _, 0, _, rfl, rfl, SqL.of hH, rfl, c, _, rfl, .inl (SqL.of hC), _, _, rfl, rfl, _, rfl, ?_⟩
        refine ite2 (fun e2 => ?_) (fun e2 => ?_)
        · have e2 := of_decide_eq_true e2
          rw [List.length_map] at e2
          have hi : p.toNat < ns.length := by omega
          have hp : ((p.toNat : Nat) : Int) = p := by omega
          have hat : atI (ns.map V.int) p = some (.int ns[p.toNat]) := by
            have h := atI_nat (xs := ns.map V.int) (j := p.toNat) (v := .int ns[p.toNat]) (by rw [List.getElem?_map, List.getElem?_eq_getElem hi]; rfl)
            rw [hp] at h
            exact h
          have hcell : 0 ≤ ns[p.toNat] := hns _ (List.getElem_mem hi)
          generalize ns[p.toNat] = cell at hat hcell
          refine ⟨_, rfl, a, _, 0, _, rfl, rfl, SqL.of hH, rfl, _, rfl, a, _, 1, _, rfl, rfl, SqL.of hH, rfl, c, _, p, _, rfl, rfl, SqL.of hC, hat, ?_⟩
          refine ⟨_, rfl, a, _, 1, _, rfl, rfl, SqL.of hH, rfl, _, _, rfl, rfl, _, rfl, a, _, 1, 1, rfl, rfl, hH, rfl, ?_⟩
          have hH1 : (upd H a (.lst [.ref c, .int (p + 1), .int r, .int t])) a = some (.lst [.ref c, .int (p + 1), .int r, .int t]) := upd_same
          have hC1 : (upd H a (.lst [.ref c, .int (p + 1), .int r, .int t])) c = some (.lst (ns.map V.int)) := (upd_ne nca).trans hC
          have hU : ∀ b, b ≠ a → (upd H a (.lst [.ref c, .int (p + 1), .int r, .int t])) b = H b := fun b hb => upd_ne hb
          show tSeq _ _ _ _ (upd H a (.lst [.ref c, .int (p + 1), .int r, .int t]))
          generalize upd H a (.lst [.ref c, .int (p + 1), .int r, .int t]) = H1 at hH1 hC1 hU
          refine ⟨_, rfl, _, _, rfl, rfl, ⟨by decide, by decide, by decide⟩, _, _, rfl, rfl, _, rfl, ?_⟩
          refine ite2 (fun e3 => ?_) (fun e3 => ?_)
          · refine ⟨_, rfl, .inl ⟨_, rfl, _, _, rfl, rfl, (by show (0 : Int) < 2147483647; decide), _, rfl, a, _, 1, _, rfl, rfl, SqL.of hH1, rfl, _, _, rfl, by omega, by omega, by omega, by omega, fun z => .inl ⟨_, rfl, _, rfl, _, _, rfl, rfl, m0, ?_⟩⟩⟩
            exact q _ _ (Int.emod_nonneg _ (by omega)) (Int.emod_lt_of_pos _ m0) ⟨p + 1, r, t, hH1, hC1, hl, hns, by omega, by omega, r0, t0, t1⟩ hU
          · refine ⟨_, rfl, _, rfl, a, _, 2, 2, rfl, rfl, hH1, rfl, ?_⟩
            exact ⟨_, p + 1, cell, t, rfl, upd_same, (upd_ne nca).trans hC1, fun b hb => (upd_ne hb).trans (hU b hb), by omega, by omega, hcell, t0, t1⟩
        · exact ⟨_, p, r, t, rfl, hH, hC, fun _ _ => rfl, p0, p1, r0, t0, t1⟩
      · exact ⟨_, p, r, t, rfl, hH, hC, fun _ _ => rfl, p0, p1, r0, t0, t1⟩
    · clear hH hC p0 p1 r0 t0 t1 p r t
      rintro σ' H1 ⟨v2, p, r, t, rfl, hH, hC, hU, p0, p1, r0, t0, t1⟩
      refine ⟨_, rfl, a, _, 2, _, rfl, rfl, SqL.of hH, rfl, _, _, rfl, rfl, _, rfl, ?_⟩
      refine ite2 (fun e1 => ?_) (fun e1 => ?_)
      · refine ⟨_, rfl, a, _, 2, _, rfl, rfl, SqL.of hH, rfl, ?_⟩
        refine ⟨_, rfl, _, rfl, _, _, rfl, rfl, wide_div m0 m1 (by decide) (by decide), _, rfl, a, _, 2, 2, rfl, rfl, hH, rfl, ?_⟩
        refine ⟨_, rfl, .inl ⟨_, rfl, _, rfl, _, _, rfl, rfl, m0, ?_⟩⟩
        exact q _ _ (Int.emod_nonneg _ (by omega)) (Int.emod_lt_of_pos _ m0) ⟨p, r / many, t, upd_same, (upd_ne nca).trans hC, hl, hns, p0, p1, Int.ediv_nonneg r0 (by omega), t0, t1⟩ fun b hb => (upd_ne hb).trans (hU b hb)
      · refine ⟨_, rfl, a, _, 3, _, rfl, rfl, SqL.of hH, rfl, _, _, rfl, rfl, .inl ⟨_, rfl, _, _, rfl, rfl, (by show (0 : Int) < 2147483629; decide), _, rfl, a, _, 3, 3, rfl, rfl, hH, rfl, ?_⟩⟩
        have hH1 : (upd H1 a (.lst [.ref c, .int p, .int r, .int ((t + 1) % 2147483629)])) a = some (.lst [.ref c, .int p, .int r, .int ((t + 1) % 2147483629)]) := upd_same
        have hC1 : (upd H1 a (.lst [.ref c, .int p, .int r, .int ((t + 1) % 2147483629)])) c = some (.lst (ns.map V.int)) := (upd_ne nca).trans hC
        refine ⟨_, rfl, a, _, 3, _, rfl, rfl, SqL.of hH1, rfl, _, rfl, a, _, 1, _, rfl, rfl, SqL.of hH1, rfl, _, _, rfl, by omega, by omega, by omega, by omega, fun z => .inl ⟨_, rfl, _, rfl, _, _, rfl, rfl, m0, ?_⟩⟩
        exact q _ _ (Int.emod_nonneg _ (by omega)) (Int.emod_lt_of_pos _ m0) ⟨p, r, (t + 1) % 2147483629, hH1, hC1, hl, hns, by omega, by omega, r0, by omega, by omega⟩ fun b hb => (upd_ne hb).trans (hU b hb)
end
end Far
namespace Far
open PySem L2
theorem same_new {H : Hp} {p : Addr} {o : HO} (h : H p = none) : Same H (upd H p o) := fun b x e => by
  rw [upd_ne (ne_of_none e h)]
  exact e
theorem yes_turn {σ : L2.St} {H : Hp} {te : TE} {Q : VK} {B : Hp → Prop} (h : te σ H Q) : tYes σ H (fun b H3 => if b = true then te σ H3 Q else B H3) := by
  show (if true = true then te σ H Q else B H)
  rw [if_pos rfl]
  exact h
theorem for_enum {K : PySem.W.Frag} {a : Addr} {xs : List V} {g : TG} {tb : TS} {D : Ends} {σ : St} {H : Hp} (Pv : Nat → St → Hp → Prop) (h0 : Pv 0 σ H) (hl : ∀ i σ H, i ≤ xs.length → Pv i σ H → SqL K H a xs)
    (hs : ∀ (i : Nat) x σ H T, xs[i]? = some x → Pv i σ H → H T = none → g (.ref T) σ (upd H T (.tup [.int (i : Nat), x])) fun σ2 H2 => tb { D with nx := Pv (i + 1), ct := Pv (i + 1), bk := D.nx } σ2 H2) (hd : ∀ σ H, Pv xs.length σ H → D.nx σ H) :
    ∃ W : Nat → Nat → St → Hp → Prop, (∃ m, W 0 m σ H) ∧ ∀ i m σ H, W i m σ H →
      ((Ite K a).stop i H ∧ D.nx σ H) ∨ ((Ite K a).go i H ∧ ∃ N : St → Hp → Prop, (∀ σ' H', N σ' H' → ∃ m', m' < m ∧ W (i + 1) m' σ' H') ∧ ∀ x H', (Ite K a).yld i H x H' → g x σ H' fun σ2 H2 => tb { D with nx := N, ct := N, bk := D.nx } σ2 H2) := by
  refine ⟨fun i m σ H => m = xs.length - i ∧ i ≤ xs.length ∧ Pv i σ H, ⟨xs.length, by simp, Nat.zero_le _, h0⟩, ?_⟩
  rintro i m σ H ⟨rfl, hi, p⟩
  have q := hl i σ H hi p
  by_cases hlt : i < xs.length
  · refine .inr ⟨⟨xs, xs[i], q, by simp [hlt]⟩, Pv (i + 1), fun σ' H' p' => ⟨xs.length - (i + 1), by omega, rfl, hlt, p'⟩, fun x H' y => ?_⟩
    obtain ⟨T, x', rfl, nT, rfl, hx⟩ := y
    exact hs i x' σ H T (hx xs q) p nT
  · refine .inl ⟨⟨xs, q, by omega⟩, ?_⟩
    have e : i = xs.length := by omega
    subst e
    exact hd σ H p
section
variable {P : Program} {w : World} {K : PySem.W.Frag} {mg : Str → Option Value} {base : Heap}
abbrev s_hand : Stmt := topS 63
abbrev N_hand : List Str := ["script", "total", "k", "cell"]
theorem sc_hand : FnScope N_hand ["script"] (defScope s_hand) := ⟨rfl, rfl, rfl, by decide +kernel, rfl, by decide +kernel, by decide +kernel⟩
theorem ok_hand {f : Addr} {fd : FuncData} (F : Fun K "_law_hand" "_law_hand" s_hand f fd) (T : Bl mg) : FnOk P w K mg base CX0 1 f fd ["script"] (spHand K) := by
  refine F.ok sc_hand (fun vs H Q E h => ?_) (fun cdv A outer s H vs Q E hr h => ?_)
  · obtain ⟨a, ns, rfl, _⟩ := h
    rfl
  · obtain ⟨a, ns, rfl, hS, hl, q⟩ := h
    refine ⟨_, (pss_cons (ps_set (i := 1) sc_hand.nd rfl (Or.inl rfl) pe_int)
    (pss_cons (ps_for PassesOwn.never rfl (pi_enum (by rfl) T.b_enumerate (pa_cons (pv 0) pa_nil)) (pg_tup rfl (pgs_cons (pg_name (i := 2) sc_hand.nd rfl (Or.inl rfl)) (pgs_cons (pg_name (i := 3) sc_hand.nd rfl (Or.inl rfl)) pgs_nil))) (pss_one (ps_set (i := 1) sc_hand.nd rfl (Or.inl rfl) (pe_op op_mod (pe_callTy call_int1 (by rfl) T.b_int (by decide +kernel) (pa_cons (pe_op op_add (pe_op op_mul (pv 1) pe_int) (pe_op op_mul (pe_callTy call_int1 (by rfl) T.b_int (by decide +kernel) (pa_cons (pv 3) pa_nil)) (pe_op op_add (pv 2) pe_int))) pa_nil)) pe_int))))
    (pss_one (ps_ret (pe_lst (pa_cons (pe_lc (own := [("cell", 3)]) (g := gName 3) rfl sc_hand.nd (pi_list (pv 0)) (blkOk_by (own := [("cell", 3)]) (N := N_hand) (sc := defScope s_hand) (by decide +kernel)) (fun _ _ _ _ _ => pg_name (i := 3) sc_hand.nd rfl (Or.inl rfl)) (fun _ _ _ _ _ => pts_nil) (fun _ _ _ _ _ => (pe_callB call_abs (by rfl) T.b_abs (by decide +kernel) (pa_cons (pe_callTy call_int1 (by rfl) T.b_int (by decide +kernel) (pa_cons (pv 3) pa_nil)) pa_nil)))) (pa_cons pe_int (pa_cons pe_int (pa_cons (pv 1) pa_nil))))))))), ?_⟩
    refine ⟨.ref a, rfl, a, _, rfl, hS, ?_⟩
    refine for_enum (fun i σ' H' => ∃ (t : Int) (v2 v3 : Option V), σ' = [some (.ref a), some (.int t), v2, v3] ∧ Same H H' ∧ 0 ≤ t ∧ t < 2147483629) ⟨0, none, none, rfl, Same.refl _, by decide, by decide⟩ (fun i σ' H' _ ⟨_, _, _, _, sm, _⟩ => sm.seq hS) ?_ ?_
    · rintro i x σ' H' T hx ⟨t, v2, v3, rfl, sm, t0, t1⟩ nT
      obtain ⟨n, rfl⟩ : ∃ n, x = V.int n := by
        rw [List.getElem?_map] at hx
        cases e : ns[i]? with
        | none =>
          rw [e] at hx
          cases hx
        | some u =>
          rw [e] at hx
          exact ⟨u, (Option.some.inj hx).symm⟩
      refine ⟨T, _, rfl, .inl (.inl upd_same), rfl, _, _, rfl, _, _, rfl, rfl, ?_⟩
      refine ⟨_, rfl, _, _, rfl, rfl, .inr (by decide), _, rfl, .inl ⟨_, rfl, _, rfl, _, _, rfl, rfl, _, _, rfl, rfl, .inr ⟨by have := (List.getElem?_eq_some_iff.mp hx).1; rw [List.length_map] at this; omega, by have := (List.getElem?_eq_some_iff.mp hx).1; rw [List.length_map] at this; omega⟩, _, _, rfl, rfl, .inl ⟨_, rfl, _, _, rfl, rfl, (by show (0 : Int) < 2147483629; decide), ?_⟩⟩⟩
      exact ⟨_, _, _, rfl, sm.trans (same_new nT), Int.emod_nonneg _ (by decide), Int.emod_lt_of_pos _ (by decide)⟩
    · rintro σ' H1 ⟨t, v2, v3, rfl, sm, t0, t1⟩
      refine ⟨_, rfl, a, rfl, ⟨_, sm.seq hS⟩, fun D hD => ?_⟩
      refine lc_list (K := K) (xs := ns.map V.int) (fun i H' => Same H1 H' ∧ H' D = some (.lst (((ns.take i).map fun n => if n < 0 then -n else n).map V.int))) ⟨same_new hD, upd_same⟩ (fun i H' _ p => p.1.seq (sm.seq hS)) ?_ ?_
      · rintro i x H' hx ⟨sm', hd⟩
        obtain ⟨n, rfl, hn⟩ : ∃ n, x = V.int n ∧ ns[i]? = some n := by
          rw [List.getElem?_map] at hx
          cases e : ns[i]? with
          | none =>
            rw [e] at hx
            cases hx
          | some u =>
            rw [e] at hx
            exact ⟨u, (Option.some.inj hx).symm, rfl⟩
        have hlt : i < ns.length := (List.getElem?_eq_some_iff.mp hn).1
        refine ⟨rfl, yes_turn ?_⟩
        refine ⟨_, rfl, .inl ⟨_, rfl, _, rfl, _, hd, ?_, ?_, ?_⟩⟩
        · rw [List.length_map, List.length_map, List.length_take]
          exact Nat.lt_of_le_of_lt (Nat.min_le_left _ _) (small1000 (by omega))
        · exact fun b x e => by
            rw [upd_ne (ne_of_none e hD)]
            exact sm' _ _ e
        · rw [upd_same, List.take_add_one, hn, List.map_append, List.map_append]
          rfl
      · rintro H2 ⟨sm', hd⟩
        have hnot : (ns.map V.int).length = ns.length := List.length_map ..
        rw [hnot, List.take_length] at hd
        refine ⟨_, rfl, by show 4 ≤ sizeLine; decide, fun h hh => ?_⟩
        have nDh : D ≠ h := ne_of_none hd hh
        refine q _ h D (ns.map fun n => if n < 0 then -n else n) ?_ ?_ ?_ ⟨0, 0, t, upd_same, (upd_ne nDh).trans hd, by rw [List.length_map]; exact hl, ?_, by decide, by decide, by decide, t0, t1⟩
        · exact (sm.trans sm').trans (same_new hh)
        · exact sm.free (sm'.free hh)
        · exact sm.free hD
        · intro n hn
          obtain ⟨m, _, rfl⟩ := List.mem_map.mp hn
          split <;> omega
end
end Far
/-! Exceptions of own classes (with or without an own __init__) as values: made, read, asked for their class. -/
namespace FarK
open PySem PySem.W PySem.Calls PyProof.Rows
section
variable {prog : Program} {w : World} {A : Around} {E : Value → Shared → Prop} {s : Shared} {K : Frag} {x D : Addr} {ox od : Obj}
/-- x.__class__ of an exception that has its own dict -/
theorem own_class (C : L2.ExcC K D) {Q : Option Value → Shared → Prop} (X : K.In s.heap) (I : InstAt s.heap x ox D (some od)) (h : Q (some (.ref D)) { s with toks := s.toks + 1 }) :
    wpAny (model prog w) A (getAttr? (.ref x) "__class__") Q E s := by
  have known : (clsIn K D).isSome = true := by
    obtain ⟨cd, e, _⟩ := any_some C.hd
    rw [e]
    rfl
  obtain ⟨hh, gg, dd, tk, os⟩ := s
  have found := looks_find (M := model prog w) X I (findObj_data known C.ha C.hn C.ht)
  have kind := I.type (M := model prog w)
  have get1 := looks_findIn (M := model prog w) X C.hg
  have get2 := looks_findIn (M := model prog w) X C.hk
  have below : Looks (model prog w) hh (isInstance (.ref x) (.type "BaseException")) true := kind.andThen (looks_subIn X C.hs)
  have notPlain : (onTheHeap (Value.ref D) && Value.builtin "BaseException.__getattribute__" == Value.builtin "object.__getattribute__") = false := by
    have e : (Value.builtin "BaseException.__getattribute__" == Value.builtin "object.__getattribute__") = false := by decide +kernel
    rw [e, Bool.and_false]
  unfold getAttr? getAttrBy? getAttrBy
  refine wpAny_bind (wpAny_mkText (wpAny_bind (wpAny_attempt (wpAny_holding (wpAny_bind (kind.at (wpAny_bind (get1.at ?_))))))))
  show wpAny _ _ (ite ((onTheHeap (Value.ref D) && Value.builtin "BaseException.__getattribute__" == Value.builtin "object.__getattribute__") = true) _ _) _ _ _
  rw [notPlain, if_neg Bool.false_ne_true]
  unfold getAttrByItsOwn hookBefore
  refine wpAny_bind ?_
  rw [if_pos (show onTheHeap (Value.ref D) = true from rfl)]
  refine get2.at (wpAny_bind (wpAny_attempt (wpAny_holding ?_)))
  unfold callGetattribute
  rw [show (false && onTheHeap (Value.builtin "BaseException.__getattribute__")) = false from rfl, if_neg Bool.false_ne_true]
  unfold boundAndCalled
  rw [PySem.F.excAttr_ValueError.ga.bind (.ref x)]
  refine wpAny_bind (wpAny_pure ?_)
  show wpAny _ _ (call (.builtin "BaseException.__getattribute__") [.ref x, .str "__class__" tk]) _ _ _
  refine wpAny_call (codeAny_call_builtin PySem.F.excAttr_ValueError.ga.plain PySem.F.entry_bexc_ga (@check_slot (model prog w) _ _ ⟨hh, gg, dd, tk + 1, os⟩ "BaseException.__getattribute__" "BaseException" "__getattribute__" (.ref x) [.str "__class__" tk] [] _ (by decide +kernel) (by decide +kernel) below (PySem.F.args_bexc_ga (.ref x) (.str "__class__" tk)) ?_))
  unfold Builtin.«object.__getattribute__»
  refine wpAny_bind (wpAny_of_eq (a := ((Value.ref x : Value), [Value.str "__class__" tk])) (by first | rfl | (simp only [slotArgs]; rfl)) (wpAny_bind (wpAny_pure (wpAny_bind (kind.at (wpAny_bind (found.at ?_)))))))
  show wpAny _ _ (holding [Value.builtin "object.__class__"] (call (.builtin "getset_descriptor.__get__") [.builtin "object.__class__", .ref x, .ref D]) >>= ret) _ _ _
  refine wpAny_bind (wpAny_holding (wpAny_call (class_get (s := ⟨hh, gg, dd, tk + 1, os⟩) (ox := ox) (od := some od) X I C.hm (wpAny_pure ?_))))
  show wpAny _ _ (handedOut (.ref D)) _ _ _
  rw [handedOut_of (v := .ref D) rfl]
  first
    | exact wpAny_pure (wpAny_bind (wpAny_pure (wpAny_pure h)))
    | exact wpAny_pure (wpAny_pure h)
    | exact wpAny_pure h
end
end FarK
namespace Far
open PySem L2
/-- the classes of exceptions as their users know them -/
structure ExT (K : PySem.W.Frag) (C : Addr) : Prop where
  o : OexC K C
  x : ExcC K C
  self : PySem.W.kitCls K (.ref C) (.ref C) = some true
theorem kit_none {K : PySem.W.Frag} {C x : Addr} {ox : Obj} (T : ExT K C) : PySem.W.KitX K (.ref x) (.ref C) (fun h => PySem.W.InstAt h x ox C none) :=
  PySem.W.handS_kitx_exc T.x.hg T.x.hk T.x.hs T.x.hd T.x.ha T.x.hn T.x.ht T.x.hm
theorem kit_some {K : PySem.W.Frag} {C x : Addr} {ox od : Obj} (T : ExT K C) : PySem.W.KitX K (.ref x) (.ref C) (fun h => PySem.W.InstAt h x ox C (some od)) where
  ty := fun _ _ _ I => I.type
  it := fun M h X _ => (PySem.W.kit_cls X T.self).2.1
  ne := fun h tp dd its n sl X htp => by
    obtain ⟨nm, q, N, bs, bm, sn, sub, ab, col, d2, k0, k1, k2, k3, k5, hC, _⟩ := T.o.cls
    cases e : (Value.ref C == Value.ref tp) with
    | false => rfl
    | true =>
      have e2 : C = tp := Value.ref.inj (beq_iff_eq.mp e)
      subst e2
      have z := congrArg (fun o : Option Obj => o.map (·.cls)) ((X _ _ hC).symm.trans htp)
      exact absurd (Value.type.inj (Option.some.inj z)) (by decide)
  ca := fun X I k => FarK.own_class T.x X I k
/-- at a: an exception of the class at C with these fields (none given: it has no own dict) -/
def Exc (H : Hp) (a C : Addr) (fs : Option (List (Str × V))) : Prop := (fs = none ∧ H a = some (exo a C none)) ∨ ∃ d l, fs = some l ∧ H a = some (exo a C (some d)) ∧ H d = some (exd d l)
section
variable {X : Cx}
/-- C(): a class without own __init__ -/
theorem pe_exc0 {C : Addr} {x : Str} {p pos : Pos} (q : PySem.W.excIn X.K C [.type "ValueError", .type "Exception", .type "BaseException", .type "object"] "ValueError.__new__" = true) (gC : X.mg x = some (.ref C)) (kC : PySem.W.keepIn X.K (.ref C) = true) (hg : Gl X x := by rfl)
    (hdb : (x == ("__debug__" : Str)) = false := by decide) : PE X (.Call (.Name x p) [] [] pos) (fun _ H Q => ∀ a, H a = none → Q (.ref a) (upd H a (exo a C none))) := by
  refine ⟨fun pins s σ H Q I h => ?_⟩
  refine wpAny_Call_Name_kw (ld_glob I hg gC ?_ hdb)
  refine PySem.W.callWith_K0 I.kIn kC ?_
  obtain ⟨bm, N, nm, qn, bs, hdct, sn, sub, ab, col, dd, k0, k1, k2, k3, k5, mN, hC, hN, hni, T⟩ := exc_obj I.kIn q
  refine wpAny_call_exc_subT PySem.F.excBase_ValueError T hC hN hni (fun h' a hm => ?_) (Nat.zero_le _)
  have hn : H a = none := I.hok.gone hm.new
  obtain ⟨t, ht, _, _⟩ := hm.there
  exact ⟨.ref a, upd H a (exo a C none), I.laidN hm.keeps hm.new hn (exo_ok ht), rfl, h a hn⟩
/-- C(e, ..), C's own __init__ keeping sp -/
def tMkV (C : Addr) (sp : Sp) (ta : TA) : TE := fun σ H Q => ta σ H fun vs H1 => vs.length ≤ 1000 ∧ ∀ a, H1 a = none → sp (.ref a :: vs) (upd H1 a (exo a C none)) (fun v H2 => v = .non ∧ Q (.ref a) H2) (fun _ _ _ => False)
theorem pe_oex {e : Expr} {es : List Expr} {ta : TA} {p pos : Pos} {x : Str} {C fI : Addr} {k : Nat} {fd : FuncData} {ps : List Str} {sp : Sp} (T : OexC X.K C) (iC : PySem.W.findIn X.K (.ref C) "__init__" = some (some (.ref fI))) (tI : PySem.W.typeIn X.K (.ref fI) = some (.type "function"))
    (F1 : FnOk X.prog X.w X.K X.mg X.base CX0 k fI fd ps sp) (hb : Binds X.K fd ps []) (hm : X.mg x = some (.ref C)) (hr : Room (k + 1) X.A) (ha : PA X (e :: es) ta) (hg : Gl X x := by rfl)
    (hdb : (x == ("__debug__" : Str)) = false := by decide) (he : starEach (e :: es) X.env = (false, eval e X.env) :: starEach es X.env := by rfl) (hpl : (backTo pos (starEach es X.env)).any (·.1) = false := by rfl) :
    PE X (.Call (.Name x p) (e :: es) [] pos) (tMkV C sp ta) := by
  refine ⟨fun pins s σ H Q I h => ?_⟩
  obtain ⟨nm, q, N, bs, bm, sn, sub, ab, col, dd, k0, k1, k2, k3, k5, hC, hbm⟩ := T.cls
  refine wpAny_Call_Name_kw (ld_glob I hg hm ?_ hdb)
  refine PySem.W.callWith_K (h₀ := X.base) I.ok.mod.kin T.kC (thn (ha.run pos pins s σ H _ I h) fun us s1 ⟨vs, H1, I1, r1, hz, q1⟩ => ⟨I1.kIn, ?_⟩) he hpl
  show wpAny _ _ (call (.ref C) us) _ _ _
  obtain ⟨hp, g, dr, tk, os⟩ := s1
  have hsz : hp.objs.size ≤ hp.objs.size + 1 := Nat.le_succ _
  have hn : H1 (hp.objs.size + 1) = none := I1.hok.fresh hsz
  have hq := q1 (hp.objs.size + 1) hn
  have kk : ∀ b o, hp.get? b = some o → ((hp.push (PySem.W.kdv_tup us)).push (PySem.HandSPX.excO C hp.objs.size)).get? b = some o := fun b o e => Heap.get?_push_of_some _ (Heap.get?_push_of_some _ e)
  have hget : ((hp.push (PySem.W.kdv_tup us)).push (PySem.HandSPX.excO C hp.objs.size)).get? (hp.objs.size + 1) = some (PySem.HandSPX.excO C hp.objs.size) := by heap_get
  have I2 : Inv X pins σ (upd H1 (hp.objs.size + 1) (exo (hp.objs.size + 1) C none)) ⟨(hp.push (PySem.W.kdv_tup us)).push (PySem.HandSPX.excO C hp.objs.size), g, dr, tk, os⟩ := I1.laid (t' := tk) kk hsz (exo_ok hget)
  have r2 : Vals (V.ref (hp.objs.size + 1) :: vs) (Value.ref (hp.objs.size + 1) :: us) := .cons rfl r1
  have hl : (Value.ref (hp.objs.size + 1) :: us).length = ps.length := by
    rw [← r2.length]
    exact F1.len _ _ _ _ hq
  have hus : us.length ≤ sizeLine := by
    rw [← Paired.length r1, sizeLine_eq]
    omega
  have hbd := hb ⟨(hp.push (PySem.W.kdv_tup us)).push (PySem.HandSPX.excO C hp.objs.size), g, dr, tk, os⟩ (Value.ref (hp.objs.size + 1) :: us) I2.kIn (by rw [List.append_nil]; exact hl)
  rw [List.append_nil] at hbd
  refine wpAny_call (PySem.HandSPX.call_own PySem.F.excBase_ValueError (fun Y => PySem.HandSPX.refsVE_contains Y bm hbm) (I1.kIn _ _ hC) (PySem.W.looks_findIn I1.kIn iC) (fun self => PySem.W.bind_fn I1.kIn self tI) hus
    (codeAny_mono (F1.run _ X.stack _ _ ⟨Value.ref (hp.objs.size + 1) :: us, []⟩ (Value.ref (hp.objs.size + 1) :: us) _ _ (fun _ _ _ => False) (hr.make C us []) (I2.env0.make C us []) hbd r2 hq) fun r s' hq' => ?_))
  cases r with
  | error er => exact hq'.elim
  | ok fl =>
    cases fl with
    | ret u =>
      obtain ⟨v, H2, os2, bare2, un2, hok2, rv, ev, q2⟩ := hq'
      subst ev
      exact ⟨rv, .ref (hp.objs.size + 1), H2, I2.call' (ch := []) os2 un2 hok2 bare2 (fun b z => absurd z (by simp)), rfl, q2⟩
    | next => exact hq'.elim
    | brk => exact hq'.elim
    | cont => exact hq'.elim
/-- e.f, e an exception of the class at C with its own dict -/
def tOxF (C : Addr) (f : Str) (te : TE) : TE := fun σ H Q => te σ H fun x H1 => ∃ a d fs v, x = .ref a ∧ H1 a = some (exo a C (some d)) ∧ H1 d = some (exd d fs) ∧ fs.lookup f = some v ∧ Q v H1
theorem pe_oexF {C : Addr} {e : Expr} {te : TE} {pos : Pos} {n : Str} (T : ExT X.K C) (hno : PySem.W.findIn X.K (.ref C) n = some none) (he : PE X e te) (hb : attributeBase e n X.env (eval e X.env) = eval e X.env := by rfl) : PE X (.Attribute e n pos) (tOxF C n te) := by
  refine ⟨fun pins s σ H Q I h => ?_⟩
  refine attr_of hb (thn (he.run pins s σ H _ I h) fun u s1 hh => ?_)
  obtain ⟨x, H1, I1, rx, a, d, fs, v, ex, ea, ed, l, q⟩ := hh
  subst ex
  obtain rfl : u = Value.ref a := rx
  obtain ⟨t1, ho⟩ := exo_at I1.hok ea
  obtain ⟨mA, hns, hr⟩ := exd_at I1.hok ed
  obtain ⟨od, hod, hl⟩ := lookIn_ns hns
  obtain ⟨u, hu, ru⟩ := RelO.some_of (v := v) (o := mA n) (by rw [← l]; exact hr n)
  have J : PySem.W.InstAt s1.heap a { cls := .ref C, dict := some d, data := .fields #[.ref t1, .none, .none, .none, .bool false, .none] } C (some od) := ⟨ho, rfl, rfl, hod⟩
  exact PySem.HandSPX.exc_get I1.kIn J T.x.hg T.x.hk T.x.hs (PySem.W.findObj_own T.x.hd hno rfl (by rw [hl, hu])) (handed_of ru) ⟨v, H1, I1.tok _, ru, q⟩
/-- isinstance(e, c), e an exception -/
def rIsO (K : PySem.W.Frag) : List V → Hp → VK → Prop := fun xs H Q => ∃ (a C : Addr) (fs : Option (List (Str × V))) (c : V) (u : Value) (b : Bool), xs = [.ref a, c] ∧ ClsV c u ∧ ExT K C ∧ Exc H a C fs ∧ PySem.W.kitOne K (.ref C) u = some b ∧ Q (.bl b) H
theorem call_isO : CallR X (.builtin "isinstance") (rIsO X.K) := by
  intro pins s σ H xs us Q I r h
  obtain ⟨a, C, fs, c, u, b, rfl, kc, T, ex, e, q⟩ := h
  obtain ⟨u1, u2, rfl, r1, r2⟩ := vals2 r
  obtain rfl : u1 = Value.ref a := r1
  have e2 := kc.eq r2
  subst e2
  rcases ex with ⟨_, ea⟩ | ⟨d, l, _, ea, ed⟩
  · obtain ⟨t1, ho⟩ := exo_at I.hok ea
    have J : PySem.W.InstAt s.heap a { cls := .ref C, dict := none, data := .fields #[.ref t1, .none, .none, .none, .bool false, .none] } C none := ⟨ho, rfl, rfl, trivial⟩
    exact PySem.W.kia_one (kit_none T) I.kIn J e (fun z => nomatch z) fun tk => ⟨.bl b, H, I.tok tk, rfl, q⟩
  · obtain ⟨t1, ho⟩ := exo_at I.hok ea
    obtain ⟨mA, hns, hr⟩ := exd_at I.hok ed
    obtain ⟨od, hod, hl⟩ := lookIn_ns hns
    have J : PySem.W.InstAt s.heap a { cls := .ref C, dict := some d, data := .fields #[.ref t1, .none, .none, .none, .bool false, .none] } C (some od) := ⟨ho, rfl, rfl, hod⟩
    exact PySem.W.kia_one (kit_some T) I.kIn J e (fun z => nomatch z) fun tk => ⟨.bl b, H, I.tok tk, rfl, q⟩
end
end Far
namespace Far
open PySem L2
section
variable {P : Program} {w : World} {K : PySem.W.Frag} {mg : Str → Option Value} {base : Heap}
/-! ### a name -/
def spName : Sp := fun vs H Q _ => ∃ (h c : Addr) (ns : List Int), vs = [.ref h] ∧ HandOk H h c ns ∧ ∀ (x : Str) H', x.length ≤ 8 → PyData.strOk x = true → HandOk H' h c ns → (∀ a, a ≠ h → H' a = H a) → Q (.str x) H'
abbrev s_name : Stmt := topS 65
abbrev N_name : List Str := ["hand", "word", "k"]
theorem sc_name : FnScope N_name ["hand"] (defScope s_name) := ⟨rfl, rfl, rfl, by decide +kernel, rfl, by decide +kernel, by decide +kernel⟩
theorem letter_at {r : Int} (h0 : 0 ≤ r) (h1 : r < 26) : ∃ c, atI (PySem.Str.ofString "abcdefghijklmnopqrstuvwxyz").cps.toList r = some c ∧ c < 1114112 := by
  have hl : (PySem.Str.ofString "abcdefghijklmnopqrstuvwxyz").cps.toList.length = 26 := by decide +kernel
  have hi : r.toNat < (PySem.Str.ofString "abcdefghijklmnopqrstuvwxyz").cps.toList.length := by rw [hl]; omega
  have e : ((r.toNat : Nat) : Int) = r := by omega
  have q := atI_nat (List.getElem?_eq_getElem hi)
  rw [e] at q
  have hall : ∀ c ∈ (PySem.Str.ofString "abcdefghijklmnopqrstuvwxyz").cps.toList, c < 1114112 := by decide +kernel
  exact ⟨_, q, hall _ (List.getElem_mem hi)⟩
theorem str_push {x : Str} {c : Nat} (h : PyData.strOk x = true) (hc : c < 1114112) : PyData.strOk (x ++ (⟨#[c]⟩ : Str)) = true := by
  show (x.cps ++ #[c]).all (· < 0x110000) = true
  have h' : x.cps.all (· < 0x110000) = true := h
  rw [Array.all_append, h', Bool.true_and]
  simp [hc]
theorem ok_name {f : Addr} {fd : FuncData} (F : Fun K "_law_name" "_law_name" s_name f fd) (T : Bl mg) (D_law_draw : Def P w K mg base CX0 2 "_law_draw" ["hand", "many"] spDraw) : FnOk P w K mg base CX0 3 f fd ["hand"] spName := by
  refine F.ok sc_name (fun vs H Q E h => ?_) (fun cdv A outer s H vs Q E hr h => ?_)
  · obtain ⟨a, c, ns, rfl, _⟩ := h
    rfl
  · obtain ⟨a, c, ns, rfl, hh, q⟩ := h
    refine ⟨_, (pss_cons (ps_set (i := 1) sc_name.nd rfl (Or.inl rfl) pe_str)
    (pss_cons (ps_for PassesOwn.never rfl (pi_range1 rfl T.b_range (pa_cons (pe_op op_add pe_int (pe_dcall D_law_draw (hr.mono (by decide)) pass0 (pa_cons (pv 0) (pa_cons pe_int pa_nil)))) pa_nil)) (pg_name (i := 2) sc_name.nd rfl (Or.inl rfl)) (pss_one (ps_set (i := 1) sc_name.nd rfl (Or.inl rfl) (pe_op op_add_str (pv 1) (pe_ix ix_str pe_str (pe_dcall D_law_draw (hr.mono (by decide)) pass0 (pa_cons (pv 0) (pa_cons pe_int pa_nil))) (fun _ _ => rfl))))))
    (pss_one (ps_ret (pv 1))))), ?_⟩
    refine ⟨_, rfl, a, c, ns, 8, rfl, by decide, by decide, hh, fun r H1 r0 r1 hh1 he1 => ?_⟩
    refine ⟨_, _, rfl, rfl, _, rfl, by omega, by omega, ?_⟩
    refine for_range (lo := 0) (n := (1 + r).toNat) (fun i σ' H' => ∃ (x : Str) (v2 : Option V), σ' = [some (.ref a), some (.str x), v2] ∧ x.length ≤ i ∧ PyData.strOk x = true ∧ HandOk H' a c ns ∧ ∀ b, b ≠ a → H' b = H b) ⟨_, none, rfl, by decide, by decide +kernel, hh1, he1⟩ ?_ ?_
    · rintro i σ' H' hi ⟨x, v2, rfl, hx, hok, hh', he'⟩
      refine ⟨_, rfl, _, rfl, a, c, ns, 26, rfl, by decide, by decide, hh', fun r2 H2 r20 r21 hh2 he2 => ?_⟩
      obtain ⟨cc, hcc, hc1⟩ := letter_at r20 r21
      refine ⟨_, r2, cc, rfl, rfl, by decide, hcc, _, _, rfl, rfl, ?_, ?_⟩
      · have e1 : (⟨#[cc]⟩ : Str).length = 1 := rfl
        rw [e1]
        exact Nat.le_trans (show x.length + 1 ≤ 1000 by omega) (by decide)
      · refine ⟨_, _, rfl, ?_, str_push hok hc1, hh2, fun b hb => (he2 b hb).trans (he' b hb)⟩
        have e1 : (x ++ (⟨#[cc]⟩ : Str)).length = x.length + 1 := by
          show (x.cps ++ #[cc]).size = x.cps.size + 1
          rw [Array.size_append]
          rfl
        rw [e1]
        omega
    · rintro σ' H' ⟨x, v2, rfl, hx, hok, hh', he'⟩
      exact ⟨_, rfl, q x H' (by omega) hok hh' he'⟩
end
end Far
/-! What expressions come to, over heaps that only grow: data (EvD), exceptions (EvX), rows of an exception and two data (EvR). -/
namespace Far
open PySem L2 Evl
section
variable {K : PySem.W.Frag}
mutual
theorem dp_grow {H H' : Hp} (e : Ex H H') : ∀ (d : PyData) (v : V), Dp K H v d → Dp K H' v d
  | .none, _, h => by
    cases h
    exact .non
  | .bool b, _, h => by
    cases h
    exact .bl b
  | .int i, _, h => by
    cases h
    exact .int i
  | .str x, _, h => by
    cases h
    exact .str x
  | .list ds, _, h => by
    cases h with
    | lst hs ha => exact .lst (ex_l e hs) (dps_grow e ds _ ha)
  | .tuple ds, _, h => by
    cases h with
    | tup hs ha => exact .tup (ex_t e hs) (dps_grow e ds _ ha)
  | .dict _, _, h => by cases h
theorem dps_grow {H H' : Hp} (e : Ex H H') : ∀ (ds : List PyData) (vs : List V), DpAll K H vs ds → DpAll K H' vs ds
  | [], _, h => by
    cases h
    exact .nil
  | d :: ds, _, h => by
    cases h with
    | cons h1 h2 => exact .cons (dp_grow e d _ h1) (dps_grow e ds _ h2)
end
theorem dps_len {H : Hp} : ∀ {vs : List V} {ds : List PyData}, DpAll K H vs ds → vs.length = ds.length
  | _, _, .nil => rfl
  | _, _, .cons _ t => by rw [List.length_cons, List.length_cons, dps_len t]

/-- an exception's class and fields (none: no own dict) -/
abbrev Spec := Addr × Option (List (Str × PyData))
def XAt (K : PySem.W.Frag) (H : Hp) (a : Addr) (s : Spec) : Prop := match s.2 with
  | none => H a = some (exo a s.1 none)
  | some fds => ∃ (d : Addr) (fs : List (Str × V)), H a = some (exo a s.1 (some d)) ∧ H d = some (exd d fs) ∧ ∀ p ∈ fds, ∃ v, fs.lookup p.1 = some v ∧ Dp K H v p.2
def XAll (K : PySem.W.Frag) (H : Hp) : List Addr → List Spec → Prop
  | [], [] => True
  | a :: as, s :: ss => XAt K H a s ∧ XAll K H as ss
  | _, _ => False
theorem xat_grow {H H' : Hp} (e : Ex H H') {a : Addr} : ∀ {s : Spec}, XAt K H a s → XAt K H' a s
  | (C, none), h => e _ _ h
  | (C, some fds), ⟨d, fs, h1, h2, h3⟩ => ⟨d, fs, e _ _ h1, e _ _ h2, fun p hp => by
    obtain ⟨v, l, q⟩ := h3 p hp
    exact ⟨v, l, dp_grow e _ _ q⟩⟩
theorem xall_grow {H H' : Hp} (e : Ex H H') : ∀ {as : List Addr} {ss : List Spec}, XAll K H as ss → XAll K H' as ss
  | [], [], _ => trivial
  | _ :: _, _ :: _, h => ⟨xat_grow e h.1, xall_grow e h.2⟩
  | [], _ :: _, h => h
  | _ :: _, [], h => h
/-- a row: an exception, what was told, what is due -/
abbrev Row := Spec × PyData
def RowAt (K : PySem.W.Frag) (H : Hp) (v : V) (r : Row) : Prop := ∃ (t e : Addr) (l1 l2 : V), v = .ref t ∧ H t = some (.tup [.ref e, l1, l2]) ∧ XAt K H e r.1 ∧ Dp K H l1 r.2 ∧ Dp K H l2 r.2
def RowsAt (K : PySem.W.Frag) (H : Hp) : List V → List Row → Prop
  | [], [] => True
  | v :: vs, r :: rs => RowAt K H v r ∧ RowsAt K H vs rs
  | _, _ => False
theorem row_grow {H H' : Hp} (e : Ex H H') {v : V} {r : Row} : RowAt K H v r → RowAt K H' v r := fun ⟨t, x, l1, l2, hv, ht, hx, h1, h2⟩ => ⟨t, x, l1, l2, hv, e _ _ ht, xat_grow e hx, dp_grow e _ _ h1, dp_grow e _ _ h2⟩
theorem rows_grow {H H' : Hp} (e : Ex H H') : ∀ {vs : List V} {rs : List Row}, RowsAt K H vs rs → RowsAt K H' vs rs
  | [], [], _ => trivial
  | _ :: _, _ :: _, h => ⟨row_grow e h.1, rows_grow e h.2⟩
  | [], _ :: _, h => h
  | _ :: _, [], h => h
theorem rows_app {H : Hp} : ∀ {vs ws : List V} {rs qs : List Row}, RowsAt K H vs rs → RowsAt K H ws qs → RowsAt K H (vs ++ ws) (rs ++ qs)
  | [], _, [], _, _, h => h
  | _ :: _, _, _ :: _, _, h, h' => ⟨h.1, rows_app h.2 h'⟩
  | [], _, _ :: _, _, h, _ => h.elim
  | _ :: _, _, [], _, h, _ => h.elim
theorem rows_len {H : Hp} : ∀ {vs : List V} {rs : List Row}, RowsAt K H vs rs → vs.length = rs.length
  | [], [], _ => rfl
  | _ :: _, _ :: _, h => by rw [List.length_cons, List.length_cons, rows_len h.2]
  | [], _ :: _, h => h.elim
  | _ :: _, [], h => h.elim
theorem rows_get {H : Hp} : ∀ {vs : List V} {rs : List Row} {i : Nat} {r : Row}, RowsAt K H vs rs → rs[i]? = some r → ∃ v, vs[i]? = some v ∧ RowAt K H v r
  | v :: vs, r0 :: rs, 0, r, h, e => by
    cases e
    exact ⟨v, rfl, h.1⟩
  | v :: vs, r0 :: rs, i + 1, r, h, e => rows_get (i := i) (r := r) h.2 e
  | [], [], _, _, _, e => by cases e
  | [], _ :: _, _, _, h, _ => h.elim
  | _ :: _, [], _, _, h, _ => h.elim

/-! ### judgements -/
def EvD (K : PySem.W.Frag) (te : TE) (σ : L2.St) (H : Hp) (d : PyData) : Prop := ∀ H1, Ex H H1 → ∀ Q : VK, (∀ v H2, Ex H1 H2 → Dp K H2 v d → Q v H2) → te σ H1 Q
def EvDs (K : PySem.W.Frag) (ta : TA) (σ : L2.St) (H : Hp) (ds : List PyData) : Prop := ∀ H1, Ex H H1 → ∀ Q : List V → Hp → Prop, (∀ vs H2, Ex H1 H2 → DpAll K H2 vs ds → Q vs H2) → ta σ H1 Q
def EvX (K : PySem.W.Frag) (te : TE) (σ : L2.St) (H : Hp) (s : Spec) : Prop := ∀ H1, Ex H H1 → ∀ Q : VK, (∀ a H2, Ex H1 H2 → XAt K H2 a s → Q (.ref a) H2) → te σ H1 Q
def EvXs (K : PySem.W.Frag) (ta : TA) (σ : L2.St) (H : Hp) (ss : List Spec) : Prop := ∀ H1, Ex H H1 → ∀ Q : List V → Hp → Prop, (∀ as H2, Ex H1 H2 → XAll K H2 as ss → Q (as.map V.ref) H2) → ta σ H1 Q
def EvR (K : PySem.W.Frag) (te : TE) (σ : L2.St) (H : Hp) (r : Row) : Prop := ∀ H1, Ex H H1 → ∀ Q : VK, (∀ v H2, Ex H1 H2 → RowAt K H2 v r → Q v H2) → te σ H1 Q
def EvRs (K : PySem.W.Frag) (ta : TA) (σ : L2.St) (H : Hp) (rs : List Row) : Prop := ∀ H1, Ex H H1 → ∀ Q : List V → Hp → Prop, (∀ vs H2, Ex H1 H2 → RowsAt K H2 vs rs → Q vs H2) → ta σ H1 Q
def EvL (K : PySem.W.Frag) (te : TE) (σ : L2.St) (H : Hp) (rs : List Row) : Prop := ∀ H1, Ex H H1 → ∀ Q : VK, (∀ p vs H2, Ex H1 H2 → H2 p = some (.lst vs) → RowsAt K H2 vs rs → Q (.ref p) H2) → te σ H1 Q
variable {σ : L2.St} {H : Hp} {te tb : TE} {ta : TA}
theorem evd_var {i : Nat} {v : V} {d : PyData} (h : σ[i]? = some (some v)) (q : Dp K H v d) : EvD K (tVar i) σ H d := fun H1 e Q k => ⟨v, h, k v H1 (Ex.refl H1) (dp_grow e _ _ q)⟩
theorem evd_int {i : Int} : EvD K (tC (.int i)) σ H (.int i) := fun H1 _ Q k => k _ H1 (Ex.refl H1) (.int i)
theorem evds_nil : EvDs K tNil σ H [] := fun H1 _ Q k => k [] H1 (Ex.refl H1) .nil
theorem evds_cons {d : PyData} {ds : List PyData} (h : EvD K te σ H d) (t : EvDs K ta σ H ds) : EvDs K (tCons te ta) σ H (d :: ds) := fun H1 e Q k =>
  h H1 e _ fun v H2 e2 hv => t H2 (e.trans e2) _ fun vs H3 e3 hvs => k _ H3 (e2.trans e3) (.cons (dp_grow e3 _ _ hv) hvs)
theorem evd_tup {ds : List PyData} (h : EvDs K ta σ H ds) (hl : ds.length ≤ 1000) : EvD K (tTup ta) σ H (.tuple ds) := fun H1 e Q k =>
  h H1 e _ fun vs H2 e2 hvs => ⟨sz_of (by rw [dps_len hvs]; omega), fun p hp => k _ _ (e2.trans (Ex.new hp)) (.tup (st_of upd_same) (dps_grow (Ex.new hp) _ _ hvs))⟩
theorem evd_lst {ds : List PyData} (h : EvDs K ta σ H ds) (hl : ds.length ≤ 1000) : EvD K (tLst ta) σ H (.list ds) := fun H1 e Q k =>
  h H1 e _ fun vs H2 e2 hvs => ⟨sz_of (by rw [dps_len hvs]; omega), fun p hp => k _ _ (e2.trans (Ex.new hp)) (.lst (sq_of upd_same) (dps_grow (Ex.new hp) _ _ hvs))⟩
/-- e.f of an exception -/
theorem evd_fld {C : Addr} {f : Str} {fds : List (Str × PyData)} {d : PyData} (h : EvX K te σ H (C, some fds)) (hf : (f, d) ∈ fds) : EvD K (tOxF C f te) σ H d := fun H1 e Q k =>
  h H1 e _ fun a H2 e2 ⟨dx, fs, h1, h2, h3⟩ => by
    obtain ⟨v, l, q⟩ := h3 _ hf
    exact ⟨a, dx, fs, v, rfl, h1, h2, l, k v H2 e2 q⟩
theorem evx_var {i : Nat} {a : Addr} {s : Spec} (h : σ[i]? = some (some (.ref a))) (q : XAt K H a s) : EvX K (tVar i) σ H s := fun H1 e Q k => ⟨_, h, k a H1 (Ex.refl H1) (xat_grow e q)⟩
theorem evx_new {C : Addr} : EvX K (fun _ H Q => ∀ a, H a = none → Q (.ref a) (upd H a (exo a C none))) σ H (C, none) := fun H1 _ Q k a ha => k a _ (Ex.new ha) upd_same
/-- what an __init__ of the class at C promises that stores its arguments under these names -/
def spX (C : Addr) (names : List Str) : Sp := fun vs H Q _ => ∃ (a : Addr) (ws : List V), vs = .ref a :: ws ∧ ws.length = names.length ∧ H a = some (exo a C none) ∧
  ∀ (d : Addr) (fs : List (Str × V)) (H' : Hp), H d = none → H' a = some (exo a C (some d)) → H' d = some (exd d fs) → (∀ b, b ≠ a → b ≠ d → H' b = H b) → (∀ p ∈ names.zip ws, fs.lookup p.1 = some p.2) → Q .non H'
theorem zip_dp {H : Hp} : ∀ {names : List Str} {ws : List V} {ds : List PyData} {fs : List (Str × V)}, DpAll K H ws ds → (∀ p ∈ names.zip ws, fs.lookup p.1 = some p.2) → ∀ p ∈ names.zip ds, ∃ v, fs.lookup p.1 = some v ∧ Dp K H v p.2
  | [], _, _, _, _, _, p, hp => by
    rw [List.zip_nil_left] at hp
    cases hp
  | n :: ns, _, _, _, .nil, _, p, hp => by
    rw [List.zip_nil_right] at hp
    cases hp
  | n :: ns, w :: ws, d :: ds, fs, .cons h t, l, p, hp => by
    rw [List.zip_cons_cons] at hp
    rcases List.mem_cons.mp hp with e | hp'
    · subst e
      exact ⟨w, l (n, w) (by rw [List.zip_cons_cons]; exact List.mem_cons_self), h⟩
    · exact zip_dp t (fun q hq => l q (by rw [List.zip_cons_cons]; exact List.mem_cons_of_mem _ hq)) p hp'
theorem evx_make {C : Addr} {names : List Str} {ds : List PyData} (h : EvDs K ta σ H ds) (hl : ds.length = names.length) (hn : names.length ≤ 10) : EvX K (tMkV C (spX C names) ta) σ H (C, some (names.zip ds)) := fun H1 e Q k =>
  h H1 e _ fun vs H2 e2 hvs => by
    have hlen : vs.length = names.length := (dps_len hvs).trans hl
    refine ⟨by omega, fun a ha => ⟨a, vs, rfl, hlen, upd_same, fun d fs H' hd h1 h2 h3 h4 => ⟨rfl, ?_⟩⟩⟩
    have nda : d ≠ a := fun z => by
      rw [z, upd_same] at hd
      cases hd
    have hd2 : H2 d = none := by
      rw [upd_ne nda] at hd
      exact hd
    have ex : Ex H2 H' := fun b o hb => by
      rw [h3 b (ne_of_none hb ha) (ne_of_none hb hd2), upd_ne (ne_of_none hb ha)]
      exact hb
    exact k a H' (e2.trans ex) ⟨d, fs, h1, h2, zip_dp (dps_grow ex _ _ hvs) h4⟩
theorem evxs_nil : EvXs K tNil σ H [] := fun H1 _ Q k => k [] H1 (Ex.refl H1) trivial
theorem evxs_cons {s : Spec} {ss : List Spec} (h : EvX K te σ H s) (t : EvXs K ta σ H ss) : EvXs K (tCons te ta) σ H (s :: ss) := fun H1 e Q k =>
  h H1 e _ fun a H2 e2 ha => t H2 (e.trans e2) _ fun as H3 e3 has => k (a :: as) H3 (e2.trans e3) ⟨xat_grow e3 ha, has⟩
theorem evr_row {t1 t2 t3 : TE} {s : Spec} {d : PyData} (h1 : EvX K t1 σ H s) (h2 : EvD K t2 σ H d) (h3 : EvD K t3 σ H d) : EvR K (tTup (tCons t1 (tCons t2 (tCons t3 tNil)))) σ H (s, d) := fun H1 e Q k =>
  h1 H1 e _ fun a H2 e2 ha => h2 H2 (e.trans e2) _ fun v H3 e3 hv => h3 H3 ((e.trans e2).trans e3) _ fun u H4 e4 hu =>
    ⟨sz_of (by show 3 ≤ 100000; decide), fun p hp => k _ _ (((e2.trans e3).trans e4).trans (Ex.new hp)) ⟨p, a, v, u, rfl, upd_same, xat_grow (((e3.trans e4)).trans (Ex.new hp)) ha, dp_grow (e4.trans (Ex.new hp)) _ _ hv, dp_grow (Ex.new hp) _ _ hu⟩⟩
theorem evrs_nil : EvRs K tNil σ H [] := fun H1 _ Q k => k [] H1 (Ex.refl H1) trivial
theorem evrs_cons {r : Row} {rs : List Row} (h : EvR K te σ H r) (t : EvRs K ta σ H rs) : EvRs K (tCons te ta) σ H (r :: rs) := fun H1 e Q k =>
  h H1 e _ fun a H2 e2 ha => t H2 (e.trans e2) _ fun as H3 e3 has => k (a :: as) H3 (e2.trans e3) ⟨row_grow e3 ha, has⟩
theorem evl_lst {rs : List Row} (h : EvRs K ta σ H rs) (hl : rs.length ≤ 1000) : EvL K (tLst ta) σ H rs := fun H1 e Q k =>
  h H1 e _ fun vs H2 e2 hvs => ⟨sz_of (by rw [rows_len hvs]; omega), fun p hp => k p vs _ (e2.trans (Ex.new hp)) upd_same (rows_grow (Ex.new hp) hvs)⟩
theorem evl_var {i : Nat} {p : Addr} {vs : List V} {rs : List Row} (h : σ[i]? = some (some (.ref p))) (hp : H p = some (.lst vs)) (q : RowsAt K H vs rs) : EvL K (tVar i) σ H rs := fun H1 e Q k => ⟨_, h, k p vs H1 (Ex.refl H1) (e _ _ hp) (rows_grow e q)⟩
theorem evl_cat {rs qs : List Row} (h : EvL K te σ H rs) (t : EvL K tb σ H qs) (hl : rs.length + qs.length ≤ 1000) : EvL K (tOp rCat te tb) σ H (rs ++ qs) := fun H1 e Q k =>
  h H1 e _ fun p vs H2 e2 hp hvs => t H2 (e.trans e2) _ fun q ws H3 e3 hq hws => ⟨p, q, vs, ws, rfl, rfl, e3 _ _ hp, hq, sz_of (by rw [rows_len hvs, rows_len hws]; omega), fun m hm =>
    k m _ _ ((e2.trans e3).trans (Ex.new hm)) upd_same (rows_app (rows_grow (e3.trans (Ex.new hm)) hvs) (rows_grow (Ex.new hm) hws))⟩
variable {D : Ends}
/-- a, b, .. = (C(..), D(..), ..) -/
theorem s_unpack {ss : List Spec} {n : Nat} {tg : List V → L2.St → Hp → (L2.St → Hp → Prop) → Prop} (h : EvXs K ta σ H ss) (hn : ss.length = n) (hl : n ≤ 1000)
    (k : ∀ as H1, Ex H H1 → XAll K H1 as ss → tg (as.map V.ref) σ H1 D.nx) : tAsg (tTup ta) (gTup K n tg) D σ H := h H (Ex.refl H) _ fun as H1 e hx => by
  have la : ∀ {as : List Addr} {ss : List Spec}, XAll K H1 as ss → as.length = ss.length := by
    intro as
    induction as with
    | nil =>
      intro ss h
      cases ss with
      | nil => rfl
      | cons _ _ => exact h.elim
    | cons a as ih =>
      intro ss h
      cases ss with
      | nil => exact h.elim
      | cons s ss => rw [List.length_cons, List.length_cons, ih h.2]
  have l2 : (as.map V.ref).length = n := by rw [List.length_map, la hx, hn]
  exact ⟨sz_of (by rw [l2]; omega), fun p hp => ⟨p, as.map V.ref, rfl, st_of upd_same, l2, k as _ (e.trans (Ex.new hp)) (xall_grow (Ex.new hp) hx)⟩⟩
theorem s_rows {i : Nat} {rs : List Row} (h : EvL K te σ H rs) (k : ∀ p vs H1, Ex H H1 → H1 p = some (.lst vs) → RowsAt K H1 vs rs → D.nx (σ.set i (some (.ref p))) H1) : tAsg te (gName i) D σ H := h H (Ex.refl H) _ k
theorem s_retR {rs : List Row} (h : EvL K te σ H rs) (k : ∀ p vs H1, Ex H H1 → H1 p = some (.lst vs) → RowsAt K H1 vs rs → D.rt (.ref p) H1) : tRet te D σ H := h H (Ex.refl H) _ k
end
end Far
namespace Far
open PySem L2 Evl
section
variable {P : Program} {w : World} {K : PySem.W.Frag} {mg : Str → Option Value} {base : Heap}

theorem list1 {α : Type} {l : List α} (h : l.length = 1) : ∃ a, l = [a] := by
  cases l with
  | nil => cases h
  | cons a t => cases t with
    | nil => exact ⟨a, rfl⟩
    | cons _ _ => cases h
theorem list2 {α : Type} {l : List α} (h : l.length = 2) : ∃ a b, l = [a, b] := by
  cases l with
  | nil => cases h
  | cons a t =>
    obtain ⟨b, rfl⟩ := list1 (l := t) (Nat.succ.inj h)
    exact ⟨a, b, rfl⟩
theorem list3 {α : Type} {l : List α} (h : l.length = 3) : ∃ a b c, l = [a, b, c] := by
  cases l with
  | nil => cases h
  | cons a t =>
    obtain ⟨b, c, rfl⟩ := list2 (l := t) (Nat.succ.inj h)
    exact ⟨a, b, c, rfl⟩
/-- the first store of an __init__ -/
theorem init1 {K : PySem.W.Frag} {a C : Addr} {f : Str} {v : V} {H : Hp} {N : Hp → Prop} (T : OexC K C) (n : PySem.W.findIn K (.ref C) f = some none) (ha : H a = some (exo a C none))
    (k : ∀ d H', H d = none → d ≠ a → H' a = some (exo a C (some d)) → H' d = some (exd d [(f, v)]) → (∀ b, b ≠ a → b ≠ d → H' b = H b) → N H') :
    ∃ a' C' : Addr, V.ref a = .ref a' ∧ OexC K C' ∧ PySem.W.findIn K (.ref C') f = some none ∧
      ((H a' = some (exo a' C' none) ∧ ∀ dx, H dx = none → dx ≠ a' → N (upd (upd H dx (exd dx [(f, v)])) a' (exo a' C' (some dx)))) ∨
        ∃ (dx : Addr) (fs : List (Str × V)), H a' = some (exo a' C' (some dx)) ∧ H dx = some (exd dx fs) ∧ fs.length ≤ 900 ∧ N (upd H dx (exd dx ((f, v) :: fs)))) :=
  ⟨a, C, rfl, T, n, .inl ⟨ha, fun d hd da => k d _ hd da upd_same ((upd_ne da).trans upd_same) fun b h1 h2 => (upd_ne h1).trans (upd_ne h2)⟩⟩
/-- a further one -/
theorem init2 {K : PySem.W.Frag} {a C d : Addr} {f : Str} {v : V} {fs : List (Str × V)} {H H0 : Hp} {N : Hp → Prop} (T : OexC K C) (n : PySem.W.findIn K (.ref C) f = some none) (da : d ≠ a) (ha : H a = some (exo a C (some d))) (hd : H d = some (exd d fs)) (hl : fs.length ≤ 900)
    (hb : ∀ b, b ≠ a → b ≠ d → H b = H0 b) (k : ∀ H', H' a = some (exo a C (some d)) → H' d = some (exd d ((f, v) :: fs)) → (∀ b, b ≠ a → b ≠ d → H' b = H0 b) → N H') :
    ∃ a' C' : Addr, V.ref a = .ref a' ∧ OexC K C' ∧ PySem.W.findIn K (.ref C') f = some none ∧
      ((H a' = some (exo a' C' none) ∧ ∀ dx, H dx = none → dx ≠ a' → N (upd (upd H dx (exd dx [(f, v)])) a' (exo a' C' (some dx)))) ∨
        ∃ (dx : Addr) (fs : List (Str × V)), H a' = some (exo a' C' (some dx)) ∧ H dx = some (exd dx fs) ∧ fs.length ≤ 900 ∧ N (upd H dx (exd dx ((f, v) :: fs)))) :=
  ⟨a, C, rfl, T, n, .inr ⟨d, fs, ha, hd, hl, k _ ((upd_ne (fun z => da z.symm)).trans ha) upd_same fun b h1 h2 => (upd_ne h2).trans (hb b h1 h2)⟩⟩

abbrev s_i_BadRatio : Stmt := inClass (topS 2) 0
theorem sc_i_BadRatio : FnScope ["self", "what"] ["self", "what"] (defScope s_i_BadRatio) := ⟨rfl, rfl, rfl, by decide +kernel, rfl, by decide +kernel, by decide +kernel⟩
theorem ok_i_BadRatio {f C : Addr} {fd : FuncData} (F : Fun K "__init__" "BadRatio.__init__" s_i_BadRatio f fd) (T : OexC K C) (n0 : PySem.W.findIn K (.ref C) "what" = some none) : FnOk P w K mg base CX0 1 f fd ["self", "what"] (spX C ["what"]) := by
  refine F.ok sc_i_BadRatio (fun vs H Q E h => ?_) (fun cdv A outer s H vs Q E hr h => ?_)
  · obtain ⟨a, ws, rfl, hl, _⟩ := h
    exact congrArg (· + 1) hl
  · obtain ⟨a, ws, rfl, hl, ha, k⟩ := h
    refine ⟨_, (pss_one (ps_ost (pv 0) (pv 1))), ?_⟩
    obtain ⟨v0, rfl⟩ := list1 hl
    refine ⟨_, rfl, _, rfl, init1 T n0 ha fun d H0 hd da h1 h2 h3 => ?_⟩
    refine k d _ _ hd h1 h2 h3 ?_
    intro p hp
    have hp' : p ∈ [(("what" : Str), v0)] := hp
    simp only [List.mem_cons, List.not_mem_nil, or_false] at hp'
    rcases hp' with rfl <;> rfl
abbrev s_i_BadPlant : Stmt := inClass (topS 3) 0
theorem sc_i_BadPlant : FnScope ["self", "what", "mode"] ["self", "what", "mode"] (defScope s_i_BadPlant) := ⟨rfl, rfl, rfl, by decide +kernel, rfl, by decide +kernel, by decide +kernel⟩
theorem ok_i_BadPlant {f C : Addr} {fd : FuncData} (F : Fun K "__init__" "BadPlant.__init__" s_i_BadPlant f fd) (T : OexC K C) (n0 : PySem.W.findIn K (.ref C) "what" = some none) (n1 : PySem.W.findIn K (.ref C) "mode" = some none) : FnOk P w K mg base CX0 1 f fd ["self", "what", "mode"] (spX C ["what", "mode"]) := by
  refine F.ok sc_i_BadPlant (fun vs H Q E h => ?_) (fun cdv A outer s H vs Q E hr h => ?_)
  · obtain ⟨a, ws, rfl, hl, _⟩ := h
    exact congrArg (· + 1) hl
  · obtain ⟨a, ws, rfl, hl, ha, k⟩ := h
    refine ⟨_, (pss_cons (ps_ost (pv 0) (pv 1)) (pss_one (ps_ost (pv 0) (pv 2)))), ?_⟩
    obtain ⟨v0, v1, rfl⟩ := list2 hl
    refine ⟨_, rfl, _, rfl, init1 T n0 ha fun d H0 hd da h1 h2 h3 => ?_⟩
    refine ⟨_, rfl, _, rfl, init2 T n1 da h1 h2 (by show 1 ≤ 900; decide) h3 fun H1 g11 g12 g13 => ?_⟩
    refine k d _ _ hd g11 g12 g13 ?_
    intro p hp
    have hp' : p ∈ [(("what" : Str), v0), (("mode" : Str), v1)] := hp
    simp only [List.mem_cons, List.not_mem_nil, or_false] at hp'
    rcases hp' with rfl | rfl <;> rfl
abbrev s_i_NoMode : Stmt := inClass (topS 4) 0
theorem sc_i_NoMode : FnScope ["self", "mode"] ["self", "mode"] (defScope s_i_NoMode) := ⟨rfl, rfl, rfl, by decide +kernel, rfl, by decide +kernel, by decide +kernel⟩
theorem ok_i_NoMode {f C : Addr} {fd : FuncData} (F : Fun K "__init__" "NoMode.__init__" s_i_NoMode f fd) (T : OexC K C) (n0 : PySem.W.findIn K (.ref C) "mode" = some none) : FnOk P w K mg base CX0 1 f fd ["self", "mode"] (spX C ["mode"]) := by
  refine F.ok sc_i_NoMode (fun vs H Q E h => ?_) (fun cdv A outer s H vs Q E hr h => ?_)
  · obtain ⟨a, ws, rfl, hl, _⟩ := h
    exact congrArg (· + 1) hl
  · obtain ⟨a, ws, rfl, hl, ha, k⟩ := h
    refine ⟨_, (pss_one (ps_ost (pv 0) (pv 1))), ?_⟩
    obtain ⟨v0, rfl⟩ := list1 hl
    refine ⟨_, rfl, _, rfl, init1 T n0 ha fun d H0 hd da h1 h2 h3 => ?_⟩
    refine k d _ _ hd h1 h2 h3 ?_
    intro p hp
    have hp' : p ∈ [(("mode" : Str), v0)] := hp
    simp only [List.mem_cons, List.not_mem_nil, or_false] at hp'
    rcases hp' with rfl <;> rfl
abbrev s_i_BadPhase : Stmt := inClass (topS 5) 0
theorem sc_i_BadPhase : FnScope ["self", "phase"] ["self", "phase"] (defScope s_i_BadPhase) := ⟨rfl, rfl, rfl, by decide +kernel, rfl, by decide +kernel, by decide +kernel⟩
theorem ok_i_BadPhase {f C : Addr} {fd : FuncData} (F : Fun K "__init__" "BadPhase.__init__" s_i_BadPhase f fd) (T : OexC K C) (n0 : PySem.W.findIn K (.ref C) "phase" = some none) : FnOk P w K mg base CX0 1 f fd ["self", "phase"] (spX C ["phase"]) := by
  refine F.ok sc_i_BadPhase (fun vs H Q E h => ?_) (fun cdv A outer s H vs Q E hr h => ?_)
  · obtain ⟨a, ws, rfl, hl, _⟩ := h
    exact congrArg (· + 1) hl
  · obtain ⟨a, ws, rfl, hl, ha, k⟩ := h
    refine ⟨_, (pss_one (ps_ost (pv 0) (pv 1))), ?_⟩
    obtain ⟨v0, rfl⟩ := list1 hl
    refine ⟨_, rfl, _, rfl, init1 T n0 ha fun d H0 hd da h1 h2 h3 => ?_⟩
    refine k d _ _ hd h1 h2 h3 ?_
    intro p hp
    have hp' : p ∈ [(("phase" : Str), v0)] := hp
    simp only [List.mem_cons, List.not_mem_nil, or_false] at hp'
    rcases hp' with rfl <;> rfl
abbrev s_i_BadTicks : Stmt := inClass (topS 6) 0
theorem sc_i_BadTicks : FnScope ["self", "ticks"] ["self", "ticks"] (defScope s_i_BadTicks) := ⟨rfl, rfl, rfl, by decide +kernel, rfl, by decide +kernel, by decide +kernel⟩
theorem ok_i_BadTicks {f C : Addr} {fd : FuncData} (F : Fun K "__init__" "BadTicks.__init__" s_i_BadTicks f fd) (T : OexC K C) (n0 : PySem.W.findIn K (.ref C) "ticks" = some none) : FnOk P w K mg base CX0 1 f fd ["self", "ticks"] (spX C ["ticks"]) := by
  refine F.ok sc_i_BadTicks (fun vs H Q E h => ?_) (fun cdv A outer s H vs Q E hr h => ?_)
  · obtain ⟨a, ws, rfl, hl, _⟩ := h
    exact congrArg (· + 1) hl
  · obtain ⟨a, ws, rfl, hl, ha, k⟩ := h
    refine ⟨_, (pss_one (ps_ost (pv 0) (pv 1))), ?_⟩
    obtain ⟨v0, rfl⟩ := list1 hl
    refine ⟨_, rfl, _, rfl, init1 T n0 ha fun d H0 hd da h1 h2 h3 => ?_⟩
    refine k d _ _ hd h1 h2 h3 ?_
    intro p hp
    have hp' : p ∈ [(("ticks" : Str), v0)] := hp
    simp only [List.mem_cons, List.not_mem_nil, or_false] at hp'
    rcases hp' with rfl <;> rfl
abbrev s_i_BadTimes : Stmt := inClass (topS 7) 0
theorem sc_i_BadTimes : FnScope ["self", "repeats"] ["self", "repeats"] (defScope s_i_BadTimes) := ⟨rfl, rfl, rfl, by decide +kernel, rfl, by decide +kernel, by decide +kernel⟩
theorem ok_i_BadTimes {f C : Addr} {fd : FuncData} (F : Fun K "__init__" "BadTimes.__init__" s_i_BadTimes f fd) (T : OexC K C) (n0 : PySem.W.findIn K (.ref C) "repeats" = some none) : FnOk P w K mg base CX0 1 f fd ["self", "repeats"] (spX C ["repeats"]) := by
  refine F.ok sc_i_BadTimes (fun vs H Q E h => ?_) (fun cdv A outer s H vs Q E hr h => ?_)
  · obtain ⟨a, ws, rfl, hl, _⟩ := h
    exact congrArg (· + 1) hl
  · obtain ⟨a, ws, rfl, hl, ha, k⟩ := h
    refine ⟨_, (pss_one (ps_ost (pv 0) (pv 1))), ?_⟩
    obtain ⟨v0, rfl⟩ := list1 hl
    refine ⟨_, rfl, _, rfl, init1 T n0 ha fun d H0 hd da h1 h2 h3 => ?_⟩
    refine k d _ _ hd h1 h2 h3 ?_
    intro p hp
    have hp' : p ∈ [(("repeats" : Str), v0)] := hp
    simp only [List.mem_cons, List.not_mem_nil, or_false] at hp'
    rcases hp' with rfl <;> rfl
abbrev s_i_BadUnit : Stmt := inClass (topS 8) 0
theorem sc_i_BadUnit : FnScope ["self", "unit"] ["self", "unit"] (defScope s_i_BadUnit) := ⟨rfl, rfl, rfl, by decide +kernel, rfl, by decide +kernel, by decide +kernel⟩
theorem ok_i_BadUnit {f C : Addr} {fd : FuncData} (F : Fun K "__init__" "BadUnit.__init__" s_i_BadUnit f fd) (T : OexC K C) (n0 : PySem.W.findIn K (.ref C) "unit" = some none) : FnOk P w K mg base CX0 1 f fd ["self", "unit"] (spX C ["unit"]) := by
  refine F.ok sc_i_BadUnit (fun vs H Q E h => ?_) (fun cdv A outer s H vs Q E hr h => ?_)
  · obtain ⟨a, ws, rfl, hl, _⟩ := h
    exact congrArg (· + 1) hl
  · obtain ⟨a, ws, rfl, hl, ha, k⟩ := h
    refine ⟨_, (pss_one (ps_ost (pv 0) (pv 1))), ?_⟩
    obtain ⟨v0, rfl⟩ := list1 hl
    refine ⟨_, rfl, _, rfl, init1 T n0 ha fun d H0 hd da h1 h2 h3 => ?_⟩
    refine k d _ _ hd h1 h2 h3 ?_
    intro p hp
    have hp' : p ∈ [(("unit" : Str), v0)] := hp
    simp only [List.mem_cons, List.not_mem_nil, or_false] at hp'
    rcases hp' with rfl <;> rfl
abbrev s_i_BadChannel : Stmt := inClass (topS 9) 0
theorem sc_i_BadChannel : FnScope ["self", "what", "phase", "word"] ["self", "what", "phase", "word"] (defScope s_i_BadChannel) := ⟨rfl, rfl, rfl, by decide +kernel, rfl, by decide +kernel, by decide +kernel⟩
theorem ok_i_BadChannel {f C : Addr} {fd : FuncData} (F : Fun K "__init__" "BadChannel.__init__" s_i_BadChannel f fd) (T : OexC K C) (n0 : PySem.W.findIn K (.ref C) "what" = some none) (n1 : PySem.W.findIn K (.ref C) "phase" = some none) (n2 : PySem.W.findIn K (.ref C) "word" = some none) : FnOk P w K mg base CX0 1 f fd ["self", "what", "phase", "word"] (spX C ["what", "phase", "word"]) := by
  refine F.ok sc_i_BadChannel (fun vs H Q E h => ?_) (fun cdv A outer s H vs Q E hr h => ?_)
  · obtain ⟨a, ws, rfl, hl, _⟩ := h
    exact congrArg (· + 1) hl
  · obtain ⟨a, ws, rfl, hl, ha, k⟩ := h
    refine ⟨_, (pss_cons (ps_ost (pv 0) (pv 1)) (pss_cons (ps_ost (pv 0) (pv 2)) (pss_one (ps_ost (pv 0) (pv 3))))), ?_⟩
    obtain ⟨v0, v1, v2, rfl⟩ := list3 hl
    refine ⟨_, rfl, _, rfl, init1 T n0 ha fun d H0 hd da h1 h2 h3 => ?_⟩
    refine ⟨_, rfl, _, rfl, init2 T n1 da h1 h2 (by show 1 ≤ 900; decide) h3 fun H1 g11 g12 g13 => ?_⟩
    refine ⟨_, rfl, _, rfl, init2 T n2 da g11 g12 (by show 2 ≤ 900; decide) g13 fun H2 g21 g22 g23 => ?_⟩
    refine k d _ _ hd g21 g22 g23 ?_
    intro p hp
    have hp' : p ∈ [(("what" : Str), v0), (("phase" : Str), v1), (("word" : Str), v2)] := hp
    simp only [List.mem_cons, List.not_mem_nil, or_false] at hp'
    rcases hp' with rfl | rfl | rfl <;> rfl
abbrev s_i_NoWord : Stmt := inClass (topS 10) 0
theorem sc_i_NoWord : FnScope ["self", "word"] ["self", "word"] (defScope s_i_NoWord) := ⟨rfl, rfl, rfl, by decide +kernel, rfl, by decide +kernel, by decide +kernel⟩
theorem ok_i_NoWord {f C : Addr} {fd : FuncData} (F : Fun K "__init__" "NoWord.__init__" s_i_NoWord f fd) (T : OexC K C) (n0 : PySem.W.findIn K (.ref C) "word" = some none) : FnOk P w K mg base CX0 1 f fd ["self", "word"] (spX C ["word"]) := by
  refine F.ok sc_i_NoWord (fun vs H Q E h => ?_) (fun cdv A outer s H vs Q E hr h => ?_)
  · obtain ⟨a, ws, rfl, hl, _⟩ := h
    exact congrArg (· + 1) hl
  · obtain ⟨a, ws, rfl, hl, ha, k⟩ := h
    refine ⟨_, (pss_one (ps_ost (pv 0) (pv 1))), ?_⟩
    obtain ⟨v0, rfl⟩ := list1 hl
    refine ⟨_, rfl, _, rfl, init1 T n0 ha fun d H0 hd da h1 h2 h3 => ?_⟩
    refine k d _ _ hd h1 h2 h3 ?_
    intro p hp
    have hp' : p ∈ [(("word" : Str), v0)] := hp
    simp only [List.mem_cons, List.not_mem_nil, or_false] at hp'
    rcases hp' with rfl <;> rfl
abbrev s_i_BadOrder : Stmt := inClass (topS 11) 0
theorem sc_i_BadOrder : FnScope ["self", "what"] ["self", "what"] (defScope s_i_BadOrder) := ⟨rfl, rfl, rfl, by decide +kernel, rfl, by decide +kernel, by decide +kernel⟩
theorem ok_i_BadOrder {f C : Addr} {fd : FuncData} (F : Fun K "__init__" "BadOrder.__init__" s_i_BadOrder f fd) (T : OexC K C) (n0 : PySem.W.findIn K (.ref C) "what" = some none) : FnOk P w K mg base CX0 1 f fd ["self", "what"] (spX C ["what"]) := by
  refine F.ok sc_i_BadOrder (fun vs H Q E h => ?_) (fun cdv A outer s H vs Q E hr h => ?_)
  · obtain ⟨a, ws, rfl, hl, _⟩ := h
    exact congrArg (· + 1) hl
  · obtain ⟨a, ws, rfl, hl, ha, k⟩ := h
    refine ⟨_, (pss_one (ps_ost (pv 0) (pv 1))), ?_⟩
    obtain ⟨v0, rfl⟩ := list1 hl
    refine ⟨_, rfl, _, rfl, init1 T n0 ha fun d H0 hd da h1 h2 h3 => ?_⟩
    refine k d _ _ hd h1 h2 h3 ?_
    intro p hp
    have hp' : p ∈ [(("what" : Str), v0)] := hp
    simp only [List.mem_cons, List.not_mem_nil, or_false] at hp'
    rcases hp' with rfl <;> rfl
abbrev s_i_BadPeriod : Stmt := inClass (topS 12) 0
theorem sc_i_BadPeriod : FnScope ["self", "one", "other"] ["self", "one", "other"] (defScope s_i_BadPeriod) := ⟨rfl, rfl, rfl, by decide +kernel, rfl, by decide +kernel, by decide +kernel⟩
theorem ok_i_BadPeriod {f C : Addr} {fd : FuncData} (F : Fun K "__init__" "BadPeriod.__init__" s_i_BadPeriod f fd) (T : OexC K C) (n0 : PySem.W.findIn K (.ref C) "one" = some none) (n1 : PySem.W.findIn K (.ref C) "other" = some none) : FnOk P w K mg base CX0 1 f fd ["self", "one", "other"] (spX C ["one", "other"]) := by
  refine F.ok sc_i_BadPeriod (fun vs H Q E h => ?_) (fun cdv A outer s H vs Q E hr h => ?_)
  · obtain ⟨a, ws, rfl, hl, _⟩ := h
    exact congrArg (· + 1) hl
  · obtain ⟨a, ws, rfl, hl, ha, k⟩ := h
    refine ⟨_, (pss_cons (ps_ost (pv 0) (pv 1)) (pss_one (ps_ost (pv 0) (pv 2)))), ?_⟩
    obtain ⟨v0, v1, rfl⟩ := list2 hl
    refine ⟨_, rfl, _, rfl, init1 T n0 ha fun d H0 hd da h1 h2 h3 => ?_⟩
    refine ⟨_, rfl, _, rfl, init2 T n1 da h1 h2 (by show 1 ≤ 900; decide) h3 fun H1 g11 g12 g13 => ?_⟩
    refine k d _ _ hd g11 g12 g13 ?_
    intro p hp
    have hp' : p ∈ [(("one" : Str), v0), (("other" : Str), v1)] := hp
    simp only [List.mem_cons, List.not_mem_nil, or_false] at hp'
    rcases hp' with rfl | rfl <;> rfl
abbrev s_i_BadLots : Stmt := inClass (topS 13) 0
theorem sc_i_BadLots : FnScope ["self", "index", "what"] ["self", "index", "what"] (defScope s_i_BadLots) := ⟨rfl, rfl, rfl, by decide +kernel, rfl, by decide +kernel, by decide +kernel⟩
theorem ok_i_BadLots {f C : Addr} {fd : FuncData} (F : Fun K "__init__" "BadLots.__init__" s_i_BadLots f fd) (T : OexC K C) (n0 : PySem.W.findIn K (.ref C) "index" = some none) (n1 : PySem.W.findIn K (.ref C) "what" = some none) : FnOk P w K mg base CX0 1 f fd ["self", "index", "what"] (spX C ["index", "what"]) := by
  refine F.ok sc_i_BadLots (fun vs H Q E h => ?_) (fun cdv A outer s H vs Q E hr h => ?_)
  · obtain ⟨a, ws, rfl, hl, _⟩ := h
    exact congrArg (· + 1) hl
  · obtain ⟨a, ws, rfl, hl, ha, k⟩ := h
    refine ⟨_, (pss_cons (ps_ost (pv 0) (pv 1)) (pss_one (ps_ost (pv 0) (pv 2)))), ?_⟩
    obtain ⟨v0, v1, rfl⟩ := list2 hl
    refine ⟨_, rfl, _, rfl, init1 T n0 ha fun d H0 hd da h1 h2 h3 => ?_⟩
    refine ⟨_, rfl, _, rfl, init2 T n1 da h1 h2 (by show 1 ≤ 900; decide) h3 fun H1 g11 g12 g13 => ?_⟩
    refine k d _ _ hd g11 g12 g13 ?_
    intro p hp
    have hp' : p ∈ [(("index" : Str), v0), (("what" : Str), v1)] := hp
    simp only [List.mem_cons, List.not_mem_nil, or_false] at hp'
    rcases hp' with rfl | rfl <;> rfl
abbrev s_i_BadSensor : Stmt := inClass (topS 14) 0
theorem sc_i_BadSensor : FnScope ["self", "what"] ["self", "what"] (defScope s_i_BadSensor) := ⟨rfl, rfl, rfl, by decide +kernel, rfl, by decide +kernel, by decide +kernel⟩
theorem ok_i_BadSensor {f C : Addr} {fd : FuncData} (F : Fun K "__init__" "BadSensor.__init__" s_i_BadSensor f fd) (T : OexC K C) (n0 : PySem.W.findIn K (.ref C) "what" = some none) : FnOk P w K mg base CX0 1 f fd ["self", "what"] (spX C ["what"]) := by
  refine F.ok sc_i_BadSensor (fun vs H Q E h => ?_) (fun cdv A outer s H vs Q E hr h => ?_)
  · obtain ⟨a, ws, rfl, hl, _⟩ := h
    exact congrArg (· + 1) hl
  · obtain ⟨a, ws, rfl, hl, ha, k⟩ := h
    refine ⟨_, (pss_one (ps_ost (pv 0) (pv 1))), ?_⟩
    obtain ⟨v0, rfl⟩ := list1 hl
    refine ⟨_, rfl, _, rfl, init1 T n0 ha fun d H0 hd da h1 h2 h3 => ?_⟩
    refine k d _ _ hd h1 h2 h3 ?_
    intro p hp
    have hp' : p ∈ [(("what" : Str), v0)] := hp
    simp only [List.mem_cons, List.not_mem_nil, or_false] at hp'
    rcases hp' with rfl <;> rfl
abbrev s_i_BadWorld : Stmt := inClass (topS 15) 0
theorem sc_i_BadWorld : FnScope ["self", "what", "sensor"] ["self", "what", "sensor"] (defScope s_i_BadWorld) := ⟨rfl, rfl, rfl, by decide +kernel, rfl, by decide +kernel, by decide +kernel⟩
theorem ok_i_BadWorld {f C : Addr} {fd : FuncData} (F : Fun K "__init__" "BadWorld.__init__" s_i_BadWorld f fd) (T : OexC K C) (n0 : PySem.W.findIn K (.ref C) "what" = some none) (n1 : PySem.W.findIn K (.ref C) "sensor" = some none) : FnOk P w K mg base CX0 1 f fd ["self", "what", "sensor"] (spX C ["what", "sensor"]) := by
  refine F.ok sc_i_BadWorld (fun vs H Q E h => ?_) (fun cdv A outer s H vs Q E hr h => ?_)
  · obtain ⟨a, ws, rfl, hl, _⟩ := h
    exact congrArg (· + 1) hl
  · obtain ⟨a, ws, rfl, hl, ha, k⟩ := h
    refine ⟨_, (pss_cons (ps_ost (pv 0) (pv 1)) (pss_one (ps_ost (pv 0) (pv 2)))), ?_⟩
    obtain ⟨v0, v1, rfl⟩ := list2 hl
    refine ⟨_, rfl, _, rfl, init1 T n0 ha fun d H0 hd da h1 h2 h3 => ?_⟩
    refine ⟨_, rfl, _, rfl, init2 T n1 da h1 h2 (by show 1 ≤ 900; decide) h3 fun H1 g11 g12 g13 => ?_⟩
    refine k d _ _ hd g11 g12 g13 ?_
    intro p hp
    have hp' : p ∈ [(("what" : Str), v0), (("sensor" : Str), v1)] := hp
    simp only [List.mem_cons, List.not_mem_nil, or_false] at hp'
    rcases hp' with rfl | rfl <;> rfl
abbrev s_i_NoSensor : Stmt := inClass (topS 16) 0
theorem sc_i_NoSensor : FnScope ["self", "sensor"] ["self", "sensor"] (defScope s_i_NoSensor) := ⟨rfl, rfl, rfl, by decide +kernel, rfl, by decide +kernel, by decide +kernel⟩
theorem ok_i_NoSensor {f C : Addr} {fd : FuncData} (F : Fun K "__init__" "NoSensor.__init__" s_i_NoSensor f fd) (T : OexC K C) (n0 : PySem.W.findIn K (.ref C) "sensor" = some none) : FnOk P w K mg base CX0 1 f fd ["self", "sensor"] (spX C ["sensor"]) := by
  refine F.ok sc_i_NoSensor (fun vs H Q E h => ?_) (fun cdv A outer s H vs Q E hr h => ?_)
  · obtain ⟨a, ws, rfl, hl, _⟩ := h
    exact congrArg (· + 1) hl
  · obtain ⟨a, ws, rfl, hl, ha, k⟩ := h
    refine ⟨_, (pss_one (ps_ost (pv 0) (pv 1))), ?_⟩
    obtain ⟨v0, rfl⟩ := list1 hl
    refine ⟨_, rfl, _, rfl, init1 T n0 ha fun d H0 hd da h1 h2 h3 => ?_⟩
    refine k d _ _ hd h1 h2 h3 ?_
    intro p hp
    have hp' : p ∈ [(("sensor" : Str), v0)] := hp
    simp only [List.mem_cons, List.not_mem_nil, or_false] at hp'
    rcases hp' with rfl <;> rfl
abbrev s_i_BadText : Stmt := inClass (topS 18) 0
theorem sc_i_BadText : FnScope ["self", "row", "what"] ["self", "row", "what"] (defScope s_i_BadText) := ⟨rfl, rfl, rfl, by decide +kernel, rfl, by decide +kernel, by decide +kernel⟩
theorem ok_i_BadText {f C : Addr} {fd : FuncData} (F : Fun K "__init__" "BadText.__init__" s_i_BadText f fd) (T : OexC K C) (n0 : PySem.W.findIn K (.ref C) "row" = some none) (n1 : PySem.W.findIn K (.ref C) "what" = some none) : FnOk P w K mg base CX0 1 f fd ["self", "row", "what"] (spX C ["row", "what"]) := by
  refine F.ok sc_i_BadText (fun vs H Q E h => ?_) (fun cdv A outer s H vs Q E hr h => ?_)
  · obtain ⟨a, ws, rfl, hl, _⟩ := h
    exact congrArg (· + 1) hl
  · obtain ⟨a, ws, rfl, hl, ha, k⟩ := h
    refine ⟨_, (pss_cons (ps_ost (pv 0) (pv 1)) (pss_one (ps_ost (pv 0) (pv 2)))), ?_⟩
    obtain ⟨v0, v1, rfl⟩ := list2 hl
    refine ⟨_, rfl, _, rfl, init1 T n0 ha fun d H0 hd da h1 h2 h3 => ?_⟩
    refine ⟨_, rfl, _, rfl, init2 T n1 da h1 h2 (by show 1 ≤ 900; decide) h3 fun H1 g11 g12 g13 => ?_⟩
    refine k d _ _ hd g11 g12 g13 ?_
    intro p hp
    have hp' : p ∈ [(("row" : Str), v0), (("what" : Str), v1)] := hp
    simp only [List.mem_cons, List.not_mem_nil, or_false] at hp'
    rcases hp' with rfl | rfl <;> rfl
abbrev s_i_Rising : Stmt := inClass (topS 19) 0
theorem sc_i_Rising : FnScope ["self", "ray"] ["self", "ray"] (defScope s_i_Rising) := ⟨rfl, rfl, rfl, by decide +kernel, rfl, by decide +kernel, by decide +kernel⟩
theorem ok_i_Rising {f C : Addr} {fd : FuncData} (F : Fun K "__init__" "Rising.__init__" s_i_Rising f fd) (T : OexC K C) (n0 : PySem.W.findIn K (.ref C) "ray" = some none) : FnOk P w K mg base CX0 1 f fd ["self", "ray"] (spX C ["ray"]) := by
  refine F.ok sc_i_Rising (fun vs H Q E h => ?_) (fun cdv A outer s H vs Q E hr h => ?_)
  · obtain ⟨a, ws, rfl, hl, _⟩ := h
    exact congrArg (· + 1) hl
  · obtain ⟨a, ws, rfl, hl, ha, k⟩ := h
    refine ⟨_, (pss_one (ps_ost (pv 0) (pv 1))), ?_⟩
    obtain ⟨v0, rfl⟩ := list1 hl
    refine ⟨_, rfl, _, rfl, init1 T n0 ha fun d H0 hd da h1 h2 h3 => ?_⟩
    refine k d _ _ hd h1 h2 h3 ?_
    intro p hp
    have hp' : p ∈ [(("ray" : Str), v0)] := hp
    simp only [List.mem_cons, List.not_mem_nil, or_false] at hp'
    rcases hp' with rfl <;> rfl
abbrev s_i_CountFull : Stmt := inClass (topS 21) 0
theorem sc_i_CountFull : FnScope ["self", "tried"] ["self", "tried"] (defScope s_i_CountFull) := ⟨rfl, rfl, rfl, by decide +kernel, rfl, by decide +kernel, by decide +kernel⟩
theorem ok_i_CountFull {f C : Addr} {fd : FuncData} (F : Fun K "__init__" "CountFull.__init__" s_i_CountFull f fd) (T : OexC K C) (n0 : PySem.W.findIn K (.ref C) "tried" = some none) : FnOk P w K mg base CX0 1 f fd ["self", "tried"] (spX C ["tried"]) := by
  refine F.ok sc_i_CountFull (fun vs H Q E h => ?_) (fun cdv A outer s H vs Q E hr h => ?_)
  · obtain ⟨a, ws, rfl, hl, _⟩ := h
    exact congrArg (· + 1) hl
  · obtain ⟨a, ws, rfl, hl, ha, k⟩ := h
    refine ⟨_, (pss_one (ps_ost (pv 0) (pv 1))), ?_⟩
    obtain ⟨v0, rfl⟩ := list1 hl
    refine ⟨_, rfl, _, rfl, init1 T n0 ha fun d H0 hd da h1 h2 h3 => ?_⟩
    refine k d _ _ hd h1 h2 h3 ?_
    intro p hp
    have hp' : p ∈ [(("tried" : Str), v0)] := hp
    simp only [List.mem_cons, List.not_mem_nil, or_false] at hp'
    rcases hp' with rfl <;> rfl
abbrev s_i_ManyMessages : Stmt := inClass (topS 22) 0
theorem sc_i_ManyMessages : FnScope ["self", "greatest"] ["self", "greatest"] (defScope s_i_ManyMessages) := ⟨rfl, rfl, rfl, by decide +kernel, rfl, by decide +kernel, by decide +kernel⟩
theorem ok_i_ManyMessages {f C : Addr} {fd : FuncData} (F : Fun K "__init__" "ManyMessages.__init__" s_i_ManyMessages f fd) (T : OexC K C) (n0 : PySem.W.findIn K (.ref C) "greatest" = some none) : FnOk P w K mg base CX0 1 f fd ["self", "greatest"] (spX C ["greatest"]) := by
  refine F.ok sc_i_ManyMessages (fun vs H Q E h => ?_) (fun cdv A outer s H vs Q E hr h => ?_)
  · obtain ⟨a, ws, rfl, hl, _⟩ := h
    exact congrArg (· + 1) hl
  · obtain ⟨a, ws, rfl, hl, ha, k⟩ := h
    refine ⟨_, (pss_one (ps_ost (pv 0) (pv 1))), ?_⟩
    obtain ⟨v0, rfl⟩ := list1 hl
    refine ⟨_, rfl, _, rfl, init1 T n0 ha fun d H0 hd da h1 h2 h3 => ?_⟩
    refine k d _ _ hd h1 h2 h3 ?_
    intro p hp
    have hp' : p ∈ [(("greatest" : Str), v0)] := hp
    simp only [List.mem_cons, List.not_mem_nil, or_false] at hp'
    rcases hp' with rfl <;> rfl
abbrev s_i_Barred : Stmt := inClass (topS 23) 0
theorem sc_i_Barred : FnScope ["self", "bar"] ["self", "bar"] (defScope s_i_Barred) := ⟨rfl, rfl, rfl, by decide +kernel, rfl, by decide +kernel, by decide +kernel⟩
theorem ok_i_Barred {f C : Addr} {fd : FuncData} (F : Fun K "__init__" "Barred.__init__" s_i_Barred f fd) (T : OexC K C) (n0 : PySem.W.findIn K (.ref C) "bar" = some none) : FnOk P w K mg base CX0 1 f fd ["self", "bar"] (spX C ["bar"]) := by
  refine F.ok sc_i_Barred (fun vs H Q E h => ?_) (fun cdv A outer s H vs Q E hr h => ?_)
  · obtain ⟨a, ws, rfl, hl, _⟩ := h
    exact congrArg (· + 1) hl
  · obtain ⟨a, ws, rfl, hl, ha, k⟩ := h
    refine ⟨_, (pss_one (ps_ost (pv 0) (pv 1))), ?_⟩
    obtain ⟨v0, rfl⟩ := list1 hl
    refine ⟨_, rfl, _, rfl, init1 T n0 ha fun d H0 hd da h1 h2 h3 => ?_⟩
    refine k d _ _ hd h1 h2 h3 ?_
    intro p hp
    have hp' : p ∈ [(("bar" : Str), v0)] := hp
    simp only [List.mem_cons, List.not_mem_nil, or_false] at hp'
    rcases hp' with rfl <;> rfl
abbrev s_i_NoOutcome : Stmt := inClass (topS 25) 0
theorem sc_i_NoOutcome : FnScope ["self", "word", "outcome"] ["self", "word", "outcome"] (defScope s_i_NoOutcome) := ⟨rfl, rfl, rfl, by decide +kernel, rfl, by decide +kernel, by decide +kernel⟩
theorem ok_i_NoOutcome {f C : Addr} {fd : FuncData} (F : Fun K "__init__" "NoOutcome.__init__" s_i_NoOutcome f fd) (T : OexC K C) (n0 : PySem.W.findIn K (.ref C) "word" = some none) (n1 : PySem.W.findIn K (.ref C) "outcome" = some none) : FnOk P w K mg base CX0 1 f fd ["self", "word", "outcome"] (spX C ["word", "outcome"]) := by
  refine F.ok sc_i_NoOutcome (fun vs H Q E h => ?_) (fun cdv A outer s H vs Q E hr h => ?_)
  · obtain ⟨a, ws, rfl, hl, _⟩ := h
    exact congrArg (· + 1) hl
  · obtain ⟨a, ws, rfl, hl, ha, k⟩ := h
    refine ⟨_, (pss_cons (ps_ost (pv 0) (pv 1)) (pss_one (ps_ost (pv 0) (pv 2)))), ?_⟩
    obtain ⟨v0, v1, rfl⟩ := list2 hl
    refine ⟨_, rfl, _, rfl, init1 T n0 ha fun d H0 hd da h1 h2 h3 => ?_⟩
    refine ⟨_, rfl, _, rfl, init2 T n1 da h1 h2 (by show 1 ≤ 900; decide) h3 fun H1 g11 g12 g13 => ?_⟩
    refine k d _ _ hd g11 g12 g13 ?_
    intro p hp
    have hp' : p ∈ [(("word" : Str), v0), (("outcome" : Str), v1)] := hp
    simp only [List.mem_cons, List.not_mem_nil, or_false] at hp'
    rcases hp' with rfl | rfl <;> rfl
abbrev s_i_LastOutcome : Stmt := inClass (topS 26) 0
theorem sc_i_LastOutcome : FnScope ["self", "word"] ["self", "word"] (defScope s_i_LastOutcome) := ⟨rfl, rfl, rfl, by decide +kernel, rfl, by decide +kernel, by decide +kernel⟩
theorem ok_i_LastOutcome {f C : Addr} {fd : FuncData} (F : Fun K "__init__" "LastOutcome.__init__" s_i_LastOutcome f fd) (T : OexC K C) (n0 : PySem.W.findIn K (.ref C) "word" = some none) : FnOk P w K mg base CX0 1 f fd ["self", "word"] (spX C ["word"]) := by
  refine F.ok sc_i_LastOutcome (fun vs H Q E h => ?_) (fun cdv A outer s H vs Q E hr h => ?_)
  · obtain ⟨a, ws, rfl, hl, _⟩ := h
    exact congrArg (· + 1) hl
  · obtain ⟨a, ws, rfl, hl, ha, k⟩ := h
    refine ⟨_, (pss_one (ps_ost (pv 0) (pv 1))), ?_⟩
    obtain ⟨v0, rfl⟩ := list1 hl
    refine ⟨_, rfl, _, rfl, init1 T n0 ha fun d H0 hd da h1 h2 h3 => ?_⟩
    refine k d _ _ hd h1 h2 h3 ?_
    intro p hp
    have hp' : p ∈ [(("word" : Str), v0)] := hp
    simp only [List.mem_cons, List.not_mem_nil, or_false] at hp'
    rcases hp' with rfl <;> rfl
abbrev s_i_NoLot : Stmt := inClass (topS 27) 0
theorem sc_i_NoLot : FnScope ["self", "lot"] ["self", "lot"] (defScope s_i_NoLot) := ⟨rfl, rfl, rfl, by decide +kernel, rfl, by decide +kernel, by decide +kernel⟩
theorem ok_i_NoLot {f C : Addr} {fd : FuncData} (F : Fun K "__init__" "NoLot.__init__" s_i_NoLot f fd) (T : OexC K C) (n0 : PySem.W.findIn K (.ref C) "lot" = some none) : FnOk P w K mg base CX0 1 f fd ["self", "lot"] (spX C ["lot"]) := by
  refine F.ok sc_i_NoLot (fun vs H Q E h => ?_) (fun cdv A outer s H vs Q E hr h => ?_)
  · obtain ⟨a, ws, rfl, hl, _⟩ := h
    exact congrArg (· + 1) hl
  · obtain ⟨a, ws, rfl, hl, ha, k⟩ := h
    refine ⟨_, (pss_one (ps_ost (pv 0) (pv 1))), ?_⟩
    obtain ⟨v0, rfl⟩ := list1 hl
    refine ⟨_, rfl, _, rfl, init1 T n0 ha fun d H0 hd da h1 h2 h3 => ?_⟩
    refine k d _ _ hd h1 h2 h3 ?_
    intro p hp
    have hp' : p ∈ [(("lot" : Str), v0)] := hp
    simp only [List.mem_cons, List.not_mem_nil, or_false] at hp'
    rcases hp' with rfl <;> rfl
abbrev s_i_TooNear : Stmt := inClass (topS 28) 0
theorem sc_i_TooNear : FnScope ["self", "tried"] ["self", "tried"] (defScope s_i_TooNear) := ⟨rfl, rfl, rfl, by decide +kernel, rfl, by decide +kernel, by decide +kernel⟩
theorem ok_i_TooNear {f C : Addr} {fd : FuncData} (F : Fun K "__init__" "TooNear.__init__" s_i_TooNear f fd) (T : OexC K C) (n0 : PySem.W.findIn K (.ref C) "tried" = some none) : FnOk P w K mg base CX0 1 f fd ["self", "tried"] (spX C ["tried"]) := by
  refine F.ok sc_i_TooNear (fun vs H Q E h => ?_) (fun cdv A outer s H vs Q E hr h => ?_)
  · obtain ⟨a, ws, rfl, hl, _⟩ := h
    exact congrArg (· + 1) hl
  · obtain ⟨a, ws, rfl, hl, ha, k⟩ := h
    refine ⟨_, (pss_one (ps_ost (pv 0) (pv 1))), ?_⟩
    obtain ⟨v0, rfl⟩ := list1 hl
    refine ⟨_, rfl, _, rfl, init1 T n0 ha fun d H0 hd da h1 h2 h3 => ?_⟩
    refine k d _ _ hd h1 h2 h3 ?_
    intro p hp
    have hp' : p ∈ [(("tried" : Str), v0)] := hp
    simp only [List.mem_cons, List.not_mem_nil, or_false] at hp'
    rcases hp' with rfl <;> rfl
abbrev s_i_BadProgram : Stmt := inClass (topS 29) 0
theorem sc_i_BadProgram : FnScope ["self", "who", "what"] ["self", "who", "what"] (defScope s_i_BadProgram) := ⟨rfl, rfl, rfl, by decide +kernel, rfl, by decide +kernel, by decide +kernel⟩
theorem ok_i_BadProgram {f C : Addr} {fd : FuncData} (F : Fun K "__init__" "BadProgram.__init__" s_i_BadProgram f fd) (T : OexC K C) (n0 : PySem.W.findIn K (.ref C) "who" = some none) (n1 : PySem.W.findIn K (.ref C) "what" = some none) : FnOk P w K mg base CX0 1 f fd ["self", "who", "what"] (spX C ["who", "what"]) := by
  refine F.ok sc_i_BadProgram (fun vs H Q E h => ?_) (fun cdv A outer s H vs Q E hr h => ?_)
  · obtain ⟨a, ws, rfl, hl, _⟩ := h
    exact congrArg (· + 1) hl
  · obtain ⟨a, ws, rfl, hl, ha, k⟩ := h
    refine ⟨_, (pss_cons (ps_ost (pv 0) (pv 1)) (pss_one (ps_ost (pv 0) (pv 2)))), ?_⟩
    obtain ⟨v0, v1, rfl⟩ := list2 hl
    refine ⟨_, rfl, _, rfl, init1 T n0 ha fun d H0 hd da h1 h2 h3 => ?_⟩
    refine ⟨_, rfl, _, rfl, init2 T n1 da h1 h2 (by show 1 ≤ 900; decide) h3 fun H1 g11 g12 g13 => ?_⟩
    refine k d _ _ hd g11 g12 g13 ?_
    intro p hp
    have hp' : p ∈ [(("who" : Str), v0), (("what" : Str), v1)] := hp
    simp only [List.mem_cons, List.not_mem_nil, or_false] at hp'
    rcases hp' with rfl | rfl <;> rfl
abbrev s_i_NoEntry : Stmt := inClass (topS 30) 0
theorem sc_i_NoEntry : FnScope ["self", "what"] ["self", "what"] (defScope s_i_NoEntry) := ⟨rfl, rfl, rfl, by decide +kernel, rfl, by decide +kernel, by decide +kernel⟩
theorem ok_i_NoEntry {f C : Addr} {fd : FuncData} (F : Fun K "__init__" "NoEntry.__init__" s_i_NoEntry f fd) (T : OexC K C) (n0 : PySem.W.findIn K (.ref C) "what" = some none) : FnOk P w K mg base CX0 1 f fd ["self", "what"] (spX C ["what"]) := by
  refine F.ok sc_i_NoEntry (fun vs H Q E h => ?_) (fun cdv A outer s H vs Q E hr h => ?_)
  · obtain ⟨a, ws, rfl, hl, _⟩ := h
    exact congrArg (· + 1) hl
  · obtain ⟨a, ws, rfl, hl, ha, k⟩ := h
    refine ⟨_, (pss_one (ps_ost (pv 0) (pv 1))), ?_⟩
    obtain ⟨v0, rfl⟩ := list1 hl
    refine ⟨_, rfl, _, rfl, init1 T n0 ha fun d H0 hd da h1 h2 h3 => ?_⟩
    refine k d _ _ hd h1 h2 h3 ?_
    intro p hp
    have hp' : p ∈ [(("what" : Str), v0)] := hp
    simp only [List.mem_cons, List.not_mem_nil, or_false] at hp'
    rcases hp' with rfl <;> rfl
abbrev s_i_BadLate : Stmt := inClass (topS 31) 0
theorem sc_i_BadLate : FnScope ["self", "late"] ["self", "late"] (defScope s_i_BadLate) := ⟨rfl, rfl, rfl, by decide +kernel, rfl, by decide +kernel, by decide +kernel⟩
theorem ok_i_BadLate {f C : Addr} {fd : FuncData} (F : Fun K "__init__" "BadLate.__init__" s_i_BadLate f fd) (T : OexC K C) (n0 : PySem.W.findIn K (.ref C) "late" = some none) : FnOk P w K mg base CX0 1 f fd ["self", "late"] (spX C ["late"]) := by
  refine F.ok sc_i_BadLate (fun vs H Q E h => ?_) (fun cdv A outer s H vs Q E hr h => ?_)
  · obtain ⟨a, ws, rfl, hl, _⟩ := h
    exact congrArg (· + 1) hl
  · obtain ⟨a, ws, rfl, hl, ha, k⟩ := h
    refine ⟨_, (pss_one (ps_ost (pv 0) (pv 1))), ?_⟩
    obtain ⟨v0, rfl⟩ := list1 hl
    refine ⟨_, rfl, _, rfl, init1 T n0 ha fun d H0 hd da h1 h2 h3 => ?_⟩
    refine k d _ _ hd h1 h2 h3 ?_
    intro p hp
    have hp' : p ∈ [(("late" : Str), v0)] := hp
    simp only [List.mem_cons, List.not_mem_nil, or_false] at hp'
    rcases hp' with rfl <;> rfl
abbrev s_i_BadStart : Stmt := inClass (topS 32) 0
theorem sc_i_BadStart : FnScope ["self", "mode"] ["self", "mode"] (defScope s_i_BadStart) := ⟨rfl, rfl, rfl, by decide +kernel, rfl, by decide +kernel, by decide +kernel⟩
theorem ok_i_BadStart {f C : Addr} {fd : FuncData} (F : Fun K "__init__" "BadStart.__init__" s_i_BadStart f fd) (T : OexC K C) (n0 : PySem.W.findIn K (.ref C) "mode" = some none) : FnOk P w K mg base CX0 1 f fd ["self", "mode"] (spX C ["mode"]) := by
  refine F.ok sc_i_BadStart (fun vs H Q E h => ?_) (fun cdv A outer s H vs Q E hr h => ?_)
  · obtain ⟨a, ws, rfl, hl, _⟩ := h
    exact congrArg (· + 1) hl
  · obtain ⟨a, ws, rfl, hl, ha, k⟩ := h
    refine ⟨_, (pss_one (ps_ost (pv 0) (pv 1))), ?_⟩
    obtain ⟨v0, rfl⟩ := list1 hl
    refine ⟨_, rfl, _, rfl, init1 T n0 ha fun d H0 hd da h1 h2 h3 => ?_⟩
    refine k d _ _ hd h1 h2 h3 ?_
    intro p hp
    have hp' : p ∈ [(("mode" : Str), v0)] := hp
    simp only [List.mem_cons, List.not_mem_nil, or_false] at hp'
    rcases hp' with rfl <;> rfl
abbrev s_i_BadTick : Stmt := inClass (topS 33) 0
theorem sc_i_BadTick : FnScope ["self", "what"] ["self", "what"] (defScope s_i_BadTick) := ⟨rfl, rfl, rfl, by decide +kernel, rfl, by decide +kernel, by decide +kernel⟩
theorem ok_i_BadTick {f C : Addr} {fd : FuncData} (F : Fun K "__init__" "BadTick.__init__" s_i_BadTick f fd) (T : OexC K C) (n0 : PySem.W.findIn K (.ref C) "what" = some none) : FnOk P w K mg base CX0 1 f fd ["self", "what"] (spX C ["what"]) := by
  refine F.ok sc_i_BadTick (fun vs H Q E h => ?_) (fun cdv A outer s H vs Q E hr h => ?_)
  · obtain ⟨a, ws, rfl, hl, _⟩ := h
    exact congrArg (· + 1) hl
  · obtain ⟨a, ws, rfl, hl, ha, k⟩ := h
    refine ⟨_, (pss_one (ps_ost (pv 0) (pv 1))), ?_⟩
    obtain ⟨v0, rfl⟩ := list1 hl
    refine ⟨_, rfl, _, rfl, init1 T n0 ha fun d H0 hd da h1 h2 h3 => ?_⟩
    refine k d _ _ hd h1 h2 h3 ?_
    intro p hp
    have hp' : p ∈ [(("what" : Str), v0)] := hp
    simp only [List.mem_cons, List.not_mem_nil, or_false] at hp'
    rcases hp' with rfl <;> rfl
abbrev s_i_BadRun : Stmt := inClass (topS 34) 0
theorem sc_i_BadRun : FnScope ["self", "tick", "what"] ["self", "tick", "what"] (defScope s_i_BadRun) := ⟨rfl, rfl, rfl, by decide +kernel, rfl, by decide +kernel, by decide +kernel⟩
theorem ok_i_BadRun {f C : Addr} {fd : FuncData} (F : Fun K "__init__" "BadRun.__init__" s_i_BadRun f fd) (T : OexC K C) (n0 : PySem.W.findIn K (.ref C) "tick" = some none) (n1 : PySem.W.findIn K (.ref C) "what" = some none) : FnOk P w K mg base CX0 1 f fd ["self", "tick", "what"] (spX C ["tick", "what"]) := by
  refine F.ok sc_i_BadRun (fun vs H Q E h => ?_) (fun cdv A outer s H vs Q E hr h => ?_)
  · obtain ⟨a, ws, rfl, hl, _⟩ := h
    exact congrArg (· + 1) hl
  · obtain ⟨a, ws, rfl, hl, ha, k⟩ := h
    refine ⟨_, (pss_cons (ps_ost (pv 0) (pv 1)) (pss_one (ps_ost (pv 0) (pv 2)))), ?_⟩
    obtain ⟨v0, v1, rfl⟩ := list2 hl
    refine ⟨_, rfl, _, rfl, init1 T n0 ha fun d H0 hd da h1 h2 h3 => ?_⟩
    refine ⟨_, rfl, _, rfl, init2 T n1 da h1 h2 (by show 1 ≤ 900; decide) h3 fun H1 g11 g12 g13 => ?_⟩
    refine k d _ _ hd g11 g12 g13 ?_
    intro p hp
    have hp' : p ∈ [(("tick" : Str), v0), (("what" : Str), v1)] := hp
    simp only [List.mem_cons, List.not_mem_nil, or_false] at hp'
    rcases hp' with rfl | rfl <;> rfl
abbrev s_i_Unheard : Stmt := inClass (topS 35) 0
theorem sc_i_Unheard : FnScope ["self", "outcomes"] ["self", "outcomes"] (defScope s_i_Unheard) := ⟨rfl, rfl, rfl, by decide +kernel, rfl, by decide +kernel, by decide +kernel⟩
theorem ok_i_Unheard {f C : Addr} {fd : FuncData} (F : Fun K "__init__" "Unheard.__init__" s_i_Unheard f fd) (T : OexC K C) (n0 : PySem.W.findIn K (.ref C) "outcomes" = some none) : FnOk P w K mg base CX0 1 f fd ["self", "outcomes"] (spX C ["outcomes"]) := by
  refine F.ok sc_i_Unheard (fun vs H Q E h => ?_) (fun cdv A outer s H vs Q E hr h => ?_)
  · obtain ⟨a, ws, rfl, hl, _⟩ := h
    exact congrArg (· + 1) hl
  · obtain ⟨a, ws, rfl, hl, ha, k⟩ := h
    refine ⟨_, (pss_one (ps_ost (pv 0) (pv 1))), ?_⟩
    obtain ⟨v0, rfl⟩ := list1 hl
    refine ⟨_, rfl, _, rfl, init1 T n0 ha fun d H0 hd da h1 h2 h3 => ?_⟩
    refine k d _ _ hd h1 h2 h3 ?_
    intro p hp
    have hp' : p ∈ [(("outcomes" : Str), v0)] := hp
    simp only [List.mem_cons, List.not_mem_nil, or_false] at hp'
    rcases hp' with rfl <;> rfl
abbrev s_i_NoBar : Stmt := inClass (topS 37) 0
theorem sc_i_NoBar : FnScope ["self", "what"] ["self", "what"] (defScope s_i_NoBar) := ⟨rfl, rfl, rfl, by decide +kernel, rfl, by decide +kernel, by decide +kernel⟩
theorem ok_i_NoBar {f C : Addr} {fd : FuncData} (F : Fun K "__init__" "NoBar.__init__" s_i_NoBar f fd) (T : OexC K C) (n0 : PySem.W.findIn K (.ref C) "what" = some none) : FnOk P w K mg base CX0 1 f fd ["self", "what"] (spX C ["what"]) := by
  refine F.ok sc_i_NoBar (fun vs H Q E h => ?_) (fun cdv A outer s H vs Q E hr h => ?_)
  · obtain ⟨a, ws, rfl, hl, _⟩ := h
    exact congrArg (· + 1) hl
  · obtain ⟨a, ws, rfl, hl, ha, k⟩ := h
    refine ⟨_, (pss_one (ps_ost (pv 0) (pv 1))), ?_⟩
    obtain ⟨v0, rfl⟩ := list1 hl
    refine ⟨_, rfl, _, rfl, init1 T n0 ha fun d H0 hd da h1 h2 h3 => ?_⟩
    refine k d _ _ hd h1 h2 h3 ?_
    intro p hp
    have hp' : p ∈ [(("what" : Str), v0)] := hp
    simp only [List.mem_cons, List.not_mem_nil, or_false] at hp'
    rcases hp' with rfl <;> rfl
abbrev s_i_BadBound : Stmt := inClass (topS 38) 0
theorem sc_i_BadBound : FnScope ["self", "bound"] ["self", "bound"] (defScope s_i_BadBound) := ⟨rfl, rfl, rfl, by decide +kernel, rfl, by decide +kernel, by decide +kernel⟩
theorem ok_i_BadBound {f C : Addr} {fd : FuncData} (F : Fun K "__init__" "BadBound.__init__" s_i_BadBound f fd) (T : OexC K C) (n0 : PySem.W.findIn K (.ref C) "bound" = some none) : FnOk P w K mg base CX0 1 f fd ["self", "bound"] (spX C ["bound"]) := by
  refine F.ok sc_i_BadBound (fun vs H Q E h => ?_) (fun cdv A outer s H vs Q E hr h => ?_)
  · obtain ⟨a, ws, rfl, hl, _⟩ := h
    exact congrArg (· + 1) hl
  · obtain ⟨a, ws, rfl, hl, ha, k⟩ := h
    refine ⟨_, (pss_one (ps_ost (pv 0) (pv 1))), ?_⟩
    obtain ⟨v0, rfl⟩ := list1 hl
    refine ⟨_, rfl, _, rfl, init1 T n0 ha fun d H0 hd da h1 h2 h3 => ?_⟩
    refine k d _ _ hd h1 h2 h3 ?_
    intro p hp
    have hp' : p ∈ [(("bound" : Str), v0)] := hp
    simp only [List.mem_cons, List.not_mem_nil, or_false] at hp'
    rcases hp' with rfl <;> rfl
abbrev s_i_TooLong : Stmt := inClass (topS 39) 0
theorem sc_i_TooLong : FnScope ["self", "ticks"] ["self", "ticks"] (defScope s_i_TooLong) := ⟨rfl, rfl, rfl, by decide +kernel, rfl, by decide +kernel, by decide +kernel⟩
theorem ok_i_TooLong {f C : Addr} {fd : FuncData} (F : Fun K "__init__" "TooLong.__init__" s_i_TooLong f fd) (T : OexC K C) (n0 : PySem.W.findIn K (.ref C) "ticks" = some none) : FnOk P w K mg base CX0 1 f fd ["self", "ticks"] (spX C ["ticks"]) := by
  refine F.ok sc_i_TooLong (fun vs H Q E h => ?_) (fun cdv A outer s H vs Q E hr h => ?_)
  · obtain ⟨a, ws, rfl, hl, _⟩ := h
    exact congrArg (· + 1) hl
  · obtain ⟨a, ws, rfl, hl, ha, k⟩ := h
    refine ⟨_, (pss_one (ps_ost (pv 0) (pv 1))), ?_⟩
    obtain ⟨v0, rfl⟩ := list1 hl
    refine ⟨_, rfl, _, rfl, init1 T n0 ha fun d H0 hd da h1 h2 h3 => ?_⟩
    refine k d _ _ hd h1 h2 h3 ?_
    intro p hp
    have hp' : p ∈ [(("ticks" : Str), v0)] := hp
    simp only [List.mem_cons, List.not_mem_nil, or_false] at hp'
    rcases hp' with rfl <;> rfl
abbrev s_i_BadSplits : Stmt := inClass (topS 40) 0
theorem sc_i_BadSplits : FnScope ["self", "place"] ["self", "place"] (defScope s_i_BadSplits) := ⟨rfl, rfl, rfl, by decide +kernel, rfl, by decide +kernel, by decide +kernel⟩
theorem ok_i_BadSplits {f C : Addr} {fd : FuncData} (F : Fun K "__init__" "BadSplits.__init__" s_i_BadSplits f fd) (T : OexC K C) (n0 : PySem.W.findIn K (.ref C) "place" = some none) : FnOk P w K mg base CX0 1 f fd ["self", "place"] (spX C ["place"]) := by
  refine F.ok sc_i_BadSplits (fun vs H Q E h => ?_) (fun cdv A outer s H vs Q E hr h => ?_)
  · obtain ⟨a, ws, rfl, hl, _⟩ := h
    exact congrArg (· + 1) hl
  · obtain ⟨a, ws, rfl, hl, ha, k⟩ := h
    refine ⟨_, (pss_one (ps_ost (pv 0) (pv 1))), ?_⟩
    obtain ⟨v0, rfl⟩ := list1 hl
    refine ⟨_, rfl, _, rfl, init1 T n0 ha fun d H0 hd da h1 h2 h3 => ?_⟩
    refine k d _ _ hd h1 h2 h3 ?_
    intro p hp
    have hp' : p ∈ [(("place" : Str), v0)] := hp
    simp only [List.mem_cons, List.not_mem_nil, or_false] at hp'
    rcases hp' with rfl <;> rfl
abbrev s_i_NotQuiet : Stmt := inClass (topS 42) 0
theorem sc_i_NotQuiet : FnScope ["self", "state"] ["self", "state"] (defScope s_i_NotQuiet) := ⟨rfl, rfl, rfl, by decide +kernel, rfl, by decide +kernel, by decide +kernel⟩
theorem ok_i_NotQuiet {f C : Addr} {fd : FuncData} (F : Fun K "__init__" "NotQuiet.__init__" s_i_NotQuiet f fd) (T : OexC K C) (n0 : PySem.W.findIn K (.ref C) "state" = some none) : FnOk P w K mg base CX0 1 f fd ["self", "state"] (spX C ["state"]) := by
  refine F.ok sc_i_NotQuiet (fun vs H Q E h => ?_) (fun cdv A outer s H vs Q E hr h => ?_)
  · obtain ⟨a, ws, rfl, hl, _⟩ := h
    exact congrArg (· + 1) hl
  · obtain ⟨a, ws, rfl, hl, ha, k⟩ := h
    refine ⟨_, (pss_one (ps_ost (pv 0) (pv 1))), ?_⟩
    obtain ⟨v0, rfl⟩ := list1 hl
    refine ⟨_, rfl, _, rfl, init1 T n0 ha fun d H0 hd da h1 h2 h3 => ?_⟩
    refine k d _ _ hd h1 h2 h3 ?_
    intro p hp
    have hp' : p ∈ [(("state" : Str), v0)] := hp
    simp only [List.mem_cons, List.not_mem_nil, or_false] at hp'
    rcases hp' with rfl <;> rfl
abbrev s_i_NotLink : Stmt := inClass (topS 43) 0
theorem sc_i_NotLink : FnScope ["self", "what"] ["self", "what"] (defScope s_i_NotLink) := ⟨rfl, rfl, rfl, by decide +kernel, rfl, by decide +kernel, by decide +kernel⟩
theorem ok_i_NotLink {f C : Addr} {fd : FuncData} (F : Fun K "__init__" "NotLink.__init__" s_i_NotLink f fd) (T : OexC K C) (n0 : PySem.W.findIn K (.ref C) "what" = some none) : FnOk P w K mg base CX0 1 f fd ["self", "what"] (spX C ["what"]) := by
  refine F.ok sc_i_NotLink (fun vs H Q E h => ?_) (fun cdv A outer s H vs Q E hr h => ?_)
  · obtain ⟨a, ws, rfl, hl, _⟩ := h
    exact congrArg (· + 1) hl
  · obtain ⟨a, ws, rfl, hl, ha, k⟩ := h
    refine ⟨_, (pss_one (ps_ost (pv 0) (pv 1))), ?_⟩
    obtain ⟨v0, rfl⟩ := list1 hl
    refine ⟨_, rfl, _, rfl, init1 T n0 ha fun d H0 hd da h1 h2 h3 => ?_⟩
    refine k d _ _ hd h1 h2 h3 ?_
    intro p hp
    have hp' : p ∈ [(("what" : Str), v0)] := hp
    simp only [List.mem_cons, List.not_mem_nil, or_false] at hp'
    rcases hp' with rfl <;> rfl
abbrev s_i_TooWide : Stmt := inClass (topS 45) 0
theorem sc_i_TooWide : FnScope ["self", "late"] ["self", "late"] (defScope s_i_TooWide) := ⟨rfl, rfl, rfl, by decide +kernel, rfl, by decide +kernel, by decide +kernel⟩
theorem ok_i_TooWide {f C : Addr} {fd : FuncData} (F : Fun K "__init__" "TooWide.__init__" s_i_TooWide f fd) (T : OexC K C) (n0 : PySem.W.findIn K (.ref C) "late" = some none) : FnOk P w K mg base CX0 1 f fd ["self", "late"] (spX C ["late"]) := by
  refine F.ok sc_i_TooWide (fun vs H Q E h => ?_) (fun cdv A outer s H vs Q E hr h => ?_)
  · obtain ⟨a, ws, rfl, hl, _⟩ := h
    exact congrArg (· + 1) hl
  · obtain ⟨a, ws, rfl, hl, ha, k⟩ := h
    refine ⟨_, (pss_one (ps_ost (pv 0) (pv 1))), ?_⟩
    obtain ⟨v0, rfl⟩ := list1 hl
    refine ⟨_, rfl, _, rfl, init1 T n0 ha fun d H0 hd da h1 h2 h3 => ?_⟩
    refine k d _ _ hd h1 h2 h3 ?_
    intro p hp
    have hp' : p ∈ [(("late" : Str), v0)] := hp
    simp only [List.mem_cons, List.not_mem_nil, or_false] at hp'
    rcases hp' with rfl <;> rfl
abbrev s_i_NoFit : Stmt := inClass (topS 46) 0
theorem sc_i_NoFit : FnScope ["self", "fault"] ["self", "fault"] (defScope s_i_NoFit) := ⟨rfl, rfl, rfl, by decide +kernel, rfl, by decide +kernel, by decide +kernel⟩
theorem ok_i_NoFit {f C : Addr} {fd : FuncData} (F : Fun K "__init__" "NoFit.__init__" s_i_NoFit f fd) (T : OexC K C) (n0 : PySem.W.findIn K (.ref C) "fault" = some none) : FnOk P w K mg base CX0 1 f fd ["self", "fault"] (spX C ["fault"]) := by
  refine F.ok sc_i_NoFit (fun vs H Q E h => ?_) (fun cdv A outer s H vs Q E hr h => ?_)
  · obtain ⟨a, ws, rfl, hl, _⟩ := h
    exact congrArg (· + 1) hl
  · obtain ⟨a, ws, rfl, hl, ha, k⟩ := h
    refine ⟨_, (pss_one (ps_ost (pv 0) (pv 1))), ?_⟩
    obtain ⟨v0, rfl⟩ := list1 hl
    refine ⟨_, rfl, _, rfl, init1 T n0 ha fun d H0 hd da h1 h2 h3 => ?_⟩
    refine k d _ _ hd h1 h2 h3 ?_
    intro p hp
    have hp' : p ∈ [(("fault" : Str), v0)] := hp
    simp only [List.mem_cons, List.not_mem_nil, or_false] at hp'
    rcases hp' with rfl <;> rfl
abbrev s_i_NotBelow : Stmt := inClass (topS 47) 0
theorem sc_i_NotBelow : FnScope ["self", "least"] ["self", "least"] (defScope s_i_NotBelow) := ⟨rfl, rfl, rfl, by decide +kernel, rfl, by decide +kernel, by decide +kernel⟩
theorem ok_i_NotBelow {f C : Addr} {fd : FuncData} (F : Fun K "__init__" "NotBelow.__init__" s_i_NotBelow f fd) (T : OexC K C) (n0 : PySem.W.findIn K (.ref C) "least" = some none) : FnOk P w K mg base CX0 1 f fd ["self", "least"] (spX C ["least"]) := by
  refine F.ok sc_i_NotBelow (fun vs H Q E h => ?_) (fun cdv A outer s H vs Q E hr h => ?_)
  · obtain ⟨a, ws, rfl, hl, _⟩ := h
    exact congrArg (· + 1) hl
  · obtain ⟨a, ws, rfl, hl, ha, k⟩ := h
    refine ⟨_, (pss_one (ps_ost (pv 0) (pv 1))), ?_⟩
    obtain ⟨v0, rfl⟩ := list1 hl
    refine ⟨_, rfl, _, rfl, init1 T n0 ha fun d H0 hd da h1 h2 h3 => ?_⟩
    refine k d _ _ hd h1 h2 h3 ?_
    intro p hp
    have hp' : p ∈ [(("least" : Str), v0)] := hp
    simp only [List.mem_cons, List.not_mem_nil, or_false] at hp'
    rcases hp' with rfl <;> rfl
abbrev s_i_TooFar : Stmt := inClass (topS 48) 0
theorem sc_i_TooFar : FnScope ["self", "ticks"] ["self", "ticks"] (defScope s_i_TooFar) := ⟨rfl, rfl, rfl, by decide +kernel, rfl, by decide +kernel, by decide +kernel⟩
theorem ok_i_TooFar {f C : Addr} {fd : FuncData} (F : Fun K "__init__" "TooFar.__init__" s_i_TooFar f fd) (T : OexC K C) (n0 : PySem.W.findIn K (.ref C) "ticks" = some none) : FnOk P w K mg base CX0 1 f fd ["self", "ticks"] (spX C ["ticks"]) := by
  refine F.ok sc_i_TooFar (fun vs H Q E h => ?_) (fun cdv A outer s H vs Q E hr h => ?_)
  · obtain ⟨a, ws, rfl, hl, _⟩ := h
    exact congrArg (· + 1) hl
  · obtain ⟨a, ws, rfl, hl, ha, k⟩ := h
    refine ⟨_, (pss_one (ps_ost (pv 0) (pv 1))), ?_⟩
    obtain ⟨v0, rfl⟩ := list1 hl
    refine ⟨_, rfl, _, rfl, init1 T n0 ha fun d H0 hd da h1 h2 h3 => ?_⟩
    refine k d _ _ hd h1 h2 h3 ?_
    intro p hp
    have hp' : p ∈ [(("ticks" : Str), v0)] := hp
    simp only [List.mem_cons, List.not_mem_nil, or_false] at hp'
    rcases hp' with rfl <;> rfl
abbrev s_i_BadKeeping : Stmt := inClass (topS 49) 0
theorem sc_i_BadKeeping : FnScope ["self", "what", "index"] ["self", "what", "index"] (defScope s_i_BadKeeping) := ⟨rfl, rfl, rfl, by decide +kernel, rfl, by decide +kernel, by decide +kernel⟩
theorem ok_i_BadKeeping {f C : Addr} {fd : FuncData} (F : Fun K "__init__" "BadKeeping.__init__" s_i_BadKeeping f fd) (T : OexC K C) (n0 : PySem.W.findIn K (.ref C) "what" = some none) (n1 : PySem.W.findIn K (.ref C) "index" = some none) : FnOk P w K mg base CX0 1 f fd ["self", "what", "index"] (spX C ["what", "index"]) := by
  refine F.ok sc_i_BadKeeping (fun vs H Q E h => ?_) (fun cdv A outer s H vs Q E hr h => ?_)
  · obtain ⟨a, ws, rfl, hl, _⟩ := h
    exact congrArg (· + 1) hl
  · obtain ⟨a, ws, rfl, hl, ha, k⟩ := h
    refine ⟨_, (pss_cons (ps_ost (pv 0) (pv 1)) (pss_one (ps_ost (pv 0) (pv 2)))), ?_⟩
    obtain ⟨v0, v1, rfl⟩ := list2 hl
    refine ⟨_, rfl, _, rfl, init1 T n0 ha fun d H0 hd da h1 h2 h3 => ?_⟩
    refine ⟨_, rfl, _, rfl, init2 T n1 da h1 h2 (by show 1 ≤ 900; decide) h3 fun H1 g11 g12 g13 => ?_⟩
    refine k d _ _ hd g11 g12 g13 ?_
    intro p hp
    have hp' : p ∈ [(("what" : Str), v0), (("index" : Str), v1)] := hp
    simp only [List.mem_cons, List.not_mem_nil, or_false] at hp'
    rcases hp' with rfl | rfl <;> rfl
abbrev s_i_NotClosed : Stmt := inClass (topS 51) 0
theorem sc_i_NotClosed : FnScope ["self", "key"] ["self", "key"] (defScope s_i_NotClosed) := ⟨rfl, rfl, rfl, by decide +kernel, rfl, by decide +kernel, by decide +kernel⟩
theorem ok_i_NotClosed {f C : Addr} {fd : FuncData} (F : Fun K "__init__" "NotClosed.__init__" s_i_NotClosed f fd) (T : OexC K C) (n0 : PySem.W.findIn K (.ref C) "key" = some none) : FnOk P w K mg base CX0 1 f fd ["self", "key"] (spX C ["key"]) := by
  refine F.ok sc_i_NotClosed (fun vs H Q E h => ?_) (fun cdv A outer s H vs Q E hr h => ?_)
  · obtain ⟨a, ws, rfl, hl, _⟩ := h
    exact congrArg (· + 1) hl
  · obtain ⟨a, ws, rfl, hl, ha, k⟩ := h
    refine ⟨_, (pss_one (ps_ost (pv 0) (pv 1))), ?_⟩
    obtain ⟨v0, rfl⟩ := list1 hl
    refine ⟨_, rfl, _, rfl, init1 T n0 ha fun d H0 hd da h1 h2 h3 => ?_⟩
    refine k d _ _ hd h1 h2 h3 ?_
    intro p hp
    have hp' : p ∈ [(("key" : Str), v0)] := hp
    simp only [List.mem_cons, List.not_mem_nil, or_false] at hp'
    rcases hp' with rfl <;> rfl
abbrev s_i_NotDone : Stmt := inClass (topS 52) 0
theorem sc_i_NotDone : FnScope ["self", "most"] ["self", "most"] (defScope s_i_NotDone) := ⟨rfl, rfl, rfl, by decide +kernel, rfl, by decide +kernel, by decide +kernel⟩
theorem ok_i_NotDone {f C : Addr} {fd : FuncData} (F : Fun K "__init__" "NotDone.__init__" s_i_NotDone f fd) (T : OexC K C) (n0 : PySem.W.findIn K (.ref C) "most" = some none) : FnOk P w K mg base CX0 1 f fd ["self", "most"] (spX C ["most"]) := by
  refine F.ok sc_i_NotDone (fun vs H Q E h => ?_) (fun cdv A outer s H vs Q E hr h => ?_)
  · obtain ⟨a, ws, rfl, hl, _⟩ := h
    exact congrArg (· + 1) hl
  · obtain ⟨a, ws, rfl, hl, ha, k⟩ := h
    refine ⟨_, (pss_one (ps_ost (pv 0) (pv 1))), ?_⟩
    obtain ⟨v0, rfl⟩ := list1 hl
    refine ⟨_, rfl, _, rfl, init1 T n0 ha fun d H0 hd da h1 h2 h3 => ?_⟩
    refine k d _ _ hd h1 h2 h3 ?_
    intro p hp
    have hp' : p ∈ [(("most" : Str), v0)] := hp
    simp only [List.mem_cons, List.not_mem_nil, or_false] at hp'
    rcases hp' with rfl <;> rfl
abbrev s_i_BadPrices : Stmt := inClass (topS 54) 0
theorem sc_i_BadPrices : FnScope ["self", "sensor"] ["self", "sensor"] (defScope s_i_BadPrices) := ⟨rfl, rfl, rfl, by decide +kernel, rfl, by decide +kernel, by decide +kernel⟩
theorem ok_i_BadPrices {f C : Addr} {fd : FuncData} (F : Fun K "__init__" "BadPrices.__init__" s_i_BadPrices f fd) (T : OexC K C) (n0 : PySem.W.findIn K (.ref C) "sensor" = some none) : FnOk P w K mg base CX0 1 f fd ["self", "sensor"] (spX C ["sensor"]) := by
  refine F.ok sc_i_BadPrices (fun vs H Q E h => ?_) (fun cdv A outer s H vs Q E hr h => ?_)
  · obtain ⟨a, ws, rfl, hl, _⟩ := h
    exact congrArg (· + 1) hl
  · obtain ⟨a, ws, rfl, hl, ha, k⟩ := h
    refine ⟨_, (pss_one (ps_ost (pv 0) (pv 1))), ?_⟩
    obtain ⟨v0, rfl⟩ := list1 hl
    refine ⟨_, rfl, _, rfl, init1 T n0 ha fun d H0 hd da h1 h2 h3 => ?_⟩
    refine k d _ _ hd h1 h2 h3 ?_
    intro p hp
    have hp' : p ∈ [(("sensor" : Str), v0)] := hp
    simp only [List.mem_cons, List.not_mem_nil, or_false] at hp'
    rcases hp' with rfl <;> rfl
abbrev s_i_BadMany : Stmt := inClass (topS 55) 0
theorem sc_i_BadMany : FnScope ["self", "many"] ["self", "many"] (defScope s_i_BadMany) := ⟨rfl, rfl, rfl, by decide +kernel, rfl, by decide +kernel, by decide +kernel⟩
theorem ok_i_BadMany {f C : Addr} {fd : FuncData} (F : Fun K "__init__" "BadMany.__init__" s_i_BadMany f fd) (T : OexC K C) (n0 : PySem.W.findIn K (.ref C) "many" = some none) : FnOk P w K mg base CX0 1 f fd ["self", "many"] (spX C ["many"]) := by
  refine F.ok sc_i_BadMany (fun vs H Q E h => ?_) (fun cdv A outer s H vs Q E hr h => ?_)
  · obtain ⟨a, ws, rfl, hl, _⟩ := h
    exact congrArg (· + 1) hl
  · obtain ⟨a, ws, rfl, hl, ha, k⟩ := h
    refine ⟨_, (pss_one (ps_ost (pv 0) (pv 1))), ?_⟩
    obtain ⟨v0, rfl⟩ := list1 hl
    refine ⟨_, rfl, _, rfl, init1 T n0 ha fun d H0 hd da h1 h2 h3 => ?_⟩
    refine k d _ _ hd h1 h2 h3 ?_
    intro p hp
    have hp' : p ∈ [(("many" : Str), v0)] := hp
    simp only [List.mem_cons, List.not_mem_nil, or_false] at hp'
    rcases hp' with rfl <;> rfl
abbrev s_i_BadDeed : Stmt := inClass (topS 57) 0
theorem sc_i_BadDeed : FnScope ["self", "what"] ["self", "what"] (defScope s_i_BadDeed) := ⟨rfl, rfl, rfl, by decide +kernel, rfl, by decide +kernel, by decide +kernel⟩
theorem ok_i_BadDeed {f C : Addr} {fd : FuncData} (F : Fun K "__init__" "BadDeed.__init__" s_i_BadDeed f fd) (T : OexC K C) (n0 : PySem.W.findIn K (.ref C) "what" = some none) : FnOk P w K mg base CX0 1 f fd ["self", "what"] (spX C ["what"]) := by
  refine F.ok sc_i_BadDeed (fun vs H Q E h => ?_) (fun cdv A outer s H vs Q E hr h => ?_)
  · obtain ⟨a, ws, rfl, hl, _⟩ := h
    exact congrArg (· + 1) hl
  · obtain ⟨a, ws, rfl, hl, ha, k⟩ := h
    refine ⟨_, (pss_one (ps_ost (pv 0) (pv 1))), ?_⟩
    obtain ⟨v0, rfl⟩ := list1 hl
    refine ⟨_, rfl, _, rfl, init1 T n0 ha fun d H0 hd da h1 h2 h3 => ?_⟩
    refine k d _ _ hd h1 h2 h3 ?_
    intro p hp
    have hp' : p ∈ [(("what" : Str), v0)] := hp
    simp only [List.mem_cons, List.not_mem_nil, or_false] at hp'
    rcases hp' with rfl <;> rfl
end
end Far
namespace Far
open PySem L2 Evl

structure Cs where
  HeldError : Addr
  BadRatio : Addr
  BadPlant : Addr
  NoMode : Addr
  BadPhase : Addr
  BadTicks : Addr
  BadTimes : Addr
  BadUnit : Addr
  BadChannel : Addr
  NoWord : Addr
  BadOrder : Addr
  BadPeriod : Addr
  BadLots : Addr
  BadSensor : Addr
  BadWorld : Addr
  NoSensor : Addr
  BadOutcomes : Addr
  BadText : Addr
  Rising : Addr
  BadBase : Addr
  CountFull : Addr
  ManyMessages : Addr
  Barred : Addr
  LastMode : Addr
  NoOutcome : Addr
  LastOutcome : Addr
  NoLot : Addr
  TooNear : Addr
  BadProgram : Addr
  NoEntry : Addr
  BadLate : Addr
  BadStart : Addr
  BadTick : Addr
  BadRun : Addr
  Unheard : Addr
  BadPoint : Addr
  NoBar : Addr
  BadBound : Addr
  TooLong : Addr
  BadSplits : Addr
  TooLarge : Addr
  NotQuiet : Addr
  NotLink : Addr
  NoLeast : Addr
  TooWide : Addr
  NoFit : Addr
  NotBelow : Addr
  TooFar : Addr
  BadKeeping : Addr
  NoGroup : Addr
  NotClosed : Addr
  NotDone : Addr
  BadGroup : Addr
  BadPrices : Addr
  BadMany : Addr
  BadLiars : Addr
  BadDeed : Addr
  NotNow : Addr
  NoPlan : Addr
  NoDeed : Addr
section
variable {X : Cx}
/-- a class with an own __init__, as its users know it -/
structure Cl (P : Program) (w : World) (K : PySem.W.Frag) (mg : Str → Option Value) (base : Heap) (x : Str) (C : Addr) (names ps : List Str) : Prop where
  t : ExT K C
  gC : mg x = some (.ref C)
  no : ∀ n ∈ names, PySem.W.findIn K (.ref C) n = some none
  made : ∃ (fI : Addr) (fd : FuncData), PySem.W.findIn K (.ref C) "__init__" = some (some (.ref fI)) ∧ PySem.W.typeIn K (.ref fI) = some (.type "function") ∧ FnOk P w K mg base CX0 1 fI fd ps (spX C names) ∧ Binds K fd ps []
/-- one without -/
structure Cl0 (K : PySem.W.Frag) (mg : Str → Option Value) (x : Str) (C : Addr) : Prop where
  t : ExT K C
  gC : mg x = some (.ref C)
  q : PySem.W.excIn K C [.type "ValueError", .type "Exception", .type "BaseException", .type "object"] "ValueError.__new__" = true
theorem pe_cl {e : Expr} {es : List Expr} {ta : TA} {p pos : Pos} {x : Str} {C : Addr} {names ps : List Str} (D : Cl X.prog X.w X.K X.mg X.base x C names ps) (hr : Room 2 X.A) (ha : PA X (e :: es) ta) (hg : Gl X x := by rfl)
    (hdb : (x == ("__debug__" : Str)) = false := by decide) (he : starEach (e :: es) X.env = (false, eval e X.env) :: starEach es X.env := by rfl) (hpl : (backTo pos (starEach es X.env)).any (·.1) = false := by rfl) :
    PE X (.Call (.Name x p) (e :: es) [] pos) (tMkV C (spX C names) ta) := by
  obtain ⟨fI, fd, iC, tI, F1, hb⟩ := D.made
  exact pe_oex D.t.o iC tI F1 hb D.gC hr ha hg hdb he hpl
theorem pe_cl0 {p pos : Pos} {x : Str} {C : Addr} (D : Cl0 X.K X.mg x C) (hg : Gl X x := by rfl) (hdb : (x == ("__debug__" : Str)) = false := by decide) :
    PE X (.Call (.Name x p) [] [] pos) (fun _ H Q => ∀ a, H a = none → Q (.ref a) (upd H a (exo a C none))) := pe_exc0 D.q D.gC D.t.o.kC hg hdb
end
theorem xall_cons {K : PySem.W.Frag} {H : Hp} {as : List Addr} {s : Spec} {ss : List Spec} (h : XAll K H as (s :: ss)) : ∃ a as', as = a :: as' ∧ XAt K H a s ∧ XAll K H as' ss := by
  cases as with
  | nil => exact h.elim
  | cons a as => exact ⟨a, as, rfl, h.1, h.2⟩
theorem xall_nil {K : PySem.W.Frag} {H : Hp} {as : List Addr} (h : XAll K H as []) : as = [] := by
  cases as with
  | nil => rfl
  | cons a as => exact h.elim
theorem seq_in {t u : TS} {D : Ends} {σ : L2.St} {H : Hp} (h : t { D with nx := u D } σ H) : tSeq t u D σ H := h
theorem s_par {K : PySem.W.Frag} {σ : L2.St} {H : Hp} {D : Ends} {i j : Nat} {ta : TA} {ss : List Spec} (h : EvXs K ta σ H ss) (k : ∀ as H1, Ex H H1 → XAll K H1 as ss → ∃ v w, as.map V.ref = [v, w] ∧ D.nx ((σ.set i (some v)).set j (some w)) H1) : tPar i j ta D σ H :=
  h H (Ex.refl H) _ fun as H1 e hx => k as H1 e hx
theorem q_unpack {K : PySem.W.Frag} {σ : L2.St} {H : Hp} {D : Ends} {ta : TA} {u : TS} {ss : List Spec} {n : Nat} {tg : List V → L2.St → Hp → (L2.St → Hp → Prop) → Prop} (h : EvXs K ta σ H ss) (hn : ss.length = n) (hl : n ≤ 1000)
    (k : ∀ as H1, Ex H H1 → XAll K H1 as ss → tg (as.map V.ref) σ H1 (u D)) : tSeq (tAsg (tTup ta) (gTup K n tg)) u D σ H := s_unpack (D := { D with nx := u D }) h hn hl k
theorem q_par {K : PySem.W.Frag} {σ : L2.St} {H : Hp} {D : Ends} {i j : Nat} {ta : TA} {u : TS} {ss : List Spec} (h : EvXs K ta σ H ss) (k : ∀ as H1, Ex H H1 → XAll K H1 as ss → ∃ v w, as.map V.ref = [v, w] ∧ u D ((σ.set i (some v)).set j (some w)) H1) : tSeq (tPar i j ta) u D σ H :=
  s_par (D := { D with nx := u D }) h k
theorem q_rows {K : PySem.W.Frag} {σ : L2.St} {H : Hp} {D : Ends} {te : TE} {u : TS} {i : Nat} {rs : List Row} (h : EvL K te σ H rs) (k : ∀ p vs H1, Ex H H1 → H1 p = some (.lst vs) → RowsAt K H1 vs rs → u D (σ.set i (some (.ref p))) H1) : tSeq (tAsg te (gName i)) u D σ H :=
  s_rows (D := { D with nx := u D }) h k
def spRows (K : PySem.W.Frag) (rows : Int → Int → Str → Str → List Row) : Sp := fun vs H Q _ => ∃ (a b : Int) (x y : Str), vs = [.int a, .int b, .str x, .str y] ∧ ∀ p us H', Ex H H' → H' p = some (.lst us) → RowsAt K H' us (rows a b x y) → Q (.ref p) H'

structure ClsAll (P : Program) (w : World) (K : PySem.W.Frag) (mg : Str → Option Value) (base : Heap) (cs : Cs) : Prop where
  c_BadRatio : Cl P w K mg base "BadRatio" cs.BadRatio ["what"] ["self", "what"]
  c_BadPlant : Cl P w K mg base "BadPlant" cs.BadPlant ["what", "mode"] ["self", "what", "mode"]
  c_NoMode : Cl P w K mg base "NoMode" cs.NoMode ["mode"] ["self", "mode"]
  c_BadPhase : Cl P w K mg base "BadPhase" cs.BadPhase ["phase"] ["self", "phase"]
  c_BadTicks : Cl P w K mg base "BadTicks" cs.BadTicks ["ticks"] ["self", "ticks"]
  c_BadTimes : Cl P w K mg base "BadTimes" cs.BadTimes ["repeats"] ["self", "repeats"]
  c_BadUnit : Cl P w K mg base "BadUnit" cs.BadUnit ["unit"] ["self", "unit"]
  c_BadChannel : Cl P w K mg base "BadChannel" cs.BadChannel ["what", "phase", "word"] ["self", "what", "phase", "word"]
  c_NoWord : Cl P w K mg base "NoWord" cs.NoWord ["word"] ["self", "word"]
  c_BadOrder : Cl P w K mg base "BadOrder" cs.BadOrder ["what"] ["self", "what"]
  c_BadPeriod : Cl P w K mg base "BadPeriod" cs.BadPeriod ["one", "other"] ["self", "one", "other"]
  c_BadLots : Cl P w K mg base "BadLots" cs.BadLots ["index", "what"] ["self", "index", "what"]
  c_BadSensor : Cl P w K mg base "BadSensor" cs.BadSensor ["what"] ["self", "what"]
  c_BadWorld : Cl P w K mg base "BadWorld" cs.BadWorld ["what", "sensor"] ["self", "what", "sensor"]
  c_NoSensor : Cl P w K mg base "NoSensor" cs.NoSensor ["sensor"] ["self", "sensor"]
  c_BadOutcomes : Cl0 K mg "BadOutcomes" cs.BadOutcomes
  c_BadText : Cl P w K mg base "BadText" cs.BadText ["row", "what"] ["self", "row", "what"]
  c_Rising : Cl P w K mg base "Rising" cs.Rising ["ray"] ["self", "ray"]
  c_BadBase : Cl0 K mg "BadBase" cs.BadBase
  c_CountFull : Cl P w K mg base "CountFull" cs.CountFull ["tried"] ["self", "tried"]
  c_ManyMessages : Cl P w K mg base "ManyMessages" cs.ManyMessages ["greatest"] ["self", "greatest"]
  c_Barred : Cl P w K mg base "Barred" cs.Barred ["bar"] ["self", "bar"]
  c_LastMode : Cl0 K mg "LastMode" cs.LastMode
  c_NoOutcome : Cl P w K mg base "NoOutcome" cs.NoOutcome ["word", "outcome"] ["self", "word", "outcome"]
  c_LastOutcome : Cl P w K mg base "LastOutcome" cs.LastOutcome ["word"] ["self", "word"]
  c_NoLot : Cl P w K mg base "NoLot" cs.NoLot ["lot"] ["self", "lot"]
  c_TooNear : Cl P w K mg base "TooNear" cs.TooNear ["tried"] ["self", "tried"]
  c_BadProgram : Cl P w K mg base "BadProgram" cs.BadProgram ["who", "what"] ["self", "who", "what"]
  c_NoEntry : Cl P w K mg base "NoEntry" cs.NoEntry ["what"] ["self", "what"]
  c_BadLate : Cl P w K mg base "BadLate" cs.BadLate ["late"] ["self", "late"]
  c_BadStart : Cl P w K mg base "BadStart" cs.BadStart ["mode"] ["self", "mode"]
  c_BadTick : Cl P w K mg base "BadTick" cs.BadTick ["what"] ["self", "what"]
  c_BadRun : Cl P w K mg base "BadRun" cs.BadRun ["tick", "what"] ["self", "tick", "what"]
  c_Unheard : Cl P w K mg base "Unheard" cs.Unheard ["outcomes"] ["self", "outcomes"]
  c_BadPoint : Cl0 K mg "BadPoint" cs.BadPoint
  c_NoBar : Cl P w K mg base "NoBar" cs.NoBar ["what"] ["self", "what"]
  c_BadBound : Cl P w K mg base "BadBound" cs.BadBound ["bound"] ["self", "bound"]
  c_TooLong : Cl P w K mg base "TooLong" cs.TooLong ["ticks"] ["self", "ticks"]
  c_BadSplits : Cl P w K mg base "BadSplits" cs.BadSplits ["place"] ["self", "place"]
  c_TooLarge : Cl0 K mg "TooLarge" cs.TooLarge
  c_NotQuiet : Cl P w K mg base "NotQuiet" cs.NotQuiet ["state"] ["self", "state"]
  c_NotLink : Cl P w K mg base "NotLink" cs.NotLink ["what"] ["self", "what"]
  c_NoLeast : Cl0 K mg "NoLeast" cs.NoLeast
  c_TooWide : Cl P w K mg base "TooWide" cs.TooWide ["late"] ["self", "late"]
  c_NoFit : Cl P w K mg base "NoFit" cs.NoFit ["fault"] ["self", "fault"]
  c_NotBelow : Cl P w K mg base "NotBelow" cs.NotBelow ["least"] ["self", "least"]
  c_TooFar : Cl P w K mg base "TooFar" cs.TooFar ["ticks"] ["self", "ticks"]
  c_BadKeeping : Cl P w K mg base "BadKeeping" cs.BadKeeping ["what", "index"] ["self", "what", "index"]
  c_NoGroup : Cl0 K mg "NoGroup" cs.NoGroup
  c_NotClosed : Cl P w K mg base "NotClosed" cs.NotClosed ["key"] ["self", "key"]
  c_NotDone : Cl P w K mg base "NotDone" cs.NotDone ["most"] ["self", "most"]
  c_BadGroup : Cl0 K mg "BadGroup" cs.BadGroup
  c_BadPrices : Cl P w K mg base "BadPrices" cs.BadPrices ["sensor"] ["self", "sensor"]
  c_BadMany : Cl P w K mg base "BadMany" cs.BadMany ["many"] ["self", "many"]
  c_BadLiars : Cl0 K mg "BadLiars" cs.BadLiars
  c_BadDeed : Cl P w K mg base "BadDeed" cs.BadDeed ["what"] ["self", "what"]
  c_NotNow : Cl0 K mg "NotNow" cs.NotNow
  c_NoPlan : Cl0 K mg "NoPlan" cs.NoPlan
  c_NoDeed : Cl0 K mg "NoDeed" cs.NoDeed
section
variable {P : Program} {w : World} {K : PySem.W.Frag} {mg : Str → Option Value} {base : Heap}
def rows_first (cs : Cs) (at' to' : Int) (word name : Str) : List Row :=
  [((cs.BadRatio, some (List.zip (["what"] : List Str) [.str word])), .list [.str word]),
   ((cs.BadPlant, some (List.zip (["what", "mode"] : List Str) [.str name, .int at'])), .list [.str name, .int at']),
   ((cs.NoMode, some (List.zip (["mode"] : List Str) [.int to'])), .list [.int to']),
   ((cs.BadPhase, some (List.zip (["phase"] : List Str) [.int at'])), .list [.int at']),
   ((cs.BadTicks, some (List.zip (["ticks"] : List Str) [.int to'])), .list [.int to']),
   ((cs.BadTimes, some (List.zip (["repeats"] : List Str) [.int at'])), .list [.int at']),
   ((cs.BadUnit, some (List.zip (["unit"] : List Str) [.tuple [.int at', .int 1]])), .list [.tuple [.int at', .int 1]]),
   ((cs.BadOutcomes, none), .list []),
   ((cs.BadChannel, some (List.zip (["what", "phase", "word"] : List Str) [.str word, .int at', .int to'])), .list [.str word, .int at', .int to']),
   ((cs.NoWord, some (List.zip (["word"] : List Str) [.int to'])), .list [.int to']),
   ((cs.BadOrder, some (List.zip (["what"] : List Str) [.str name])), .list [.str name]),
   ((cs.BadPeriod, some (List.zip (["one", "other"] : List Str) [.int at', .int to'])), .list [.int at', .int to']),
   ((cs.BadLots, some (List.zip (["index", "what"] : List Str) [.int to', .str word])), .list [.int to', .str word]),
   ((cs.BadSensor, some (List.zip (["what"] : List Str) [.str name])), .list [.str name]),
   ((cs.BadWorld, some (List.zip (["what", "sensor"] : List Str) [.str word, .int to'])), .list [.str word, .int to']),
   ((cs.NoSensor, some (List.zip (["sensor"] : List Str) [.int at'])), .list [.int at']),
   ((cs.BadText, some (List.zip (["row", "what"] : List Str) [.int at', .str name])), .list [.int at', .str name])]
abbrev s_first : Stmt := topS 66
abbrev N_first : List Str := ["at", "to", "word", "name", "a", "b", "c", "d", "e", "f", "g", "h", "i", "j", "k", "m", "n", "o", "p", "q", "found"]
theorem sc_first : FnScope N_first ["at", "to", "word", "name"] (defScope s_first) := ⟨rfl, rfl, rfl, by decide +kernel, rfl, by decide +kernel, by decide +kernel⟩

theorem ok_first {cs : Cs} {f : Addr} {fd : FuncData} (F : Fun K "_law_first" "_law_first" s_first f fd) (T : ClsAll P w K mg base cs) : FnOk P w K mg base CX0 3 f fd ["at", "to", "word", "name"] (spRows K (rows_first cs)) := by
  refine F.ok sc_first (fun vs H Q E h => ?_) (fun cdv A outer s H vs Q E hr h => ?_)
  · obtain ⟨at', to', word, name, rfl, _⟩ := h
    rfl
  · obtain ⟨at', to', word, name, rfl, k⟩ := h
    have hr2 : Room 2 _ := hr.mono (by decide)
    refine ⟨_, (pss_cons (ps_asg (pe_tup (pa_cons (pe_cl T.c_BadRatio hr2 (pa_cons (pv 2) pa_nil)) (pa_cons (pe_cl T.c_BadPlant hr2 (pa_cons (pv 3) (pa_cons (pv 0) pa_nil))) (pa_cons (pe_cl T.c_NoMode hr2 (pa_cons (pv 1) pa_nil)) (pa_cons (pe_cl T.c_BadPhase hr2 (pa_cons (pv 0) pa_nil)) (pa_cons (pe_cl T.c_BadTicks hr2 (pa_cons (pv 1) pa_nil)) (pa_cons (pe_cl T.c_BadTimes hr2 (pa_cons (pv 0) pa_nil)) pa_nil))))))) (pg_tup rfl (pgs_cons (pg_name (i := 4) sc_first.nd rfl (Or.inl rfl)) (pgs_cons (pg_name (i := 5) sc_first.nd rfl (Or.inl rfl)) (pgs_cons (pg_name (i := 6) sc_first.nd rfl (Or.inl rfl)) (pgs_cons (pg_name (i := 7) sc_first.nd rfl (Or.inl rfl)) (pgs_cons (pg_name (i := 8) sc_first.nd rfl (Or.inl rfl)) (pgs_cons (pg_name (i := 9) sc_first.nd rfl (Or.inl rfl)) pgs_nil))))))) rfl)
    (pss_cons (ps_asg (pe_tup (pa_cons (pe_cl T.c_BadUnit hr2 (pa_cons (pe_tup (pa_cons (pv 0) (pa_cons pe_int pa_nil))) pa_nil)) (pa_cons (pe_cl T.c_BadChannel hr2 (pa_cons (pv 2) (pa_cons (pv 0) (pa_cons (pv 1) pa_nil)))) (pa_cons (pe_cl T.c_NoWord hr2 (pa_cons (pv 1) pa_nil)) (pa_cons (pe_cl T.c_BadOrder hr2 (pa_cons (pv 3) pa_nil)) (pa_cons (pe_cl T.c_BadPeriod hr2 (pa_cons (pv 0) (pa_cons (pv 1) pa_nil))) pa_nil)))))) (pg_tup rfl (pgs_cons (pg_name (i := 10) sc_first.nd rfl (Or.inl rfl)) (pgs_cons (pg_name (i := 11) sc_first.nd rfl (Or.inl rfl)) (pgs_cons (pg_name (i := 12) sc_first.nd rfl (Or.inl rfl)) (pgs_cons (pg_name (i := 13) sc_first.nd rfl (Or.inl rfl)) (pgs_cons (pg_name (i := 14) sc_first.nd rfl (Or.inl rfl)) pgs_nil)))))) rfl)
    (pss_cons (ps_asg (pe_tup (pa_cons (pe_cl T.c_BadLots hr2 (pa_cons (pv 1) (pa_cons (pv 2) pa_nil))) (pa_cons (pe_cl T.c_BadSensor hr2 (pa_cons (pv 3) pa_nil)) (pa_cons (pe_cl T.c_BadWorld hr2 (pa_cons (pv 2) (pa_cons (pv 1) pa_nil))) (pa_cons (pe_cl T.c_NoSensor hr2 (pa_cons (pv 0) pa_nil)) (pa_cons (pe_cl T.c_BadText hr2 (pa_cons (pv 0) (pa_cons (pv 3) pa_nil))) pa_nil)))))) (pg_tup rfl (pgs_cons (pg_name (i := 15) sc_first.nd rfl (Or.inl rfl)) (pgs_cons (pg_name (i := 16) sc_first.nd rfl (Or.inl rfl)) (pgs_cons (pg_name (i := 17) sc_first.nd rfl (Or.inl rfl)) (pgs_cons (pg_name (i := 18) sc_first.nd rfl (Or.inl rfl)) (pgs_cons (pg_name (i := 19) sc_first.nd rfl (Or.inl rfl)) pgs_nil)))))) rfl)
    (pss_cons (ps_set (i := 20) sc_first.nd rfl (Or.inl rfl) (pe_lst (pa_cons (pe_tup (pa_cons (pv 4) (pa_cons (pe_lst (pa_cons (pe_oexF T.c_BadRatio.t (T.c_BadRatio.no _ (List.Mem.head _)) (pv 4)) pa_nil)) (pa_cons (pe_lst (pa_cons (pv 2) pa_nil)) pa_nil)))) (pa_cons (pe_tup (pa_cons (pv 5) (pa_cons (pe_lst (pa_cons (pe_oexF T.c_BadPlant.t (T.c_BadPlant.no _ (List.Mem.head _)) (pv 5)) (pa_cons (pe_oexF T.c_BadPlant.t (T.c_BadPlant.no _ (List.Mem.tail _ (List.Mem.head _))) (pv 5)) pa_nil))) (pa_cons (pe_lst (pa_cons (pv 3) (pa_cons (pv 0) pa_nil))) pa_nil)))) (pa_cons (pe_tup (pa_cons (pv 6) (pa_cons (pe_lst (pa_cons (pe_oexF T.c_NoMode.t (T.c_NoMode.no _ (List.Mem.head _)) (pv 6)) pa_nil)) (pa_cons (pe_lst (pa_cons (pv 1) pa_nil)) pa_nil)))) (pa_cons (pe_tup (pa_cons (pv 7) (pa_cons (pe_lst (pa_cons (pe_oexF T.c_BadPhase.t (T.c_BadPhase.no _ (List.Mem.head _)) (pv 7)) pa_nil)) (pa_cons (pe_lst (pa_cons (pv 0) pa_nil)) pa_nil)))) pa_nil))))))
    (pss_cons (ps_set (i := 20) sc_first.nd rfl (Or.inl rfl) (pe_op op_cat (pv 20) (pe_lst (pa_cons (pe_tup (pa_cons (pv 8) (pa_cons (pe_lst (pa_cons (pe_oexF T.c_BadTicks.t (T.c_BadTicks.no _ (List.Mem.head _)) (pv 8)) pa_nil)) (pa_cons (pe_lst (pa_cons (pv 1) pa_nil)) pa_nil)))) (pa_cons (pe_tup (pa_cons (pv 9) (pa_cons (pe_lst (pa_cons (pe_oexF T.c_BadTimes.t (T.c_BadTimes.no _ (List.Mem.head _)) (pv 9)) pa_nil)) (pa_cons (pe_lst (pa_cons (pv 0) pa_nil)) pa_nil)))) (pa_cons (pe_tup (pa_cons (pv 10) (pa_cons (pe_lst (pa_cons (pe_oexF T.c_BadUnit.t (T.c_BadUnit.no _ (List.Mem.head _)) (pv 10)) pa_nil)) (pa_cons (pe_lst (pa_cons (pe_tup (pa_cons (pv 0) (pa_cons pe_int pa_nil))) pa_nil)) pa_nil)))) (pa_cons (pe_tup (pa_cons (pe_cl0 T.c_BadOutcomes) (pa_cons (pe_lst pa_nil) (pa_cons (pe_lst pa_nil) pa_nil)))) pa_nil)))))))
    (pss_cons (ps_set (i := 20) sc_first.nd rfl (Or.inl rfl) (pe_op op_cat (pv 20) (pe_lst (pa_cons (pe_tup (pa_cons (pv 11) (pa_cons (pe_lst (pa_cons (pe_oexF T.c_BadChannel.t (T.c_BadChannel.no _ (List.Mem.head _)) (pv 11)) (pa_cons (pe_oexF T.c_BadChannel.t (T.c_BadChannel.no _ (List.Mem.tail _ (List.Mem.head _))) (pv 11)) (pa_cons (pe_oexF T.c_BadChannel.t (T.c_BadChannel.no _ (List.Mem.tail _ (List.Mem.tail _ (List.Mem.head _)))) (pv 11)) pa_nil)))) (pa_cons (pe_lst (pa_cons (pv 2) (pa_cons (pv 0) (pa_cons (pv 1) pa_nil)))) pa_nil)))) (pa_cons (pe_tup (pa_cons (pv 12) (pa_cons (pe_lst (pa_cons (pe_oexF T.c_NoWord.t (T.c_NoWord.no _ (List.Mem.head _)) (pv 12)) pa_nil)) (pa_cons (pe_lst (pa_cons (pv 1) pa_nil)) pa_nil)))) (pa_cons (pe_tup (pa_cons (pv 13) (pa_cons (pe_lst (pa_cons (pe_oexF T.c_BadOrder.t (T.c_BadOrder.no _ (List.Mem.head _)) (pv 13)) pa_nil)) (pa_cons (pe_lst (pa_cons (pv 3) pa_nil)) pa_nil)))) pa_nil))))))
    (pss_cons (ps_set (i := 20) sc_first.nd rfl (Or.inl rfl) (pe_op op_cat (pv 20) (pe_lst (pa_cons (pe_tup (pa_cons (pv 14) (pa_cons (pe_lst (pa_cons (pe_oexF T.c_BadPeriod.t (T.c_BadPeriod.no _ (List.Mem.head _)) (pv 14)) (pa_cons (pe_oexF T.c_BadPeriod.t (T.c_BadPeriod.no _ (List.Mem.tail _ (List.Mem.head _))) (pv 14)) pa_nil))) (pa_cons (pe_lst (pa_cons (pv 0) (pa_cons (pv 1) pa_nil))) pa_nil)))) (pa_cons (pe_tup (pa_cons (pv 15) (pa_cons (pe_lst (pa_cons (pe_oexF T.c_BadLots.t (T.c_BadLots.no _ (List.Mem.head _)) (pv 15)) (pa_cons (pe_oexF T.c_BadLots.t (T.c_BadLots.no _ (List.Mem.tail _ (List.Mem.head _))) (pv 15)) pa_nil))) (pa_cons (pe_lst (pa_cons (pv 1) (pa_cons (pv 2) pa_nil))) pa_nil)))) (pa_cons (pe_tup (pa_cons (pv 16) (pa_cons (pe_lst (pa_cons (pe_oexF T.c_BadSensor.t (T.c_BadSensor.no _ (List.Mem.head _)) (pv 16)) pa_nil)) (pa_cons (pe_lst (pa_cons (pv 3) pa_nil)) pa_nil)))) pa_nil))))))
    (pss_one (ps_ret (pe_op op_cat (pv 20) (pe_lst (pa_cons (pe_tup (pa_cons (pv 17) (pa_cons (pe_lst (pa_cons (pe_oexF T.c_BadWorld.t (T.c_BadWorld.no _ (List.Mem.head _)) (pv 17)) (pa_cons (pe_oexF T.c_BadWorld.t (T.c_BadWorld.no _ (List.Mem.tail _ (List.Mem.head _))) (pv 17)) pa_nil))) (pa_cons (pe_lst (pa_cons (pv 2) (pa_cons (pv 1) pa_nil))) pa_nil)))) (pa_cons (pe_tup (pa_cons (pv 18) (pa_cons (pe_lst (pa_cons (pe_oexF T.c_NoSensor.t (T.c_NoSensor.no _ (List.Mem.head _)) (pv 18)) pa_nil)) (pa_cons (pe_lst (pa_cons (pv 0) pa_nil)) pa_nil)))) (pa_cons (pe_tup (pa_cons (pv 19) (pa_cons (pe_lst (pa_cons (pe_oexF T.c_BadText.t (T.c_BadText.no _ (List.Mem.head _)) (pv 19)) (pa_cons (pe_oexF T.c_BadText.t (T.c_BadText.no _ (List.Mem.tail _ (List.Mem.head _))) (pv 19)) pa_nil))) (pa_cons (pe_lst (pa_cons (pv 0) (pa_cons (pv 3) pa_nil))) pa_nil)))) pa_nil)))))))))))))), ?_⟩
    have ex0 : Ex H H := Ex.refl H
    show tSeq _ _ _ [some (.int at'), some (.int to'), some (.str word), some (.str name), none, none, none, none, none, none, none, none, none, none, none, none, none, none, none, none, none] _
    refine q_unpack (evxs_cons (evx_make (evds_cons (evd_var rfl (Dp.str _)) evds_nil) rfl (by show 1 ≤ 10; decide)) (evxs_cons (evx_make (evds_cons (evd_var rfl (Dp.str _)) (evds_cons (evd_var rfl (Dp.int _)) evds_nil)) rfl (by show 2 ≤ 10; decide)) (evxs_cons (evx_make (evds_cons (evd_var rfl (Dp.int _)) evds_nil) rfl (by show 1 ≤ 10; decide)) (evxs_cons (evx_make (evds_cons (evd_var rfl (Dp.int _)) evds_nil) rfl (by show 1 ≤ 10; decide)) (evxs_cons (evx_make (evds_cons (evd_var rfl (Dp.int _)) evds_nil) rfl (by show 1 ≤ 10; decide)) (evxs_cons (evx_make (evds_cons (evd_var rfl (Dp.int _)) evds_nil) rfl (by show 1 ≤ 10; decide)) evxs_nil)))))) rfl (by show 6 ≤ 1000; decide) fun as H1 e1 hx => ?_
    obtain ⟨a_a, as, rfl, h_a, hx⟩ := xall_cons hx
    obtain ⟨a_b, as, rfl, h_b, hx⟩ := xall_cons hx
    obtain ⟨a_c, as, rfl, h_c, hx⟩ := xall_cons hx
    obtain ⟨a_d, as, rfl, h_d, hx⟩ := xall_cons hx
    obtain ⟨a_e, as, rfl, h_e, hx⟩ := xall_cons hx
    obtain ⟨a_f, as, rfl, h_f, hx⟩ := xall_cons hx
    obtain rfl := xall_nil hx
    refine ⟨_, _, rfl, _, _, rfl, _, _, rfl, _, _, rfl, _, _, rfl, _, _, rfl, rfl, ?_⟩
    have ex1 : Ex H H1 := ex0.trans e1
    show tSeq _ _ _ [some (.int at'), some (.int to'), some (.str word), some (.str name), some (.ref a_a), some (.ref a_b), some (.ref a_c), some (.ref a_d), some (.ref a_e), some (.ref a_f), none, none, none, none, none, none, none, none, none, none, none] _
    refine q_unpack (evxs_cons (evx_make (evds_cons (evd_tup (evds_cons (evd_var rfl (Dp.int _)) (evds_cons evd_int evds_nil)) (by show 2 ≤ 1000; decide)) evds_nil) rfl (by show 1 ≤ 10; decide)) (evxs_cons (evx_make (evds_cons (evd_var rfl (Dp.str _)) (evds_cons (evd_var rfl (Dp.int _)) (evds_cons (evd_var rfl (Dp.int _)) evds_nil))) rfl (by show 3 ≤ 10; decide)) (evxs_cons (evx_make (evds_cons (evd_var rfl (Dp.int _)) evds_nil) rfl (by show 1 ≤ 10; decide)) (evxs_cons (evx_make (evds_cons (evd_var rfl (Dp.str _)) evds_nil) rfl (by show 1 ≤ 10; decide)) (evxs_cons (evx_make (evds_cons (evd_var rfl (Dp.int _)) (evds_cons (evd_var rfl (Dp.int _)) evds_nil)) rfl (by show 2 ≤ 10; decide)) evxs_nil))))) rfl (by show 5 ≤ 1000; decide) fun as H2 e2 hx => ?_
    obtain ⟨a_g, as, rfl, h_g, hx⟩ := xall_cons hx
    obtain ⟨a_h, as, rfl, h_h, hx⟩ := xall_cons hx
    obtain ⟨a_i, as, rfl, h_i, hx⟩ := xall_cons hx
    obtain ⟨a_j, as, rfl, h_j, hx⟩ := xall_cons hx
    obtain ⟨a_k, as, rfl, h_k, hx⟩ := xall_cons hx
    obtain rfl := xall_nil hx
    refine ⟨_, _, rfl, _, _, rfl, _, _, rfl, _, _, rfl, _, _, rfl, rfl, ?_⟩
    replace h_a := xat_grow e2 h_a
    replace h_b := xat_grow e2 h_b
    replace h_c := xat_grow e2 h_c
    replace h_d := xat_grow e2 h_d
    replace h_e := xat_grow e2 h_e
    replace h_f := xat_grow e2 h_f
    have ex2 : Ex H H2 := ex1.trans e2
    show tSeq _ _ _ [some (.int at'), some (.int to'), some (.str word), some (.str name), some (.ref a_a), some (.ref a_b), some (.ref a_c), some (.ref a_d), some (.ref a_e), some (.ref a_f), some (.ref a_g), some (.ref a_h), some (.ref a_i), some (.ref a_j), some (.ref a_k), none, none, none, none, none, none] _
    refine q_unpack (evxs_cons (evx_make (evds_cons (evd_var rfl (Dp.int _)) (evds_cons (evd_var rfl (Dp.str _)) evds_nil)) rfl (by show 2 ≤ 10; decide)) (evxs_cons (evx_make (evds_cons (evd_var rfl (Dp.str _)) evds_nil) rfl (by show 1 ≤ 10; decide)) (evxs_cons (evx_make (evds_cons (evd_var rfl (Dp.str _)) (evds_cons (evd_var rfl (Dp.int _)) evds_nil)) rfl (by show 2 ≤ 10; decide)) (evxs_cons (evx_make (evds_cons (evd_var rfl (Dp.int _)) evds_nil) rfl (by show 1 ≤ 10; decide)) (evxs_cons (evx_make (evds_cons (evd_var rfl (Dp.int _)) (evds_cons (evd_var rfl (Dp.str _)) evds_nil)) rfl (by show 2 ≤ 10; decide)) evxs_nil))))) rfl (by show 5 ≤ 1000; decide) fun as H3 e3 hx => ?_
    obtain ⟨a_m, as, rfl, h_m, hx⟩ := xall_cons hx
    obtain ⟨a_n, as, rfl, h_n, hx⟩ := xall_cons hx
    obtain ⟨a_o, as, rfl, h_o, hx⟩ := xall_cons hx
    obtain ⟨a_p, as, rfl, h_p, hx⟩ := xall_cons hx
    obtain ⟨a_q, as, rfl, h_q, hx⟩ := xall_cons hx
    obtain rfl := xall_nil hx
    refine ⟨_, _, rfl, _, _, rfl, _, _, rfl, _, _, rfl, _, _, rfl, rfl, ?_⟩
    replace h_a := xat_grow e3 h_a
    replace h_b := xat_grow e3 h_b
    replace h_c := xat_grow e3 h_c
    replace h_d := xat_grow e3 h_d
    replace h_e := xat_grow e3 h_e
    replace h_f := xat_grow e3 h_f
    replace h_g := xat_grow e3 h_g
    replace h_h := xat_grow e3 h_h
    replace h_i := xat_grow e3 h_i
    replace h_j := xat_grow e3 h_j
    replace h_k := xat_grow e3 h_k
    have ex3 : Ex H H3 := ex2.trans e3
    show tSeq _ _ _ [some (.int at'), some (.int to'), some (.str word), some (.str name), some (.ref a_a), some (.ref a_b), some (.ref a_c), some (.ref a_d), some (.ref a_e), some (.ref a_f), some (.ref a_g), some (.ref a_h), some (.ref a_i), some (.ref a_j), some (.ref a_k), some (.ref a_m), some (.ref a_n), some (.ref a_o), some (.ref a_p), some (.ref a_q), none] _
    refine q_rows (evl_lst (evrs_cons (evr_row (evx_var rfl h_a) (evd_lst (evds_cons (evd_fld (evx_var rfl h_a) (List.Mem.head _)) evds_nil) (by show 1 ≤ 1000; decide)) (evd_lst (evds_cons (evd_var rfl (Dp.str _)) evds_nil) (by show 1 ≤ 1000; decide))) (evrs_cons (evr_row (evx_var rfl h_b) (evd_lst (evds_cons (evd_fld (evx_var rfl h_b) (List.Mem.head _)) (evds_cons (evd_fld (evx_var rfl h_b) (List.Mem.tail _ (List.Mem.head _))) evds_nil)) (by show 2 ≤ 1000; decide)) (evd_lst (evds_cons (evd_var rfl (Dp.str _)) (evds_cons (evd_var rfl (Dp.int _)) evds_nil)) (by show 2 ≤ 1000; decide))) (evrs_cons (evr_row (evx_var rfl h_c) (evd_lst (evds_cons (evd_fld (evx_var rfl h_c) (List.Mem.head _)) evds_nil) (by show 1 ≤ 1000; decide)) (evd_lst (evds_cons (evd_var rfl (Dp.int _)) evds_nil) (by show 1 ≤ 1000; decide))) (evrs_cons (evr_row (evx_var rfl h_d) (evd_lst (evds_cons (evd_fld (evx_var rfl h_d) (List.Mem.head _)) evds_nil) (by show 1 ≤ 1000; decide)) (evd_lst (evds_cons (evd_var rfl (Dp.int _)) evds_nil) (by show 1 ≤ 1000; decide))) evrs_nil)))) (by show 4 ≤ 1000; decide)) fun p4 vs4 H4 e4 hp' hv' => ?_
    replace h_a := xat_grow e4 h_a
    replace h_b := xat_grow e4 h_b
    replace h_c := xat_grow e4 h_c
    replace h_d := xat_grow e4 h_d
    replace h_e := xat_grow e4 h_e
    replace h_f := xat_grow e4 h_f
    replace h_g := xat_grow e4 h_g
    replace h_h := xat_grow e4 h_h
    replace h_i := xat_grow e4 h_i
    replace h_j := xat_grow e4 h_j
    replace h_k := xat_grow e4 h_k
    replace h_m := xat_grow e4 h_m
    replace h_n := xat_grow e4 h_n
    replace h_o := xat_grow e4 h_o
    replace h_p := xat_grow e4 h_p
    replace h_q := xat_grow e4 h_q
    have hp := hp'
    have hv := hv'
    clear hp' hv'
    have ex4 : Ex H H4 := ex3.trans e4
    show tSeq _ _ _ [some (.int at'), some (.int to'), some (.str word), some (.str name), some (.ref a_a), some (.ref a_b), some (.ref a_c), some (.ref a_d), some (.ref a_e), some (.ref a_f), some (.ref a_g), some (.ref a_h), some (.ref a_i), some (.ref a_j), some (.ref a_k), some (.ref a_m), some (.ref a_n), some (.ref a_o), some (.ref a_p), some (.ref a_q), some (.ref p4)] _
    refine q_rows (evl_cat (evl_var rfl hp hv) (evl_lst (evrs_cons (evr_row (evx_var rfl h_e) (evd_lst (evds_cons (evd_fld (evx_var rfl h_e) (List.Mem.head _)) evds_nil) (by show 1 ≤ 1000; decide)) (evd_lst (evds_cons (evd_var rfl (Dp.int _)) evds_nil) (by show 1 ≤ 1000; decide))) (evrs_cons (evr_row (evx_var rfl h_f) (evd_lst (evds_cons (evd_fld (evx_var rfl h_f) (List.Mem.head _)) evds_nil) (by show 1 ≤ 1000; decide)) (evd_lst (evds_cons (evd_var rfl (Dp.int _)) evds_nil) (by show 1 ≤ 1000; decide))) (evrs_cons (evr_row (evx_var rfl h_g) (evd_lst (evds_cons (evd_fld (evx_var rfl h_g) (List.Mem.head _)) evds_nil) (by show 1 ≤ 1000; decide)) (evd_lst (evds_cons (evd_tup (evds_cons (evd_var rfl (Dp.int _)) (evds_cons evd_int evds_nil)) (by show 2 ≤ 1000; decide)) evds_nil) (by show 1 ≤ 1000; decide))) (evrs_cons (evr_row evx_new (evd_lst evds_nil (by show 0 ≤ 1000; decide)) (evd_lst evds_nil (by show 0 ≤ 1000; decide))) evrs_nil)))) (by show 4 ≤ 1000; decide)) (by show 4 + 4 ≤ 1000; decide)) fun p5 vs5 H5 e5 hp' hv' => ?_
    replace h_a := xat_grow e5 h_a
    replace h_b := xat_grow e5 h_b
    replace h_c := xat_grow e5 h_c
    replace h_d := xat_grow e5 h_d
    replace h_e := xat_grow e5 h_e
    replace h_f := xat_grow e5 h_f
    replace h_g := xat_grow e5 h_g
    replace h_h := xat_grow e5 h_h
    replace h_i := xat_grow e5 h_i
    replace h_j := xat_grow e5 h_j
    replace h_k := xat_grow e5 h_k
    replace h_m := xat_grow e5 h_m
    replace h_n := xat_grow e5 h_n
    replace h_o := xat_grow e5 h_o
    replace h_p := xat_grow e5 h_p
    replace h_q := xat_grow e5 h_q
    clear hp hv
    have hp := hp'
    have hv := hv'
    clear hp' hv'
    have ex5 : Ex H H5 := ex4.trans e5
    show tSeq _ _ _ [some (.int at'), some (.int to'), some (.str word), some (.str name), some (.ref a_a), some (.ref a_b), some (.ref a_c), some (.ref a_d), some (.ref a_e), some (.ref a_f), some (.ref a_g), some (.ref a_h), some (.ref a_i), some (.ref a_j), some (.ref a_k), some (.ref a_m), some (.ref a_n), some (.ref a_o), some (.ref a_p), some (.ref a_q), some (.ref p5)] _
    refine q_rows (evl_cat (evl_var rfl hp hv) (evl_lst (evrs_cons (evr_row (evx_var rfl h_h) (evd_lst (evds_cons (evd_fld (evx_var rfl h_h) (List.Mem.head _)) (evds_cons (evd_fld (evx_var rfl h_h) (List.Mem.tail _ (List.Mem.head _))) (evds_cons (evd_fld (evx_var rfl h_h) (List.Mem.tail _ (List.Mem.tail _ (List.Mem.head _)))) evds_nil))) (by show 3 ≤ 1000; decide)) (evd_lst (evds_cons (evd_var rfl (Dp.str _)) (evds_cons (evd_var rfl (Dp.int _)) (evds_cons (evd_var rfl (Dp.int _)) evds_nil))) (by show 3 ≤ 1000; decide))) (evrs_cons (evr_row (evx_var rfl h_i) (evd_lst (evds_cons (evd_fld (evx_var rfl h_i) (List.Mem.head _)) evds_nil) (by show 1 ≤ 1000; decide)) (evd_lst (evds_cons (evd_var rfl (Dp.int _)) evds_nil) (by show 1 ≤ 1000; decide))) (evrs_cons (evr_row (evx_var rfl h_j) (evd_lst (evds_cons (evd_fld (evx_var rfl h_j) (List.Mem.head _)) evds_nil) (by show 1 ≤ 1000; decide)) (evd_lst (evds_cons (evd_var rfl (Dp.str _)) evds_nil) (by show 1 ≤ 1000; decide))) evrs_nil))) (by show 3 ≤ 1000; decide)) (by show 8 + 3 ≤ 1000; decide)) fun p6 vs6 H6 e6 hp' hv' => ?_
    replace h_a := xat_grow e6 h_a
    replace h_b := xat_grow e6 h_b
    replace h_c := xat_grow e6 h_c
    replace h_d := xat_grow e6 h_d
    replace h_e := xat_grow e6 h_e
    replace h_f := xat_grow e6 h_f
    replace h_g := xat_grow e6 h_g
    replace h_h := xat_grow e6 h_h
    replace h_i := xat_grow e6 h_i
    replace h_j := xat_grow e6 h_j
    replace h_k := xat_grow e6 h_k
    replace h_m := xat_grow e6 h_m
    replace h_n := xat_grow e6 h_n
    replace h_o := xat_grow e6 h_o
    replace h_p := xat_grow e6 h_p
    replace h_q := xat_grow e6 h_q
    clear hp hv
    have hp := hp'
    have hv := hv'
    clear hp' hv'
    have ex6 : Ex H H6 := ex5.trans e6
    show tSeq _ _ _ [some (.int at'), some (.int to'), some (.str word), some (.str name), some (.ref a_a), some (.ref a_b), some (.ref a_c), some (.ref a_d), some (.ref a_e), some (.ref a_f), some (.ref a_g), some (.ref a_h), some (.ref a_i), some (.ref a_j), some (.ref a_k), some (.ref a_m), some (.ref a_n), some (.ref a_o), some (.ref a_p), some (.ref a_q), some (.ref p6)] _
    refine q_rows (evl_cat (evl_var rfl hp hv) (evl_lst (evrs_cons (evr_row (evx_var rfl h_k) (evd_lst (evds_cons (evd_fld (evx_var rfl h_k) (List.Mem.head _)) (evds_cons (evd_fld (evx_var rfl h_k) (List.Mem.tail _ (List.Mem.head _))) evds_nil)) (by show 2 ≤ 1000; decide)) (evd_lst (evds_cons (evd_var rfl (Dp.int _)) (evds_cons (evd_var rfl (Dp.int _)) evds_nil)) (by show 2 ≤ 1000; decide))) (evrs_cons (evr_row (evx_var rfl h_m) (evd_lst (evds_cons (evd_fld (evx_var rfl h_m) (List.Mem.head _)) (evds_cons (evd_fld (evx_var rfl h_m) (List.Mem.tail _ (List.Mem.head _))) evds_nil)) (by show 2 ≤ 1000; decide)) (evd_lst (evds_cons (evd_var rfl (Dp.int _)) (evds_cons (evd_var rfl (Dp.str _)) evds_nil)) (by show 2 ≤ 1000; decide))) (evrs_cons (evr_row (evx_var rfl h_n) (evd_lst (evds_cons (evd_fld (evx_var rfl h_n) (List.Mem.head _)) evds_nil) (by show 1 ≤ 1000; decide)) (evd_lst (evds_cons (evd_var rfl (Dp.str _)) evds_nil) (by show 1 ≤ 1000; decide))) evrs_nil))) (by show 3 ≤ 1000; decide)) (by show 11 + 3 ≤ 1000; decide)) fun p7 vs7 H7 e7 hp' hv' => ?_
    replace h_a := xat_grow e7 h_a
    replace h_b := xat_grow e7 h_b
    replace h_c := xat_grow e7 h_c
    replace h_d := xat_grow e7 h_d
    replace h_e := xat_grow e7 h_e
    replace h_f := xat_grow e7 h_f
    replace h_g := xat_grow e7 h_g
    replace h_h := xat_grow e7 h_h
    replace h_i := xat_grow e7 h_i
    replace h_j := xat_grow e7 h_j
    replace h_k := xat_grow e7 h_k
    replace h_m := xat_grow e7 h_m
    replace h_n := xat_grow e7 h_n
    replace h_o := xat_grow e7 h_o
    replace h_p := xat_grow e7 h_p
    replace h_q := xat_grow e7 h_q
    clear hp hv
    have hp := hp'
    have hv := hv'
    clear hp' hv'
    have ex7 : Ex H H7 := ex6.trans e7
    show tRet _ _ [some (.int at'), some (.int to'), some (.str word), some (.str name), some (.ref a_a), some (.ref a_b), some (.ref a_c), some (.ref a_d), some (.ref a_e), some (.ref a_f), some (.ref a_g), some (.ref a_h), some (.ref a_i), some (.ref a_j), some (.ref a_k), some (.ref a_m), some (.ref a_n), some (.ref a_o), some (.ref a_p), some (.ref a_q), some (.ref p7)] _
    refine s_retR (evl_cat (evl_var rfl hp hv) (evl_lst (evrs_cons (evr_row (evx_var rfl h_o) (evd_lst (evds_cons (evd_fld (evx_var rfl h_o) (List.Mem.head _)) (evds_cons (evd_fld (evx_var rfl h_o) (List.Mem.tail _ (List.Mem.head _))) evds_nil)) (by show 2 ≤ 1000; decide)) (evd_lst (evds_cons (evd_var rfl (Dp.str _)) (evds_cons (evd_var rfl (Dp.int _)) evds_nil)) (by show 2 ≤ 1000; decide))) (evrs_cons (evr_row (evx_var rfl h_p) (evd_lst (evds_cons (evd_fld (evx_var rfl h_p) (List.Mem.head _)) evds_nil) (by show 1 ≤ 1000; decide)) (evd_lst (evds_cons (evd_var rfl (Dp.int _)) evds_nil) (by show 1 ≤ 1000; decide))) (evrs_cons (evr_row (evx_var rfl h_q) (evd_lst (evds_cons (evd_fld (evx_var rfl h_q) (List.Mem.head _)) (evds_cons (evd_fld (evx_var rfl h_q) (List.Mem.tail _ (List.Mem.head _))) evds_nil)) (by show 2 ≤ 1000; decide)) (evd_lst (evds_cons (evd_var rfl (Dp.int _)) (evds_cons (evd_var rfl (Dp.str _)) evds_nil)) (by show 2 ≤ 1000; decide))) evrs_nil))) (by show 3 ≤ 1000; decide)) (by show 14 + 3 ≤ 1000; decide)) fun p us H8 e8 hp' hv' => ?_
    exact k p us _ (ex7.trans e8) hp' hv'
def rows_second (cs : Cs) (at' to' : Int) (word name : Str) : List Row :=
  [((cs.Rising, some (List.zip (["ray"] : List Str) [.tuple [.tuple [.int at', .int 1]]])), .list [.tuple [.tuple [.int at', .int 1]]]),
   ((cs.BadBase, none), .list []),
   ((cs.CountFull, some (List.zip (["tried"] : List Str) [.int to'])), .list [.int to']),
   ((cs.ManyMessages, some (List.zip (["greatest"] : List Str) [.int at'])), .list [.int at']),
   ((cs.Barred, some (List.zip (["bar"] : List Str) [.str word])), .list [.str word]),
   ((cs.LastMode, none), .list []),
   ((cs.NoOutcome, some (List.zip (["word", "outcome"] : List Str) [.int at', .int to'])), .list [.int at', .int to']),
   ((cs.LastOutcome, some (List.zip (["word"] : List Str) [.int to'])), .list [.int to']),
   ((cs.NoLot, some (List.zip (["lot"] : List Str) [.tuple [.int at']])), .list [.tuple [.int at']]),
   ((cs.TooNear, some (List.zip (["tried"] : List Str) [.int to'])), .list [.int to']),
   ((cs.BadProgram, some (List.zip (["who", "what"] : List Str) [.str word, .str name])), .list [.str word, .str name]),
   ((cs.NoEntry, some (List.zip (["what"] : List Str) [.str name])), .list [.str name]),
   ((cs.BadLate, some (List.zip (["late"] : List Str) [.int at'])), .list [.int at']),
   ((cs.BadStart, some (List.zip (["mode"] : List Str) [.int to'])), .list [.int to']),
   ((cs.BadTick, some (List.zip (["what"] : List Str) [.str word])), .list [.str word]),
   ((cs.BadRun, some (List.zip (["tick", "what"] : List Str) [.int to', .str name])), .list [.int to', .str name])]
abbrev s_second : Stmt := topS 67
abbrev N_second : List Str := ["at", "to", "word", "name", "a", "b", "c", "d", "e", "f", "g", "h", "i", "j", "k", "m", "n", "o", "found"]
theorem sc_second : FnScope N_second ["at", "to", "word", "name"] (defScope s_second) := ⟨rfl, rfl, rfl, by decide +kernel, rfl, by decide +kernel, by decide +kernel⟩

theorem ok_second {cs : Cs} {f : Addr} {fd : FuncData} (F : Fun K "_law_second" "_law_second" s_second f fd) (T : ClsAll P w K mg base cs) : FnOk P w K mg base CX0 3 f fd ["at", "to", "word", "name"] (spRows K (rows_second cs)) := by
  refine F.ok sc_second (fun vs H Q E h => ?_) (fun cdv A outer s H vs Q E hr h => ?_)
  · obtain ⟨at', to', word, name, rfl, _⟩ := h
    rfl
  · obtain ⟨at', to', word, name, rfl, k⟩ := h
    have hr2 : Room 2 _ := hr.mono (by decide)
    refine ⟨_, (pss_cons (ps_asg (pe_tup (pa_cons (pe_cl T.c_Rising hr2 (pa_cons (pe_tup (pa_cons (pe_tup (pa_cons (pv 0) (pa_cons pe_int pa_nil))) pa_nil)) pa_nil)) (pa_cons (pe_cl T.c_CountFull hr2 (pa_cons (pv 1) pa_nil)) (pa_cons (pe_cl T.c_ManyMessages hr2 (pa_cons (pv 0) pa_nil)) (pa_cons (pe_cl T.c_Barred hr2 (pa_cons (pv 2) pa_nil)) (pa_cons (pe_cl T.c_NoOutcome hr2 (pa_cons (pv 0) (pa_cons (pv 1) pa_nil))) pa_nil)))))) (pg_tup rfl (pgs_cons (pg_name (i := 4) sc_second.nd rfl (Or.inl rfl)) (pgs_cons (pg_name (i := 5) sc_second.nd rfl (Or.inl rfl)) (pgs_cons (pg_name (i := 6) sc_second.nd rfl (Or.inl rfl)) (pgs_cons (pg_name (i := 7) sc_second.nd rfl (Or.inl rfl)) (pgs_cons (pg_name (i := 8) sc_second.nd rfl (Or.inl rfl)) pgs_nil)))))) rfl)
    (pss_cons (ps_asg (pe_tup (pa_cons (pe_cl T.c_LastOutcome hr2 (pa_cons (pv 1) pa_nil)) (pa_cons (pe_cl T.c_NoLot hr2 (pa_cons (pe_tup (pa_cons (pv 0) pa_nil)) pa_nil)) (pa_cons (pe_cl T.c_TooNear hr2 (pa_cons (pv 1) pa_nil)) (pa_cons (pe_cl T.c_BadProgram hr2 (pa_cons (pv 2) (pa_cons (pv 3) pa_nil))) (pa_cons (pe_cl T.c_NoEntry hr2 (pa_cons (pv 3) pa_nil)) pa_nil)))))) (pg_tup rfl (pgs_cons (pg_name (i := 9) sc_second.nd rfl (Or.inl rfl)) (pgs_cons (pg_name (i := 10) sc_second.nd rfl (Or.inl rfl)) (pgs_cons (pg_name (i := 11) sc_second.nd rfl (Or.inl rfl)) (pgs_cons (pg_name (i := 12) sc_second.nd rfl (Or.inl rfl)) (pgs_cons (pg_name (i := 13) sc_second.nd rfl (Or.inl rfl)) pgs_nil)))))) rfl)
    (pss_cons (ps_asg (pe_tup (pa_cons (pe_cl T.c_BadLate hr2 (pa_cons (pv 0) pa_nil)) (pa_cons (pe_cl T.c_BadStart hr2 (pa_cons (pv 1) pa_nil)) (pa_cons (pe_cl T.c_BadTick hr2 (pa_cons (pv 2) pa_nil)) (pa_cons (pe_cl T.c_BadRun hr2 (pa_cons (pv 1) (pa_cons (pv 3) pa_nil))) pa_nil))))) (pg_tup rfl (pgs_cons (pg_name (i := 14) sc_second.nd rfl (Or.inl rfl)) (pgs_cons (pg_name (i := 15) sc_second.nd rfl (Or.inl rfl)) (pgs_cons (pg_name (i := 16) sc_second.nd rfl (Or.inl rfl)) (pgs_cons (pg_name (i := 17) sc_second.nd rfl (Or.inl rfl)) pgs_nil))))) rfl)
    (pss_cons (ps_set (i := 18) sc_second.nd rfl (Or.inl rfl) (pe_lst (pa_cons (pe_tup (pa_cons (pv 4) (pa_cons (pe_lst (pa_cons (pe_oexF T.c_Rising.t (T.c_Rising.no _ (List.Mem.head _)) (pv 4)) pa_nil)) (pa_cons (pe_lst (pa_cons (pe_tup (pa_cons (pe_tup (pa_cons (pv 0) (pa_cons pe_int pa_nil))) pa_nil)) pa_nil)) pa_nil)))) (pa_cons (pe_tup (pa_cons (pe_cl0 T.c_BadBase) (pa_cons (pe_lst pa_nil) (pa_cons (pe_lst pa_nil) pa_nil)))) (pa_cons (pe_tup (pa_cons (pv 5) (pa_cons (pe_lst (pa_cons (pe_oexF T.c_CountFull.t (T.c_CountFull.no _ (List.Mem.head _)) (pv 5)) pa_nil)) (pa_cons (pe_lst (pa_cons (pv 1) pa_nil)) pa_nil)))) (pa_cons (pe_tup (pa_cons (pv 6) (pa_cons (pe_lst (pa_cons (pe_oexF T.c_ManyMessages.t (T.c_ManyMessages.no _ (List.Mem.head _)) (pv 6)) pa_nil)) (pa_cons (pe_lst (pa_cons (pv 0) pa_nil)) pa_nil)))) (pa_cons (pe_tup (pa_cons (pv 7) (pa_cons (pe_lst (pa_cons (pe_oexF T.c_Barred.t (T.c_Barred.no _ (List.Mem.head _)) (pv 7)) pa_nil)) (pa_cons (pe_lst (pa_cons (pv 2) pa_nil)) pa_nil)))) pa_nil)))))))
    (pss_cons (ps_set (i := 18) sc_second.nd rfl (Or.inl rfl) (pe_op op_cat (pv 18) (pe_lst (pa_cons (pe_tup (pa_cons (pe_cl0 T.c_LastMode) (pa_cons (pe_lst pa_nil) (pa_cons (pe_lst pa_nil) pa_nil)))) (pa_cons (pe_tup (pa_cons (pv 8) (pa_cons (pe_lst (pa_cons (pe_oexF T.c_NoOutcome.t (T.c_NoOutcome.no _ (List.Mem.head _)) (pv 8)) (pa_cons (pe_oexF T.c_NoOutcome.t (T.c_NoOutcome.no _ (List.Mem.tail _ (List.Mem.head _))) (pv 8)) pa_nil))) (pa_cons (pe_lst (pa_cons (pv 0) (pa_cons (pv 1) pa_nil))) pa_nil)))) (pa_cons (pe_tup (pa_cons (pv 9) (pa_cons (pe_lst (pa_cons (pe_oexF T.c_LastOutcome.t (T.c_LastOutcome.no _ (List.Mem.head _)) (pv 9)) pa_nil)) (pa_cons (pe_lst (pa_cons (pv 1) pa_nil)) pa_nil)))) (pa_cons (pe_tup (pa_cons (pv 10) (pa_cons (pe_lst (pa_cons (pe_oexF T.c_NoLot.t (T.c_NoLot.no _ (List.Mem.head _)) (pv 10)) pa_nil)) (pa_cons (pe_lst (pa_cons (pe_tup (pa_cons (pv 0) pa_nil)) pa_nil)) pa_nil)))) pa_nil)))))))
    (pss_cons (ps_set (i := 18) sc_second.nd rfl (Or.inl rfl) (pe_op op_cat (pv 18) (pe_lst (pa_cons (pe_tup (pa_cons (pv 11) (pa_cons (pe_lst (pa_cons (pe_oexF T.c_TooNear.t (T.c_TooNear.no _ (List.Mem.head _)) (pv 11)) pa_nil)) (pa_cons (pe_lst (pa_cons (pv 1) pa_nil)) pa_nil)))) (pa_cons (pe_tup (pa_cons (pv 12) (pa_cons (pe_lst (pa_cons (pe_oexF T.c_BadProgram.t (T.c_BadProgram.no _ (List.Mem.head _)) (pv 12)) (pa_cons (pe_oexF T.c_BadProgram.t (T.c_BadProgram.no _ (List.Mem.tail _ (List.Mem.head _))) (pv 12)) pa_nil))) (pa_cons (pe_lst (pa_cons (pv 2) (pa_cons (pv 3) pa_nil))) pa_nil)))) (pa_cons (pe_tup (pa_cons (pv 13) (pa_cons (pe_lst (pa_cons (pe_oexF T.c_NoEntry.t (T.c_NoEntry.no _ (List.Mem.head _)) (pv 13)) pa_nil)) (pa_cons (pe_lst (pa_cons (pv 3) pa_nil)) pa_nil)))) (pa_cons (pe_tup (pa_cons (pv 14) (pa_cons (pe_lst (pa_cons (pe_oexF T.c_BadLate.t (T.c_BadLate.no _ (List.Mem.head _)) (pv 14)) pa_nil)) (pa_cons (pe_lst (pa_cons (pv 0) pa_nil)) pa_nil)))) pa_nil)))))))
    (pss_one (ps_ret (pe_op op_cat (pv 18) (pe_lst (pa_cons (pe_tup (pa_cons (pv 15) (pa_cons (pe_lst (pa_cons (pe_oexF T.c_BadStart.t (T.c_BadStart.no _ (List.Mem.head _)) (pv 15)) pa_nil)) (pa_cons (pe_lst (pa_cons (pv 1) pa_nil)) pa_nil)))) (pa_cons (pe_tup (pa_cons (pv 16) (pa_cons (pe_lst (pa_cons (pe_oexF T.c_BadTick.t (T.c_BadTick.no _ (List.Mem.head _)) (pv 16)) pa_nil)) (pa_cons (pe_lst (pa_cons (pv 2) pa_nil)) pa_nil)))) (pa_cons (pe_tup (pa_cons (pv 17) (pa_cons (pe_lst (pa_cons (pe_oexF T.c_BadRun.t (T.c_BadRun.no _ (List.Mem.head _)) (pv 17)) (pa_cons (pe_oexF T.c_BadRun.t (T.c_BadRun.no _ (List.Mem.tail _ (List.Mem.head _))) (pv 17)) pa_nil))) (pa_cons (pe_lst (pa_cons (pv 1) (pa_cons (pv 3) pa_nil))) pa_nil)))) pa_nil))))))))))))), ?_⟩
    have ex0 : Ex H H := Ex.refl H
    show tSeq _ _ _ [some (.int at'), some (.int to'), some (.str word), some (.str name), none, none, none, none, none, none, none, none, none, none, none, none, none, none, none] _
    refine q_unpack (evxs_cons (evx_make (evds_cons (evd_tup (evds_cons (evd_tup (evds_cons (evd_var rfl (Dp.int _)) (evds_cons evd_int evds_nil)) (by show 2 ≤ 1000; decide)) evds_nil) (by show 1 ≤ 1000; decide)) evds_nil) rfl (by show 1 ≤ 10; decide)) (evxs_cons (evx_make (evds_cons (evd_var rfl (Dp.int _)) evds_nil) rfl (by show 1 ≤ 10; decide)) (evxs_cons (evx_make (evds_cons (evd_var rfl (Dp.int _)) evds_nil) rfl (by show 1 ≤ 10; decide)) (evxs_cons (evx_make (evds_cons (evd_var rfl (Dp.str _)) evds_nil) rfl (by show 1 ≤ 10; decide)) (evxs_cons (evx_make (evds_cons (evd_var rfl (Dp.int _)) (evds_cons (evd_var rfl (Dp.int _)) evds_nil)) rfl (by show 2 ≤ 10; decide)) evxs_nil))))) rfl (by show 5 ≤ 1000; decide) fun as H1 e1 hx => ?_
    obtain ⟨a_a, as, rfl, h_a, hx⟩ := xall_cons hx
    obtain ⟨a_b, as, rfl, h_b, hx⟩ := xall_cons hx
    obtain ⟨a_c, as, rfl, h_c, hx⟩ := xall_cons hx
    obtain ⟨a_d, as, rfl, h_d, hx⟩ := xall_cons hx
    obtain ⟨a_e, as, rfl, h_e, hx⟩ := xall_cons hx
    obtain rfl := xall_nil hx
    refine ⟨_, _, rfl, _, _, rfl, _, _, rfl, _, _, rfl, _, _, rfl, rfl, ?_⟩
    have ex1 : Ex H H1 := ex0.trans e1
    show tSeq _ _ _ [some (.int at'), some (.int to'), some (.str word), some (.str name), some (.ref a_a), some (.ref a_b), some (.ref a_c), some (.ref a_d), some (.ref a_e), none, none, none, none, none, none, none, none, none, none] _
    refine q_unpack (evxs_cons (evx_make (evds_cons (evd_var rfl (Dp.int _)) evds_nil) rfl (by show 1 ≤ 10; decide)) (evxs_cons (evx_make (evds_cons (evd_tup (evds_cons (evd_var rfl (Dp.int _)) evds_nil) (by show 1 ≤ 1000; decide)) evds_nil) rfl (by show 1 ≤ 10; decide)) (evxs_cons (evx_make (evds_cons (evd_var rfl (Dp.int _)) evds_nil) rfl (by show 1 ≤ 10; decide)) (evxs_cons (evx_make (evds_cons (evd_var rfl (Dp.str _)) (evds_cons (evd_var rfl (Dp.str _)) evds_nil)) rfl (by show 2 ≤ 10; decide)) (evxs_cons (evx_make (evds_cons (evd_var rfl (Dp.str _)) evds_nil) rfl (by show 1 ≤ 10; decide)) evxs_nil))))) rfl (by show 5 ≤ 1000; decide) fun as H2 e2 hx => ?_
    obtain ⟨a_f, as, rfl, h_f, hx⟩ := xall_cons hx
    obtain ⟨a_g, as, rfl, h_g, hx⟩ := xall_cons hx
    obtain ⟨a_h, as, rfl, h_h, hx⟩ := xall_cons hx
    obtain ⟨a_i, as, rfl, h_i, hx⟩ := xall_cons hx
    obtain ⟨a_j, as, rfl, h_j, hx⟩ := xall_cons hx
    obtain rfl := xall_nil hx
    refine ⟨_, _, rfl, _, _, rfl, _, _, rfl, _, _, rfl, _, _, rfl, rfl, ?_⟩
    replace h_a := xat_grow e2 h_a
    replace h_b := xat_grow e2 h_b
    replace h_c := xat_grow e2 h_c
    replace h_d := xat_grow e2 h_d
    replace h_e := xat_grow e2 h_e
    have ex2 : Ex H H2 := ex1.trans e2
    show tSeq _ _ _ [some (.int at'), some (.int to'), some (.str word), some (.str name), some (.ref a_a), some (.ref a_b), some (.ref a_c), some (.ref a_d), some (.ref a_e), some (.ref a_f), some (.ref a_g), some (.ref a_h), some (.ref a_i), some (.ref a_j), none, none, none, none, none] _
    refine q_unpack (evxs_cons (evx_make (evds_cons (evd_var rfl (Dp.int _)) evds_nil) rfl (by show 1 ≤ 10; decide)) (evxs_cons (evx_make (evds_cons (evd_var rfl (Dp.int _)) evds_nil) rfl (by show 1 ≤ 10; decide)) (evxs_cons (evx_make (evds_cons (evd_var rfl (Dp.str _)) evds_nil) rfl (by show 1 ≤ 10; decide)) (evxs_cons (evx_make (evds_cons (evd_var rfl (Dp.int _)) (evds_cons (evd_var rfl (Dp.str _)) evds_nil)) rfl (by show 2 ≤ 10; decide)) evxs_nil)))) rfl (by show 4 ≤ 1000; decide) fun as H3 e3 hx => ?_
    obtain ⟨a_k, as, rfl, h_k, hx⟩ := xall_cons hx
    obtain ⟨a_m, as, rfl, h_m, hx⟩ := xall_cons hx
    obtain ⟨a_n, as, rfl, h_n, hx⟩ := xall_cons hx
    obtain ⟨a_o, as, rfl, h_o, hx⟩ := xall_cons hx
    obtain rfl := xall_nil hx
    refine ⟨_, _, rfl, _, _, rfl, _, _, rfl, _, _, rfl, rfl, ?_⟩
    replace h_a := xat_grow e3 h_a
    replace h_b := xat_grow e3 h_b
    replace h_c := xat_grow e3 h_c
    replace h_d := xat_grow e3 h_d
    replace h_e := xat_grow e3 h_e
    replace h_f := xat_grow e3 h_f
    replace h_g := xat_grow e3 h_g
    replace h_h := xat_grow e3 h_h
    replace h_i := xat_grow e3 h_i
    replace h_j := xat_grow e3 h_j
    have ex3 : Ex H H3 := ex2.trans e3
    show tSeq _ _ _ [some (.int at'), some (.int to'), some (.str word), some (.str name), some (.ref a_a), some (.ref a_b), some (.ref a_c), some (.ref a_d), some (.ref a_e), some (.ref a_f), some (.ref a_g), some (.ref a_h), some (.ref a_i), some (.ref a_j), some (.ref a_k), some (.ref a_m), some (.ref a_n), some (.ref a_o), none] _
    refine q_rows (evl_lst (evrs_cons (evr_row (evx_var rfl h_a) (evd_lst (evds_cons (evd_fld (evx_var rfl h_a) (List.Mem.head _)) evds_nil) (by show 1 ≤ 1000; decide)) (evd_lst (evds_cons (evd_tup (evds_cons (evd_tup (evds_cons (evd_var rfl (Dp.int _)) (evds_cons evd_int evds_nil)) (by show 2 ≤ 1000; decide)) evds_nil) (by show 1 ≤ 1000; decide)) evds_nil) (by show 1 ≤ 1000; decide))) (evrs_cons (evr_row evx_new (evd_lst evds_nil (by show 0 ≤ 1000; decide)) (evd_lst evds_nil (by show 0 ≤ 1000; decide))) (evrs_cons (evr_row (evx_var rfl h_b) (evd_lst (evds_cons (evd_fld (evx_var rfl h_b) (List.Mem.head _)) evds_nil) (by show 1 ≤ 1000; decide)) (evd_lst (evds_cons (evd_var rfl (Dp.int _)) evds_nil) (by show 1 ≤ 1000; decide))) (evrs_cons (evr_row (evx_var rfl h_c) (evd_lst (evds_cons (evd_fld (evx_var rfl h_c) (List.Mem.head _)) evds_nil) (by show 1 ≤ 1000; decide)) (evd_lst (evds_cons (evd_var rfl (Dp.int _)) evds_nil) (by show 1 ≤ 1000; decide))) (evrs_cons (evr_row (evx_var rfl h_d) (evd_lst (evds_cons (evd_fld (evx_var rfl h_d) (List.Mem.head _)) evds_nil) (by show 1 ≤ 1000; decide)) (evd_lst (evds_cons (evd_var rfl (Dp.str _)) evds_nil) (by show 1 ≤ 1000; decide))) evrs_nil))))) (by show 5 ≤ 1000; decide)) fun p4 vs4 H4 e4 hp' hv' => ?_
    replace h_a := xat_grow e4 h_a
    replace h_b := xat_grow e4 h_b
    replace h_c := xat_grow e4 h_c
    replace h_d := xat_grow e4 h_d
    replace h_e := xat_grow e4 h_e
    replace h_f := xat_grow e4 h_f
    replace h_g := xat_grow e4 h_g
    replace h_h := xat_grow e4 h_h
    replace h_i := xat_grow e4 h_i
    replace h_j := xat_grow e4 h_j
    replace h_k := xat_grow e4 h_k
    replace h_m := xat_grow e4 h_m
    replace h_n := xat_grow e4 h_n
    replace h_o := xat_grow e4 h_o
    have hp := hp'
    have hv := hv'
    clear hp' hv'
    have ex4 : Ex H H4 := ex3.trans e4
    show tSeq _ _ _ [some (.int at'), some (.int to'), some (.str word), some (.str name), some (.ref a_a), some (.ref a_b), some (.ref a_c), some (.ref a_d), some (.ref a_e), some (.ref a_f), some (.ref a_g), some (.ref a_h), some (.ref a_i), some (.ref a_j), some (.ref a_k), some (.ref a_m), some (.ref a_n), some (.ref a_o), some (.ref p4)] _
    refine q_rows (evl_cat (evl_var rfl hp hv) (evl_lst (evrs_cons (evr_row evx_new (evd_lst evds_nil (by show 0 ≤ 1000; decide)) (evd_lst evds_nil (by show 0 ≤ 1000; decide))) (evrs_cons (evr_row (evx_var rfl h_e) (evd_lst (evds_cons (evd_fld (evx_var rfl h_e) (List.Mem.head _)) (evds_cons (evd_fld (evx_var rfl h_e) (List.Mem.tail _ (List.Mem.head _))) evds_nil)) (by show 2 ≤ 1000; decide)) (evd_lst (evds_cons (evd_var rfl (Dp.int _)) (evds_cons (evd_var rfl (Dp.int _)) evds_nil)) (by show 2 ≤ 1000; decide))) (evrs_cons (evr_row (evx_var rfl h_f) (evd_lst (evds_cons (evd_fld (evx_var rfl h_f) (List.Mem.head _)) evds_nil) (by show 1 ≤ 1000; decide)) (evd_lst (evds_cons (evd_var rfl (Dp.int _)) evds_nil) (by show 1 ≤ 1000; decide))) (evrs_cons (evr_row (evx_var rfl h_g) (evd_lst (evds_cons (evd_fld (evx_var rfl h_g) (List.Mem.head _)) evds_nil) (by show 1 ≤ 1000; decide)) (evd_lst (evds_cons (evd_tup (evds_cons (evd_var rfl (Dp.int _)) evds_nil) (by show 1 ≤ 1000; decide)) evds_nil) (by show 1 ≤ 1000; decide))) evrs_nil)))) (by show 4 ≤ 1000; decide)) (by show 5 + 4 ≤ 1000; decide)) fun p5 vs5 H5 e5 hp' hv' => ?_
    replace h_a := xat_grow e5 h_a
    replace h_b := xat_grow e5 h_b
    replace h_c := xat_grow e5 h_c
    replace h_d := xat_grow e5 h_d
    replace h_e := xat_grow e5 h_e
    replace h_f := xat_grow e5 h_f
    replace h_g := xat_grow e5 h_g
    replace h_h := xat_grow e5 h_h
    replace h_i := xat_grow e5 h_i
    replace h_j := xat_grow e5 h_j
    replace h_k := xat_grow e5 h_k
    replace h_m := xat_grow e5 h_m
    replace h_n := xat_grow e5 h_n
    replace h_o := xat_grow e5 h_o
    clear hp hv
    have hp := hp'
    have hv := hv'
    clear hp' hv'
    have ex5 : Ex H H5 := ex4.trans e5
    show tSeq _ _ _ [some (.int at'), some (.int to'), some (.str word), some (.str name), some (.ref a_a), some (.ref a_b), some (.ref a_c), some (.ref a_d), some (.ref a_e), some (.ref a_f), some (.ref a_g), some (.ref a_h), some (.ref a_i), some (.ref a_j), some (.ref a_k), some (.ref a_m), some (.ref a_n), some (.ref a_o), some (.ref p5)] _
    refine q_rows (evl_cat (evl_var rfl hp hv) (evl_lst (evrs_cons (evr_row (evx_var rfl h_h) (evd_lst (evds_cons (evd_fld (evx_var rfl h_h) (List.Mem.head _)) evds_nil) (by show 1 ≤ 1000; decide)) (evd_lst (evds_cons (evd_var rfl (Dp.int _)) evds_nil) (by show 1 ≤ 1000; decide))) (evrs_cons (evr_row (evx_var rfl h_i) (evd_lst (evds_cons (evd_fld (evx_var rfl h_i) (List.Mem.head _)) (evds_cons (evd_fld (evx_var rfl h_i) (List.Mem.tail _ (List.Mem.head _))) evds_nil)) (by show 2 ≤ 1000; decide)) (evd_lst (evds_cons (evd_var rfl (Dp.str _)) (evds_cons (evd_var rfl (Dp.str _)) evds_nil)) (by show 2 ≤ 1000; decide))) (evrs_cons (evr_row (evx_var rfl h_j) (evd_lst (evds_cons (evd_fld (evx_var rfl h_j) (List.Mem.head _)) evds_nil) (by show 1 ≤ 1000; decide)) (evd_lst (evds_cons (evd_var rfl (Dp.str _)) evds_nil) (by show 1 ≤ 1000; decide))) (evrs_cons (evr_row (evx_var rfl h_k) (evd_lst (evds_cons (evd_fld (evx_var rfl h_k) (List.Mem.head _)) evds_nil) (by show 1 ≤ 1000; decide)) (evd_lst (evds_cons (evd_var rfl (Dp.int _)) evds_nil) (by show 1 ≤ 1000; decide))) evrs_nil)))) (by show 4 ≤ 1000; decide)) (by show 9 + 4 ≤ 1000; decide)) fun p6 vs6 H6 e6 hp' hv' => ?_
    replace h_a := xat_grow e6 h_a
    replace h_b := xat_grow e6 h_b
    replace h_c := xat_grow e6 h_c
    replace h_d := xat_grow e6 h_d
    replace h_e := xat_grow e6 h_e
    replace h_f := xat_grow e6 h_f
    replace h_g := xat_grow e6 h_g
    replace h_h := xat_grow e6 h_h
    replace h_i := xat_grow e6 h_i
    replace h_j := xat_grow e6 h_j
    replace h_k := xat_grow e6 h_k
    replace h_m := xat_grow e6 h_m
    replace h_n := xat_grow e6 h_n
    replace h_o := xat_grow e6 h_o
    clear hp hv
    have hp := hp'
    have hv := hv'
    clear hp' hv'
    have ex6 : Ex H H6 := ex5.trans e6
    show tRet _ _ [some (.int at'), some (.int to'), some (.str word), some (.str name), some (.ref a_a), some (.ref a_b), some (.ref a_c), some (.ref a_d), some (.ref a_e), some (.ref a_f), some (.ref a_g), some (.ref a_h), some (.ref a_i), some (.ref a_j), some (.ref a_k), some (.ref a_m), some (.ref a_n), some (.ref a_o), some (.ref p6)] _
    refine s_retR (evl_cat (evl_var rfl hp hv) (evl_lst (evrs_cons (evr_row (evx_var rfl h_m) (evd_lst (evds_cons (evd_fld (evx_var rfl h_m) (List.Mem.head _)) evds_nil) (by show 1 ≤ 1000; decide)) (evd_lst (evds_cons (evd_var rfl (Dp.int _)) evds_nil) (by show 1 ≤ 1000; decide))) (evrs_cons (evr_row (evx_var rfl h_n) (evd_lst (evds_cons (evd_fld (evx_var rfl h_n) (List.Mem.head _)) evds_nil) (by show 1 ≤ 1000; decide)) (evd_lst (evds_cons (evd_var rfl (Dp.str _)) evds_nil) (by show 1 ≤ 1000; decide))) (evrs_cons (evr_row (evx_var rfl h_o) (evd_lst (evds_cons (evd_fld (evx_var rfl h_o) (List.Mem.head _)) (evds_cons (evd_fld (evx_var rfl h_o) (List.Mem.tail _ (List.Mem.head _))) evds_nil)) (by show 2 ≤ 1000; decide)) (evd_lst (evds_cons (evd_var rfl (Dp.int _)) (evds_cons (evd_var rfl (Dp.str _)) evds_nil)) (by show 2 ≤ 1000; decide))) evrs_nil))) (by show 3 ≤ 1000; decide)) (by show 13 + 3 ≤ 1000; decide)) fun p us H7 e7 hp' hv' => ?_
    exact k p us _ (ex6.trans e7) hp' hv'
def rows_third (cs : Cs) (at' to' : Int) (word name : Str) : List Row :=
  [((cs.Unheard, some (List.zip (["outcomes"] : List Str) [.tuple [.int at', .int to']])), .list [.tuple [.int at', .int to']]),
   ((cs.BadPoint, none), .list []),
   ((cs.NoBar, some (List.zip (["what"] : List Str) [.str name])), .list [.str name]),
   ((cs.BadBound, some (List.zip (["bound"] : List Str) [.tuple [.int to', .int 1]])), .list [.tuple [.int to', .int 1]]),
   ((cs.TooLong, some (List.zip (["ticks"] : List Str) [.int at'])), .list [.int at']),
   ((cs.BadSplits, some (List.zip (["place"] : List Str) [.int to'])), .list [.int to']),
   ((cs.TooLarge, none), .list []),
   ((cs.NotQuiet, some (List.zip (["state"] : List Str) [.int at'])), .list [.int at']),
   ((cs.NotLink, some (List.zip (["what"] : List Str) [.str word])), .list [.str word]),
   ((cs.NoLeast, none), .list []),
   ((cs.TooWide, some (List.zip (["late"] : List Str) [.int to'])), .list [.int to']),
   ((cs.NoFit, some (List.zip (["fault"] : List Str) [.tuple [.str name, .int at']])), .list [.tuple [.str name, .int at']]),
   ((cs.NotBelow, some (List.zip (["least"] : List Str) [.tuple [.int at', .int 1]])), .list [.tuple [.int at', .int 1]]),
   ((cs.TooFar, some (List.zip (["ticks"] : List Str) [.int to'])), .list [.int to']),
   ((cs.BadKeeping, some (List.zip (["what", "index"] : List Str) [.str word, .int at'])), .list [.str word, .int at']),
   ((cs.NoGroup, none), .list []),
   ((cs.NotClosed, some (List.zip (["key"] : List Str) [.tuple [.int at', .int to', .tuple []]])), .list [.tuple [.int at', .int to', .tuple []]]),
   ((cs.NotDone, some (List.zip (["most"] : List Str) [.int to'])), .list [.int to']),
   ((cs.BadGroup, none), .list []),
   ((cs.BadPrices, some (List.zip (["sensor"] : List Str) [.int at'])), .list [.int at']),
   ((cs.BadMany, some (List.zip (["many"] : List Str) [.int to'])), .list [.int to']),
   ((cs.BadLiars, none), .list []),
   ((cs.BadDeed, some (List.zip (["what"] : List Str) [.str name])), .list [.str name]),
   ((cs.NotNow, none), .list []),
   ((cs.NoPlan, none), .list []),
   ((cs.NoDeed, none), .list [])]
abbrev s_third : Stmt := topS 68
abbrev N_third : List Str := ["at", "to", "word", "name", "a", "b", "c", "d", "e", "f", "g", "h", "i", "j", "k", "m", "n", "o", "p", "q", "r", "found"]
theorem sc_third : FnScope N_third ["at", "to", "word", "name"] (defScope s_third) := ⟨rfl, rfl, rfl, by decide +kernel, rfl, by decide +kernel, by decide +kernel⟩

theorem ok_third {cs : Cs} {f : Addr} {fd : FuncData} (F : Fun K "_law_third" "_law_third" s_third f fd) (T : ClsAll P w K mg base cs) : FnOk P w K mg base CX0 3 f fd ["at", "to", "word", "name"] (spRows K (rows_third cs)) := by
  refine F.ok sc_third (fun vs H Q E h => ?_) (fun cdv A outer s H vs Q E hr h => ?_)
  · obtain ⟨at', to', word, name, rfl, _⟩ := h
    rfl
  · obtain ⟨at', to', word, name, rfl, k⟩ := h
    have hr2 : Room 2 _ := hr.mono (by decide)
    refine ⟨_, (pss_cons (ps_asg (pe_tup (pa_cons (pe_cl T.c_Unheard hr2 (pa_cons (pe_tup (pa_cons (pv 0) (pa_cons (pv 1) pa_nil))) pa_nil)) (pa_cons (pe_cl T.c_NoBar hr2 (pa_cons (pv 3) pa_nil)) (pa_cons (pe_cl T.c_BadBound hr2 (pa_cons (pe_tup (pa_cons (pv 1) (pa_cons pe_int pa_nil))) pa_nil)) (pa_cons (pe_cl T.c_TooLong hr2 (pa_cons (pv 0) pa_nil)) (pa_cons (pe_cl T.c_BadSplits hr2 (pa_cons (pv 1) pa_nil)) pa_nil)))))) (pg_tup rfl (pgs_cons (pg_name (i := 4) sc_third.nd rfl (Or.inl rfl)) (pgs_cons (pg_name (i := 5) sc_third.nd rfl (Or.inl rfl)) (pgs_cons (pg_name (i := 6) sc_third.nd rfl (Or.inl rfl)) (pgs_cons (pg_name (i := 7) sc_third.nd rfl (Or.inl rfl)) (pgs_cons (pg_name (i := 8) sc_third.nd rfl (Or.inl rfl)) pgs_nil)))))) rfl)
    (pss_cons (ps_asg (pe_tup (pa_cons (pe_cl T.c_NotQuiet hr2 (pa_cons (pv 0) pa_nil)) (pa_cons (pe_cl T.c_NotLink hr2 (pa_cons (pv 2) pa_nil)) (pa_cons (pe_cl T.c_TooWide hr2 (pa_cons (pv 1) pa_nil)) (pa_cons (pe_cl T.c_NoFit hr2 (pa_cons (pe_tup (pa_cons (pv 3) (pa_cons (pv 0) pa_nil))) pa_nil)) (pa_cons (pe_cl T.c_NotBelow hr2 (pa_cons (pe_tup (pa_cons (pv 0) (pa_cons pe_int pa_nil))) pa_nil)) pa_nil)))))) (pg_tup rfl (pgs_cons (pg_name (i := 9) sc_third.nd rfl (Or.inl rfl)) (pgs_cons (pg_name (i := 10) sc_third.nd rfl (Or.inl rfl)) (pgs_cons (pg_name (i := 11) sc_third.nd rfl (Or.inl rfl)) (pgs_cons (pg_name (i := 12) sc_third.nd rfl (Or.inl rfl)) (pgs_cons (pg_name (i := 13) sc_third.nd rfl (Or.inl rfl)) pgs_nil)))))) rfl)
    (pss_cons (ps_asg (pe_tup (pa_cons (pe_cl T.c_TooFar hr2 (pa_cons (pv 1) pa_nil)) (pa_cons (pe_cl T.c_BadKeeping hr2 (pa_cons (pv 2) (pa_cons (pv 0) pa_nil))) (pa_cons (pe_cl T.c_NotClosed hr2 (pa_cons (pe_tup (pa_cons (pv 0) (pa_cons (pv 1) (pa_cons (pe_tup pa_nil) pa_nil)))) pa_nil)) (pa_cons (pe_cl T.c_NotDone hr2 (pa_cons (pv 1) pa_nil)) (pa_cons (pe_cl T.c_BadPrices hr2 (pa_cons (pv 0) pa_nil)) pa_nil)))))) (pg_tup rfl (pgs_cons (pg_name (i := 14) sc_third.nd rfl (Or.inl rfl)) (pgs_cons (pg_name (i := 15) sc_third.nd rfl (Or.inl rfl)) (pgs_cons (pg_name (i := 16) sc_third.nd rfl (Or.inl rfl)) (pgs_cons (pg_name (i := 17) sc_third.nd rfl (Or.inl rfl)) (pgs_cons (pg_name (i := 18) sc_third.nd rfl (Or.inl rfl)) pgs_nil)))))) rfl)
    (pss_cons (ps_par (i := 19) (j := 20) rfl sc_third.nd rfl rfl (by decide) rfl rfl (pa_cons (pe_cl T.c_BadMany hr2 (pa_cons (pv 1) pa_nil)) (pa_cons (pe_cl T.c_BadDeed hr2 (pa_cons (pv 3) pa_nil)) pa_nil)) (by rfl))
    (pss_cons (ps_set (i := 21) sc_third.nd rfl (Or.inl rfl) (pe_lst (pa_cons (pe_tup (pa_cons (pv 4) (pa_cons (pe_lst (pa_cons (pe_oexF T.c_Unheard.t (T.c_Unheard.no _ (List.Mem.head _)) (pv 4)) pa_nil)) (pa_cons (pe_lst (pa_cons (pe_tup (pa_cons (pv 0) (pa_cons (pv 1) pa_nil))) pa_nil)) pa_nil)))) (pa_cons (pe_tup (pa_cons (pe_cl0 T.c_BadPoint) (pa_cons (pe_lst pa_nil) (pa_cons (pe_lst pa_nil) pa_nil)))) (pa_cons (pe_tup (pa_cons (pv 5) (pa_cons (pe_lst (pa_cons (pe_oexF T.c_NoBar.t (T.c_NoBar.no _ (List.Mem.head _)) (pv 5)) pa_nil)) (pa_cons (pe_lst (pa_cons (pv 3) pa_nil)) pa_nil)))) (pa_cons (pe_tup (pa_cons (pv 6) (pa_cons (pe_lst (pa_cons (pe_oexF T.c_BadBound.t (T.c_BadBound.no _ (List.Mem.head _)) (pv 6)) pa_nil)) (pa_cons (pe_lst (pa_cons (pe_tup (pa_cons (pv 1) (pa_cons pe_int pa_nil))) pa_nil)) pa_nil)))) pa_nil))))))
    (pss_cons (ps_set (i := 21) sc_third.nd rfl (Or.inl rfl) (pe_op op_cat (pv 21) (pe_lst (pa_cons (pe_tup (pa_cons (pv 7) (pa_cons (pe_lst (pa_cons (pe_oexF T.c_TooLong.t (T.c_TooLong.no _ (List.Mem.head _)) (pv 7)) pa_nil)) (pa_cons (pe_lst (pa_cons (pv 0) pa_nil)) pa_nil)))) (pa_cons (pe_tup (pa_cons (pv 8) (pa_cons (pe_lst (pa_cons (pe_oexF T.c_BadSplits.t (T.c_BadSplits.no _ (List.Mem.head _)) (pv 8)) pa_nil)) (pa_cons (pe_lst (pa_cons (pv 1) pa_nil)) pa_nil)))) (pa_cons (pe_tup (pa_cons (pe_cl0 T.c_TooLarge) (pa_cons (pe_lst pa_nil) (pa_cons (pe_lst pa_nil) pa_nil)))) (pa_cons (pe_tup (pa_cons (pv 9) (pa_cons (pe_lst (pa_cons (pe_oexF T.c_NotQuiet.t (T.c_NotQuiet.no _ (List.Mem.head _)) (pv 9)) pa_nil)) (pa_cons (pe_lst (pa_cons (pv 0) pa_nil)) pa_nil)))) (pa_cons (pe_tup (pa_cons (pv 10) (pa_cons (pe_lst (pa_cons (pe_oexF T.c_NotLink.t (T.c_NotLink.no _ (List.Mem.head _)) (pv 10)) pa_nil)) (pa_cons (pe_lst (pa_cons (pv 2) pa_nil)) pa_nil)))) pa_nil))))))))
    (pss_cons (ps_set (i := 21) sc_third.nd rfl (Or.inl rfl) (pe_op op_cat (pv 21) (pe_lst (pa_cons (pe_tup (pa_cons (pe_cl0 T.c_NoLeast) (pa_cons (pe_lst pa_nil) (pa_cons (pe_lst pa_nil) pa_nil)))) (pa_cons (pe_tup (pa_cons (pv 11) (pa_cons (pe_lst (pa_cons (pe_oexF T.c_TooWide.t (T.c_TooWide.no _ (List.Mem.head _)) (pv 11)) pa_nil)) (pa_cons (pe_lst (pa_cons (pv 1) pa_nil)) pa_nil)))) (pa_cons (pe_tup (pa_cons (pv 12) (pa_cons (pe_lst (pa_cons (pe_oexF T.c_NoFit.t (T.c_NoFit.no _ (List.Mem.head _)) (pv 12)) pa_nil)) (pa_cons (pe_lst (pa_cons (pe_tup (pa_cons (pv 3) (pa_cons (pv 0) pa_nil))) pa_nil)) pa_nil)))) (pa_cons (pe_tup (pa_cons (pv 13) (pa_cons (pe_lst (pa_cons (pe_oexF T.c_NotBelow.t (T.c_NotBelow.no _ (List.Mem.head _)) (pv 13)) pa_nil)) (pa_cons (pe_lst (pa_cons (pe_tup (pa_cons (pv 0) (pa_cons pe_int pa_nil))) pa_nil)) pa_nil)))) pa_nil)))))))
    (pss_cons (ps_set (i := 21) sc_third.nd rfl (Or.inl rfl) (pe_op op_cat (pv 21) (pe_lst (pa_cons (pe_tup (pa_cons (pv 14) (pa_cons (pe_lst (pa_cons (pe_oexF T.c_TooFar.t (T.c_TooFar.no _ (List.Mem.head _)) (pv 14)) pa_nil)) (pa_cons (pe_lst (pa_cons (pv 1) pa_nil)) pa_nil)))) (pa_cons (pe_tup (pa_cons (pv 15) (pa_cons (pe_lst (pa_cons (pe_oexF T.c_BadKeeping.t (T.c_BadKeeping.no _ (List.Mem.head _)) (pv 15)) (pa_cons (pe_oexF T.c_BadKeeping.t (T.c_BadKeeping.no _ (List.Mem.tail _ (List.Mem.head _))) (pv 15)) pa_nil))) (pa_cons (pe_lst (pa_cons (pv 2) (pa_cons (pv 0) pa_nil))) pa_nil)))) (pa_cons (pe_tup (pa_cons (pe_cl0 T.c_NoGroup) (pa_cons (pe_lst pa_nil) (pa_cons (pe_lst pa_nil) pa_nil)))) (pa_cons (pe_tup (pa_cons (pv 16) (pa_cons (pe_lst (pa_cons (pe_oexF T.c_NotClosed.t (T.c_NotClosed.no _ (List.Mem.head _)) (pv 16)) pa_nil)) (pa_cons (pe_lst (pa_cons (pe_tup (pa_cons (pv 0) (pa_cons (pv 1) (pa_cons (pe_tup pa_nil) pa_nil)))) pa_nil)) pa_nil)))) pa_nil)))))))
    (pss_cons (ps_set (i := 21) sc_third.nd rfl (Or.inl rfl) (pe_op op_cat (pv 21) (pe_lst (pa_cons (pe_tup (pa_cons (pv 17) (pa_cons (pe_lst (pa_cons (pe_oexF T.c_NotDone.t (T.c_NotDone.no _ (List.Mem.head _)) (pv 17)) pa_nil)) (pa_cons (pe_lst (pa_cons (pv 1) pa_nil)) pa_nil)))) (pa_cons (pe_tup (pa_cons (pe_cl0 T.c_BadGroup) (pa_cons (pe_lst pa_nil) (pa_cons (pe_lst pa_nil) pa_nil)))) (pa_cons (pe_tup (pa_cons (pv 18) (pa_cons (pe_lst (pa_cons (pe_oexF T.c_BadPrices.t (T.c_BadPrices.no _ (List.Mem.head _)) (pv 18)) pa_nil)) (pa_cons (pe_lst (pa_cons (pv 0) pa_nil)) pa_nil)))) (pa_cons (pe_tup (pa_cons (pv 19) (pa_cons (pe_lst (pa_cons (pe_oexF T.c_BadMany.t (T.c_BadMany.no _ (List.Mem.head _)) (pv 19)) pa_nil)) (pa_cons (pe_lst (pa_cons (pv 1) pa_nil)) pa_nil)))) (pa_cons (pe_tup (pa_cons (pe_cl0 T.c_BadLiars) (pa_cons (pe_lst pa_nil) (pa_cons (pe_lst pa_nil) pa_nil)))) pa_nil))))))))
    (pss_one (ps_ret (pe_op op_cat (pv 21) (pe_lst (pa_cons (pe_tup (pa_cons (pv 20) (pa_cons (pe_lst (pa_cons (pe_oexF T.c_BadDeed.t (T.c_BadDeed.no _ (List.Mem.head _)) (pv 20)) pa_nil)) (pa_cons (pe_lst (pa_cons (pv 3) pa_nil)) pa_nil)))) (pa_cons (pe_tup (pa_cons (pe_cl0 T.c_NotNow) (pa_cons (pe_lst pa_nil) (pa_cons (pe_lst pa_nil) pa_nil)))) (pa_cons (pe_tup (pa_cons (pe_cl0 T.c_NoPlan) (pa_cons (pe_lst pa_nil) (pa_cons (pe_lst pa_nil) pa_nil)))) (pa_cons (pe_tup (pa_cons (pe_cl0 T.c_NoDeed) (pa_cons (pe_lst pa_nil) (pa_cons (pe_lst pa_nil) pa_nil)))) pa_nil))))))))))))))))), ?_⟩
    have ex0 : Ex H H := Ex.refl H
    show tSeq _ _ _ [some (.int at'), some (.int to'), some (.str word), some (.str name), none, none, none, none, none, none, none, none, none, none, none, none, none, none, none, none, none, none] _
    refine q_unpack (evxs_cons (evx_make (evds_cons (evd_tup (evds_cons (evd_var rfl (Dp.int _)) (evds_cons (evd_var rfl (Dp.int _)) evds_nil)) (by show 2 ≤ 1000; decide)) evds_nil) rfl (by show 1 ≤ 10; decide)) (evxs_cons (evx_make (evds_cons (evd_var rfl (Dp.str _)) evds_nil) rfl (by show 1 ≤ 10; decide)) (evxs_cons (evx_make (evds_cons (evd_tup (evds_cons (evd_var rfl (Dp.int _)) (evds_cons evd_int evds_nil)) (by show 2 ≤ 1000; decide)) evds_nil) rfl (by show 1 ≤ 10; decide)) (evxs_cons (evx_make (evds_cons (evd_var rfl (Dp.int _)) evds_nil) rfl (by show 1 ≤ 10; decide)) (evxs_cons (evx_make (evds_cons (evd_var rfl (Dp.int _)) evds_nil) rfl (by show 1 ≤ 10; decide)) evxs_nil))))) rfl (by show 5 ≤ 1000; decide) fun as H1 e1 hx => ?_
    obtain ⟨a_a, as, rfl, h_a, hx⟩ := xall_cons hx
    obtain ⟨a_b, as, rfl, h_b, hx⟩ := xall_cons hx
    obtain ⟨a_c, as, rfl, h_c, hx⟩ := xall_cons hx
    obtain ⟨a_d, as, rfl, h_d, hx⟩ := xall_cons hx
    obtain ⟨a_e, as, rfl, h_e, hx⟩ := xall_cons hx
    obtain rfl := xall_nil hx
    refine ⟨_, _, rfl, _, _, rfl, _, _, rfl, _, _, rfl, _, _, rfl, rfl, ?_⟩
    have ex1 : Ex H H1 := ex0.trans e1
    show tSeq _ _ _ [some (.int at'), some (.int to'), some (.str word), some (.str name), some (.ref a_a), some (.ref a_b), some (.ref a_c), some (.ref a_d), some (.ref a_e), none, none, none, none, none, none, none, none, none, none, none, none, none] _
    refine q_unpack (evxs_cons (evx_make (evds_cons (evd_var rfl (Dp.int _)) evds_nil) rfl (by show 1 ≤ 10; decide)) (evxs_cons (evx_make (evds_cons (evd_var rfl (Dp.str _)) evds_nil) rfl (by show 1 ≤ 10; decide)) (evxs_cons (evx_make (evds_cons (evd_var rfl (Dp.int _)) evds_nil) rfl (by show 1 ≤ 10; decide)) (evxs_cons (evx_make (evds_cons (evd_tup (evds_cons (evd_var rfl (Dp.str _)) (evds_cons (evd_var rfl (Dp.int _)) evds_nil)) (by show 2 ≤ 1000; decide)) evds_nil) rfl (by show 1 ≤ 10; decide)) (evxs_cons (evx_make (evds_cons (evd_tup (evds_cons (evd_var rfl (Dp.int _)) (evds_cons evd_int evds_nil)) (by show 2 ≤ 1000; decide)) evds_nil) rfl (by show 1 ≤ 10; decide)) evxs_nil))))) rfl (by show 5 ≤ 1000; decide) fun as H2 e2 hx => ?_
    obtain ⟨a_f, as, rfl, h_f, hx⟩ := xall_cons hx
    obtain ⟨a_g, as, rfl, h_g, hx⟩ := xall_cons hx
    obtain ⟨a_h, as, rfl, h_h, hx⟩ := xall_cons hx
    obtain ⟨a_i, as, rfl, h_i, hx⟩ := xall_cons hx
    obtain ⟨a_j, as, rfl, h_j, hx⟩ := xall_cons hx
    obtain rfl := xall_nil hx
    refine ⟨_, _, rfl, _, _, rfl, _, _, rfl, _, _, rfl, _, _, rfl, rfl, ?_⟩
    replace h_a := xat_grow e2 h_a
    replace h_b := xat_grow e2 h_b
    replace h_c := xat_grow e2 h_c
    replace h_d := xat_grow e2 h_d
    replace h_e := xat_grow e2 h_e
    have ex2 : Ex H H2 := ex1.trans e2
    show tSeq _ _ _ [some (.int at'), some (.int to'), some (.str word), some (.str name), some (.ref a_a), some (.ref a_b), some (.ref a_c), some (.ref a_d), some (.ref a_e), some (.ref a_f), some (.ref a_g), some (.ref a_h), some (.ref a_i), some (.ref a_j), none, none, none, none, none, none, none, none] _
    refine q_unpack (evxs_cons (evx_make (evds_cons (evd_var rfl (Dp.int _)) evds_nil) rfl (by show 1 ≤ 10; decide)) (evxs_cons (evx_make (evds_cons (evd_var rfl (Dp.str _)) (evds_cons (evd_var rfl (Dp.int _)) evds_nil)) rfl (by show 2 ≤ 10; decide)) (evxs_cons (evx_make (evds_cons (evd_tup (evds_cons (evd_var rfl (Dp.int _)) (evds_cons (evd_var rfl (Dp.int _)) (evds_cons (evd_tup evds_nil (by show 0 ≤ 1000; decide)) evds_nil))) (by show 3 ≤ 1000; decide)) evds_nil) rfl (by show 1 ≤ 10; decide)) (evxs_cons (evx_make (evds_cons (evd_var rfl (Dp.int _)) evds_nil) rfl (by show 1 ≤ 10; decide)) (evxs_cons (evx_make (evds_cons (evd_var rfl (Dp.int _)) evds_nil) rfl (by show 1 ≤ 10; decide)) evxs_nil))))) rfl (by show 5 ≤ 1000; decide) fun as H3 e3 hx => ?_
    obtain ⟨a_k, as, rfl, h_k, hx⟩ := xall_cons hx
    obtain ⟨a_m, as, rfl, h_m, hx⟩ := xall_cons hx
    obtain ⟨a_n, as, rfl, h_n, hx⟩ := xall_cons hx
    obtain ⟨a_o, as, rfl, h_o, hx⟩ := xall_cons hx
    obtain ⟨a_p, as, rfl, h_p, hx⟩ := xall_cons hx
    obtain rfl := xall_nil hx
    refine ⟨_, _, rfl, _, _, rfl, _, _, rfl, _, _, rfl, _, _, rfl, rfl, ?_⟩
    replace h_a := xat_grow e3 h_a
    replace h_b := xat_grow e3 h_b
    replace h_c := xat_grow e3 h_c
    replace h_d := xat_grow e3 h_d
    replace h_e := xat_grow e3 h_e
    replace h_f := xat_grow e3 h_f
    replace h_g := xat_grow e3 h_g
    replace h_h := xat_grow e3 h_h
    replace h_i := xat_grow e3 h_i
    replace h_j := xat_grow e3 h_j
    have ex3 : Ex H H3 := ex2.trans e3
    show tSeq _ _ _ [some (.int at'), some (.int to'), some (.str word), some (.str name), some (.ref a_a), some (.ref a_b), some (.ref a_c), some (.ref a_d), some (.ref a_e), some (.ref a_f), some (.ref a_g), some (.ref a_h), some (.ref a_i), some (.ref a_j), some (.ref a_k), some (.ref a_m), some (.ref a_n), some (.ref a_o), some (.ref a_p), none, none, none] _
    refine q_par (K := K) (evxs_cons (evx_make (evds_cons (evd_var rfl (Dp.int _)) evds_nil) rfl (by show 1 ≤ 10; decide)) (evxs_cons (evx_make (evds_cons (evd_var rfl (Dp.str _)) evds_nil) rfl (by show 1 ≤ 10; decide)) evxs_nil)) fun as H4 e4 hx => ?_
    obtain ⟨a_q, as, rfl, h_q, hx⟩ := xall_cons hx
    obtain ⟨a_r, as, rfl, h_r, hx⟩ := xall_cons hx
    obtain rfl := xall_nil hx
    refine ⟨_, _, rfl, ?_⟩
    replace h_a := xat_grow e4 h_a
    replace h_b := xat_grow e4 h_b
    replace h_c := xat_grow e4 h_c
    replace h_d := xat_grow e4 h_d
    replace h_e := xat_grow e4 h_e
    replace h_f := xat_grow e4 h_f
    replace h_g := xat_grow e4 h_g
    replace h_h := xat_grow e4 h_h
    replace h_i := xat_grow e4 h_i
    replace h_j := xat_grow e4 h_j
    replace h_k := xat_grow e4 h_k
    replace h_m := xat_grow e4 h_m
    replace h_n := xat_grow e4 h_n
    replace h_o := xat_grow e4 h_o
    replace h_p := xat_grow e4 h_p
    have ex4 : Ex H H4 := ex3.trans e4
    show tSeq _ _ _ [some (.int at'), some (.int to'), some (.str word), some (.str name), some (.ref a_a), some (.ref a_b), some (.ref a_c), some (.ref a_d), some (.ref a_e), some (.ref a_f), some (.ref a_g), some (.ref a_h), some (.ref a_i), some (.ref a_j), some (.ref a_k), some (.ref a_m), some (.ref a_n), some (.ref a_o), some (.ref a_p), some (.ref a_q), some (.ref a_r), none] _
    refine q_rows (evl_lst (evrs_cons (evr_row (evx_var rfl h_a) (evd_lst (evds_cons (evd_fld (evx_var rfl h_a) (List.Mem.head _)) evds_nil) (by show 1 ≤ 1000; decide)) (evd_lst (evds_cons (evd_tup (evds_cons (evd_var rfl (Dp.int _)) (evds_cons (evd_var rfl (Dp.int _)) evds_nil)) (by show 2 ≤ 1000; decide)) evds_nil) (by show 1 ≤ 1000; decide))) (evrs_cons (evr_row evx_new (evd_lst evds_nil (by show 0 ≤ 1000; decide)) (evd_lst evds_nil (by show 0 ≤ 1000; decide))) (evrs_cons (evr_row (evx_var rfl h_b) (evd_lst (evds_cons (evd_fld (evx_var rfl h_b) (List.Mem.head _)) evds_nil) (by show 1 ≤ 1000; decide)) (evd_lst (evds_cons (evd_var rfl (Dp.str _)) evds_nil) (by show 1 ≤ 1000; decide))) (evrs_cons (evr_row (evx_var rfl h_c) (evd_lst (evds_cons (evd_fld (evx_var rfl h_c) (List.Mem.head _)) evds_nil) (by show 1 ≤ 1000; decide)) (evd_lst (evds_cons (evd_tup (evds_cons (evd_var rfl (Dp.int _)) (evds_cons evd_int evds_nil)) (by show 2 ≤ 1000; decide)) evds_nil) (by show 1 ≤ 1000; decide))) evrs_nil)))) (by show 4 ≤ 1000; decide)) fun p5 vs5 H5 e5 hp' hv' => ?_
    replace h_a := xat_grow e5 h_a
    replace h_b := xat_grow e5 h_b
    replace h_c := xat_grow e5 h_c
    replace h_d := xat_grow e5 h_d
    replace h_e := xat_grow e5 h_e
    replace h_f := xat_grow e5 h_f
    replace h_g := xat_grow e5 h_g
    replace h_h := xat_grow e5 h_h
    replace h_i := xat_grow e5 h_i
    replace h_j := xat_grow e5 h_j
    replace h_k := xat_grow e5 h_k
    replace h_m := xat_grow e5 h_m
    replace h_n := xat_grow e5 h_n
    replace h_o := xat_grow e5 h_o
    replace h_p := xat_grow e5 h_p
    replace h_q := xat_grow e5 h_q
    replace h_r := xat_grow e5 h_r
    have hp := hp'
    have hv := hv'
    clear hp' hv'
    have ex5 : Ex H H5 := ex4.trans e5
    show tSeq _ _ _ [some (.int at'), some (.int to'), some (.str word), some (.str name), some (.ref a_a), some (.ref a_b), some (.ref a_c), some (.ref a_d), some (.ref a_e), some (.ref a_f), some (.ref a_g), some (.ref a_h), some (.ref a_i), some (.ref a_j), some (.ref a_k), some (.ref a_m), some (.ref a_n), some (.ref a_o), some (.ref a_p), some (.ref a_q), some (.ref a_r), some (.ref p5)] _
    refine q_rows (evl_cat (evl_var rfl hp hv) (evl_lst (evrs_cons (evr_row (evx_var rfl h_d) (evd_lst (evds_cons (evd_fld (evx_var rfl h_d) (List.Mem.head _)) evds_nil) (by show 1 ≤ 1000; decide)) (evd_lst (evds_cons (evd_var rfl (Dp.int _)) evds_nil) (by show 1 ≤ 1000; decide))) (evrs_cons (evr_row (evx_var rfl h_e) (evd_lst (evds_cons (evd_fld (evx_var rfl h_e) (List.Mem.head _)) evds_nil) (by show 1 ≤ 1000; decide)) (evd_lst (evds_cons (evd_var rfl (Dp.int _)) evds_nil) (by show 1 ≤ 1000; decide))) (evrs_cons (evr_row evx_new (evd_lst evds_nil (by show 0 ≤ 1000; decide)) (evd_lst evds_nil (by show 0 ≤ 1000; decide))) (evrs_cons (evr_row (evx_var rfl h_f) (evd_lst (evds_cons (evd_fld (evx_var rfl h_f) (List.Mem.head _)) evds_nil) (by show 1 ≤ 1000; decide)) (evd_lst (evds_cons (evd_var rfl (Dp.int _)) evds_nil) (by show 1 ≤ 1000; decide))) (evrs_cons (evr_row (evx_var rfl h_g) (evd_lst (evds_cons (evd_fld (evx_var rfl h_g) (List.Mem.head _)) evds_nil) (by show 1 ≤ 1000; decide)) (evd_lst (evds_cons (evd_var rfl (Dp.str _)) evds_nil) (by show 1 ≤ 1000; decide))) evrs_nil))))) (by show 5 ≤ 1000; decide)) (by show 4 + 5 ≤ 1000; decide)) fun p6 vs6 H6 e6 hp' hv' => ?_
    replace h_a := xat_grow e6 h_a
    replace h_b := xat_grow e6 h_b
    replace h_c := xat_grow e6 h_c
    replace h_d := xat_grow e6 h_d
    replace h_e := xat_grow e6 h_e
    replace h_f := xat_grow e6 h_f
    replace h_g := xat_grow e6 h_g
    replace h_h := xat_grow e6 h_h
    replace h_i := xat_grow e6 h_i
    replace h_j := xat_grow e6 h_j
    replace h_k := xat_grow e6 h_k
    replace h_m := xat_grow e6 h_m
    replace h_n := xat_grow e6 h_n
    replace h_o := xat_grow e6 h_o
    replace h_p := xat_grow e6 h_p
    replace h_q := xat_grow e6 h_q
    replace h_r := xat_grow e6 h_r
    clear hp hv
    have hp := hp'
    have hv := hv'
    clear hp' hv'
    have ex6 : Ex H H6 := ex5.trans e6
    show tSeq _ _ _ [some (.int at'), some (.int to'), some (.str word), some (.str name), some (.ref a_a), some (.ref a_b), some (.ref a_c), some (.ref a_d), some (.ref a_e), some (.ref a_f), some (.ref a_g), some (.ref a_h), some (.ref a_i), some (.ref a_j), some (.ref a_k), some (.ref a_m), some (.ref a_n), some (.ref a_o), some (.ref a_p), some (.ref a_q), some (.ref a_r), some (.ref p6)] _
    refine q_rows (evl_cat (evl_var rfl hp hv) (evl_lst (evrs_cons (evr_row evx_new (evd_lst evds_nil (by show 0 ≤ 1000; decide)) (evd_lst evds_nil (by show 0 ≤ 1000; decide))) (evrs_cons (evr_row (evx_var rfl h_h) (evd_lst (evds_cons (evd_fld (evx_var rfl h_h) (List.Mem.head _)) evds_nil) (by show 1 ≤ 1000; decide)) (evd_lst (evds_cons (evd_var rfl (Dp.int _)) evds_nil) (by show 1 ≤ 1000; decide))) (evrs_cons (evr_row (evx_var rfl h_i) (evd_lst (evds_cons (evd_fld (evx_var rfl h_i) (List.Mem.head _)) evds_nil) (by show 1 ≤ 1000; decide)) (evd_lst (evds_cons (evd_tup (evds_cons (evd_var rfl (Dp.str _)) (evds_cons (evd_var rfl (Dp.int _)) evds_nil)) (by show 2 ≤ 1000; decide)) evds_nil) (by show 1 ≤ 1000; decide))) (evrs_cons (evr_row (evx_var rfl h_j) (evd_lst (evds_cons (evd_fld (evx_var rfl h_j) (List.Mem.head _)) evds_nil) (by show 1 ≤ 1000; decide)) (evd_lst (evds_cons (evd_tup (evds_cons (evd_var rfl (Dp.int _)) (evds_cons evd_int evds_nil)) (by show 2 ≤ 1000; decide)) evds_nil) (by show 1 ≤ 1000; decide))) evrs_nil)))) (by show 4 ≤ 1000; decide)) (by show 9 + 4 ≤ 1000; decide)) fun p7 vs7 H7 e7 hp' hv' => ?_
    replace h_a := xat_grow e7 h_a
    replace h_b := xat_grow e7 h_b
    replace h_c := xat_grow e7 h_c
    replace h_d := xat_grow e7 h_d
    replace h_e := xat_grow e7 h_e
    replace h_f := xat_grow e7 h_f
    replace h_g := xat_grow e7 h_g
    replace h_h := xat_grow e7 h_h
    replace h_i := xat_grow e7 h_i
    replace h_j := xat_grow e7 h_j
    replace h_k := xat_grow e7 h_k
    replace h_m := xat_grow e7 h_m
    replace h_n := xat_grow e7 h_n
    replace h_o := xat_grow e7 h_o
    replace h_p := xat_grow e7 h_p
    replace h_q := xat_grow e7 h_q
    replace h_r := xat_grow e7 h_r
    clear hp hv
    have hp := hp'
    have hv := hv'
    clear hp' hv'
    have ex7 : Ex H H7 := ex6.trans e7
    show tSeq _ _ _ [some (.int at'), some (.int to'), some (.str word), some (.str name), some (.ref a_a), some (.ref a_b), some (.ref a_c), some (.ref a_d), some (.ref a_e), some (.ref a_f), some (.ref a_g), some (.ref a_h), some (.ref a_i), some (.ref a_j), some (.ref a_k), some (.ref a_m), some (.ref a_n), some (.ref a_o), some (.ref a_p), some (.ref a_q), some (.ref a_r), some (.ref p7)] _
    refine q_rows (evl_cat (evl_var rfl hp hv) (evl_lst (evrs_cons (evr_row (evx_var rfl h_k) (evd_lst (evds_cons (evd_fld (evx_var rfl h_k) (List.Mem.head _)) evds_nil) (by show 1 ≤ 1000; decide)) (evd_lst (evds_cons (evd_var rfl (Dp.int _)) evds_nil) (by show 1 ≤ 1000; decide))) (evrs_cons (evr_row (evx_var rfl h_m) (evd_lst (evds_cons (evd_fld (evx_var rfl h_m) (List.Mem.head _)) (evds_cons (evd_fld (evx_var rfl h_m) (List.Mem.tail _ (List.Mem.head _))) evds_nil)) (by show 2 ≤ 1000; decide)) (evd_lst (evds_cons (evd_var rfl (Dp.str _)) (evds_cons (evd_var rfl (Dp.int _)) evds_nil)) (by show 2 ≤ 1000; decide))) (evrs_cons (evr_row evx_new (evd_lst evds_nil (by show 0 ≤ 1000; decide)) (evd_lst evds_nil (by show 0 ≤ 1000; decide))) (evrs_cons (evr_row (evx_var rfl h_n) (evd_lst (evds_cons (evd_fld (evx_var rfl h_n) (List.Mem.head _)) evds_nil) (by show 1 ≤ 1000; decide)) (evd_lst (evds_cons (evd_tup (evds_cons (evd_var rfl (Dp.int _)) (evds_cons (evd_var rfl (Dp.int _)) (evds_cons (evd_tup evds_nil (by show 0 ≤ 1000; decide)) evds_nil))) (by show 3 ≤ 1000; decide)) evds_nil) (by show 1 ≤ 1000; decide))) evrs_nil)))) (by show 4 ≤ 1000; decide)) (by show 13 + 4 ≤ 1000; decide)) fun p8 vs8 H8 e8 hp' hv' => ?_
    replace h_a := xat_grow e8 h_a
    replace h_b := xat_grow e8 h_b
    replace h_c := xat_grow e8 h_c
    replace h_d := xat_grow e8 h_d
    replace h_e := xat_grow e8 h_e
    replace h_f := xat_grow e8 h_f
    replace h_g := xat_grow e8 h_g
    replace h_h := xat_grow e8 h_h
    replace h_i := xat_grow e8 h_i
    replace h_j := xat_grow e8 h_j
    replace h_k := xat_grow e8 h_k
    replace h_m := xat_grow e8 h_m
    replace h_n := xat_grow e8 h_n
    replace h_o := xat_grow e8 h_o
    replace h_p := xat_grow e8 h_p
    replace h_q := xat_grow e8 h_q
    replace h_r := xat_grow e8 h_r
    clear hp hv
    have hp := hp'
    have hv := hv'
    clear hp' hv'
    have ex8 : Ex H H8 := ex7.trans e8
    show tSeq _ _ _ [some (.int at'), some (.int to'), some (.str word), some (.str name), some (.ref a_a), some (.ref a_b), some (.ref a_c), some (.ref a_d), some (.ref a_e), some (.ref a_f), some (.ref a_g), some (.ref a_h), some (.ref a_i), some (.ref a_j), some (.ref a_k), some (.ref a_m), some (.ref a_n), some (.ref a_o), some (.ref a_p), some (.ref a_q), some (.ref a_r), some (.ref p8)] _
    refine q_rows (evl_cat (evl_var rfl hp hv) (evl_lst (evrs_cons (evr_row (evx_var rfl h_o) (evd_lst (evds_cons (evd_fld (evx_var rfl h_o) (List.Mem.head _)) evds_nil) (by show 1 ≤ 1000; decide)) (evd_lst (evds_cons (evd_var rfl (Dp.int _)) evds_nil) (by show 1 ≤ 1000; decide))) (evrs_cons (evr_row evx_new (evd_lst evds_nil (by show 0 ≤ 1000; decide)) (evd_lst evds_nil (by show 0 ≤ 1000; decide))) (evrs_cons (evr_row (evx_var rfl h_p) (evd_lst (evds_cons (evd_fld (evx_var rfl h_p) (List.Mem.head _)) evds_nil) (by show 1 ≤ 1000; decide)) (evd_lst (evds_cons (evd_var rfl (Dp.int _)) evds_nil) (by show 1 ≤ 1000; decide))) (evrs_cons (evr_row (evx_var rfl h_q) (evd_lst (evds_cons (evd_fld (evx_var rfl h_q) (List.Mem.head _)) evds_nil) (by show 1 ≤ 1000; decide)) (evd_lst (evds_cons (evd_var rfl (Dp.int _)) evds_nil) (by show 1 ≤ 1000; decide))) (evrs_cons (evr_row evx_new (evd_lst evds_nil (by show 0 ≤ 1000; decide)) (evd_lst evds_nil (by show 0 ≤ 1000; decide))) evrs_nil))))) (by show 5 ≤ 1000; decide)) (by show 17 + 5 ≤ 1000; decide)) fun p9 vs9 H9 e9 hp' hv' => ?_
    replace h_a := xat_grow e9 h_a
    replace h_b := xat_grow e9 h_b
    replace h_c := xat_grow e9 h_c
    replace h_d := xat_grow e9 h_d
    replace h_e := xat_grow e9 h_e
    replace h_f := xat_grow e9 h_f
    replace h_g := xat_grow e9 h_g
    replace h_h := xat_grow e9 h_h
    replace h_i := xat_grow e9 h_i
    replace h_j := xat_grow e9 h_j
    replace h_k := xat_grow e9 h_k
    replace h_m := xat_grow e9 h_m
    replace h_n := xat_grow e9 h_n
    replace h_o := xat_grow e9 h_o
    replace h_p := xat_grow e9 h_p
    replace h_q := xat_grow e9 h_q
    replace h_r := xat_grow e9 h_r
    clear hp hv
    have hp := hp'
    have hv := hv'
    clear hp' hv'
    have ex9 : Ex H H9 := ex8.trans e9
    show tRet _ _ [some (.int at'), some (.int to'), some (.str word), some (.str name), some (.ref a_a), some (.ref a_b), some (.ref a_c), some (.ref a_d), some (.ref a_e), some (.ref a_f), some (.ref a_g), some (.ref a_h), some (.ref a_i), some (.ref a_j), some (.ref a_k), some (.ref a_m), some (.ref a_n), some (.ref a_o), some (.ref a_p), some (.ref a_q), some (.ref a_r), some (.ref p9)] _
    refine s_retR (evl_cat (evl_var rfl hp hv) (evl_lst (evrs_cons (evr_row (evx_var rfl h_r) (evd_lst (evds_cons (evd_fld (evx_var rfl h_r) (List.Mem.head _)) evds_nil) (by show 1 ≤ 1000; decide)) (evd_lst (evds_cons (evd_var rfl (Dp.str _)) evds_nil) (by show 1 ≤ 1000; decide))) (evrs_cons (evr_row evx_new (evd_lst evds_nil (by show 0 ≤ 1000; decide)) (evd_lst evds_nil (by show 0 ≤ 1000; decide))) (evrs_cons (evr_row evx_new (evd_lst evds_nil (by show 0 ≤ 1000; decide)) (evd_lst evds_nil (by show 0 ≤ 1000; decide))) (evrs_cons (evr_row evx_new (evd_lst evds_nil (by show 0 ≤ 1000; decide)) (evd_lst evds_nil (by show 0 ≤ 1000; decide))) evrs_nil)))) (by show 4 ≤ 1000; decide)) (by show 22 + 4 ≤ 1000; decide)) fun p us H10 e10 hp' hv' => ?_
    exact k p us _ (ex9.trans e10) hp' hv'
end
end Far
namespace Far
open PySem L2 Evl

/-- the classes in the order in which the law asks for them -/
def clsList (cs : Cs) : List Addr := [cs.BadRatio, cs.BadPlant, cs.NoMode, cs.BadPhase, cs.BadTicks, cs.BadTimes, cs.BadUnit, cs.BadOutcomes, cs.BadChannel, cs.NoWord, cs.BadOrder, cs.BadPeriod, cs.BadLots, cs.BadSensor, cs.BadWorld, cs.NoSensor, cs.BadText, cs.Rising, cs.BadBase, cs.CountFull, cs.ManyMessages, cs.Barred, cs.LastMode, cs.NoOutcome, cs.LastOutcome, cs.NoLot, cs.TooNear, cs.BadProgram, cs.NoEntry, cs.BadLate, cs.BadStart, cs.BadTick, cs.BadRun, cs.Unheard, cs.BadPoint, cs.NoBar, cs.BadBound, cs.TooLong, cs.BadSplits, cs.TooLarge, cs.NotQuiet, cs.NotLink, cs.NoLeast, cs.TooWide, cs.NoFit, cs.NotBelow, cs.TooFar, cs.BadKeeping, cs.NoGroup, cs.NotClosed, cs.NotDone, cs.BadGroup, cs.BadPrices, cs.BadMany, cs.BadLiars, cs.BadDeed, cs.NotNow, cs.NoPlan, cs.NoDeed]
theorem all_nil {α : Type} {p : α → Prop} : ∀ x ∈ ([] : List α), p x := fun _ h => by cases h
theorem all_cons {α : Type} {p : α → Prop} {a : α} {l : List α} (h : p a) (t : ∀ x ∈ l, p x) : ∀ x ∈ a :: l, p x := fun x hx => by
  rcases List.mem_cons.mp hx with e | e
  · subst e
    exact h
  · exact t x e
section
variable {P : Program} {w : World} {K : PySem.W.Frag} {mg : Str → Option Value} {base : Heap}
theorem ext_all {cs : Cs} (TC : ClsAll P w K mg base cs) : ∀ C ∈ clsList cs, ExT K C := (all_cons TC.c_BadRatio.t (all_cons TC.c_BadPlant.t (all_cons TC.c_NoMode.t (all_cons TC.c_BadPhase.t (all_cons TC.c_BadTicks.t (all_cons TC.c_BadTimes.t (all_cons TC.c_BadUnit.t (all_cons TC.c_BadOutcomes.t (all_cons TC.c_BadChannel.t (all_cons TC.c_NoWord.t (all_cons TC.c_BadOrder.t (all_cons TC.c_BadPeriod.t (all_cons TC.c_BadLots.t (all_cons TC.c_BadSensor.t (all_cons TC.c_BadWorld.t (all_cons TC.c_NoSensor.t (all_cons TC.c_BadText.t (all_cons TC.c_Rising.t (all_cons TC.c_BadBase.t (all_cons TC.c_CountFull.t (all_cons TC.c_ManyMessages.t (all_cons TC.c_Barred.t (all_cons TC.c_LastMode.t (all_cons TC.c_NoOutcome.t (all_cons TC.c_LastOutcome.t (all_cons TC.c_NoLot.t (all_cons TC.c_TooNear.t (all_cons TC.c_BadProgram.t (all_cons TC.c_NoEntry.t (all_cons TC.c_BadLate.t (all_cons TC.c_BadStart.t (all_cons TC.c_BadTick.t (all_cons TC.c_BadRun.t (all_cons TC.c_Unheard.t (all_cons TC.c_BadPoint.t (all_cons TC.c_NoBar.t (all_cons TC.c_BadBound.t (all_cons TC.c_TooLong.t (all_cons TC.c_BadSplits.t (all_cons TC.c_TooLarge.t (all_cons TC.c_NotQuiet.t (all_cons TC.c_NotLink.t (all_cons TC.c_NoLeast.t (all_cons TC.c_TooWide.t (all_cons TC.c_NoFit.t (all_cons TC.c_NotBelow.t (all_cons TC.c_TooFar.t (all_cons TC.c_BadKeeping.t (all_cons TC.c_NoGroup.t (all_cons TC.c_NotClosed.t (all_cons TC.c_NotDone.t (all_cons TC.c_BadGroup.t (all_cons TC.c_BadPrices.t (all_cons TC.c_BadMany.t (all_cons TC.c_BadLiars.t (all_cons TC.c_BadDeed.t (all_cons TC.c_NotNow.t (all_cons TC.c_NoPlan.t (all_cons TC.c_NoDeed.t all_nil)))))))))))))))))))))))))))))))))))))))))))))))))))))))))))
def rows_all (cs : Cs) (a b : Int) (x y : Str) : List Row := rows_first cs a b x y ++ rows_second cs a b x y ++ rows_third cs a b x y
theorem rows_cls (cs : Cs) (a b : Int) (x y : Str) : (rows_all cs a b x y).map (·.1.1) = clsList cs := rfl

theorem exc_of {H : Hp} {a C : Addr} {fds : Option (List (Str × PyData))} (h : XAt K H a (C, fds)) : ∃ fs, Exc H a C fs := by
  cases fds with
  | none => exact ⟨none, .inl ⟨rfl, h⟩⟩
  | some l =>
    obtain ⟨d, fs, h1, h2, _⟩ := h
    exact ⟨some fs, .inr ⟨d, fs, rfl, h1, h2⟩⟩
/-- isinstance(e, D) -/
theorem ev_isO {σ : L2.St} {H : Hp} {i : Nat} {a C D : Addr} {fds : Option (List (Str × PyData))} {b : Bool} (hs : σ[i]? = some (some (.ref a))) (hx : XAt K H a (C, fds)) (T : ExT K C) (hk : PySem.W.kitOne K (.ref C) (.ref D) = some b) :
    Ev (tCB (rIsO K) (tCons (tVar i) (tCons (tC (.ref D)) tNil))) σ H (.bl b) := fun H1 e Q q => by
  obtain ⟨fs, hf⟩ := exc_of (xat_grow e hx)
  exact ⟨_, hs, a, C, fs, _, _, b, rfl, .own D, T, hf, hk, q H1 (Ex.refl H1)⟩
theorem el_cat {σ : L2.St} {H : Hp} {te tb : TE} {p : Addr} {xs ys : List V} (ha : Ev te σ H (.ref p)) (hp : H p = some (.lst xs)) (hb : Evl.EvL tb σ H ys) (hl : xs.length + ys.length ≤ 1000) : Evl.EvL (tOp rCat te tb) σ H (xs ++ ys) := fun H1 e Q k =>
  ha H1 e _ fun H2 e2 => hb H2 (e.trans e2) _ fun q H3 _ e3 hq => ⟨p, q, xs, ys, rfl, rfl, e3 _ _ (e2 _ _ (e _ _ hp)), hq, sz_of (by omega), fun m hm => k m _ (fresh_back (e2.trans e3) hm) ((e2.trans e3).trans (Ex.new hm)) upd_same⟩
theorem q_asgL {σ : L2.St} {H : Hp} {D : Ends} {te : TE} {u : TS} {i : Nat} {xs : List V} (h : Evl.EvL te σ H xs) (k : ∀ p H1, H p = none → Ex H H1 → H1 p = some (.lst xs) → u D (σ.set i (some (.ref p))) H1) : tSeq (tAsg te (gName i)) u D σ H :=
  s_asgL (D := { D with nx := u D }) h k
def spClasses (K : PySem.W.Frag) (cs : Cs) : Sp := fun vs H Q _ => ∃ (a C : Addr) (fds : Option (List (Str × PyData))), vs = [.ref a] ∧ XAt K H a (C, fds) ∧ ExT K C ∧ (∀ D ∈ clsList cs, PySem.W.kitOne K (.ref C) (.ref D) = some (decide (C = D))) ∧
  ∀ p H', Ex H H' → H' p = some (.lst ((clsList cs).map fun D => V.bl (decide (C = D)))) → Q (.ref p) H'

abbrev s_classes : Stmt := topS 69
abbrev N_classes : List Str := ["e", "found"]
theorem sc_classes : FnScope N_classes ["e"] (defScope s_classes) := ⟨rfl, rfl, rfl, by decide +kernel, rfl, by decide +kernel, by decide +kernel⟩

theorem ok_classes {cs : Cs} {f : Addr} {fd : FuncData} (F : Fun K "_law_classes" "_law_classes" s_classes f fd) (T : Bl mg) (TC : ClsAll P w K mg base cs) : FnOk P w K mg base CX0 1 f fd ["e"] (spClasses K cs) := by
  refine F.ok sc_classes (fun vs H Q E h => ?_) (fun cdv A outer s H vs Q E hr h => ?_)
  · obtain ⟨a, C, fds, rfl, _⟩ := h
    rfl
  · obtain ⟨a, C, fds, rfl, hx, hT, hk, k⟩ := h
    refine ⟨_, (pss_cons (ps_set (i := 1) sc_classes.nd rfl (Or.inl rfl) (pe_lst (pa_cons (pe_callB call_isO (by rfl) T.b_isinstance (by decide +kernel) (pa_cons (pv 0) (pa_cons (pe_glob (v := .ref cs.BadRatio) rfl TC.c_BadRatio.gC rfl) pa_nil))) (pa_cons (pe_callB call_isO (by rfl) T.b_isinstance (by decide +kernel) (pa_cons (pv 0) (pa_cons (pe_glob (v := .ref cs.BadPlant) rfl TC.c_BadPlant.gC rfl) pa_nil))) (pa_cons (pe_callB call_isO (by rfl) T.b_isinstance (by decide +kernel) (pa_cons (pv 0) (pa_cons (pe_glob (v := .ref cs.NoMode) rfl TC.c_NoMode.gC rfl) pa_nil))) (pa_cons (pe_callB call_isO (by rfl) T.b_isinstance (by decide +kernel) (pa_cons (pv 0) (pa_cons (pe_glob (v := .ref cs.BadPhase) rfl TC.c_BadPhase.gC rfl) pa_nil))) (pa_cons (pe_callB call_isO (by rfl) T.b_isinstance (by decide +kernel) (pa_cons (pv 0) (pa_cons (pe_glob (v := .ref cs.BadTicks) rfl TC.c_BadTicks.gC rfl) pa_nil))) pa_nil)))))))
    (pss_cons (ps_set (i := 1) sc_classes.nd rfl (Or.inl rfl) (pe_op op_cat (pv 1) (pe_lst (pa_cons (pe_callB call_isO (by rfl) T.b_isinstance (by decide +kernel) (pa_cons (pv 0) (pa_cons (pe_glob (v := .ref cs.BadTimes) rfl TC.c_BadTimes.gC rfl) pa_nil))) (pa_cons (pe_callB call_isO (by rfl) T.b_isinstance (by decide +kernel) (pa_cons (pv 0) (pa_cons (pe_glob (v := .ref cs.BadUnit) rfl TC.c_BadUnit.gC rfl) pa_nil))) (pa_cons (pe_callB call_isO (by rfl) T.b_isinstance (by decide +kernel) (pa_cons (pv 0) (pa_cons (pe_glob (v := .ref cs.BadOutcomes) rfl TC.c_BadOutcomes.gC rfl) pa_nil))) (pa_cons (pe_callB call_isO (by rfl) T.b_isinstance (by decide +kernel) (pa_cons (pv 0) (pa_cons (pe_glob (v := .ref cs.BadChannel) rfl TC.c_BadChannel.gC rfl) pa_nil))) pa_nil)))))))
    (pss_cons (ps_set (i := 1) sc_classes.nd rfl (Or.inl rfl) (pe_op op_cat (pv 1) (pe_lst (pa_cons (pe_callB call_isO (by rfl) T.b_isinstance (by decide +kernel) (pa_cons (pv 0) (pa_cons (pe_glob (v := .ref cs.NoWord) rfl TC.c_NoWord.gC rfl) pa_nil))) (pa_cons (pe_callB call_isO (by rfl) T.b_isinstance (by decide +kernel) (pa_cons (pv 0) (pa_cons (pe_glob (v := .ref cs.BadOrder) rfl TC.c_BadOrder.gC rfl) pa_nil))) (pa_cons (pe_callB call_isO (by rfl) T.b_isinstance (by decide +kernel) (pa_cons (pv 0) (pa_cons (pe_glob (v := .ref cs.BadPeriod) rfl TC.c_BadPeriod.gC rfl) pa_nil))) (pa_cons (pe_callB call_isO (by rfl) T.b_isinstance (by decide +kernel) (pa_cons (pv 0) (pa_cons (pe_glob (v := .ref cs.BadLots) rfl TC.c_BadLots.gC rfl) pa_nil))) pa_nil)))))))
    (pss_cons (ps_set (i := 1) sc_classes.nd rfl (Or.inl rfl) (pe_op op_cat (pv 1) (pe_lst (pa_cons (pe_callB call_isO (by rfl) T.b_isinstance (by decide +kernel) (pa_cons (pv 0) (pa_cons (pe_glob (v := .ref cs.BadSensor) rfl TC.c_BadSensor.gC rfl) pa_nil))) (pa_cons (pe_callB call_isO (by rfl) T.b_isinstance (by decide +kernel) (pa_cons (pv 0) (pa_cons (pe_glob (v := .ref cs.BadWorld) rfl TC.c_BadWorld.gC rfl) pa_nil))) (pa_cons (pe_callB call_isO (by rfl) T.b_isinstance (by decide +kernel) (pa_cons (pv 0) (pa_cons (pe_glob (v := .ref cs.NoSensor) rfl TC.c_NoSensor.gC rfl) pa_nil))) (pa_cons (pe_callB call_isO (by rfl) T.b_isinstance (by decide +kernel) (pa_cons (pv 0) (pa_cons (pe_glob (v := .ref cs.BadText) rfl TC.c_BadText.gC rfl) pa_nil))) pa_nil)))))))
    (pss_cons (ps_set (i := 1) sc_classes.nd rfl (Or.inl rfl) (pe_op op_cat (pv 1) (pe_lst (pa_cons (pe_callB call_isO (by rfl) T.b_isinstance (by decide +kernel) (pa_cons (pv 0) (pa_cons (pe_glob (v := .ref cs.Rising) rfl TC.c_Rising.gC rfl) pa_nil))) (pa_cons (pe_callB call_isO (by rfl) T.b_isinstance (by decide +kernel) (pa_cons (pv 0) (pa_cons (pe_glob (v := .ref cs.BadBase) rfl TC.c_BadBase.gC rfl) pa_nil))) (pa_cons (pe_callB call_isO (by rfl) T.b_isinstance (by decide +kernel) (pa_cons (pv 0) (pa_cons (pe_glob (v := .ref cs.CountFull) rfl TC.c_CountFull.gC rfl) pa_nil))) (pa_cons (pe_callB call_isO (by rfl) T.b_isinstance (by decide +kernel) (pa_cons (pv 0) (pa_cons (pe_glob (v := .ref cs.ManyMessages) rfl TC.c_ManyMessages.gC rfl) pa_nil))) pa_nil)))))))
    (pss_cons (ps_set (i := 1) sc_classes.nd rfl (Or.inl rfl) (pe_op op_cat (pv 1) (pe_lst (pa_cons (pe_callB call_isO (by rfl) T.b_isinstance (by decide +kernel) (pa_cons (pv 0) (pa_cons (pe_glob (v := .ref cs.Barred) rfl TC.c_Barred.gC rfl) pa_nil))) (pa_cons (pe_callB call_isO (by rfl) T.b_isinstance (by decide +kernel) (pa_cons (pv 0) (pa_cons (pe_glob (v := .ref cs.LastMode) rfl TC.c_LastMode.gC rfl) pa_nil))) (pa_cons (pe_callB call_isO (by rfl) T.b_isinstance (by decide +kernel) (pa_cons (pv 0) (pa_cons (pe_glob (v := .ref cs.NoOutcome) rfl TC.c_NoOutcome.gC rfl) pa_nil))) (pa_cons (pe_callB call_isO (by rfl) T.b_isinstance (by decide +kernel) (pa_cons (pv 0) (pa_cons (pe_glob (v := .ref cs.LastOutcome) rfl TC.c_LastOutcome.gC rfl) pa_nil))) pa_nil)))))))
    (pss_cons (ps_set (i := 1) sc_classes.nd rfl (Or.inl rfl) (pe_op op_cat (pv 1) (pe_lst (pa_cons (pe_callB call_isO (by rfl) T.b_isinstance (by decide +kernel) (pa_cons (pv 0) (pa_cons (pe_glob (v := .ref cs.NoLot) rfl TC.c_NoLot.gC rfl) pa_nil))) (pa_cons (pe_callB call_isO (by rfl) T.b_isinstance (by decide +kernel) (pa_cons (pv 0) (pa_cons (pe_glob (v := .ref cs.TooNear) rfl TC.c_TooNear.gC rfl) pa_nil))) (pa_cons (pe_callB call_isO (by rfl) T.b_isinstance (by decide +kernel) (pa_cons (pv 0) (pa_cons (pe_glob (v := .ref cs.BadProgram) rfl TC.c_BadProgram.gC rfl) pa_nil))) (pa_cons (pe_callB call_isO (by rfl) T.b_isinstance (by decide +kernel) (pa_cons (pv 0) (pa_cons (pe_glob (v := .ref cs.NoEntry) rfl TC.c_NoEntry.gC rfl) pa_nil))) pa_nil)))))))
    (pss_cons (ps_set (i := 1) sc_classes.nd rfl (Or.inl rfl) (pe_op op_cat (pv 1) (pe_lst (pa_cons (pe_callB call_isO (by rfl) T.b_isinstance (by decide +kernel) (pa_cons (pv 0) (pa_cons (pe_glob (v := .ref cs.BadLate) rfl TC.c_BadLate.gC rfl) pa_nil))) (pa_cons (pe_callB call_isO (by rfl) T.b_isinstance (by decide +kernel) (pa_cons (pv 0) (pa_cons (pe_glob (v := .ref cs.BadStart) rfl TC.c_BadStart.gC rfl) pa_nil))) (pa_cons (pe_callB call_isO (by rfl) T.b_isinstance (by decide +kernel) (pa_cons (pv 0) (pa_cons (pe_glob (v := .ref cs.BadTick) rfl TC.c_BadTick.gC rfl) pa_nil))) (pa_cons (pe_callB call_isO (by rfl) T.b_isinstance (by decide +kernel) (pa_cons (pv 0) (pa_cons (pe_glob (v := .ref cs.BadRun) rfl TC.c_BadRun.gC rfl) pa_nil))) pa_nil)))))))
    (pss_cons (ps_set (i := 1) sc_classes.nd rfl (Or.inl rfl) (pe_op op_cat (pv 1) (pe_lst (pa_cons (pe_callB call_isO (by rfl) T.b_isinstance (by decide +kernel) (pa_cons (pv 0) (pa_cons (pe_glob (v := .ref cs.Unheard) rfl TC.c_Unheard.gC rfl) pa_nil))) (pa_cons (pe_callB call_isO (by rfl) T.b_isinstance (by decide +kernel) (pa_cons (pv 0) (pa_cons (pe_glob (v := .ref cs.BadPoint) rfl TC.c_BadPoint.gC rfl) pa_nil))) (pa_cons (pe_callB call_isO (by rfl) T.b_isinstance (by decide +kernel) (pa_cons (pv 0) (pa_cons (pe_glob (v := .ref cs.NoBar) rfl TC.c_NoBar.gC rfl) pa_nil))) (pa_cons (pe_callB call_isO (by rfl) T.b_isinstance (by decide +kernel) (pa_cons (pv 0) (pa_cons (pe_glob (v := .ref cs.BadBound) rfl TC.c_BadBound.gC rfl) pa_nil))) pa_nil)))))))
    (pss_cons (ps_set (i := 1) sc_classes.nd rfl (Or.inl rfl) (pe_op op_cat (pv 1) (pe_lst (pa_cons (pe_callB call_isO (by rfl) T.b_isinstance (by decide +kernel) (pa_cons (pv 0) (pa_cons (pe_glob (v := .ref cs.TooLong) rfl TC.c_TooLong.gC rfl) pa_nil))) (pa_cons (pe_callB call_isO (by rfl) T.b_isinstance (by decide +kernel) (pa_cons (pv 0) (pa_cons (pe_glob (v := .ref cs.BadSplits) rfl TC.c_BadSplits.gC rfl) pa_nil))) (pa_cons (pe_callB call_isO (by rfl) T.b_isinstance (by decide +kernel) (pa_cons (pv 0) (pa_cons (pe_glob (v := .ref cs.TooLarge) rfl TC.c_TooLarge.gC rfl) pa_nil))) (pa_cons (pe_callB call_isO (by rfl) T.b_isinstance (by decide +kernel) (pa_cons (pv 0) (pa_cons (pe_glob (v := .ref cs.NotQuiet) rfl TC.c_NotQuiet.gC rfl) pa_nil))) pa_nil)))))))
    (pss_cons (ps_set (i := 1) sc_classes.nd rfl (Or.inl rfl) (pe_op op_cat (pv 1) (pe_lst (pa_cons (pe_callB call_isO (by rfl) T.b_isinstance (by decide +kernel) (pa_cons (pv 0) (pa_cons (pe_glob (v := .ref cs.NotLink) rfl TC.c_NotLink.gC rfl) pa_nil))) (pa_cons (pe_callB call_isO (by rfl) T.b_isinstance (by decide +kernel) (pa_cons (pv 0) (pa_cons (pe_glob (v := .ref cs.NoLeast) rfl TC.c_NoLeast.gC rfl) pa_nil))) (pa_cons (pe_callB call_isO (by rfl) T.b_isinstance (by decide +kernel) (pa_cons (pv 0) (pa_cons (pe_glob (v := .ref cs.TooWide) rfl TC.c_TooWide.gC rfl) pa_nil))) (pa_cons (pe_callB call_isO (by rfl) T.b_isinstance (by decide +kernel) (pa_cons (pv 0) (pa_cons (pe_glob (v := .ref cs.NoFit) rfl TC.c_NoFit.gC rfl) pa_nil))) pa_nil)))))))
    (pss_cons (ps_set (i := 1) sc_classes.nd rfl (Or.inl rfl) (pe_op op_cat (pv 1) (pe_lst (pa_cons (pe_callB call_isO (by rfl) T.b_isinstance (by decide +kernel) (pa_cons (pv 0) (pa_cons (pe_glob (v := .ref cs.NotBelow) rfl TC.c_NotBelow.gC rfl) pa_nil))) (pa_cons (pe_callB call_isO (by rfl) T.b_isinstance (by decide +kernel) (pa_cons (pv 0) (pa_cons (pe_glob (v := .ref cs.TooFar) rfl TC.c_TooFar.gC rfl) pa_nil))) (pa_cons (pe_callB call_isO (by rfl) T.b_isinstance (by decide +kernel) (pa_cons (pv 0) (pa_cons (pe_glob (v := .ref cs.BadKeeping) rfl TC.c_BadKeeping.gC rfl) pa_nil))) (pa_cons (pe_callB call_isO (by rfl) T.b_isinstance (by decide +kernel) (pa_cons (pv 0) (pa_cons (pe_glob (v := .ref cs.NoGroup) rfl TC.c_NoGroup.gC rfl) pa_nil))) pa_nil)))))))
    (pss_cons (ps_set (i := 1) sc_classes.nd rfl (Or.inl rfl) (pe_op op_cat (pv 1) (pe_lst (pa_cons (pe_callB call_isO (by rfl) T.b_isinstance (by decide +kernel) (pa_cons (pv 0) (pa_cons (pe_glob (v := .ref cs.NotClosed) rfl TC.c_NotClosed.gC rfl) pa_nil))) (pa_cons (pe_callB call_isO (by rfl) T.b_isinstance (by decide +kernel) (pa_cons (pv 0) (pa_cons (pe_glob (v := .ref cs.NotDone) rfl TC.c_NotDone.gC rfl) pa_nil))) (pa_cons (pe_callB call_isO (by rfl) T.b_isinstance (by decide +kernel) (pa_cons (pv 0) (pa_cons (pe_glob (v := .ref cs.BadGroup) rfl TC.c_BadGroup.gC rfl) pa_nil))) (pa_cons (pe_callB call_isO (by rfl) T.b_isinstance (by decide +kernel) (pa_cons (pv 0) (pa_cons (pe_glob (v := .ref cs.BadPrices) rfl TC.c_BadPrices.gC rfl) pa_nil))) pa_nil)))))))
    (pss_cons (ps_set (i := 1) sc_classes.nd rfl (Or.inl rfl) (pe_op op_cat (pv 1) (pe_lst (pa_cons (pe_callB call_isO (by rfl) T.b_isinstance (by decide +kernel) (pa_cons (pv 0) (pa_cons (pe_glob (v := .ref cs.BadMany) rfl TC.c_BadMany.gC rfl) pa_nil))) (pa_cons (pe_callB call_isO (by rfl) T.b_isinstance (by decide +kernel) (pa_cons (pv 0) (pa_cons (pe_glob (v := .ref cs.BadLiars) rfl TC.c_BadLiars.gC rfl) pa_nil))) (pa_cons (pe_callB call_isO (by rfl) T.b_isinstance (by decide +kernel) (pa_cons (pv 0) (pa_cons (pe_glob (v := .ref cs.BadDeed) rfl TC.c_BadDeed.gC rfl) pa_nil))) (pa_cons (pe_callB call_isO (by rfl) T.b_isinstance (by decide +kernel) (pa_cons (pv 0) (pa_cons (pe_glob (v := .ref cs.NotNow) rfl TC.c_NotNow.gC rfl) pa_nil))) pa_nil)))))))
    (pss_one (ps_ret (pe_op op_cat (pv 1) (pe_lst (pa_cons (pe_callB call_isO (by rfl) T.b_isinstance (by decide +kernel) (pa_cons (pv 0) (pa_cons (pe_glob (v := .ref cs.NoPlan) rfl TC.c_NoPlan.gC rfl) pa_nil))) (pa_cons (pe_callB call_isO (by rfl) T.b_isinstance (by decide +kernel) (pa_cons (pv 0) (pa_cons (pe_glob (v := .ref cs.NoDeed) rfl TC.c_NoDeed.gC rfl) pa_nil))) pa_nil)))))))))))))))))))), ?_⟩
    have ex0 : Ex H H := Ex.refl H
    show tSeq _ _ _ [some (.ref a), none] _
    refine q_asgL (el_lst (ea_cons (ev_isO rfl hx hT (hk _ (List.Mem.head _))) (ea_cons (ev_isO rfl hx hT (hk _ (List.Mem.tail _ (List.Mem.head _)))) (ea_cons (ev_isO rfl hx hT (hk _ (List.Mem.tail _ (List.Mem.tail _ (List.Mem.head _))))) (ea_cons (ev_isO rfl hx hT (hk _ (List.Mem.tail _ (List.Mem.tail _ (List.Mem.tail _ (List.Mem.head _)))))) (ea_cons (ev_isO rfl hx hT (hk _ (List.Mem.tail _ (List.Mem.tail _ (List.Mem.tail _ (List.Mem.tail _ (List.Mem.head _))))))) ea_nil))))) (by show 5 ≤ 100000; decide)) fun p1 H1 _ e1 hp' => ?_
    replace hx := xat_grow e1 hx
    have hp := hp'
    clear hp'
    have ex1 : Ex H H1 := ex0.trans e1
    show tSeq _ _ _ [some (.ref a), some (.ref p1)] _
    refine q_asgL (el_cat (ev_var rfl) hp (el_lst (ea_cons (ev_isO rfl hx hT (hk _ (List.Mem.tail _ (List.Mem.tail _ (List.Mem.tail _ (List.Mem.tail _ (List.Mem.tail _ (List.Mem.head _)))))))) (ea_cons (ev_isO rfl hx hT (hk _ (List.Mem.tail _ (List.Mem.tail _ (List.Mem.tail _ (List.Mem.tail _ (List.Mem.tail _ (List.Mem.tail _ (List.Mem.head _))))))))) (ea_cons (ev_isO rfl hx hT (hk _ (List.Mem.tail _ (List.Mem.tail _ (List.Mem.tail _ (List.Mem.tail _ (List.Mem.tail _ (List.Mem.tail _ (List.Mem.tail _ (List.Mem.head _)))))))))) (ea_cons (ev_isO rfl hx hT (hk _ (List.Mem.tail _ (List.Mem.tail _ (List.Mem.tail _ (List.Mem.tail _ (List.Mem.tail _ (List.Mem.tail _ (List.Mem.tail _ (List.Mem.tail _ (List.Mem.head _))))))))))) ea_nil)))) (by show 4 ≤ 100000; decide)) (by show 5 + 4 ≤ 1000; decide)) fun p2 H2 _ e2 hp' => ?_
    replace hx := xat_grow e2 hx
    clear hp
    have hp := hp'
    clear hp'
    have ex2 : Ex H H2 := ex1.trans e2
    show tSeq _ _ _ [some (.ref a), some (.ref p2)] _
    refine q_asgL (el_cat (ev_var rfl) hp (el_lst (ea_cons (ev_isO rfl hx hT (hk _ (List.Mem.tail _ (List.Mem.tail _ (List.Mem.tail _ (List.Mem.tail _ (List.Mem.tail _ (List.Mem.tail _ (List.Mem.tail _ (List.Mem.tail _ (List.Mem.tail _ (List.Mem.head _)))))))))))) (ea_cons (ev_isO rfl hx hT (hk _ (List.Mem.tail _ (List.Mem.tail _ (List.Mem.tail _ (List.Mem.tail _ (List.Mem.tail _ (List.Mem.tail _ (List.Mem.tail _ (List.Mem.tail _ (List.Mem.tail _ (List.Mem.tail _ (List.Mem.head _))))))))))))) (ea_cons (ev_isO rfl hx hT (hk _ (List.Mem.tail _ (List.Mem.tail _ (List.Mem.tail _ (List.Mem.tail _ (List.Mem.tail _ (List.Mem.tail _ (List.Mem.tail _ (List.Mem.tail _ (List.Mem.tail _ (List.Mem.tail _ (List.Mem.tail _ (List.Mem.head _)))))))))))))) (ea_cons (ev_isO rfl hx hT (hk _ (List.Mem.tail _ (List.Mem.tail _ (List.Mem.tail _ (List.Mem.tail _ (List.Mem.tail _ (List.Mem.tail _ (List.Mem.tail _ (List.Mem.tail _ (List.Mem.tail _ (List.Mem.tail _ (List.Mem.tail _ (List.Mem.tail _ (List.Mem.head _))))))))))))))) ea_nil)))) (by show 4 ≤ 100000; decide)) (by show 9 + 4 ≤ 1000; decide)) fun p3 H3 _ e3 hp' => ?_
    replace hx := xat_grow e3 hx
    clear hp
    have hp := hp'
    clear hp'
    have ex3 : Ex H H3 := ex2.trans e3
    show tSeq _ _ _ [some (.ref a), some (.ref p3)] _
    refine q_asgL (el_cat (ev_var rfl) hp (el_lst (ea_cons (ev_isO rfl hx hT (hk _ (List.Mem.tail _ (List.Mem.tail _ (List.Mem.tail _ (List.Mem.tail _ (List.Mem.tail _ (List.Mem.tail _ (List.Mem.tail _ (List.Mem.tail _ (List.Mem.tail _ (List.Mem.tail _ (List.Mem.tail _ (List.Mem.tail _ (List.Mem.tail _ (List.Mem.head _)))))))))))))))) (ea_cons (ev_isO rfl hx hT (hk _ (List.Mem.tail _ (List.Mem.tail _ (List.Mem.tail _ (List.Mem.tail _ (List.Mem.tail _ (List.Mem.tail _ (List.Mem.tail _ (List.Mem.tail _ (List.Mem.tail _ (List.Mem.tail _ (List.Mem.tail _ (List.Mem.tail _ (List.Mem.tail _ (List.Mem.tail _ (List.Mem.head _))))))))))))))))) (ea_cons (ev_isO rfl hx hT (hk _ (List.Mem.tail _ (List.Mem.tail _ (List.Mem.tail _ (List.Mem.tail _ (List.Mem.tail _ (List.Mem.tail _ (List.Mem.tail _ (List.Mem.tail _ (List.Mem.tail _ (List.Mem.tail _ (List.Mem.tail _ (List.Mem.tail _ (List.Mem.tail _ (List.Mem.tail _ (List.Mem.tail _ (List.Mem.head _)))))))))))))))))) (ea_cons (ev_isO rfl hx hT (hk _ (List.Mem.tail _ (List.Mem.tail _ (List.Mem.tail _ (List.Mem.tail _ (List.Mem.tail _ (List.Mem.tail _ (List.Mem.tail _ (List.Mem.tail _ (List.Mem.tail _ (List.Mem.tail _ (List.Mem.tail _ (List.Mem.tail _ (List.Mem.tail _ (List.Mem.tail _ (List.Mem.tail _ (List.Mem.tail _ (List.Mem.head _))))))))))))))))))) ea_nil)))) (by show 4 ≤ 100000; decide)) (by show 13 + 4 ≤ 1000; decide)) fun p4 H4 _ e4 hp' => ?_
    replace hx := xat_grow e4 hx
    clear hp
    have hp := hp'
    clear hp'
    have ex4 : Ex H H4 := ex3.trans e4
    show tSeq _ _ _ [some (.ref a), some (.ref p4)] _
    refine q_asgL (el_cat (ev_var rfl) hp (el_lst (ea_cons (ev_isO rfl hx hT (hk _ (List.Mem.tail _ (List.Mem.tail _ (List.Mem.tail _ (List.Mem.tail _ (List.Mem.tail _ (List.Mem.tail _ (List.Mem.tail _ (List.Mem.tail _ (List.Mem.tail _ (List.Mem.tail _ (List.Mem.tail _ (List.Mem.tail _ (List.Mem.tail _ (List.Mem.tail _ (List.Mem.tail _ (List.Mem.tail _ (List.Mem.tail _ (List.Mem.head _)))))))))))))))))))) (ea_cons (ev_isO rfl hx hT (hk _ (List.Mem.tail _ (List.Mem.tail _ (List.Mem.tail _ (List.Mem.tail _ (List.Mem.tail _ (List.Mem.tail _ (List.Mem.tail _ (List.Mem.tail _ (List.Mem.tail _ (List.Mem.tail _ (List.Mem.tail _ (List.Mem.tail _ (List.Mem.tail _ (List.Mem.tail _ (List.Mem.tail _ (List.Mem.tail _ (List.Mem.tail _ (List.Mem.tail _ (List.Mem.head _))))))))))))))))))))) (ea_cons (ev_isO rfl hx hT (hk _ (List.Mem.tail _ (List.Mem.tail _ (List.Mem.tail _ (List.Mem.tail _ (List.Mem.tail _ (List.Mem.tail _ (List.Mem.tail _ (List.Mem.tail _ (List.Mem.tail _ (List.Mem.tail _ (List.Mem.tail _ (List.Mem.tail _ (List.Mem.tail _ (List.Mem.tail _ (List.Mem.tail _ (List.Mem.tail _ (List.Mem.tail _ (List.Mem.tail _ (List.Mem.tail _ (List.Mem.head _)))))))))))))))))))))) (ea_cons (ev_isO rfl hx hT (hk _ (List.Mem.tail _ (List.Mem.tail _ (List.Mem.tail _ (List.Mem.tail _ (List.Mem.tail _ (List.Mem.tail _ (List.Mem.tail _ (List.Mem.tail _ (List.Mem.tail _ (List.Mem.tail _ (List.Mem.tail _ (List.Mem.tail _ (List.Mem.tail _ (List.Mem.tail _ (List.Mem.tail _ (List.Mem.tail _ (List.Mem.tail _ (List.Mem.tail _ (List.Mem.tail _ (List.Mem.tail _ (List.Mem.head _))))))))))))))))))))))) ea_nil)))) (by show 4 ≤ 100000; decide)) (by show 17 + 4 ≤ 1000; decide)) fun p5 H5 _ e5 hp' => ?_
    replace hx := xat_grow e5 hx
    clear hp
    have hp := hp'
    clear hp'
    have ex5 : Ex H H5 := ex4.trans e5
    show tSeq _ _ _ [some (.ref a), some (.ref p5)] _
    refine q_asgL (el_cat (ev_var rfl) hp (el_lst (ea_cons (ev_isO rfl hx hT (hk _ (List.Mem.tail _ (List.Mem.tail _ (List.Mem.tail _ (List.Mem.tail _ (List.Mem.tail _ (List.Mem.tail _ (List.Mem.tail _ (List.Mem.tail _ (List.Mem.tail _ (List.Mem.tail _ (List.Mem.tail _ (List.Mem.tail _ (List.Mem.tail _ (List.Mem.tail _ (List.Mem.tail _ (List.Mem.tail _ (List.Mem.tail _ (List.Mem.tail _ (List.Mem.tail _ (List.Mem.tail _ (List.Mem.tail _ (List.Mem.head _)))))))))))))))))))))))) (ea_cons (ev_isO rfl hx hT (hk _ (List.Mem.tail _ (List.Mem.tail _ (List.Mem.tail _ (List.Mem.tail _ (List.Mem.tail _ (List.Mem.tail _ (List.Mem.tail _ (List.Mem.tail _ (List.Mem.tail _ (List.Mem.tail _ (List.Mem.tail _ (List.Mem.tail _ (List.Mem.tail _ (List.Mem.tail _ (List.Mem.tail _ (List.Mem.tail _ (List.Mem.tail _ (List.Mem.tail _ (List.Mem.tail _ (List.Mem.tail _ (List.Mem.tail _ (List.Mem.tail _ (List.Mem.head _))))))))))))))))))))))))) (ea_cons (ev_isO rfl hx hT (hk _ (List.Mem.tail _ (List.Mem.tail _ (List.Mem.tail _ (List.Mem.tail _ (List.Mem.tail _ (List.Mem.tail _ (List.Mem.tail _ (List.Mem.tail _ (List.Mem.tail _ (List.Mem.tail _ (List.Mem.tail _ (List.Mem.tail _ (List.Mem.tail _ (List.Mem.tail _ (List.Mem.tail _ (List.Mem.tail _ (List.Mem.tail _ (List.Mem.tail _ (List.Mem.tail _ (List.Mem.tail _ (List.Mem.tail _ (List.Mem.tail _ (List.Mem.tail _ (List.Mem.head _)))))))))))))))))))))))))) (ea_cons (ev_isO rfl hx hT (hk _ (List.Mem.tail _ (List.Mem.tail _ (List.Mem.tail _ (List.Mem.tail _ (List.Mem.tail _ (List.Mem.tail _ (List.Mem.tail _ (List.Mem.tail _ (List.Mem.tail _ (List.Mem.tail _ (List.Mem.tail _ (List.Mem.tail _ (List.Mem.tail _ (List.Mem.tail _ (List.Mem.tail _ (List.Mem.tail _ (List.Mem.tail _ (List.Mem.tail _ (List.Mem.tail _ (List.Mem.tail _ (List.Mem.tail _ (List.Mem.tail _ (List.Mem.tail _ (List.Mem.tail _ (List.Mem.head _))))))))))))))))))))))))))) ea_nil)))) (by show 4 ≤ 100000; decide)) (by show 21 + 4 ≤ 1000; decide)) fun p6 H6 _ e6 hp' => ?_
    replace hx := xat_grow e6 hx
    clear hp
    have hp := hp'
    clear hp'
    have ex6 : Ex H H6 := ex5.trans e6
    show tSeq _ _ _ [some (.ref a), some (.ref p6)] _
    refine q_asgL (el_cat (ev_var rfl) hp (el_lst (ea_cons (ev_isO rfl hx hT (hk _ (List.Mem.tail _ (List.Mem.tail _ (List.Mem.tail _ (List.Mem.tail _ (List.Mem.tail _ (List.Mem.tail _ (List.Mem.tail _ (List.Mem.tail _ (List.Mem.tail _ (List.Mem.tail _ (List.Mem.tail _ (List.Mem.tail _ (List.Mem.tail _ (List.Mem.tail _ (List.Mem.tail _ (List.Mem.tail _ (List.Mem.tail _ (List.Mem.tail _ (List.Mem.tail _ (List.Mem.tail _ (List.Mem.tail _ (List.Mem.tail _ (List.Mem.tail _ (List.Mem.tail _ (List.Mem.tail _ (List.Mem.head _)))))))))))))))))))))))))))) (ea_cons (ev_isO rfl hx hT (hk _ (List.Mem.tail _ (List.Mem.tail _ (List.Mem.tail _ (List.Mem.tail _ (List.Mem.tail _ (List.Mem.tail _ (List.Mem.tail _ (List.Mem.tail _ (List.Mem.tail _ (List.Mem.tail _ (List.Mem.tail _ (List.Mem.tail _ (List.Mem.tail _ (List.Mem.tail _ (List.Mem.tail _ (List.Mem.tail _ (List.Mem.tail _ (List.Mem.tail _ (List.Mem.tail _ (List.Mem.tail _ (List.Mem.tail _ (List.Mem.tail _ (List.Mem.tail _ (List.Mem.tail _ (List.Mem.tail _ (List.Mem.tail _ (List.Mem.head _))))))))))))))))))))))))))))) (ea_cons (ev_isO rfl hx hT (hk _ (List.Mem.tail _ (List.Mem.tail _ (List.Mem.tail _ (List.Mem.tail _ (List.Mem.tail _ (List.Mem.tail _ (List.Mem.tail _ (List.Mem.tail _ (List.Mem.tail _ (List.Mem.tail _ (List.Mem.tail _ (List.Mem.tail _ (List.Mem.tail _ (List.Mem.tail _ (List.Mem.tail _ (List.Mem.tail _ (List.Mem.tail _ (List.Mem.tail _ (List.Mem.tail _ (List.Mem.tail _ (List.Mem.tail _ (List.Mem.tail _ (List.Mem.tail _ (List.Mem.tail _ (List.Mem.tail _ (List.Mem.tail _ (List.Mem.tail _ (List.Mem.head _)))))))))))))))))))))))))))))) (ea_cons (ev_isO rfl hx hT (hk _ (List.Mem.tail _ (List.Mem.tail _ (List.Mem.tail _ (List.Mem.tail _ (List.Mem.tail _ (List.Mem.tail _ (List.Mem.tail _ (List.Mem.tail _ (List.Mem.tail _ (List.Mem.tail _ (List.Mem.tail _ (List.Mem.tail _ (List.Mem.tail _ (List.Mem.tail _ (List.Mem.tail _ (List.Mem.tail _ (List.Mem.tail _ (List.Mem.tail _ (List.Mem.tail _ (List.Mem.tail _ (List.Mem.tail _ (List.Mem.tail _ (List.Mem.tail _ (List.Mem.tail _ (List.Mem.tail _ (List.Mem.tail _ (List.Mem.tail _ (List.Mem.tail _ (List.Mem.head _))))))))))))))))))))))))))))))) ea_nil)))) (by show 4 ≤ 100000; decide)) (by show 25 + 4 ≤ 1000; decide)) fun p7 H7 _ e7 hp' => ?_
    replace hx := xat_grow e7 hx
    clear hp
    have hp := hp'
    clear hp'
    have ex7 : Ex H H7 := ex6.trans e7
    show tSeq _ _ _ [some (.ref a), some (.ref p7)] _
    refine q_asgL (el_cat (ev_var rfl) hp (el_lst (ea_cons (ev_isO rfl hx hT (hk _ (List.Mem.tail _ (List.Mem.tail _ (List.Mem.tail _ (List.Mem.tail _ (List.Mem.tail _ (List.Mem.tail _ (List.Mem.tail _ (List.Mem.tail _ (List.Mem.tail _ (List.Mem.tail _ (List.Mem.tail _ (List.Mem.tail _ (List.Mem.tail _ (List.Mem.tail _ (List.Mem.tail _ (List.Mem.tail _ (List.Mem.tail _ (List.Mem.tail _ (List.Mem.tail _ (List.Mem.tail _ (List.Mem.tail _ (List.Mem.tail _ (List.Mem.tail _ (List.Mem.tail _ (List.Mem.tail _ (List.Mem.tail _ (List.Mem.tail _ (List.Mem.tail _ (List.Mem.tail _ (List.Mem.head _)))))))))))))))))))))))))))))))) (ea_cons (ev_isO rfl hx hT (hk _ (List.Mem.tail _ (List.Mem.tail _ (List.Mem.tail _ (List.Mem.tail _ (List.Mem.tail _ (List.Mem.tail _ (List.Mem.tail _ (List.Mem.tail _ (List.Mem.tail _ (List.Mem.tail _ (List.Mem.tail _ (List.Mem.tail _ (List.Mem.tail _ (List.Mem.tail _ (List.Mem.tail _ (List.Mem.tail _ (List.Mem.tail _ (List.Mem.tail _ (List.Mem.tail _ (List.Mem.tail _ (List.Mem.tail _ (List.Mem.tail _ (List.Mem.tail _ (List.Mem.tail _ (List.Mem.tail _ (List.Mem.tail _ (List.Mem.tail _ (List.Mem.tail _ (List.Mem.tail _ (List.Mem.tail _ (List.Mem.head _))))))))))))))))))))))))))))))))) (ea_cons (ev_isO rfl hx hT (hk _ (List.Mem.tail _ (List.Mem.tail _ (List.Mem.tail _ (List.Mem.tail _ (List.Mem.tail _ (List.Mem.tail _ (List.Mem.tail _ (List.Mem.tail _ (List.Mem.tail _ (List.Mem.tail _ (List.Mem.tail _ (List.Mem.tail _ (List.Mem.tail _ (List.Mem.tail _ (List.Mem.tail _ (List.Mem.tail _ (List.Mem.tail _ (List.Mem.tail _ (List.Mem.tail _ (List.Mem.tail _ (List.Mem.tail _ (List.Mem.tail _ (List.Mem.tail _ (List.Mem.tail _ (List.Mem.tail _ (List.Mem.tail _ (List.Mem.tail _ (List.Mem.tail _ (List.Mem.tail _ (List.Mem.tail _ (List.Mem.tail _ (List.Mem.head _)))))))))))))))))))))))))))))))))) (ea_cons (ev_isO rfl hx hT (hk _ (List.Mem.tail _ (List.Mem.tail _ (List.Mem.tail _ (List.Mem.tail _ (List.Mem.tail _ (List.Mem.tail _ (List.Mem.tail _ (List.Mem.tail _ (List.Mem.tail _ (List.Mem.tail _ (List.Mem.tail _ (List.Mem.tail _ (List.Mem.tail _ (List.Mem.tail _ (List.Mem.tail _ (List.Mem.tail _ (List.Mem.tail _ (List.Mem.tail _ (List.Mem.tail _ (List.Mem.tail _ (List.Mem.tail _ (List.Mem.tail _ (List.Mem.tail _ (List.Mem.tail _ (List.Mem.tail _ (List.Mem.tail _ (List.Mem.tail _ (List.Mem.tail _ (List.Mem.tail _ (List.Mem.tail _ (List.Mem.tail _ (List.Mem.tail _ (List.Mem.head _))))))))))))))))))))))))))))))))))) ea_nil)))) (by show 4 ≤ 100000; decide)) (by show 29 + 4 ≤ 1000; decide)) fun p8 H8 _ e8 hp' => ?_
    replace hx := xat_grow e8 hx
    clear hp
    have hp := hp'
    clear hp'
    have ex8 : Ex H H8 := ex7.trans e8
    show tSeq _ _ _ [some (.ref a), some (.ref p8)] _
    refine q_asgL (el_cat (ev_var rfl) hp (el_lst (ea_cons (ev_isO rfl hx hT (hk _ (List.Mem.tail _ (List.Mem.tail _ (List.Mem.tail _ (List.Mem.tail _ (List.Mem.tail _ (List.Mem.tail _ (List.Mem.tail _ (List.Mem.tail _ (List.Mem.tail _ (List.Mem.tail _ (List.Mem.tail _ (List.Mem.tail _ (List.Mem.tail _ (List.Mem.tail _ (List.Mem.tail _ (List.Mem.tail _ (List.Mem.tail _ (List.Mem.tail _ (List.Mem.tail _ (List.Mem.tail _ (List.Mem.tail _ (List.Mem.tail _ (List.Mem.tail _ (List.Mem.tail _ (List.Mem.tail _ (List.Mem.tail _ (List.Mem.tail _ (List.Mem.tail _ (List.Mem.tail _ (List.Mem.tail _ (List.Mem.tail _ (List.Mem.tail _ (List.Mem.tail _ (List.Mem.head _)))))))))))))))))))))))))))))))))))) (ea_cons (ev_isO rfl hx hT (hk _ (List.Mem.tail _ (List.Mem.tail _ (List.Mem.tail _ (List.Mem.tail _ (List.Mem.tail _ (List.Mem.tail _ (List.Mem.tail _ (List.Mem.tail _ (List.Mem.tail _ (List.Mem.tail _ (List.Mem.tail _ (List.Mem.tail _ (List.Mem.tail _ (List.Mem.tail _ (List.Mem.tail _ (List.Mem.tail _ (List.Mem.tail _ (List.Mem.tail _ (List.Mem.tail _ (List.Mem.tail _ (List.Mem.tail _ (List.Mem.tail _ (List.Mem.tail _ (List.Mem.tail _ (List.Mem.tail _ (List.Mem.tail _ (List.Mem.tail _ (List.Mem.tail _ (List.Mem.tail _ (List.Mem.tail _ (List.Mem.tail _ (List.Mem.tail _ (List.Mem.tail _ (List.Mem.tail _ (List.Mem.head _))))))))))))))))))))))))))))))))))))) (ea_cons (ev_isO rfl hx hT (hk _ (List.Mem.tail _ (List.Mem.tail _ (List.Mem.tail _ (List.Mem.tail _ (List.Mem.tail _ (List.Mem.tail _ (List.Mem.tail _ (List.Mem.tail _ (List.Mem.tail _ (List.Mem.tail _ (List.Mem.tail _ (List.Mem.tail _ (List.Mem.tail _ (List.Mem.tail _ (List.Mem.tail _ (List.Mem.tail _ (List.Mem.tail _ (List.Mem.tail _ (List.Mem.tail _ (List.Mem.tail _ (List.Mem.tail _ (List.Mem.tail _ (List.Mem.tail _ (List.Mem.tail _ (List.Mem.tail _ (List.Mem.tail _ (List.Mem.tail _ (List.Mem.tail _ (List.Mem.tail _ (List.Mem.tail _ (List.Mem.tail _ (List.Mem.tail _ (List.Mem.tail _ (List.Mem.tail _ (List.Mem.tail _ (List.Mem.head _)))))))))))))))))))))))))))))))))))))) (ea_cons (ev_isO rfl hx hT (hk _ (List.Mem.tail _ (List.Mem.tail _ (List.Mem.tail _ (List.Mem.tail _ (List.Mem.tail _ (List.Mem.tail _ (List.Mem.tail _ (List.Mem.tail _ (List.Mem.tail _ (List.Mem.tail _ (List.Mem.tail _ (List.Mem.tail _ (List.Mem.tail _ (List.Mem.tail _ (List.Mem.tail _ (List.Mem.tail _ (List.Mem.tail _ (List.Mem.tail _ (List.Mem.tail _ (List.Mem.tail _ (List.Mem.tail _ (List.Mem.tail _ (List.Mem.tail _ (List.Mem.tail _ (List.Mem.tail _ (List.Mem.tail _ (List.Mem.tail _ (List.Mem.tail _ (List.Mem.tail _ (List.Mem.tail _ (List.Mem.tail _ (List.Mem.tail _ (List.Mem.tail _ (List.Mem.tail _ (List.Mem.tail _ (List.Mem.tail _ (List.Mem.head _))))))))))))))))))))))))))))))))))))))) ea_nil)))) (by show 4 ≤ 100000; decide)) (by show 33 + 4 ≤ 1000; decide)) fun p9 H9 _ e9 hp' => ?_
    replace hx := xat_grow e9 hx
    clear hp
    have hp := hp'
    clear hp'
    have ex9 : Ex H H9 := ex8.trans e9
    show tSeq _ _ _ [some (.ref a), some (.ref p9)] _
    refine q_asgL (el_cat (ev_var rfl) hp (el_lst (ea_cons (ev_isO rfl hx hT (hk _ (List.Mem.tail _ (List.Mem.tail _ (List.Mem.tail _ (List.Mem.tail _ (List.Mem.tail _ (List.Mem.tail _ (List.Mem.tail _ (List.Mem.tail _ (List.Mem.tail _ (List.Mem.tail _ (List.Mem.tail _ (List.Mem.tail _ (List.Mem.tail _ (List.Mem.tail _ (List.Mem.tail _ (List.Mem.tail _ (List.Mem.tail _ (List.Mem.tail _ (List.Mem.tail _ (List.Mem.tail _ (List.Mem.tail _ (List.Mem.tail _ (List.Mem.tail _ (List.Mem.tail _ (List.Mem.tail _ (List.Mem.tail _ (List.Mem.tail _ (List.Mem.tail _ (List.Mem.tail _ (List.Mem.tail _ (List.Mem.tail _ (List.Mem.tail _ (List.Mem.tail _ (List.Mem.tail _ (List.Mem.tail _ (List.Mem.tail _ (List.Mem.tail _ (List.Mem.head _)))))))))))))))))))))))))))))))))))))))) (ea_cons (ev_isO rfl hx hT (hk _ (List.Mem.tail _ (List.Mem.tail _ (List.Mem.tail _ (List.Mem.tail _ (List.Mem.tail _ (List.Mem.tail _ (List.Mem.tail _ (List.Mem.tail _ (List.Mem.tail _ (List.Mem.tail _ (List.Mem.tail _ (List.Mem.tail _ (List.Mem.tail _ (List.Mem.tail _ (List.Mem.tail _ (List.Mem.tail _ (List.Mem.tail _ (List.Mem.tail _ (List.Mem.tail _ (List.Mem.tail _ (List.Mem.tail _ (List.Mem.tail _ (List.Mem.tail _ (List.Mem.tail _ (List.Mem.tail _ (List.Mem.tail _ (List.Mem.tail _ (List.Mem.tail _ (List.Mem.tail _ (List.Mem.tail _ (List.Mem.tail _ (List.Mem.tail _ (List.Mem.tail _ (List.Mem.tail _ (List.Mem.tail _ (List.Mem.tail _ (List.Mem.tail _ (List.Mem.tail _ (List.Mem.head _))))))))))))))))))))))))))))))))))))))))) (ea_cons (ev_isO rfl hx hT (hk _ (List.Mem.tail _ (List.Mem.tail _ (List.Mem.tail _ (List.Mem.tail _ (List.Mem.tail _ (List.Mem.tail _ (List.Mem.tail _ (List.Mem.tail _ (List.Mem.tail _ (List.Mem.tail _ (List.Mem.tail _ (List.Mem.tail _ (List.Mem.tail _ (List.Mem.tail _ (List.Mem.tail _ (List.Mem.tail _ (List.Mem.tail _ (List.Mem.tail _ (List.Mem.tail _ (List.Mem.tail _ (List.Mem.tail _ (List.Mem.tail _ (List.Mem.tail _ (List.Mem.tail _ (List.Mem.tail _ (List.Mem.tail _ (List.Mem.tail _ (List.Mem.tail _ (List.Mem.tail _ (List.Mem.tail _ (List.Mem.tail _ (List.Mem.tail _ (List.Mem.tail _ (List.Mem.tail _ (List.Mem.tail _ (List.Mem.tail _ (List.Mem.tail _ (List.Mem.tail _ (List.Mem.tail _ (List.Mem.head _)))))))))))))))))))))))))))))))))))))))))) (ea_cons (ev_isO rfl hx hT (hk _ (List.Mem.tail _ (List.Mem.tail _ (List.Mem.tail _ (List.Mem.tail _ (List.Mem.tail _ (List.Mem.tail _ (List.Mem.tail _ (List.Mem.tail _ (List.Mem.tail _ (List.Mem.tail _ (List.Mem.tail _ (List.Mem.tail _ (List.Mem.tail _ (List.Mem.tail _ (List.Mem.tail _ (List.Mem.tail _ (List.Mem.tail _ (List.Mem.tail _ (List.Mem.tail _ (List.Mem.tail _ (List.Mem.tail _ (List.Mem.tail _ (List.Mem.tail _ (List.Mem.tail _ (List.Mem.tail _ (List.Mem.tail _ (List.Mem.tail _ (List.Mem.tail _ (List.Mem.tail _ (List.Mem.tail _ (List.Mem.tail _ (List.Mem.tail _ (List.Mem.tail _ (List.Mem.tail _ (List.Mem.tail _ (List.Mem.tail _ (List.Mem.tail _ (List.Mem.tail _ (List.Mem.tail _ (List.Mem.tail _ (List.Mem.head _))))))))))))))))))))))))))))))))))))))))))) ea_nil)))) (by show 4 ≤ 100000; decide)) (by show 37 + 4 ≤ 1000; decide)) fun p10 H10 _ e10 hp' => ?_
    replace hx := xat_grow e10 hx
    clear hp
    have hp := hp'
    clear hp'
    have ex10 : Ex H H10 := ex9.trans e10
    show tSeq _ _ _ [some (.ref a), some (.ref p10)] _
    refine q_asgL (el_cat (ev_var rfl) hp (el_lst (ea_cons (ev_isO rfl hx hT (hk _ (List.Mem.tail _ (List.Mem.tail _ (List.Mem.tail _ (List.Mem.tail _ (List.Mem.tail _ (List.Mem.tail _ (List.Mem.tail _ (List.Mem.tail _ (List.Mem.tail _ (List.Mem.tail _ (List.Mem.tail _ (List.Mem.tail _ (List.Mem.tail _ (List.Mem.tail _ (List.Mem.tail _ (List.Mem.tail _ (List.Mem.tail _ (List.Mem.tail _ (List.Mem.tail _ (List.Mem.tail _ (List.Mem.tail _ (List.Mem.tail _ (List.Mem.tail _ (List.Mem.tail _ (List.Mem.tail _ (List.Mem.tail _ (List.Mem.tail _ (List.Mem.tail _ (List.Mem.tail _ (List.Mem.tail _ (List.Mem.tail _ (List.Mem.tail _ (List.Mem.tail _ (List.Mem.tail _ (List.Mem.tail _ (List.Mem.tail _ (List.Mem.tail _ (List.Mem.tail _ (List.Mem.tail _ (List.Mem.tail _ (List.Mem.tail _ (List.Mem.head _)))))))))))))))))))))))))))))))))))))))))))) (ea_cons (ev_isO rfl hx hT (hk _ (List.Mem.tail _ (List.Mem.tail _ (List.Mem.tail _ (List.Mem.tail _ (List.Mem.tail _ (List.Mem.tail _ (List.Mem.tail _ (List.Mem.tail _ (List.Mem.tail _ (List.Mem.tail _ (List.Mem.tail _ (List.Mem.tail _ (List.Mem.tail _ (List.Mem.tail _ (List.Mem.tail _ (List.Mem.tail _ (List.Mem.tail _ (List.Mem.tail _ (List.Mem.tail _ (List.Mem.tail _ (List.Mem.tail _ (List.Mem.tail _ (List.Mem.tail _ (List.Mem.tail _ (List.Mem.tail _ (List.Mem.tail _ (List.Mem.tail _ (List.Mem.tail _ (List.Mem.tail _ (List.Mem.tail _ (List.Mem.tail _ (List.Mem.tail _ (List.Mem.tail _ (List.Mem.tail _ (List.Mem.tail _ (List.Mem.tail _ (List.Mem.tail _ (List.Mem.tail _ (List.Mem.tail _ (List.Mem.tail _ (List.Mem.tail _ (List.Mem.tail _ (List.Mem.head _))))))))))))))))))))))))))))))))))))))))))))) (ea_cons (ev_isO rfl hx hT (hk _ (List.Mem.tail _ (List.Mem.tail _ (List.Mem.tail _ (List.Mem.tail _ (List.Mem.tail _ (List.Mem.tail _ (List.Mem.tail _ (List.Mem.tail _ (List.Mem.tail _ (List.Mem.tail _ (List.Mem.tail _ (List.Mem.tail _ (List.Mem.tail _ (List.Mem.tail _ (List.Mem.tail _ (List.Mem.tail _ (List.Mem.tail _ (List.Mem.tail _ (List.Mem.tail _ (List.Mem.tail _ (List.Mem.tail _ (List.Mem.tail _ (List.Mem.tail _ (List.Mem.tail _ (List.Mem.tail _ (List.Mem.tail _ (List.Mem.tail _ (List.Mem.tail _ (List.Mem.tail _ (List.Mem.tail _ (List.Mem.tail _ (List.Mem.tail _ (List.Mem.tail _ (List.Mem.tail _ (List.Mem.tail _ (List.Mem.tail _ (List.Mem.tail _ (List.Mem.tail _ (List.Mem.tail _ (List.Mem.tail _ (List.Mem.tail _ (List.Mem.tail _ (List.Mem.tail _ (List.Mem.head _)))))))))))))))))))))))))))))))))))))))))))))) (ea_cons (ev_isO rfl hx hT (hk _ (List.Mem.tail _ (List.Mem.tail _ (List.Mem.tail _ (List.Mem.tail _ (List.Mem.tail _ (List.Mem.tail _ (List.Mem.tail _ (List.Mem.tail _ (List.Mem.tail _ (List.Mem.tail _ (List.Mem.tail _ (List.Mem.tail _ (List.Mem.tail _ (List.Mem.tail _ (List.Mem.tail _ (List.Mem.tail _ (List.Mem.tail _ (List.Mem.tail _ (List.Mem.tail _ (List.Mem.tail _ (List.Mem.tail _ (List.Mem.tail _ (List.Mem.tail _ (List.Mem.tail _ (List.Mem.tail _ (List.Mem.tail _ (List.Mem.tail _ (List.Mem.tail _ (List.Mem.tail _ (List.Mem.tail _ (List.Mem.tail _ (List.Mem.tail _ (List.Mem.tail _ (List.Mem.tail _ (List.Mem.tail _ (List.Mem.tail _ (List.Mem.tail _ (List.Mem.tail _ (List.Mem.tail _ (List.Mem.tail _ (List.Mem.tail _ (List.Mem.tail _ (List.Mem.tail _ (List.Mem.tail _ (List.Mem.head _))))))))))))))))))))))))))))))))))))))))))))))) ea_nil)))) (by show 4 ≤ 100000; decide)) (by show 41 + 4 ≤ 1000; decide)) fun p11 H11 _ e11 hp' => ?_
    replace hx := xat_grow e11 hx
    clear hp
    have hp := hp'
    clear hp'
    have ex11 : Ex H H11 := ex10.trans e11
    show tSeq _ _ _ [some (.ref a), some (.ref p11)] _
    refine q_asgL (el_cat (ev_var rfl) hp (el_lst (ea_cons (ev_isO rfl hx hT (hk _ (List.Mem.tail _ (List.Mem.tail _ (List.Mem.tail _ (List.Mem.tail _ (List.Mem.tail _ (List.Mem.tail _ (List.Mem.tail _ (List.Mem.tail _ (List.Mem.tail _ (List.Mem.tail _ (List.Mem.tail _ (List.Mem.tail _ (List.Mem.tail _ (List.Mem.tail _ (List.Mem.tail _ (List.Mem.tail _ (List.Mem.tail _ (List.Mem.tail _ (List.Mem.tail _ (List.Mem.tail _ (List.Mem.tail _ (List.Mem.tail _ (List.Mem.tail _ (List.Mem.tail _ (List.Mem.tail _ (List.Mem.tail _ (List.Mem.tail _ (List.Mem.tail _ (List.Mem.tail _ (List.Mem.tail _ (List.Mem.tail _ (List.Mem.tail _ (List.Mem.tail _ (List.Mem.tail _ (List.Mem.tail _ (List.Mem.tail _ (List.Mem.tail _ (List.Mem.tail _ (List.Mem.tail _ (List.Mem.tail _ (List.Mem.tail _ (List.Mem.tail _ (List.Mem.tail _ (List.Mem.tail _ (List.Mem.tail _ (List.Mem.head _)))))))))))))))))))))))))))))))))))))))))))))))) (ea_cons (ev_isO rfl hx hT (hk _ (List.Mem.tail _ (List.Mem.tail _ (List.Mem.tail _ (List.Mem.tail _ (List.Mem.tail _ (List.Mem.tail _ (List.Mem.tail _ (List.Mem.tail _ (List.Mem.tail _ (List.Mem.tail _ (List.Mem.tail _ (List.Mem.tail _ (List.Mem.tail _ (List.Mem.tail _ (List.Mem.tail _ (List.Mem.tail _ (List.Mem.tail _ (List.Mem.tail _ (List.Mem.tail _ (List.Mem.tail _ (List.Mem.tail _ (List.Mem.tail _ (List.Mem.tail _ (List.Mem.tail _ (List.Mem.tail _ (List.Mem.tail _ (List.Mem.tail _ (List.Mem.tail _ (List.Mem.tail _ (List.Mem.tail _ (List.Mem.tail _ (List.Mem.tail _ (List.Mem.tail _ (List.Mem.tail _ (List.Mem.tail _ (List.Mem.tail _ (List.Mem.tail _ (List.Mem.tail _ (List.Mem.tail _ (List.Mem.tail _ (List.Mem.tail _ (List.Mem.tail _ (List.Mem.tail _ (List.Mem.tail _ (List.Mem.tail _ (List.Mem.tail _ (List.Mem.head _))))))))))))))))))))))))))))))))))))))))))))))))) (ea_cons (ev_isO rfl hx hT (hk _ (List.Mem.tail _ (List.Mem.tail _ (List.Mem.tail _ (List.Mem.tail _ (List.Mem.tail _ (List.Mem.tail _ (List.Mem.tail _ (List.Mem.tail _ (List.Mem.tail _ (List.Mem.tail _ (List.Mem.tail _ (List.Mem.tail _ (List.Mem.tail _ (List.Mem.tail _ (List.Mem.tail _ (List.Mem.tail _ (List.Mem.tail _ (List.Mem.tail _ (List.Mem.tail _ (List.Mem.tail _ (List.Mem.tail _ (List.Mem.tail _ (List.Mem.tail _ (List.Mem.tail _ (List.Mem.tail _ (List.Mem.tail _ (List.Mem.tail _ (List.Mem.tail _ (List.Mem.tail _ (List.Mem.tail _ (List.Mem.tail _ (List.Mem.tail _ (List.Mem.tail _ (List.Mem.tail _ (List.Mem.tail _ (List.Mem.tail _ (List.Mem.tail _ (List.Mem.tail _ (List.Mem.tail _ (List.Mem.tail _ (List.Mem.tail _ (List.Mem.tail _ (List.Mem.tail _ (List.Mem.tail _ (List.Mem.tail _ (List.Mem.tail _ (List.Mem.tail _ (List.Mem.head _)))))))))))))))))))))))))))))))))))))))))))))))))) (ea_cons (ev_isO rfl hx hT (hk _ (List.Mem.tail _ (List.Mem.tail _ (List.Mem.tail _ (List.Mem.tail _ (List.Mem.tail _ (List.Mem.tail _ (List.Mem.tail _ (List.Mem.tail _ (List.Mem.tail _ (List.Mem.tail _ (List.Mem.tail _ (List.Mem.tail _ (List.Mem.tail _ (List.Mem.tail _ (List.Mem.tail _ (List.Mem.tail _ (List.Mem.tail _ (List.Mem.tail _ (List.Mem.tail _ (List.Mem.tail _ (List.Mem.tail _ (List.Mem.tail _ (List.Mem.tail _ (List.Mem.tail _ (List.Mem.tail _ (List.Mem.tail _ (List.Mem.tail _ (List.Mem.tail _ (List.Mem.tail _ (List.Mem.tail _ (List.Mem.tail _ (List.Mem.tail _ (List.Mem.tail _ (List.Mem.tail _ (List.Mem.tail _ (List.Mem.tail _ (List.Mem.tail _ (List.Mem.tail _ (List.Mem.tail _ (List.Mem.tail _ (List.Mem.tail _ (List.Mem.tail _ (List.Mem.tail _ (List.Mem.tail _ (List.Mem.tail _ (List.Mem.tail _ (List.Mem.tail _ (List.Mem.tail _ (List.Mem.head _))))))))))))))))))))))))))))))))))))))))))))))))))) ea_nil)))) (by show 4 ≤ 100000; decide)) (by show 45 + 4 ≤ 1000; decide)) fun p12 H12 _ e12 hp' => ?_
    replace hx := xat_grow e12 hx
    clear hp
    have hp := hp'
    clear hp'
    have ex12 : Ex H H12 := ex11.trans e12
    show tSeq _ _ _ [some (.ref a), some (.ref p12)] _
    refine q_asgL (el_cat (ev_var rfl) hp (el_lst (ea_cons (ev_isO rfl hx hT (hk _ (List.Mem.tail _ (List.Mem.tail _ (List.Mem.tail _ (List.Mem.tail _ (List.Mem.tail _ (List.Mem.tail _ (List.Mem.tail _ (List.Mem.tail _ (List.Mem.tail _ (List.Mem.tail _ (List.Mem.tail _ (List.Mem.tail _ (List.Mem.tail _ (List.Mem.tail _ (List.Mem.tail _ (List.Mem.tail _ (List.Mem.tail _ (List.Mem.tail _ (List.Mem.tail _ (List.Mem.tail _ (List.Mem.tail _ (List.Mem.tail _ (List.Mem.tail _ (List.Mem.tail _ (List.Mem.tail _ (List.Mem.tail _ (List.Mem.tail _ (List.Mem.tail _ (List.Mem.tail _ (List.Mem.tail _ (List.Mem.tail _ (List.Mem.tail _ (List.Mem.tail _ (List.Mem.tail _ (List.Mem.tail _ (List.Mem.tail _ (List.Mem.tail _ (List.Mem.tail _ (List.Mem.tail _ (List.Mem.tail _ (List.Mem.tail _ (List.Mem.tail _ (List.Mem.tail _ (List.Mem.tail _ (List.Mem.tail _ (List.Mem.tail _ (List.Mem.tail _ (List.Mem.tail _ (List.Mem.tail _ (List.Mem.head _)))))))))))))))))))))))))))))))))))))))))))))))))))) (ea_cons (ev_isO rfl hx hT (hk _ (List.Mem.tail _ (List.Mem.tail _ (List.Mem.tail _ (List.Mem.tail _ (List.Mem.tail _ (List.Mem.tail _ (List.Mem.tail _ (List.Mem.tail _ (List.Mem.tail _ (List.Mem.tail _ (List.Mem.tail _ (List.Mem.tail _ (List.Mem.tail _ (List.Mem.tail _ (List.Mem.tail _ (List.Mem.tail _ (List.Mem.tail _ (List.Mem.tail _ (List.Mem.tail _ (List.Mem.tail _ (List.Mem.tail _ (List.Mem.tail _ (List.Mem.tail _ (List.Mem.tail _ (List.Mem.tail _ (List.Mem.tail _ (List.Mem.tail _ (List.Mem.tail _ (List.Mem.tail _ (List.Mem.tail _ (List.Mem.tail _ (List.Mem.tail _ (List.Mem.tail _ (List.Mem.tail _ (List.Mem.tail _ (List.Mem.tail _ (List.Mem.tail _ (List.Mem.tail _ (List.Mem.tail _ (List.Mem.tail _ (List.Mem.tail _ (List.Mem.tail _ (List.Mem.tail _ (List.Mem.tail _ (List.Mem.tail _ (List.Mem.tail _ (List.Mem.tail _ (List.Mem.tail _ (List.Mem.tail _ (List.Mem.tail _ (List.Mem.head _))))))))))))))))))))))))))))))))))))))))))))))))))))) (ea_cons (ev_isO rfl hx hT (hk _ (List.Mem.tail _ (List.Mem.tail _ (List.Mem.tail _ (List.Mem.tail _ (List.Mem.tail _ (List.Mem.tail _ (List.Mem.tail _ (List.Mem.tail _ (List.Mem.tail _ (List.Mem.tail _ (List.Mem.tail _ (List.Mem.tail _ (List.Mem.tail _ (List.Mem.tail _ (List.Mem.tail _ (List.Mem.tail _ (List.Mem.tail _ (List.Mem.tail _ (List.Mem.tail _ (List.Mem.tail _ (List.Mem.tail _ (List.Mem.tail _ (List.Mem.tail _ (List.Mem.tail _ (List.Mem.tail _ (List.Mem.tail _ (List.Mem.tail _ (List.Mem.tail _ (List.Mem.tail _ (List.Mem.tail _ (List.Mem.tail _ (List.Mem.tail _ (List.Mem.tail _ (List.Mem.tail _ (List.Mem.tail _ (List.Mem.tail _ (List.Mem.tail _ (List.Mem.tail _ (List.Mem.tail _ (List.Mem.tail _ (List.Mem.tail _ (List.Mem.tail _ (List.Mem.tail _ (List.Mem.tail _ (List.Mem.tail _ (List.Mem.tail _ (List.Mem.tail _ (List.Mem.tail _ (List.Mem.tail _ (List.Mem.tail _ (List.Mem.tail _ (List.Mem.head _)))))))))))))))))))))))))))))))))))))))))))))))))))))) (ea_cons (ev_isO rfl hx hT (hk _ (List.Mem.tail _ (List.Mem.tail _ (List.Mem.tail _ (List.Mem.tail _ (List.Mem.tail _ (List.Mem.tail _ (List.Mem.tail _ (List.Mem.tail _ (List.Mem.tail _ (List.Mem.tail _ (List.Mem.tail _ (List.Mem.tail _ (List.Mem.tail _ (List.Mem.tail _ (List.Mem.tail _ (List.Mem.tail _ (List.Mem.tail _ (List.Mem.tail _ (List.Mem.tail _ (List.Mem.tail _ (List.Mem.tail _ (List.Mem.tail _ (List.Mem.tail _ (List.Mem.tail _ (List.Mem.tail _ (List.Mem.tail _ (List.Mem.tail _ (List.Mem.tail _ (List.Mem.tail _ (List.Mem.tail _ (List.Mem.tail _ (List.Mem.tail _ (List.Mem.tail _ (List.Mem.tail _ (List.Mem.tail _ (List.Mem.tail _ (List.Mem.tail _ (List.Mem.tail _ (List.Mem.tail _ (List.Mem.tail _ (List.Mem.tail _ (List.Mem.tail _ (List.Mem.tail _ (List.Mem.tail _ (List.Mem.tail _ (List.Mem.tail _ (List.Mem.tail _ (List.Mem.tail _ (List.Mem.tail _ (List.Mem.tail _ (List.Mem.tail _ (List.Mem.tail _ (List.Mem.head _))))))))))))))))))))))))))))))))))))))))))))))))))))))) ea_nil)))) (by show 4 ≤ 100000; decide)) (by show 49 + 4 ≤ 1000; decide)) fun p13 H13 _ e13 hp' => ?_
    replace hx := xat_grow e13 hx
    clear hp
    have hp := hp'
    clear hp'
    have ex13 : Ex H H13 := ex12.trans e13
    show tSeq _ _ _ [some (.ref a), some (.ref p13)] _
    refine q_asgL (el_cat (ev_var rfl) hp (el_lst (ea_cons (ev_isO rfl hx hT (hk _ (List.Mem.tail _ (List.Mem.tail _ (List.Mem.tail _ (List.Mem.tail _ (List.Mem.tail _ (List.Mem.tail _ (List.Mem.tail _ (List.Mem.tail _ (List.Mem.tail _ (List.Mem.tail _ (List.Mem.tail _ (List.Mem.tail _ (List.Mem.tail _ (List.Mem.tail _ (List.Mem.tail _ (List.Mem.tail _ (List.Mem.tail _ (List.Mem.tail _ (List.Mem.tail _ (List.Mem.tail _ (List.Mem.tail _ (List.Mem.tail _ (List.Mem.tail _ (List.Mem.tail _ (List.Mem.tail _ (List.Mem.tail _ (List.Mem.tail _ (List.Mem.tail _ (List.Mem.tail _ (List.Mem.tail _ (List.Mem.tail _ (List.Mem.tail _ (List.Mem.tail _ (List.Mem.tail _ (List.Mem.tail _ (List.Mem.tail _ (List.Mem.tail _ (List.Mem.tail _ (List.Mem.tail _ (List.Mem.tail _ (List.Mem.tail _ (List.Mem.tail _ (List.Mem.tail _ (List.Mem.tail _ (List.Mem.tail _ (List.Mem.tail _ (List.Mem.tail _ (List.Mem.tail _ (List.Mem.tail _ (List.Mem.tail _ (List.Mem.tail _ (List.Mem.tail _ (List.Mem.tail _ (List.Mem.head _)))))))))))))))))))))))))))))))))))))))))))))))))))))))) (ea_cons (ev_isO rfl hx hT (hk _ (List.Mem.tail _ (List.Mem.tail _ (List.Mem.tail _ (List.Mem.tail _ (List.Mem.tail _ (List.Mem.tail _ (List.Mem.tail _ (List.Mem.tail _ (List.Mem.tail _ (List.Mem.tail _ (List.Mem.tail _ (List.Mem.tail _ (List.Mem.tail _ (List.Mem.tail _ (List.Mem.tail _ (List.Mem.tail _ (List.Mem.tail _ (List.Mem.tail _ (List.Mem.tail _ (List.Mem.tail _ (List.Mem.tail _ (List.Mem.tail _ (List.Mem.tail _ (List.Mem.tail _ (List.Mem.tail _ (List.Mem.tail _ (List.Mem.tail _ (List.Mem.tail _ (List.Mem.tail _ (List.Mem.tail _ (List.Mem.tail _ (List.Mem.tail _ (List.Mem.tail _ (List.Mem.tail _ (List.Mem.tail _ (List.Mem.tail _ (List.Mem.tail _ (List.Mem.tail _ (List.Mem.tail _ (List.Mem.tail _ (List.Mem.tail _ (List.Mem.tail _ (List.Mem.tail _ (List.Mem.tail _ (List.Mem.tail _ (List.Mem.tail _ (List.Mem.tail _ (List.Mem.tail _ (List.Mem.tail _ (List.Mem.tail _ (List.Mem.tail _ (List.Mem.tail _ (List.Mem.tail _ (List.Mem.tail _ (List.Mem.head _))))))))))))))))))))))))))))))))))))))))))))))))))))))))) (ea_cons (ev_isO rfl hx hT (hk _ (List.Mem.tail _ (List.Mem.tail _ (List.Mem.tail _ (List.Mem.tail _ (List.Mem.tail _ (List.Mem.tail _ (List.Mem.tail _ (List.Mem.tail _ (List.Mem.tail _ (List.Mem.tail _ (List.Mem.tail _ (List.Mem.tail _ (List.Mem.tail _ (List.Mem.tail _ (List.Mem.tail _ (List.Mem.tail _ (List.Mem.tail _ (List.Mem.tail _ (List.Mem.tail _ (List.Mem.tail _ (List.Mem.tail _ (List.Mem.tail _ (List.Mem.tail _ (List.Mem.tail _ (List.Mem.tail _ (List.Mem.tail _ (List.Mem.tail _ (List.Mem.tail _ (List.Mem.tail _ (List.Mem.tail _ (List.Mem.tail _ (List.Mem.tail _ (List.Mem.tail _ (List.Mem.tail _ (List.Mem.tail _ (List.Mem.tail _ (List.Mem.tail _ (List.Mem.tail _ (List.Mem.tail _ (List.Mem.tail _ (List.Mem.tail _ (List.Mem.tail _ (List.Mem.tail _ (List.Mem.tail _ (List.Mem.tail _ (List.Mem.tail _ (List.Mem.tail _ (List.Mem.tail _ (List.Mem.tail _ (List.Mem.tail _ (List.Mem.tail _ (List.Mem.tail _ (List.Mem.tail _ (List.Mem.tail _ (List.Mem.tail _ (List.Mem.head _)))))))))))))))))))))))))))))))))))))))))))))))))))))))))) (ea_cons (ev_isO rfl hx hT (hk _ (List.Mem.tail _ (List.Mem.tail _ (List.Mem.tail _ (List.Mem.tail _ (List.Mem.tail _ (List.Mem.tail _ (List.Mem.tail _ (List.Mem.tail _ (List.Mem.tail _ (List.Mem.tail _ (List.Mem.tail _ (List.Mem.tail _ (List.Mem.tail _ (List.Mem.tail _ (List.Mem.tail _ (List.Mem.tail _ (List.Mem.tail _ (List.Mem.tail _ (List.Mem.tail _ (List.Mem.tail _ (List.Mem.tail _ (List.Mem.tail _ (List.Mem.tail _ (List.Mem.tail _ (List.Mem.tail _ (List.Mem.tail _ (List.Mem.tail _ (List.Mem.tail _ (List.Mem.tail _ (List.Mem.tail _ (List.Mem.tail _ (List.Mem.tail _ (List.Mem.tail _ (List.Mem.tail _ (List.Mem.tail _ (List.Mem.tail _ (List.Mem.tail _ (List.Mem.tail _ (List.Mem.tail _ (List.Mem.tail _ (List.Mem.tail _ (List.Mem.tail _ (List.Mem.tail _ (List.Mem.tail _ (List.Mem.tail _ (List.Mem.tail _ (List.Mem.tail _ (List.Mem.tail _ (List.Mem.tail _ (List.Mem.tail _ (List.Mem.tail _ (List.Mem.tail _ (List.Mem.tail _ (List.Mem.tail _ (List.Mem.tail _ (List.Mem.tail _ (List.Mem.head _))))))))))))))))))))))))))))))))))))))))))))))))))))))))))) ea_nil)))) (by show 4 ≤ 100000; decide)) (by show 53 + 4 ≤ 1000; decide)) fun p14 H14 _ e14 hp' => ?_
    replace hx := xat_grow e14 hx
    clear hp
    have hp := hp'
    clear hp'
    have ex14 : Ex H H14 := ex13.trans e14
    show tRet _ _ [some (.ref a), some (.ref p14)] _
    refine s_retL (el_cat (ev_var rfl) hp (el_lst (ea_cons (ev_isO rfl hx hT (hk _ (List.Mem.tail _ (List.Mem.tail _ (List.Mem.tail _ (List.Mem.tail _ (List.Mem.tail _ (List.Mem.tail _ (List.Mem.tail _ (List.Mem.tail _ (List.Mem.tail _ (List.Mem.tail _ (List.Mem.tail _ (List.Mem.tail _ (List.Mem.tail _ (List.Mem.tail _ (List.Mem.tail _ (List.Mem.tail _ (List.Mem.tail _ (List.Mem.tail _ (List.Mem.tail _ (List.Mem.tail _ (List.Mem.tail _ (List.Mem.tail _ (List.Mem.tail _ (List.Mem.tail _ (List.Mem.tail _ (List.Mem.tail _ (List.Mem.tail _ (List.Mem.tail _ (List.Mem.tail _ (List.Mem.tail _ (List.Mem.tail _ (List.Mem.tail _ (List.Mem.tail _ (List.Mem.tail _ (List.Mem.tail _ (List.Mem.tail _ (List.Mem.tail _ (List.Mem.tail _ (List.Mem.tail _ (List.Mem.tail _ (List.Mem.tail _ (List.Mem.tail _ (List.Mem.tail _ (List.Mem.tail _ (List.Mem.tail _ (List.Mem.tail _ (List.Mem.tail _ (List.Mem.tail _ (List.Mem.tail _ (List.Mem.tail _ (List.Mem.tail _ (List.Mem.tail _ (List.Mem.tail _ (List.Mem.tail _ (List.Mem.tail _ (List.Mem.tail _ (List.Mem.tail _ (List.Mem.head _)))))))))))))))))))))))))))))))))))))))))))))))))))))))))))) (ea_cons (ev_isO rfl hx hT (hk _ (List.Mem.tail _ (List.Mem.tail _ (List.Mem.tail _ (List.Mem.tail _ (List.Mem.tail _ (List.Mem.tail _ (List.Mem.tail _ (List.Mem.tail _ (List.Mem.tail _ (List.Mem.tail _ (List.Mem.tail _ (List.Mem.tail _ (List.Mem.tail _ (List.Mem.tail _ (List.Mem.tail _ (List.Mem.tail _ (List.Mem.tail _ (List.Mem.tail _ (List.Mem.tail _ (List.Mem.tail _ (List.Mem.tail _ (List.Mem.tail _ (List.Mem.tail _ (List.Mem.tail _ (List.Mem.tail _ (List.Mem.tail _ (List.Mem.tail _ (List.Mem.tail _ (List.Mem.tail _ (List.Mem.tail _ (List.Mem.tail _ (List.Mem.tail _ (List.Mem.tail _ (List.Mem.tail _ (List.Mem.tail _ (List.Mem.tail _ (List.Mem.tail _ (List.Mem.tail _ (List.Mem.tail _ (List.Mem.tail _ (List.Mem.tail _ (List.Mem.tail _ (List.Mem.tail _ (List.Mem.tail _ (List.Mem.tail _ (List.Mem.tail _ (List.Mem.tail _ (List.Mem.tail _ (List.Mem.tail _ (List.Mem.tail _ (List.Mem.tail _ (List.Mem.tail _ (List.Mem.tail _ (List.Mem.tail _ (List.Mem.tail _ (List.Mem.tail _ (List.Mem.tail _ (List.Mem.tail _ (List.Mem.head _))))))))))))))))))))))))))))))))))))))))))))))))))))))))))))) ea_nil)) (by show 2 ≤ 100000; decide)) (by show 57 + 2 ≤ 1000; decide)) fun p H' _ e hp' => ?_
    exact k p _ (ex14.trans e) hp'
end
end Far
namespace Far
open PySem L2 Evl
section
variable {X : Cx}
/-- C(e, ..) on its way to be raised -/
theorem pmk_cl {e : Expr} {es : List Expr} {ta : TA} {p pos : Pos} {x : Str} {C : Addr} {names ps : List Str} (D : Cl X.prog X.w X.K X.mg X.base x C names ps) (hr : Room 2 X.A) (ha : PA X (e :: es) ta) (hg : Gl X x := by rfl)
    (hdb : (x == ("__debug__" : Str)) = false := by decide) (he : starEach (e :: es) X.env = (false, eval e X.env) :: starEach es X.env := by rfl) (hpl : (backTo pos (starEach es X.env)).any (·.1) = false := by rfl) :
    PMk X (.Call (.Name x p) (e :: es) [] pos) (tMkO C (spX C names) [] ta) := by
  obtain ⟨fI, fd, iC, tI, F1, hb⟩ := D.made
  exact pmk_oex D.t.o iC tI F1 hr hb .nil pass0 hg D.gC ha hdb he hpl
/-- isinstance(e, c), e the exception that the suite holds, with a dict of its own -/
def rIsD (K : PySem.W.Frag) (a : Addr) (cls : Value) (d : Option Addr) : List V → Hp → VK → Prop := fun xs H Q => ∃ (C dd : Addr) (fs : List (Str × V)) (c : V) (u : Value) (b : Bool), xs = [.ref a, c] ∧ cls = .ref C ∧ d = some dd ∧ H dd = some (.xd fs) ∧ ClsV c u ∧ ExT K C ∧ PySem.W.kitOne K (.ref C) u = some b ∧ Q (.bl b) H
theorem call_isD {a : Addr} {oe : Obj} {cls : Value} {d : Option Addr} {pn : List (Addr × Obj)} (hz : Zc cls d oe) (hf : ∃ vs, oe.data = .fields vs) : CallR (X.suite a ((a, oe) :: pn)) (.builtin "isinstance") (rIsD X.K a cls d) := by
  intro pins s σ H xs us Q I r h
  obtain ⟨C, dd, fs, c, u, b, rfl, ec, ed, hd, kc, T, e, q⟩ := h
  subst ec
  subst ed
  obtain ⟨u1, u2, rfl, r1, r2⟩ := vals2 r
  obtain rfl : u1 = Value.ref a := r1
  have e2 := kc.eq r2
  subst e2
  obtain ⟨ha, _⟩ := I.pin (a, oe) (List.mem_append_left _ List.mem_cons_self)
  obtain ⟨vs, hv⟩ := hf
  have hx : ObjOk X.prog X.w H s.heap dd (.xd fs) := I.hok dd _ hd
  obtain ⟨mA, hns, hr⟩ := hx
  obtain ⟨od, hod, hl⟩ := lookIn_ns hns
  have J : PySem.W.InstAt s.heap a oe C (some od) := ⟨ha, hz.1, by unfold PySem.W.notCls; rw [hv] <;> rfl, by rw [hz.2]; exact hod⟩
  exact PySem.W.kia_one (kit_some T) I.kIn J e (fun z => nomatch z) fun tk => ⟨.bl b, H, I.tok tk, rfl, q⟩
end
/-- what the law asks of the classes, once for all -/
structure Kits (K : PySem.W.Frag) (cs : Cs) : Prop where
  nd : (clsList cs).Nodup
  each : ∀ C ∈ clsList cs, ∀ D ∈ clsList cs, PySem.W.kitOne K (.ref C) (.ref D) = some (decide (C = D))
  held : ∀ C ∈ clsList cs, PySem.W.kitOne K (.ref C) (.ref cs.HeldError) = some true
  value : ∀ C ∈ clsList cs, PySem.W.kitOne K (.ref C) (.type "ValueError") = some true
  caught : PySem.W.exmOne K (.ref cs.NoMode) (.ref cs.HeldError) = some true
section
variable {P : Program} {w : World} {K : PySem.W.Frag} {mg : Str → Option Value} {base : Heap}
def spRaised : Sp := fun vs H Q _ => ∃ i : Int, vs = [.int i] ∧ ∀ H', Q (.bl true) H'
abbrev s_raised : Stmt := topS 70
abbrev N_raised : List Str := ["at", "told", "e"]
theorem sc_raised : FnScope N_raised ["at"] (defScope s_raised) := ⟨rfl, rfl, rfl, by decide +kernel, rfl, by decide +kernel, by decide +kernel⟩
theorem ok_raised {cs : Cs} {f : Addr} {fd : FuncData} (F : Fun K "_law_raised" "_law_raised" s_raised f fd) (T : Bl mg) (TC : ClsAll P w K mg base cs) (gH : mg "HeldError" = some (.ref cs.HeldError)) (kt : Kits K cs) : FnOk P w K mg base CX0 3 f fd ["at"] spRaised := by
  refine F.ok sc_raised (fun vs H Q E h => ?_) (fun cdv A outer s H vs Q E hr h => ?_)
  · obtain ⟨i, rfl, _⟩ := h
    rfl
  · obtain ⟨i, rfl, k⟩ := h
    have hr2 : Room 2 _ := hr.mono (by decide)
    have xf : XfC K cs.NoMode := ⟨TC.c_NoMode.t.x.hg, TC.c_NoMode.t.x.hk, TC.c_NoMode.t.x.hs, TC.c_NoMode.t.x.hd⟩
    refine ⟨_, pss_cons (ps_set (i := 1) sc_raised.nd rfl (Or.inl rfl) pe_str) (pss_cons (ps_try_as (i := 2) rfl rfl sc_raised.nd rfl rfl ⟨rfl, by decide, .inl gH⟩ takes0
        (fun W pn xe tk _ => pss_one (ps_raise rfl tk (pmk_cl TC.c_NoMode hr2 (pa_cons (pv 0) pa_nil))))
        (fun a oe cls d pn hz hf => pss_one (ps_set (i := 1) sc_raised.nd rfl (Or.inl rfl) (pe_and (pe_callB (call_isD hz hf) (by rfl) T.b_isinstance (by decide +kernel) (pa_cons (pv 2) (pa_cons (pe_glob (v := .ref cs.NoMode) rfl TC.c_NoMode.gC rfl) pa_nil)))
          (pe_one (pe_cmpR op_eq (pe_xf xf (TC.c_NoMode.no _ (List.Mem.head _)) hz hf (pv 2)) (pv 0) (nomark _)))))))
      (pss_one (ps_ret (pe_cmpR op_is_bl (pv 1) pe_bl (nomark _))))), ?_⟩
    refine ⟨_, rfl, (by show 1 ≤ 1000; decide), fun a ha => ⟨a, [.int i], rfl, rfl, upd_same, fun d fs H' hd h1 h2 h3 h4 => ⟨rfl, d, fs, h1, h2, ?_, ?_⟩⟩⟩
    · have nda : d ≠ a := fun z => by
        rw [z, upd_same] at hd
        cases hd
      rw [upd_ne nda] at hd
      exact hd
    · have hl : fs.lookup ("mode" : Str) = some (.int i) := h4 (("mode" : Str), .int i) (List.Mem.head _)
      refine ⟨true, kt.caught, fun _ a' ha' => ?_, fun q => Bool.noConfusion q⟩
      refine ⟨_, rfl, cs.NoMode, d, fs, _, _, true, rfl, rfl, rfl, upd_same, .own _, TC.c_NoMode.t, ?_, true, rfl, ?_⟩
      · have z := kt.each cs.NoMode (List.Mem.tail _ (List.Mem.tail _ (List.Mem.head _))) cs.NoMode (List.Mem.tail _ (List.Mem.tail _ (List.Mem.head _)))
        rw [decide_eq_true rfl] at z
        exact z
      · refine iteT ?_
        refine ⟨_, rfl, rfl, rfl, d, fs, _, rfl, upd_same, hl, _, rfl, rfl, ?_⟩
        refine ⟨_, rfl, true, true, ?_, rfl, ?_⟩
        · rw [decide_eq_true rfl]
        · exact k _
/-! ### the law -/
theorem data_ok (cs : Cs) (a b : Int) {x y : Str} (hx : PyData.strOk x = true) (hy : PyData.strOk y = true) : ∀ r ∈ rows_all cs a b x y, SeqAt.shaped r.2 = true ∧ PyData.eqv r.2 r.2 = true := by
  have h1 : ∀ r ∈ rows_first cs a b x y, SeqAt.shaped r.2 = true ∧ PyData.eqv r.2 r.2 = true := (all_cons ⟨by simp [SeqAt.shaped, PyData.canLay0, PyData.canLayAll0, PyData.depth, PyData.depthAll, hx, hy], by simp [PyData.eqv, PyData.eqvAll]⟩ (all_cons ⟨by simp [SeqAt.shaped, PyData.canLay0, PyData.canLayAll0, PyData.depth, PyData.depthAll, hx, hy], by simp [PyData.eqv, PyData.eqvAll]⟩ (all_cons ⟨by simp [SeqAt.shaped, PyData.canLay0, PyData.canLayAll0, PyData.depth, PyData.depthAll, hx, hy], by simp [PyData.eqv, PyData.eqvAll]⟩ (all_cons ⟨by simp [SeqAt.shaped, PyData.canLay0, PyData.canLayAll0, PyData.depth, PyData.depthAll, hx, hy], by simp [PyData.eqv, PyData.eqvAll]⟩ (all_cons ⟨by simp [SeqAt.shaped, PyData.canLay0, PyData.canLayAll0, PyData.depth, PyData.depthAll, hx, hy], by simp [PyData.eqv, PyData.eqvAll]⟩ (all_cons ⟨by simp [SeqAt.shaped, PyData.canLay0, PyData.canLayAll0, PyData.depth, PyData.depthAll, hx, hy], by simp [PyData.eqv, PyData.eqvAll]⟩ (all_cons ⟨by simp [SeqAt.shaped, PyData.canLay0, PyData.canLayAll0, PyData.depth, PyData.depthAll, hx, hy], by simp [PyData.eqv, PyData.eqvAll]⟩ (all_cons ⟨by simp [SeqAt.shaped, PyData.canLay0, PyData.canLayAll0, PyData.depth, PyData.depthAll, hx, hy], by simp [PyData.eqv, PyData.eqvAll]⟩ (all_cons ⟨by simp [SeqAt.shaped, PyData.canLay0, PyData.canLayAll0, PyData.depth, PyData.depthAll, hx, hy], by simp [PyData.eqv, PyData.eqvAll]⟩ (all_cons ⟨by simp [SeqAt.shaped, PyData.canLay0, PyData.canLayAll0, PyData.depth, PyData.depthAll, hx, hy], by simp [PyData.eqv, PyData.eqvAll]⟩ (all_cons ⟨by simp [SeqAt.shaped, PyData.canLay0, PyData.canLayAll0, PyData.depth, PyData.depthAll, hx, hy], by simp [PyData.eqv, PyData.eqvAll]⟩ (all_cons ⟨by simp [SeqAt.shaped, PyData.canLay0, PyData.canLayAll0, PyData.depth, PyData.depthAll, hx, hy], by simp [PyData.eqv, PyData.eqvAll]⟩ (all_cons ⟨by simp [SeqAt.shaped, PyData.canLay0, PyData.canLayAll0, PyData.depth, PyData.depthAll, hx, hy], by simp [PyData.eqv, PyData.eqvAll]⟩ (all_cons ⟨by simp [SeqAt.shaped, PyData.canLay0, PyData.canLayAll0, PyData.depth, PyData.depthAll, hx, hy], by simp [PyData.eqv, PyData.eqvAll]⟩ (all_cons ⟨by simp [SeqAt.shaped, PyData.canLay0, PyData.canLayAll0, PyData.depth, PyData.depthAll, hx, hy], by simp [PyData.eqv, PyData.eqvAll]⟩ (all_cons ⟨by simp [SeqAt.shaped, PyData.canLay0, PyData.canLayAll0, PyData.depth, PyData.depthAll, hx, hy], by simp [PyData.eqv, PyData.eqvAll]⟩ (all_cons ⟨by simp [SeqAt.shaped, PyData.canLay0, PyData.canLayAll0, PyData.depth, PyData.depthAll, hx, hy], by simp [PyData.eqv, PyData.eqvAll]⟩ all_nil)))))))))))))))))
  have h2 : ∀ r ∈ rows_second cs a b x y, SeqAt.shaped r.2 = true ∧ PyData.eqv r.2 r.2 = true := (all_cons ⟨by simp [SeqAt.shaped, PyData.canLay0, PyData.canLayAll0, PyData.depth, PyData.depthAll, hx, hy], by simp [PyData.eqv, PyData.eqvAll]⟩ (all_cons ⟨by simp [SeqAt.shaped, PyData.canLay0, PyData.canLayAll0, PyData.depth, PyData.depthAll, hx, hy], by simp [PyData.eqv, PyData.eqvAll]⟩ (all_cons ⟨by simp [SeqAt.shaped, PyData.canLay0, PyData.canLayAll0, PyData.depth, PyData.depthAll, hx, hy], by simp [PyData.eqv, PyData.eqvAll]⟩ (all_cons ⟨by simp [SeqAt.shaped, PyData.canLay0, PyData.canLayAll0, PyData.depth, PyData.depthAll, hx, hy], by simp [PyData.eqv, PyData.eqvAll]⟩ (all_cons ⟨by simp [SeqAt.shaped, PyData.canLay0, PyData.canLayAll0, PyData.depth, PyData.depthAll, hx, hy], by simp [PyData.eqv, PyData.eqvAll]⟩ (all_cons ⟨by simp [SeqAt.shaped, PyData.canLay0, PyData.canLayAll0, PyData.depth, PyData.depthAll, hx, hy], by simp [PyData.eqv, PyData.eqvAll]⟩ (all_cons ⟨by simp [SeqAt.shaped, PyData.canLay0, PyData.canLayAll0, PyData.depth, PyData.depthAll, hx, hy], by simp [PyData.eqv, PyData.eqvAll]⟩ (all_cons ⟨by simp [SeqAt.shaped, PyData.canLay0, PyData.canLayAll0, PyData.depth, PyData.depthAll, hx, hy], by simp [PyData.eqv, PyData.eqvAll]⟩ (all_cons ⟨by simp [SeqAt.shaped, PyData.canLay0, PyData.canLayAll0, PyData.depth, PyData.depthAll, hx, hy], by simp [PyData.eqv, PyData.eqvAll]⟩ (all_cons ⟨by simp [SeqAt.shaped, PyData.canLay0, PyData.canLayAll0, PyData.depth, PyData.depthAll, hx, hy], by simp [PyData.eqv, PyData.eqvAll]⟩ (all_cons ⟨by simp [SeqAt.shaped, PyData.canLay0, PyData.canLayAll0, PyData.depth, PyData.depthAll, hx, hy], by simp [PyData.eqv, PyData.eqvAll]⟩ (all_cons ⟨by simp [SeqAt.shaped, PyData.canLay0, PyData.canLayAll0, PyData.depth, PyData.depthAll, hx, hy], by simp [PyData.eqv, PyData.eqvAll]⟩ (all_cons ⟨by simp [SeqAt.shaped, PyData.canLay0, PyData.canLayAll0, PyData.depth, PyData.depthAll, hx, hy], by simp [PyData.eqv, PyData.eqvAll]⟩ (all_cons ⟨by simp [SeqAt.shaped, PyData.canLay0, PyData.canLayAll0, PyData.depth, PyData.depthAll, hx, hy], by simp [PyData.eqv, PyData.eqvAll]⟩ (all_cons ⟨by simp [SeqAt.shaped, PyData.canLay0, PyData.canLayAll0, PyData.depth, PyData.depthAll, hx, hy], by simp [PyData.eqv, PyData.eqvAll]⟩ (all_cons ⟨by simp [SeqAt.shaped, PyData.canLay0, PyData.canLayAll0, PyData.depth, PyData.depthAll, hx, hy], by simp [PyData.eqv, PyData.eqvAll]⟩ all_nil))))))))))))))))
  have h3 : ∀ r ∈ rows_third cs a b x y, SeqAt.shaped r.2 = true ∧ PyData.eqv r.2 r.2 = true := (all_cons ⟨by simp [SeqAt.shaped, PyData.canLay0, PyData.canLayAll0, PyData.depth, PyData.depthAll, hx, hy], by simp [PyData.eqv, PyData.eqvAll]⟩ (all_cons ⟨by simp [SeqAt.shaped, PyData.canLay0, PyData.canLayAll0, PyData.depth, PyData.depthAll, hx, hy], by simp [PyData.eqv, PyData.eqvAll]⟩ (all_cons ⟨by simp [SeqAt.shaped, PyData.canLay0, PyData.canLayAll0, PyData.depth, PyData.depthAll, hx, hy], by simp [PyData.eqv, PyData.eqvAll]⟩ (all_cons ⟨by simp [SeqAt.shaped, PyData.canLay0, PyData.canLayAll0, PyData.depth, PyData.depthAll, hx, hy], by simp [PyData.eqv, PyData.eqvAll]⟩ (all_cons ⟨by simp [SeqAt.shaped, PyData.canLay0, PyData.canLayAll0, PyData.depth, PyData.depthAll, hx, hy], by simp [PyData.eqv, PyData.eqvAll]⟩ (all_cons ⟨by simp [SeqAt.shaped, PyData.canLay0, PyData.canLayAll0, PyData.depth, PyData.depthAll, hx, hy], by simp [PyData.eqv, PyData.eqvAll]⟩ (all_cons ⟨by simp [SeqAt.shaped, PyData.canLay0, PyData.canLayAll0, PyData.depth, PyData.depthAll, hx, hy], by simp [PyData.eqv, PyData.eqvAll]⟩ (all_cons ⟨by simp [SeqAt.shaped, PyData.canLay0, PyData.canLayAll0, PyData.depth, PyData.depthAll, hx, hy], by simp [PyData.eqv, PyData.eqvAll]⟩ (all_cons ⟨by simp [SeqAt.shaped, PyData.canLay0, PyData.canLayAll0, PyData.depth, PyData.depthAll, hx, hy], by simp [PyData.eqv, PyData.eqvAll]⟩ (all_cons ⟨by simp [SeqAt.shaped, PyData.canLay0, PyData.canLayAll0, PyData.depth, PyData.depthAll, hx, hy], by simp [PyData.eqv, PyData.eqvAll]⟩ (all_cons ⟨by simp [SeqAt.shaped, PyData.canLay0, PyData.canLayAll0, PyData.depth, PyData.depthAll, hx, hy], by simp [PyData.eqv, PyData.eqvAll]⟩ (all_cons ⟨by simp [SeqAt.shaped, PyData.canLay0, PyData.canLayAll0, PyData.depth, PyData.depthAll, hx, hy], by simp [PyData.eqv, PyData.eqvAll]⟩ (all_cons ⟨by simp [SeqAt.shaped, PyData.canLay0, PyData.canLayAll0, PyData.depth, PyData.depthAll, hx, hy], by simp [PyData.eqv, PyData.eqvAll]⟩ (all_cons ⟨by simp [SeqAt.shaped, PyData.canLay0, PyData.canLayAll0, PyData.depth, PyData.depthAll, hx, hy], by simp [PyData.eqv, PyData.eqvAll]⟩ (all_cons ⟨by simp [SeqAt.shaped, PyData.canLay0, PyData.canLayAll0, PyData.depth, PyData.depthAll, hx, hy], by simp [PyData.eqv, PyData.eqvAll]⟩ (all_cons ⟨by simp [SeqAt.shaped, PyData.canLay0, PyData.canLayAll0, PyData.depth, PyData.depthAll, hx, hy], by simp [PyData.eqv, PyData.eqvAll]⟩ (all_cons ⟨by simp [SeqAt.shaped, PyData.canLay0, PyData.canLayAll0, PyData.depth, PyData.depthAll, hx, hy], by simp [PyData.eqv, PyData.eqvAll]⟩ (all_cons ⟨by simp [SeqAt.shaped, PyData.canLay0, PyData.canLayAll0, PyData.depth, PyData.depthAll, hx, hy], by simp [PyData.eqv, PyData.eqvAll]⟩ (all_cons ⟨by simp [SeqAt.shaped, PyData.canLay0, PyData.canLayAll0, PyData.depth, PyData.depthAll, hx, hy], by simp [PyData.eqv, PyData.eqvAll]⟩ (all_cons ⟨by simp [SeqAt.shaped, PyData.canLay0, PyData.canLayAll0, PyData.depth, PyData.depthAll, hx, hy], by simp [PyData.eqv, PyData.eqvAll]⟩ (all_cons ⟨by simp [SeqAt.shaped, PyData.canLay0, PyData.canLayAll0, PyData.depth, PyData.depthAll, hx, hy], by simp [PyData.eqv, PyData.eqvAll]⟩ (all_cons ⟨by simp [SeqAt.shaped, PyData.canLay0, PyData.canLayAll0, PyData.depth, PyData.depthAll, hx, hy], by simp [PyData.eqv, PyData.eqvAll]⟩ (all_cons ⟨by simp [SeqAt.shaped, PyData.canLay0, PyData.canLayAll0, PyData.depth, PyData.depthAll, hx, hy], by simp [PyData.eqv, PyData.eqvAll]⟩ (all_cons ⟨by simp [SeqAt.shaped, PyData.canLay0, PyData.canLayAll0, PyData.depth, PyData.depthAll, hx, hy], by simp [PyData.eqv, PyData.eqvAll]⟩ (all_cons ⟨by simp [SeqAt.shaped, PyData.canLay0, PyData.canLayAll0, PyData.depth, PyData.depthAll, hx, hy], by simp [PyData.eqv, PyData.eqvAll]⟩ (all_cons ⟨by simp [SeqAt.shaped, PyData.canLay0, PyData.canLayAll0, PyData.depth, PyData.depthAll, hx, hy], by simp [PyData.eqv, PyData.eqvAll]⟩ all_nil))))))))))))))))))))))))))
  intro r hr
  rcases List.mem_append.mp hr with hr | hr
  · rcases List.mem_append.mp hr with hr | hr
    · exact h1 r hr
    · exact h2 r hr
  · exact h3 r hr
def spLaw (K : PySem.W.Frag) : Sp := fun vs H Q _ => ∃ (a : Addr) (ns : List Int), vs = [.ref a] ∧ SqL K H a (ns.map V.int) ∧ ns.length ≤ 63 ∧ ∀ H', Q (.bl true) H'
abbrev s_law : Stmt := topS 71
abbrev N_law : List Str := ["script", "hand", "at", "to", "word", "name", "found", "place", "error", "told", "due", "classes", "k"]
theorem sc_law : FnScope N_law ["script"] (defScope s_law) := ⟨rfl, rfl, rfl, by decide +kernel, rfl, by decide +kernel, by decide +kernel⟩
theorem ok_law {cs : Cs} {f : Addr} {fd : FuncData} (F : Fun K "law" "law" s_law f fd) (T : Bl mg) (TC : ClsAll P w K mg base cs) (gH : mg "HeldError" = some (.ref cs.HeldError)) (kt : Kits K cs)
    (D_law_hand : Def P w K mg base CX0 1 "_law_hand" ["script"] (spHand K)) (D_law_draw : Def P w K mg base CX0 2 "_law_draw" ["hand", "many"] spDraw) (D_law_name : Def P w K mg base CX0 3 "_law_name" ["hand"] spName)
    (D_law_first : Def P w K mg base CX0 3 "_law_first" ["at", "to", "word", "name"] (spRows K (rows_first cs))) (D_law_second : Def P w K mg base CX0 3 "_law_second" ["at", "to", "word", "name"] (spRows K (rows_second cs)))
    (D_law_third : Def P w K mg base CX0 3 "_law_third" ["at", "to", "word", "name"] (spRows K (rows_third cs))) (D_law_classes : Def P w K mg base CX0 1 "_law_classes" ["e"] (spClasses K cs)) (D_law_raised : Def P w K mg base CX0 3 "_law_raised" ["at"] spRaised) :
    FnOk P w K mg base CX0 4 f fd ["script"] (spLaw K) := by
  refine F.ok sc_law (fun vs H Q E h => ?_) (fun cdv A outer s H vs Q E hr h => ?_)
  · obtain ⟨a, ns, rfl, _⟩ := h
    rfl
  · obtain ⟨a, ns, rfl, hS, hl, q⟩ := h
    have hu64 : _ + 64 < cLine := hr.units
    refine ⟨_, (pss_cons (ps_set (i := 1) sc_law.nd rfl (Or.inl rfl) (pe_dcall D_law_hand (hr.mono (by decide)) pass0 (pa_cons (pv 0) pa_nil)))
    (pss_cons (ps_set (i := 2) sc_law.nd rfl (Or.inl rfl) (pe_dcall D_law_draw (hr.mono (by decide)) pass0 (pa_cons (pv 1) (pa_cons (pe_op op_pow pe_int pe_int) pa_nil))))
    (pss_cons (ps_set (i := 3) sc_law.nd rfl (Or.inl rfl) (pe_op op_add (pe_op op_add (pv 2) pe_int) (pe_dcall D_law_draw (hr.mono (by decide)) pass0 (pa_cons (pv 1) (pa_cons (pe_op op_pow pe_int pe_int) pa_nil)))))
    (Evl.pss_cut (ps_if (pt_cmpR op_eq (pe_dcall D_law_draw (hr.mono (by decide)) pass0 (pa_cons (pv 1) (pa_cons pe_int pa_nil))) pe_int (nomark _)) (pss_one (ps_par (i := 2) (j := 3) rfl sc_law.nd rfl rfl (by decide) rfl rfl (pa_cons (pv 3) (pa_cons (pe_op op_sub (pe_un un_neg (pv 2)) pe_int) pa_nil)) (by rfl))) pss_nil)
    (pss_cons (ps_set (i := 4) sc_law.nd rfl (Or.inl rfl) (pe_dcall D_law_name (hr.mono (by decide)) pass0 (pa_cons (pv 1) pa_nil)))
    (pss_cons (ps_set (i := 5) sc_law.nd rfl (Or.inl rfl) (pe_op op_add_str (pv 4) (pe_dcall D_law_name (hr.mono (by decide)) pass0 (pa_cons (pv 1) pa_nil))))
    (pss_cons (ps_set (i := 6) sc_law.nd rfl (Or.inl rfl) (pe_op op_cat (pe_op op_cat (pe_dcall D_law_first (hr.mono (by decide)) pass0 (pa_cons (pv 2) (pa_cons (pv 3) (pa_cons (pv 4) (pa_cons (pv 5) pa_nil))))) (pe_dcall D_law_second (hr.mono (by decide)) pass0 (pa_cons (pv 2) (pa_cons (pv 3) (pa_cons (pv 4) (pa_cons (pv 5) pa_nil)))))) (pe_dcall D_law_third (hr.mono (by decide)) pass0 (pa_cons (pv 2) (pa_cons (pv 3) (pa_cons (pv 4) (pa_cons (pv 5) pa_nil)))))))
    (pss_cons (ps_for PassesOwn.never rfl (pi_range1 rfl T.b_range (pa_cons (pe_callB call_len_seq (by rfl) T.b_len (by decide +kernel) (pa_cons (pv 6) pa_nil)) pa_nil)) (pg_name (i := 7) sc_law.nd rfl (Or.inr rfl)) (pss_cons (ps_asg (pe_ix (r := rIxL K) ix_list (pv 6) (pv 7) (fun _ _ => rfl)) (pg_tup rfl (pgs_cons (pg_name (i := 8) sc_law.nd rfl (Or.inl rfl)) (pgs_cons (pg_name (i := 9) sc_law.nd rfl (Or.inl rfl)) (pgs_cons (pg_name (i := 10) sc_law.nd rfl (Or.inl rfl)) pgs_nil)))) rfl)
    (pss_cons (ps_if (PW.pt (pw_or (pt_not (pt_val (pe_callB call_isO (by rfl) T.b_isinstance (by decide +kernel) (pa_cons (pv 8) (pa_cons (pe_glob (v := .ref cs.HeldError) rfl gH rfl) pa_nil))))) (pw_or (pt_not (pt_val (pe_callB call_isO (by rfl) T.b_isinstance (by decide +kernel) (pa_cons (pv 8) (pa_cons (pe_bltn (v := .ty "ValueError") (by rfl) T.b_ValueError (by decide +kernel) rfl) pa_nil))))) (pw_or1 (pt_cmpR (op_neD hu64) (pv 9) (pv 10) (nomark _)))))) (pss_one (ps_ret pe_bl)) pss_nil)
    (pss_cons (ps_set (i := 11) sc_law.nd rfl (Or.inr rfl) (pe_dcall D_law_classes (hr.mono (by decide)) pass0 (pa_cons (pv 8) pa_nil)))
    (pss_one (ps_if (PW.pt (pw_or (pt_cmpR op_ne (pe_callB call_len_seq (by rfl) T.b_len (by decide +kernel) (pa_cons (pv 11) pa_nil)) (pe_callB call_len_seq (by rfl) T.b_len (by decide +kernel) (pa_cons (pv 6) pa_nil)) (nomark _)) (pw_or1 (pt_val (pe_callB (cr_any rfl) (by rfl) T.b_any (by decide +kernel) (pa_cons (pe_lc (own := [("k", 12)]) (g := gName 12) rfl sc_law.nd (pi_range1 rfl T.b_range (pa_cons (pe_callB call_len_seq (by rfl) T.b_len (by decide +kernel) (pa_cons (pv 11) pa_nil)) pa_nil)) (blkOk_by (own := [("k", 12)]) (N := N_law) (sc := defScope s_law) (by decide +kernel)) (fun _ _ _ _ _ => pg_name (i := 12) sc_law.nd rfl (Or.inl rfl)) (fun _ _ _ _ _ => pts_nil) (fun _ _ _ _ _ => (pe_cmpR op_ne (pe_ix (r := rIxL K) ix_list (pv 11) (pv 12) (fun _ _ => rfl)) (pe_cmpR op_eq (pv 12) (pv 7) (nomark _)) (nomark _)))) pa_nil)))))) (pss_one (ps_ret pe_bl)) pss_nil))))))
    (pss_one (ps_ret (pe_dcall D_law_raised (hr.mono (by decide)) pass0 (pa_cons (pv 2) pa_nil)))))))))))), ?_⟩
    refine ⟨_, rfl, a, ns, rfl, hS, hl, fun H1 h c ms sm nh nc hh => ?_⟩
    refine ⟨_, rfl, _, _, rfl, rfl, ⟨by decide, by decide, by decide⟩, h, c, ms, _, rfl, by decide, by decide, hh, fun r1 H2 _ _ hh2 he2 => ?_⟩
    refine ⟨_, rfl, _, _, rfl, rfl, _, rfl, _, _, rfl, rfl, ⟨by decide, by decide, by decide⟩, h, c, ms, _, rfl, by decide, by decide, hh2, fun r2 H3 _ _ hh3 he3 => ?_⟩
    refine ⟨_, _, rfl, rfl, ?_⟩
    refine ⟨fun σ' H' => ∃ at' to' : Int, σ' = [some (.ref a), some (.ref h), some (.int at'), some (.int to'), none, none, none, none, none, none, none, none, none] ∧ HandOk H' h c ms, ?_, ?_⟩
    · refine ⟨_, rfl, h, c, ms, _, rfl, by decide, by decide, hh3, fun r3 H4 _ _ hh4 he4 => ?_⟩
      refine ⟨rfl, _, rfl, ?_⟩
      refine ite2 (fun _ => ?_) (fun _ => ?_)
      · refine ⟨_, rfl, _, rfl, _, rfl, _, _, rfl, rfl, _, _, rfl, ?_⟩
        exact ⟨_, _, rfl, hh4⟩
      · exact ⟨_, _, rfl, hh4⟩
    · clear hh hh2 hh3 he2 he3
      rintro σ' H4 ⟨at', to', rfl, hh4⟩
      refine ⟨_, rfl, h, c, ms, rfl, hh4, fun x H5 hx hxo hh5 _ => ?_⟩
      refine ⟨_, rfl, _, rfl, h, c, ms, rfl, hh5, fun y H6 hy hyo hh6 _ => ?_⟩
      refine ⟨_, _, rfl, rfl, Nat.le_trans (show x.length + y.length ≤ 1000 by omega) (by decide), ?_⟩
      have hyo' : PyData.strOk (x ++ y) = true := by
        show (x.cps ++ y.cps).all (· < 0x110000) = true
        have h1 : x.cps.all (· < 0x110000) = true := hxo
        have h2 : y.cps.all (· < 0x110000) = true := hyo
        rw [Array.all_append, h1, h2]
        rfl
      have dok := data_ok cs at' to' hxo hyo'
      generalize x ++ y = nm at hyo' dok
      refine ⟨_, rfl, _, rfl, _, rfl, _, rfl, at', to', x, nm, rfl, fun p1 us1 H7 e7 hp1 hr1 => ?_⟩
      refine ⟨_, rfl, _, rfl, _, rfl, _, rfl, at', to', x, nm, rfl, fun p2 us2 H8 e8 hp2 hr2 => ?_⟩
      have l1 : us1.length = 17 := rows_len hr1
      have l2 : us2.length = 16 := rows_len hr2
      refine ⟨p1, p2, us1, us2, rfl, rfl, e8 _ _ hp1, hp2, sz_of (by omega), fun m hm => ?_⟩
      refine ⟨_, rfl, _, rfl, _, rfl, _, rfl, at', to', x, nm, rfl, fun p3 us3 H9 e9 hp3 hr3 => ?_⟩
      have l3 : us3.length = 26 := rows_len hr3
      refine ⟨m, p3, us1 ++ us2, us3, rfl, rfl, e9 _ _ upd_same, hp3, sz_of (by rw [List.length_append]; omega), fun pF hF => ?_⟩
      have hrows : RowsAt K (upd H9 pF (.lst (us1 ++ us2 ++ us3))) (us1 ++ us2 ++ us3) (rows_all cs at' to' x nm) :=
        rows_grow (Ex.new hF) (rows_app (rows_app (rows_grow (e8.trans ((Ex.new hm).trans e9)) hr1) (rows_grow ((Ex.new hm).trans e9) hr2)) hr3)
      have hfound : (upd H9 pF (.lst (us1 ++ us2 ++ us3))) pF = some (.lst (us1 ++ us2 ++ us3)) := upd_same
      have lall : (us1 ++ us2 ++ us3).length = 59 := by rw [List.length_append, List.length_append]; omega
      generalize (upd H9 pF (.lst (us1 ++ us2 ++ us3))) = H0 at hrows hfound
      generalize us1 ++ us2 ++ us3 = us at hrows hfound lall
      refine ⟨_, rfl, pF, us, rfl, .inl (SqL.of hfound), _, rfl, by omega, by omega, ?_⟩
      refine for_range (lo := 0) (n := ((us.length : Nat) : Int).toNat) (fun i σ' H' => ∃ v7 v8 v9 v10 v11 v12, σ' = [some (.ref a), some (.ref h), some (.int at'), some (.int to'), some (.str x), some (.str nm), some (.ref pF), v7, v8, v9, v10, v11, v12] ∧ Ex H0 H') ⟨_, _, _, _, _, _, rfl, Ex.refl _⟩ ?_ ?_
      · rintro i σ' H' hi ⟨v7, v8, v9, v10, v11, v12, rfl, ex⟩
        have hi59 : i < 59 := by omega
        have hrl : (rows_all cs at' to' x nm).length = 59 := rfl
        obtain ⟨⟨⟨C, fds⟩, dt⟩, hri⟩ : ∃ r, (rows_all cs at' to' x nm)[i]? = some r := ⟨_, List.getElem?_eq_getElem (by rw [hrl]; exact hi59)⟩
        have hCi : (clsList cs)[i]? = some C := by
          rw [← rows_cls cs at' to' x nm, List.getElem?_map, hri]
          rfl
        have hCm : C ∈ clsList cs := List.mem_of_getElem? hCi
        have hT : ExT K C := ext_all TC C hCm
        obtain ⟨hsh, heq⟩ := dok _ (List.mem_of_getElem? hri)
        obtain ⟨v, hvi, t, e, l1', l2', rfl, ht, hX, hd1, hd2⟩ := rows_get hrows hri
        have hat : atI us ((0 : Int) + (i : Nat)) = some (.ref t) := by
          rw [Int.zero_add]
          exact atI_nat hvi
        refine ⟨_, rfl, _, rfl, pF, us, _, _, rfl, rfl, SqL.of (ex _ _ hfound), hat, ?_⟩
        refine ⟨t, _, rfl, SqT.of (ex _ _ ht), rfl, _, _, rfl, _, _, rfl, _, _, rfl, rfl, ?_⟩
        have hX' := xat_grow ex hX
        obtain ⟨fs, hfs⟩ := exc_of hX'
        refine ⟨_, rfl, e, C, fs, _, _, true, rfl, .own _, hT, hfs, kt.held C hCm, true, rfl, ?_⟩
        refine iteF ?_
        refine ⟨_, rfl, e, C, fs, _, _, true, rfl, .ty _, hT, hfs, kt.value C hCm, true, rfl, ?_⟩
        refine iteF ?_
        refine ⟨_, rfl, _, rfl, dt, dt, dp_grow ex _ _ hd1, dp_grow ex _ _ hd2, hsh, hsh, _, rfl, ?_⟩
        have heq' : PyData.eqv dt dt = true := heq
        rw [heq']
        refine iteF ?_
        refine ⟨_, rfl, e, C, fds, rfl, hX', hT, kt.each C hCm, fun p H2 e2 hp => ?_⟩
        have lcl : ((clsList cs).map fun D => V.bl (decide (C = D))).length = 59 := by
          rw [List.length_map]
          rfl
        have hgetC : ∀ k, k < 59 → ∃ D, (clsList cs)[k]? = some D ∧ ((clsList cs).map fun D => V.bl (decide (C = D)))[k]? = some (.bl (decide (C = D))) := fun k hk => by
          have hk' : k < (clsList cs).length := hk
          refine ⟨(clsList cs)[k], List.getElem?_eq_getElem hk', ?_⟩
          rw [List.getElem?_map, List.getElem?_eq_getElem hk']
          rfl
        generalize ((clsList cs).map fun D => V.bl (decide (C = D))) = bl at hp lcl hgetC
        refine ⟨_, rfl, p, bl, rfl, .inl (SqL.of hp), _, rfl, pF, us, rfl, .inl (SqL.of (e2 _ _ (ex _ _ hfound))), rfl, _, rfl, ?_⟩
        refine iteNS (by rw [lcl, lall]) ?_
        refine ⟨_, rfl, p, bl, rfl, .inl (SqL.of hp), _, rfl, by omega, by omega, fun D hD => ?_⟩
        refine lc_range (lo := 0) (n := ((bl.length : Nat) : Int).toNat) (fun k H' => Ex H2 H' ∧ H' D = some (.lst ((List.replicate k false).map V.bl))) ⟨Ex.new hD, upd_same⟩ ?_ ?_
        · rintro k H3 hk ⟨ex3, hD3⟩
          have hk59 : k < 59 := by omega
          obtain ⟨Dk, hDk, hbk⟩ := hgetC k hk59
          have hbat : atI bl ((0 : Int) + (k : Nat)) = some (.bl (decide (C = Dk))) := by
            rw [Int.zero_add]
            exact atI_nat hbk
          refine ⟨rfl, yes_turn ?_⟩
          refine ⟨_, rfl, _, rfl, p, bl, _, _, rfl, rfl, SqL.of (ex3 _ _ hp), hbat, _, rfl, _, rfl, rfl, rfl, _, hD3, ?_, ?_, ?_⟩
          · rw [List.length_map, List.length_replicate]
            exact small1000 (by omega)
          · exact fun b o hb => by
              rw [upd_ne (ne_of_none hb hD)]
              exact ex3 _ _ hb
          · have hval : (!decide (V.bl (decide (C = Dk)) = V.bl (decide (V.int ((0 : Int) + (k : Nat)) = V.int ((0 : Int) + (i : Nat)))))) = false := by
              by_cases hki : k = i
              · subst hki
                rw [hCi] at hDk
                cases hDk
                simp
              · have hne : C ≠ Dk := fun z => by
                  subst z
                  have h1 := List.getElem?_eq_some_iff.mp hCi
                  have h2 := List.getElem?_eq_some_iff.mp hDk
                  obtain ⟨a1, b1⟩ := h1
                  obtain ⟨a2, b2⟩ := h2
                  exact hki ((List.getElem_inj kt.nd).mp (b2.trans b1.symm))
                have hni : ¬ V.int ((0 : Int) + (k : Nat)) = V.int ((0 : Int) + (i : Nat)) := fun z => by
                  have z' := V.int.inj z
                  omega
                rw [decide_eq_false hne, decide_eq_false hni, decide_eq_true rfl]
                rfl
            rw [hval, upd_same, List.replicate_succ', List.map_append]
            rfl
        · rintro H3 ⟨ex3, hD3⟩
          refine ⟨D, _, rfl, SqL.of hD3, false, ?_, ?_⟩
          · have hany : ∀ n : Nat, (List.replicate n false).any id = false := fun n => by
              induction n with
              | zero => rfl
              | succ n ih =>
                rw [List.replicate_succ, List.any_cons, ih]
                rfl
            rw [hany]
          · refine iteF ?_
            exact ⟨_, _, _, _, _, _, rfl, ex.trans (e2.trans ex3)⟩
      · rintro σ' H' ⟨v7, v8, v9, v10, v11, v12, rfl, ex⟩
        exact ⟨_, rfl, at', rfl, fun H'' => q H''⟩
end
end Far
namespace Far
open PySem L2 Evl
structure Core (K : PySem.W.Frag) (C H : Addr) : Prop where
  cls : ∃ nm q N bs sn sub ab col dd k0 k1 k2 k3 k5, K.lookup C = some (excClassObj nm q C N bs (.ref H :: veL) true sn sub ab col dd k0 k1 k2 k3 k5 "ValueError.__new__")
theorem core_ok {K : PySem.W.Frag} {C H : Addr} (h : coreB K C H = true) : Core K C H := by
  unfold coreB at h
  split at h
  · rename_i dd cd sl hK
    simp only [Bool.and_eq_true, beq_iff_eq, Bool.not_eq_true'] at h
    obtain ⟨⟨⟨hs, hm⟩, hd⟩, hdel⟩ := h
    split at hs
    · rename_i k0 k1 k2 k3 n k5 hsl
      rw [beq_iff_eq] at hs
      subst hs
      obtain ⟨nm, bs, mro, ns, qn, hdc, sn, sub, ab, col, del⟩ := cd
      dsimp only at hm hd hdel
      subst hm hd hdel
      have e : sl = #[k0, k1, k2, k3, some (.builtin "ValueError.__new__"), k5] := by
        obtain ⟨l⟩ := sl
        exact congrArg Array.mk hsl
      subst e
      exact ⟨nm, qn, ns, bs, sn, sub, ab, col, dd, k0, k1, k2, k3, k5, hK⟩
    · cases hs
  · cases h
section
variable {K : PySem.W.Frag} {C H : Addr}
theorem Core.clsIn (c : Core K C H) : ∃ cd, PySem.W.clsIn K C = some cd ∧ cd.mro = .ref C :: .ref H :: veL ∧ cd.hasDict = true := by
  obtain ⟨nm, q, N, bs, sn, sub, ab, col, dd, k0, k1, k2, k3, k5, hC⟩ := c.cls
  refine ⟨{ name := nm, bases := bs, mro := .ref C :: .ref H :: veL, ns := N, qualname := q, hasDict := true, slotNames := sn, subclasses := sub, abstract := ab, collection := col, hasDel := false }, ?_, rfl, rfl⟩
  unfold PySem.W.clsIn
  rw [hC]
theorem Core.mro (c : Core K C H) (u : Value) : PySem.W.subIn K (.ref C) u = some ((Value.ref C :: .ref H :: veL).contains u) := by
  obtain ⟨cd, h1, h2, _⟩ := c.clsIn
  show PySem.W.mroIn K C u = _
  unfold PySem.W.mroIn
  rw [h1, Option.bind_some, h2]
  rfl
theorem Core.ty (c : Core K C H) : PySem.W.typeIn K (.ref C) = some (.type "type") := by
  obtain ⟨nm, q, N, bs, sn, sub, ab, col, dd, k0, k1, k2, k3, k5, hC⟩ := c.cls
  show (K.lookup C).map (·.cls) = _
  rw [hC]
  rfl
theorem kit_of_sub {K : PySem.W.Frag} {t : Value} {D : Addr} (h1 : (PySem.W.clsIn K D).isSome = true) (h2 : PySem.W.typeIn K (.ref D) = some (.type "type")) : PySem.W.kitCls K t (.ref D) = PySem.W.subIn K t (.ref D) := by
  have e : ((PySem.W.clsIn K D).isSome && PySem.W.typeIn K (.ref D) == some (.type "type")) = true := by
    rw [h1, h2]
    decide +kernel
  show (if ((PySem.W.clsIn K D).isSome && PySem.W.typeIn K (.ref D) == some (.type "type")) = true then PySem.W.subIn K t (.ref D) else none) = _
  rw [if_pos e]
theorem Core.some (c : Core K C H) : (PySem.W.clsIn K C).isSome = true := by
  obtain ⟨cd, h1, _⟩ := c.clsIn
  rw [h1]
  rfl
theorem ext_ok (c : Core K C H) (m : moreB K C = true) (hn : PySem.W.specialIn K (.builtin "object.__class__") "__get__" = Option.some (Option.some (.builtin "getset_descriptor.__get__"))) (ht : PySem.W.takesIn K (.builtin "object.__class__") = Option.some true) : ExT K C := by
  unfold moreB at m
  simp only [Bool.and_eq_true, beq_iff_eq] at m
  obtain ⟨⟨⟨⟨m1, m2⟩, m3⟩, m4⟩, m5⟩ := m
  have ex : PySem.W.subIn K (.ref C) (.type "BaseException") = Option.some true := by
    rw [c.mro]
    have z : (Value.ref C :: .ref H :: veL).contains (.type "BaseException") = veL.contains (.type "BaseException") := rfl
    rw [z]
    decide +kernel
  have ob : PySem.W.mroIn K C (.type "object") = Option.some true := by
    have z := c.mro (.type "object")
    have z2 : (Value.ref C :: .ref H :: veL).contains (.type "object") = veL.contains (.type "object") := rfl
    rw [z2] at z
    exact z.trans (by decide +kernel)
  have dc : PySem.W.hasDictIn K C = true := by
    obtain ⟨cd, h1, _, h3⟩ := c.clsIn
    unfold PySem.W.hasDictIn
    rw [h1]
    exact h3
  obtain ⟨nm, q, N, bs, sn, sub, ab, col, dd, k0, k1, k2, k3, k5, hC⟩ := c.cls
  refine ⟨⟨⟨nm, q, N, bs, .ref H :: veL, sn, sub, ab, col, dd, k0, k1, k2, k3, k5, hC, rfl⟩, m1, ex, c.ty, m2⟩, ⟨m3, m4, ex, dc, m5, hn, ht, ob⟩, ?_⟩
  rw [kit_of_sub c.some c.ty, c.mro]
  have z : (Value.ref C :: .ref H :: veL).contains (.ref C) = true := by
    rw [List.contains_cons, beq_self_eq_true]
    rfl
  rw [z]
theorem no_ok {names : List Str} (h : noB K C names = true) : ∀ n ∈ names, PySem.W.findIn K (.ref C) n = Option.some none := fun n hn => by
  unfold noB at h
  rw [List.all_eq_true] at h
  exact beq_iff_eq.mp (h n hn)
theorem kit_two {D : Addr} (c : Core K C H) (d : Core K D H) (hD : D ≠ H) : PySem.W.kitOne K (.ref C) (.ref D) = Option.some (decide (C = D)) := by
  unfold PySem.W.kitOne
  by_cases e : C = D
  · subst e
    rw [if_pos (beq_self_eq_true _), decide_eq_true rfl]
  · have e1 : ¬ ((Value.ref C == Value.ref D) = true) := fun z => e (Value.ref.inj (beq_iff_eq.mp z))
    rw [if_neg e1, kit_of_sub d.some d.ty, c.mro, decide_eq_false e]
    have z : (Value.ref C :: .ref H :: veL).contains (.ref D) = false := by
      cases q : (Value.ref C :: .ref H :: veL).contains (.ref D) with
      | false => rfl
      | true =>
        have q' := List.contains_iff_mem.mp q
        rcases List.mem_cons.mp q' with q1 | q1
        · exact absurd (Value.ref.inj q1).symm e
        · rcases List.mem_cons.mp q1 with q2 | q2
          · exact absurd (Value.ref.inj q2) hD
          · have : Value.ref D ∉ veL := by simp
            exact absurd q2 this
    rw [z]
theorem kit_held (c : Core K C H) (h1 : (PySem.W.clsIn K H).isSome = true) (h2 : PySem.W.typeIn K (.ref H) = Option.some (.type "type")) : PySem.W.kitOne K (.ref C) (.ref H) = Option.some true ∧ PySem.W.kitCls K (.ref C) (.ref H) = Option.some true := by
  have z : PySem.W.kitCls K (.ref C) (.ref H) = Option.some true := by
    rw [kit_of_sub h1 h2, c.mro]
    have z : (Value.ref C :: .ref H :: veL).contains (.ref H) = true := List.contains_iff_mem.mpr (List.mem_cons_of_mem _ List.mem_cons_self)
    rw [z]
  refine ⟨?_, z⟩
  unfold PySem.W.kitOne
  split
  · rfl
  · exact z
theorem kit_value (c : Core K C H) : PySem.W.kitOne K (.ref C) (.type "ValueError") = Option.some true := by
  unfold PySem.W.kitOne
  have e1 : ¬ ((Value.ref C == Value.type "ValueError") = true) := fun z => by
    have z' := beq_iff_eq.mp z
    cases z'
  rw [if_neg e1]
  show (if PySem.W.kitMeta "ValueError" = true then PySem.W.subIn K (.ref C) (.type "ValueError") else none) = _
  rw [if_pos (by decide +kernel), c.mro]
  have z : (Value.ref C :: .ref H :: veL).contains (.type "ValueError") = true := List.contains_iff_mem.mpr (by simp)
  rw [z]
end

/-- one class with an __init__ -/
theorem cl_mk {P : Program} {w : World} {K : PySem.W.Frag} {h base : Heap} {mg : Str → Option Value} (X : K.In h) (G : h.Ns mainGlobals mg) {x : Str} {C H fI : Addr} {fd : FuncData} {names ps : List Str}
    (hn : PySem.W.specialIn K (.builtin "object.__class__") "__get__" = some (some (.builtin "getset_descriptor.__get__"))) (ht : PySem.W.takesIn K (.builtin "object.__class__") = some true)
    (a : PySem.W.nsIn K mainGlobals x = some (some (.ref C))) (c : coreB K C H = true) (m : moreB K C = true) (n : noB K C names = true) (i : PySem.W.findIn K (.ref C) "__init__" = some (some (.ref fI))) (t : PySem.W.typeIn K (.ref fI) = some (.type "function"))
    (F : OexC K C → (∀ n ∈ names, PySem.W.findIn K (.ref C) n = some none) → FnOk P w K mg base CX0 1 fI fd ps (spX C names)) (b : Binds K fd ps []) : Cl P w K mg base x C names ps :=
  have e := ext_ok (core_ok c) m hn ht
  ⟨e, PySem.W.mg_of X G a, no_ok n, fI, fd, i, t, F e.o (no_ok n), b⟩
theorem cl0_mk {K : PySem.W.Frag} {h : Heap} {mg : Str → Option Value} (X : K.In h) (G : h.Ns mainGlobals mg) {x : Str} {C H : Addr}
    (hn : PySem.W.specialIn K (.builtin "object.__class__") "__get__" = some (some (.builtin "getset_descriptor.__get__"))) (ht : PySem.W.takesIn K (.builtin "object.__class__") = some true)
    (a : PySem.W.nsIn K mainGlobals x = some (some (.ref C))) (c : coreB K C H = true) (m : moreB K C = true) (q : PySem.W.excIn K C veL "ValueError.__new__" = true) : Cl0 K mg x C :=
  ⟨ext_ok (core_ok c) m hn ht, PySem.W.mg_of X G a, q⟩
theorem def_mk {P : Program} {w : World} {K : PySem.W.Frag} {h base : Heap} {mg : Str → Option Value} (X : K.In h) (G : h.Ns mainGlobals mg) {x : Str} {f : Addr} {fd : FuncData} {k : Nat} {ps : List Str} {sp : Sp}
    (a : PySem.W.nsIn K mainGlobals x = some (some (.ref f))) (kp : PySem.W.keepIn K (.ref f) = true) (F : FnOk P w K mg base CX0 k f fd ps sp) (b : Binds K fd ps []) : Def P w K mg base CX0 k x ps sp :=
  ⟨f, fd, F, PySem.W.mg_of X G a, kp, b⟩

theorem all_mk {l : PySem.W.OpenLaw} {w : World} {K : PySem.W.Frag} {h : Heap} {mg : Str → Option Value} {fa : Addr} (X : K.In h) (G : h.Ns mainGlobals mg) (hfa : mg "law" = some (.ref fa))
    {cH c_BadRatio c_BadPlant c_NoMode c_BadPhase c_BadTicks c_BadTimes c_BadUnit c_BadChannel c_NoWord c_BadOrder c_BadPeriod c_BadLots c_BadSensor c_BadWorld c_NoSensor c_BadOutcomes c_BadText c_Rising c_BadBase c_CountFull c_ManyMessages c_Barred c_LastMode c_NoOutcome c_LastOutcome c_NoLot c_TooNear c_BadProgram c_NoEntry c_BadLate c_BadStart c_BadTick c_BadRun c_Unheard c_BadPoint c_NoBar c_BadBound c_TooLong c_BadSplits c_TooLarge c_NotQuiet c_NotLink c_NoLeast c_TooWide c_NoFit c_NotBelow c_TooFar c_BadKeeping c_NoGroup c_NotClosed c_NotDone c_BadGroup c_BadPrices c_BadMany c_BadLiars c_BadDeed c_NotNow c_NoPlan c_NoDeed i_BadRatio i_BadPlant i_NoMode i_BadPhase i_BadTicks i_BadTimes i_BadUnit i_BadChannel i_NoWord i_BadOrder i_BadPeriod i_BadLots i_BadSensor i_BadWorld i_NoSensor i_BadText i_Rising i_CountFull i_ManyMessages i_Barred i_NoOutcome i_LastOutcome i_NoLot i_TooNear i_BadProgram i_NoEntry i_BadLate i_BadStart i_BadTick i_BadRun i_Unheard i_NoBar i_BadBound i_TooLong i_BadSplits i_NotQuiet i_NotLink i_TooWide i_NoFit i_NotBelow i_TooFar i_BadKeeping i_NotClosed i_NotDone i_BadPrices i_BadMany i_BadDeed f_mix f_hand f_draw f_name f_first f_second f_third f_classes f_raised f_law : Addr}
    {od_i_BadRatio an_i_BadRatio od_i_BadPlant an_i_BadPlant od_i_NoMode an_i_NoMode od_i_BadPhase an_i_BadPhase od_i_BadTicks an_i_BadTicks od_i_BadTimes an_i_BadTimes od_i_BadUnit an_i_BadUnit od_i_BadChannel an_i_BadChannel od_i_NoWord an_i_NoWord od_i_BadOrder an_i_BadOrder od_i_BadPeriod an_i_BadPeriod od_i_BadLots an_i_BadLots od_i_BadSensor an_i_BadSensor od_i_BadWorld an_i_BadWorld od_i_NoSensor an_i_NoSensor od_i_BadText an_i_BadText od_i_Rising an_i_Rising od_i_CountFull an_i_CountFull od_i_ManyMessages an_i_ManyMessages od_i_Barred an_i_Barred od_i_NoOutcome an_i_NoOutcome od_i_LastOutcome an_i_LastOutcome od_i_NoLot an_i_NoLot od_i_TooNear an_i_TooNear od_i_BadProgram an_i_BadProgram od_i_NoEntry an_i_NoEntry od_i_BadLate an_i_BadLate od_i_BadStart an_i_BadStart od_i_BadTick an_i_BadTick od_i_BadRun an_i_BadRun od_i_Unheard an_i_Unheard od_i_NoBar an_i_NoBar od_i_BadBound an_i_BadBound od_i_TooLong an_i_TooLong od_i_BadSplits an_i_BadSplits od_i_NotQuiet an_i_NotQuiet od_i_NotLink an_i_NotLink od_i_TooWide an_i_TooWide od_i_NoFit an_i_NoFit od_i_NotBelow an_i_NotBelow od_i_TooFar an_i_TooFar od_i_BadKeeping an_i_BadKeeping od_i_NotClosed an_i_NotClosed od_i_NotDone an_i_NotDone od_i_BadPrices an_i_BadPrices od_i_BadMany an_i_BadMany od_i_BadDeed an_i_BadDeed od_f_mix an_f_mix od_f_hand an_f_hand od_f_draw an_f_draw od_f_name an_f_name od_f_first an_f_first od_f_second an_f_second od_f_third an_f_third od_f_classes an_f_classes od_f_raised an_f_raised od_f_law an_f_law : Option Addr}
    {sl_i_BadRatio sl_i_BadPlant sl_i_NoMode sl_i_BadPhase sl_i_BadTicks sl_i_BadTimes sl_i_BadUnit sl_i_BadChannel sl_i_NoWord sl_i_BadOrder sl_i_BadPeriod sl_i_BadLots sl_i_BadSensor sl_i_BadWorld sl_i_NoSensor sl_i_BadText sl_i_Rising sl_i_CountFull sl_i_ManyMessages sl_i_Barred sl_i_NoOutcome sl_i_LastOutcome sl_i_NoLot sl_i_TooNear sl_i_BadProgram sl_i_NoEntry sl_i_BadLate sl_i_BadStart sl_i_BadTick sl_i_BadRun sl_i_Unheard sl_i_NoBar sl_i_BadBound sl_i_TooLong sl_i_BadSplits sl_i_NotQuiet sl_i_NotLink sl_i_TooWide sl_i_NoFit sl_i_NotBelow sl_i_TooFar sl_i_BadKeeping sl_i_NotClosed sl_i_NotDone sl_i_BadPrices sl_i_BadMany sl_i_BadDeed sl_f_mix sl_f_hand sl_f_draw sl_f_name sl_f_first sl_f_second sl_f_third sl_f_classes sl_f_raised sl_f_law : Array (Option Value)}
    {oc_i_BadRatio kV_i_BadRatio dc_i_BadRatio pm_i_BadRatio cd_i_BadRatio ct_i_BadRatio oc_i_BadPlant kV_i_BadPlant dc_i_BadPlant pm_i_BadPlant cd_i_BadPlant ct_i_BadPlant oc_i_NoMode kV_i_NoMode dc_i_NoMode pm_i_NoMode cd_i_NoMode ct_i_NoMode oc_i_BadPhase kV_i_BadPhase dc_i_BadPhase pm_i_BadPhase cd_i_BadPhase ct_i_BadPhase oc_i_BadTicks kV_i_BadTicks dc_i_BadTicks pm_i_BadTicks cd_i_BadTicks ct_i_BadTicks oc_i_BadTimes kV_i_BadTimes dc_i_BadTimes pm_i_BadTimes cd_i_BadTimes ct_i_BadTimes oc_i_BadUnit kV_i_BadUnit dc_i_BadUnit pm_i_BadUnit cd_i_BadUnit ct_i_BadUnit oc_i_BadChannel kV_i_BadChannel dc_i_BadChannel pm_i_BadChannel cd_i_BadChannel ct_i_BadChannel oc_i_NoWord kV_i_NoWord dc_i_NoWord pm_i_NoWord cd_i_NoWord ct_i_NoWord oc_i_BadOrder kV_i_BadOrder dc_i_BadOrder pm_i_BadOrder cd_i_BadOrder ct_i_BadOrder oc_i_BadPeriod kV_i_BadPeriod dc_i_BadPeriod pm_i_BadPeriod cd_i_BadPeriod ct_i_BadPeriod oc_i_BadLots kV_i_BadLots dc_i_BadLots pm_i_BadLots cd_i_BadLots ct_i_BadLots oc_i_BadSensor kV_i_BadSensor dc_i_BadSensor pm_i_BadSensor cd_i_BadSensor ct_i_BadSensor oc_i_BadWorld kV_i_BadWorld dc_i_BadWorld pm_i_BadWorld cd_i_BadWorld ct_i_BadWorld oc_i_NoSensor kV_i_NoSensor dc_i_NoSensor pm_i_NoSensor cd_i_NoSensor ct_i_NoSensor oc_i_BadText kV_i_BadText dc_i_BadText pm_i_BadText cd_i_BadText ct_i_BadText oc_i_Rising kV_i_Rising dc_i_Rising pm_i_Rising cd_i_Rising ct_i_Rising oc_i_CountFull kV_i_CountFull dc_i_CountFull pm_i_CountFull cd_i_CountFull ct_i_CountFull oc_i_ManyMessages kV_i_ManyMessages dc_i_ManyMessages pm_i_ManyMessages cd_i_ManyMessages ct_i_ManyMessages oc_i_Barred kV_i_Barred dc_i_Barred pm_i_Barred cd_i_Barred ct_i_Barred oc_i_NoOutcome kV_i_NoOutcome dc_i_NoOutcome pm_i_NoOutcome cd_i_NoOutcome ct_i_NoOutcome oc_i_LastOutcome kV_i_LastOutcome dc_i_LastOutcome pm_i_LastOutcome cd_i_LastOutcome ct_i_LastOutcome oc_i_NoLot kV_i_NoLot dc_i_NoLot pm_i_NoLot cd_i_NoLot ct_i_NoLot oc_i_TooNear kV_i_TooNear dc_i_TooNear pm_i_TooNear cd_i_TooNear ct_i_TooNear oc_i_BadProgram kV_i_BadProgram dc_i_BadProgram pm_i_BadProgram cd_i_BadProgram ct_i_BadProgram oc_i_NoEntry kV_i_NoEntry dc_i_NoEntry pm_i_NoEntry cd_i_NoEntry ct_i_NoEntry oc_i_BadLate kV_i_BadLate dc_i_BadLate pm_i_BadLate cd_i_BadLate ct_i_BadLate oc_i_BadStart kV_i_BadStart dc_i_BadStart pm_i_BadStart cd_i_BadStart ct_i_BadStart oc_i_BadTick kV_i_BadTick dc_i_BadTick pm_i_BadTick cd_i_BadTick ct_i_BadTick oc_i_BadRun kV_i_BadRun dc_i_BadRun pm_i_BadRun cd_i_BadRun ct_i_BadRun oc_i_Unheard kV_i_Unheard dc_i_Unheard pm_i_Unheard cd_i_Unheard ct_i_Unheard oc_i_NoBar kV_i_NoBar dc_i_NoBar pm_i_NoBar cd_i_NoBar ct_i_NoBar oc_i_BadBound kV_i_BadBound dc_i_BadBound pm_i_BadBound cd_i_BadBound ct_i_BadBound oc_i_TooLong kV_i_TooLong dc_i_TooLong pm_i_TooLong cd_i_TooLong ct_i_TooLong oc_i_BadSplits kV_i_BadSplits dc_i_BadSplits pm_i_BadSplits cd_i_BadSplits ct_i_BadSplits oc_i_NotQuiet kV_i_NotQuiet dc_i_NotQuiet pm_i_NotQuiet cd_i_NotQuiet ct_i_NotQuiet oc_i_NotLink kV_i_NotLink dc_i_NotLink pm_i_NotLink cd_i_NotLink ct_i_NotLink oc_i_TooWide kV_i_TooWide dc_i_TooWide pm_i_TooWide cd_i_TooWide ct_i_TooWide oc_i_NoFit kV_i_NoFit dc_i_NoFit pm_i_NoFit cd_i_NoFit ct_i_NoFit oc_i_NotBelow kV_i_NotBelow dc_i_NotBelow pm_i_NotBelow cd_i_NotBelow ct_i_NotBelow oc_i_TooFar kV_i_TooFar dc_i_TooFar pm_i_TooFar cd_i_TooFar ct_i_TooFar oc_i_BadKeeping kV_i_BadKeeping dc_i_BadKeeping pm_i_BadKeeping cd_i_BadKeeping ct_i_BadKeeping oc_i_NotClosed kV_i_NotClosed dc_i_NotClosed pm_i_NotClosed cd_i_NotClosed ct_i_NotClosed oc_i_NotDone kV_i_NotDone dc_i_NotDone pm_i_NotDone cd_i_NotDone ct_i_NotDone oc_i_BadPrices kV_i_BadPrices dc_i_BadPrices pm_i_BadPrices cd_i_BadPrices ct_i_BadPrices oc_i_BadMany kV_i_BadMany dc_i_BadMany pm_i_BadMany cd_i_BadMany ct_i_BadMany oc_i_BadDeed kV_i_BadDeed dc_i_BadDeed pm_i_BadDeed cd_i_BadDeed ct_i_BadDeed oc_f_mix kV_f_mix dc_f_mix pm_f_mix cd_f_mix ct_f_mix oc_f_hand kV_f_hand dc_f_hand pm_f_hand cd_f_hand ct_f_hand oc_f_draw kV_f_draw dc_f_draw pm_f_draw cd_f_draw ct_f_draw oc_f_name kV_f_name dc_f_name pm_f_name cd_f_name ct_f_name oc_f_first kV_f_first dc_f_first pm_f_first cd_f_first ct_f_first oc_f_second kV_f_second dc_f_second pm_f_second cd_f_second ct_f_second oc_f_third kV_f_third dc_f_third pm_f_third cd_f_third ct_f_third oc_f_classes kV_f_classes dc_f_classes pm_f_classes cd_f_classes ct_f_classes oc_f_raised kV_f_raised dc_f_raised pm_f_raised cd_f_raised ct_f_raised oc_f_law kV_f_law dc_f_law pm_f_law cd_f_law ct_f_law : Value}
    (aH : PySem.W.nsIn K mainGlobals "HeldError" = some (some (.ref cH)))
    (tH : PySem.W.typeIn K (.ref cH) = some (.type "type"))
    (sH : PySem.W.isClsIn K cH = true)
    (bH : PySem.W.subIn K (.ref cH) (.type "BaseException") = some true)
    (hn : PySem.W.specialIn K (.builtin "object.__class__") "__get__" = some (some (.builtin "getset_descriptor.__get__")))
    (ht : PySem.W.takesIn K (.builtin "object.__class__") = some true)
    (a_BadRatio : PySem.W.nsIn K mainGlobals "BadRatio" = some (some (.ref c_BadRatio)))
    (co_BadRatio : coreB K c_BadRatio cH = true)
    (mo_BadRatio : moreB K c_BadRatio = true)
    (no_BadRatio : noB K c_BadRatio ["what"] = true)
    (in_BadRatio : PySem.W.findIn K (.ref c_BadRatio) "__init__" = some (some (.ref i_BadRatio)))
    (ty_BadRatio : PySem.W.typeIn K (.ref i_BadRatio) = some (.type "function"))
    (lk_BadRatio : K.lookup i_BadRatio = some ⟨oc_i_BadRatio, od_i_BadRatio, .func (PySem.W.fnOf "__init__" "BadRatio.__init__" (defArgs s_i_BadRatio) (defBody s_i_BadRatio) (defScope s_i_BadRatio) .none kV_i_BadRatio dc_i_BadRatio pm_i_BadRatio an_i_BadRatio cd_i_BadRatio ct_i_BadRatio), sl_i_BadRatio⟩)
    (cd_BadRatio : PySem.W.codeIn K cd_i_BadRatio "BadRatio.__init__" = true)
    (kp_BadRatio : PySem.W.keepIn K (.ref i_BadRatio) = true)
    (a_BadPlant : PySem.W.nsIn K mainGlobals "BadPlant" = some (some (.ref c_BadPlant)))
    (co_BadPlant : coreB K c_BadPlant cH = true)
    (mo_BadPlant : moreB K c_BadPlant = true)
    (no_BadPlant : noB K c_BadPlant ["what", "mode"] = true)
    (in_BadPlant : PySem.W.findIn K (.ref c_BadPlant) "__init__" = some (some (.ref i_BadPlant)))
    (ty_BadPlant : PySem.W.typeIn K (.ref i_BadPlant) = some (.type "function"))
    (lk_BadPlant : K.lookup i_BadPlant = some ⟨oc_i_BadPlant, od_i_BadPlant, .func (PySem.W.fnOf "__init__" "BadPlant.__init__" (defArgs s_i_BadPlant) (defBody s_i_BadPlant) (defScope s_i_BadPlant) .none kV_i_BadPlant dc_i_BadPlant pm_i_BadPlant an_i_BadPlant cd_i_BadPlant ct_i_BadPlant), sl_i_BadPlant⟩)
    (cd_BadPlant : PySem.W.codeIn K cd_i_BadPlant "BadPlant.__init__" = true)
    (kp_BadPlant : PySem.W.keepIn K (.ref i_BadPlant) = true)
    (a_NoMode : PySem.W.nsIn K mainGlobals "NoMode" = some (some (.ref c_NoMode)))
    (co_NoMode : coreB K c_NoMode cH = true)
    (mo_NoMode : moreB K c_NoMode = true)
    (no_NoMode : noB K c_NoMode ["mode"] = true)
    (in_NoMode : PySem.W.findIn K (.ref c_NoMode) "__init__" = some (some (.ref i_NoMode)))
    (ty_NoMode : PySem.W.typeIn K (.ref i_NoMode) = some (.type "function"))
    (lk_NoMode : K.lookup i_NoMode = some ⟨oc_i_NoMode, od_i_NoMode, .func (PySem.W.fnOf "__init__" "NoMode.__init__" (defArgs s_i_NoMode) (defBody s_i_NoMode) (defScope s_i_NoMode) .none kV_i_NoMode dc_i_NoMode pm_i_NoMode an_i_NoMode cd_i_NoMode ct_i_NoMode), sl_i_NoMode⟩)
    (cd_NoMode : PySem.W.codeIn K cd_i_NoMode "NoMode.__init__" = true)
    (kp_NoMode : PySem.W.keepIn K (.ref i_NoMode) = true)
    (a_BadPhase : PySem.W.nsIn K mainGlobals "BadPhase" = some (some (.ref c_BadPhase)))
    (co_BadPhase : coreB K c_BadPhase cH = true)
    (mo_BadPhase : moreB K c_BadPhase = true)
    (no_BadPhase : noB K c_BadPhase ["phase"] = true)
    (in_BadPhase : PySem.W.findIn K (.ref c_BadPhase) "__init__" = some (some (.ref i_BadPhase)))
    (ty_BadPhase : PySem.W.typeIn K (.ref i_BadPhase) = some (.type "function"))
    (lk_BadPhase : K.lookup i_BadPhase = some ⟨oc_i_BadPhase, od_i_BadPhase, .func (PySem.W.fnOf "__init__" "BadPhase.__init__" (defArgs s_i_BadPhase) (defBody s_i_BadPhase) (defScope s_i_BadPhase) .none kV_i_BadPhase dc_i_BadPhase pm_i_BadPhase an_i_BadPhase cd_i_BadPhase ct_i_BadPhase), sl_i_BadPhase⟩)
    (cd_BadPhase : PySem.W.codeIn K cd_i_BadPhase "BadPhase.__init__" = true)
    (kp_BadPhase : PySem.W.keepIn K (.ref i_BadPhase) = true)
    (a_BadTicks : PySem.W.nsIn K mainGlobals "BadTicks" = some (some (.ref c_BadTicks)))
    (co_BadTicks : coreB K c_BadTicks cH = true)
    (mo_BadTicks : moreB K c_BadTicks = true)
    (no_BadTicks : noB K c_BadTicks ["ticks"] = true)
    (in_BadTicks : PySem.W.findIn K (.ref c_BadTicks) "__init__" = some (some (.ref i_BadTicks)))
    (ty_BadTicks : PySem.W.typeIn K (.ref i_BadTicks) = some (.type "function"))
    (lk_BadTicks : K.lookup i_BadTicks = some ⟨oc_i_BadTicks, od_i_BadTicks, .func (PySem.W.fnOf "__init__" "BadTicks.__init__" (defArgs s_i_BadTicks) (defBody s_i_BadTicks) (defScope s_i_BadTicks) .none kV_i_BadTicks dc_i_BadTicks pm_i_BadTicks an_i_BadTicks cd_i_BadTicks ct_i_BadTicks), sl_i_BadTicks⟩)
    (cd_BadTicks : PySem.W.codeIn K cd_i_BadTicks "BadTicks.__init__" = true)
    (kp_BadTicks : PySem.W.keepIn K (.ref i_BadTicks) = true)
    (a_BadTimes : PySem.W.nsIn K mainGlobals "BadTimes" = some (some (.ref c_BadTimes)))
    (co_BadTimes : coreB K c_BadTimes cH = true)
    (mo_BadTimes : moreB K c_BadTimes = true)
    (no_BadTimes : noB K c_BadTimes ["repeats"] = true)
    (in_BadTimes : PySem.W.findIn K (.ref c_BadTimes) "__init__" = some (some (.ref i_BadTimes)))
    (ty_BadTimes : PySem.W.typeIn K (.ref i_BadTimes) = some (.type "function"))
    (lk_BadTimes : K.lookup i_BadTimes = some ⟨oc_i_BadTimes, od_i_BadTimes, .func (PySem.W.fnOf "__init__" "BadTimes.__init__" (defArgs s_i_BadTimes) (defBody s_i_BadTimes) (defScope s_i_BadTimes) .none kV_i_BadTimes dc_i_BadTimes pm_i_BadTimes an_i_BadTimes cd_i_BadTimes ct_i_BadTimes), sl_i_BadTimes⟩)
    (cd_BadTimes : PySem.W.codeIn K cd_i_BadTimes "BadTimes.__init__" = true)
    (kp_BadTimes : PySem.W.keepIn K (.ref i_BadTimes) = true)
    (a_BadUnit : PySem.W.nsIn K mainGlobals "BadUnit" = some (some (.ref c_BadUnit)))
    (co_BadUnit : coreB K c_BadUnit cH = true)
    (mo_BadUnit : moreB K c_BadUnit = true)
    (no_BadUnit : noB K c_BadUnit ["unit"] = true)
    (in_BadUnit : PySem.W.findIn K (.ref c_BadUnit) "__init__" = some (some (.ref i_BadUnit)))
    (ty_BadUnit : PySem.W.typeIn K (.ref i_BadUnit) = some (.type "function"))
    (lk_BadUnit : K.lookup i_BadUnit = some ⟨oc_i_BadUnit, od_i_BadUnit, .func (PySem.W.fnOf "__init__" "BadUnit.__init__" (defArgs s_i_BadUnit) (defBody s_i_BadUnit) (defScope s_i_BadUnit) .none kV_i_BadUnit dc_i_BadUnit pm_i_BadUnit an_i_BadUnit cd_i_BadUnit ct_i_BadUnit), sl_i_BadUnit⟩)
    (cd_BadUnit : PySem.W.codeIn K cd_i_BadUnit "BadUnit.__init__" = true)
    (kp_BadUnit : PySem.W.keepIn K (.ref i_BadUnit) = true)
    (a_BadChannel : PySem.W.nsIn K mainGlobals "BadChannel" = some (some (.ref c_BadChannel)))
    (co_BadChannel : coreB K c_BadChannel cH = true)
    (mo_BadChannel : moreB K c_BadChannel = true)
    (no_BadChannel : noB K c_BadChannel ["what", "phase", "word"] = true)
    (in_BadChannel : PySem.W.findIn K (.ref c_BadChannel) "__init__" = some (some (.ref i_BadChannel)))
    (ty_BadChannel : PySem.W.typeIn K (.ref i_BadChannel) = some (.type "function"))
    (lk_BadChannel : K.lookup i_BadChannel = some ⟨oc_i_BadChannel, od_i_BadChannel, .func (PySem.W.fnOf "__init__" "BadChannel.__init__" (defArgs s_i_BadChannel) (defBody s_i_BadChannel) (defScope s_i_BadChannel) .none kV_i_BadChannel dc_i_BadChannel pm_i_BadChannel an_i_BadChannel cd_i_BadChannel ct_i_BadChannel), sl_i_BadChannel⟩)
    (cd_BadChannel : PySem.W.codeIn K cd_i_BadChannel "BadChannel.__init__" = true)
    (kp_BadChannel : PySem.W.keepIn K (.ref i_BadChannel) = true)
    (a_NoWord : PySem.W.nsIn K mainGlobals "NoWord" = some (some (.ref c_NoWord)))
    (co_NoWord : coreB K c_NoWord cH = true)
    (mo_NoWord : moreB K c_NoWord = true)
    (no_NoWord : noB K c_NoWord ["word"] = true)
    (in_NoWord : PySem.W.findIn K (.ref c_NoWord) "__init__" = some (some (.ref i_NoWord)))
    (ty_NoWord : PySem.W.typeIn K (.ref i_NoWord) = some (.type "function"))
    (lk_NoWord : K.lookup i_NoWord = some ⟨oc_i_NoWord, od_i_NoWord, .func (PySem.W.fnOf "__init__" "NoWord.__init__" (defArgs s_i_NoWord) (defBody s_i_NoWord) (defScope s_i_NoWord) .none kV_i_NoWord dc_i_NoWord pm_i_NoWord an_i_NoWord cd_i_NoWord ct_i_NoWord), sl_i_NoWord⟩)
    (cd_NoWord : PySem.W.codeIn K cd_i_NoWord "NoWord.__init__" = true)
    (kp_NoWord : PySem.W.keepIn K (.ref i_NoWord) = true)
    (a_BadOrder : PySem.W.nsIn K mainGlobals "BadOrder" = some (some (.ref c_BadOrder)))
    (co_BadOrder : coreB K c_BadOrder cH = true)
    (mo_BadOrder : moreB K c_BadOrder = true)
    (no_BadOrder : noB K c_BadOrder ["what"] = true)
    (in_BadOrder : PySem.W.findIn K (.ref c_BadOrder) "__init__" = some (some (.ref i_BadOrder)))
    (ty_BadOrder : PySem.W.typeIn K (.ref i_BadOrder) = some (.type "function"))
    (lk_BadOrder : K.lookup i_BadOrder = some ⟨oc_i_BadOrder, od_i_BadOrder, .func (PySem.W.fnOf "__init__" "BadOrder.__init__" (defArgs s_i_BadOrder) (defBody s_i_BadOrder) (defScope s_i_BadOrder) .none kV_i_BadOrder dc_i_BadOrder pm_i_BadOrder an_i_BadOrder cd_i_BadOrder ct_i_BadOrder), sl_i_BadOrder⟩)
    (cd_BadOrder : PySem.W.codeIn K cd_i_BadOrder "BadOrder.__init__" = true)
    (kp_BadOrder : PySem.W.keepIn K (.ref i_BadOrder) = true)
    (a_BadPeriod : PySem.W.nsIn K mainGlobals "BadPeriod" = some (some (.ref c_BadPeriod)))
    (co_BadPeriod : coreB K c_BadPeriod cH = true)
    (mo_BadPeriod : moreB K c_BadPeriod = true)
    (no_BadPeriod : noB K c_BadPeriod ["one", "other"] = true)
    (in_BadPeriod : PySem.W.findIn K (.ref c_BadPeriod) "__init__" = some (some (.ref i_BadPeriod)))
    (ty_BadPeriod : PySem.W.typeIn K (.ref i_BadPeriod) = some (.type "function"))
    (lk_BadPeriod : K.lookup i_BadPeriod = some ⟨oc_i_BadPeriod, od_i_BadPeriod, .func (PySem.W.fnOf "__init__" "BadPeriod.__init__" (defArgs s_i_BadPeriod) (defBody s_i_BadPeriod) (defScope s_i_BadPeriod) .none kV_i_BadPeriod dc_i_BadPeriod pm_i_BadPeriod an_i_BadPeriod cd_i_BadPeriod ct_i_BadPeriod), sl_i_BadPeriod⟩)
    (cd_BadPeriod : PySem.W.codeIn K cd_i_BadPeriod "BadPeriod.__init__" = true)
    (kp_BadPeriod : PySem.W.keepIn K (.ref i_BadPeriod) = true)
    (a_BadLots : PySem.W.nsIn K mainGlobals "BadLots" = some (some (.ref c_BadLots)))
    (co_BadLots : coreB K c_BadLots cH = true)
    (mo_BadLots : moreB K c_BadLots = true)
    (no_BadLots : noB K c_BadLots ["index", "what"] = true)
    (in_BadLots : PySem.W.findIn K (.ref c_BadLots) "__init__" = some (some (.ref i_BadLots)))
    (ty_BadLots : PySem.W.typeIn K (.ref i_BadLots) = some (.type "function"))
    (lk_BadLots : K.lookup i_BadLots = some ⟨oc_i_BadLots, od_i_BadLots, .func (PySem.W.fnOf "__init__" "BadLots.__init__" (defArgs s_i_BadLots) (defBody s_i_BadLots) (defScope s_i_BadLots) .none kV_i_BadLots dc_i_BadLots pm_i_BadLots an_i_BadLots cd_i_BadLots ct_i_BadLots), sl_i_BadLots⟩)
    (cd_BadLots : PySem.W.codeIn K cd_i_BadLots "BadLots.__init__" = true)
    (kp_BadLots : PySem.W.keepIn K (.ref i_BadLots) = true)
    (a_BadSensor : PySem.W.nsIn K mainGlobals "BadSensor" = some (some (.ref c_BadSensor)))
    (co_BadSensor : coreB K c_BadSensor cH = true)
    (mo_BadSensor : moreB K c_BadSensor = true)
    (no_BadSensor : noB K c_BadSensor ["what"] = true)
    (in_BadSensor : PySem.W.findIn K (.ref c_BadSensor) "__init__" = some (some (.ref i_BadSensor)))
    (ty_BadSensor : PySem.W.typeIn K (.ref i_BadSensor) = some (.type "function"))
    (lk_BadSensor : K.lookup i_BadSensor = some ⟨oc_i_BadSensor, od_i_BadSensor, .func (PySem.W.fnOf "__init__" "BadSensor.__init__" (defArgs s_i_BadSensor) (defBody s_i_BadSensor) (defScope s_i_BadSensor) .none kV_i_BadSensor dc_i_BadSensor pm_i_BadSensor an_i_BadSensor cd_i_BadSensor ct_i_BadSensor), sl_i_BadSensor⟩)
    (cd_BadSensor : PySem.W.codeIn K cd_i_BadSensor "BadSensor.__init__" = true)
    (kp_BadSensor : PySem.W.keepIn K (.ref i_BadSensor) = true)
    (a_BadWorld : PySem.W.nsIn K mainGlobals "BadWorld" = some (some (.ref c_BadWorld)))
    (co_BadWorld : coreB K c_BadWorld cH = true)
    (mo_BadWorld : moreB K c_BadWorld = true)
    (no_BadWorld : noB K c_BadWorld ["what", "sensor"] = true)
    (in_BadWorld : PySem.W.findIn K (.ref c_BadWorld) "__init__" = some (some (.ref i_BadWorld)))
    (ty_BadWorld : PySem.W.typeIn K (.ref i_BadWorld) = some (.type "function"))
    (lk_BadWorld : K.lookup i_BadWorld = some ⟨oc_i_BadWorld, od_i_BadWorld, .func (PySem.W.fnOf "__init__" "BadWorld.__init__" (defArgs s_i_BadWorld) (defBody s_i_BadWorld) (defScope s_i_BadWorld) .none kV_i_BadWorld dc_i_BadWorld pm_i_BadWorld an_i_BadWorld cd_i_BadWorld ct_i_BadWorld), sl_i_BadWorld⟩)
    (cd_BadWorld : PySem.W.codeIn K cd_i_BadWorld "BadWorld.__init__" = true)
    (kp_BadWorld : PySem.W.keepIn K (.ref i_BadWorld) = true)
    (a_NoSensor : PySem.W.nsIn K mainGlobals "NoSensor" = some (some (.ref c_NoSensor)))
    (co_NoSensor : coreB K c_NoSensor cH = true)
    (mo_NoSensor : moreB K c_NoSensor = true)
    (no_NoSensor : noB K c_NoSensor ["sensor"] = true)
    (in_NoSensor : PySem.W.findIn K (.ref c_NoSensor) "__init__" = some (some (.ref i_NoSensor)))
    (ty_NoSensor : PySem.W.typeIn K (.ref i_NoSensor) = some (.type "function"))
    (lk_NoSensor : K.lookup i_NoSensor = some ⟨oc_i_NoSensor, od_i_NoSensor, .func (PySem.W.fnOf "__init__" "NoSensor.__init__" (defArgs s_i_NoSensor) (defBody s_i_NoSensor) (defScope s_i_NoSensor) .none kV_i_NoSensor dc_i_NoSensor pm_i_NoSensor an_i_NoSensor cd_i_NoSensor ct_i_NoSensor), sl_i_NoSensor⟩)
    (cd_NoSensor : PySem.W.codeIn K cd_i_NoSensor "NoSensor.__init__" = true)
    (kp_NoSensor : PySem.W.keepIn K (.ref i_NoSensor) = true)
    (a_BadOutcomes : PySem.W.nsIn K mainGlobals "BadOutcomes" = some (some (.ref c_BadOutcomes)))
    (co_BadOutcomes : coreB K c_BadOutcomes cH = true)
    (mo_BadOutcomes : moreB K c_BadOutcomes = true)
    (q_BadOutcomes : PySem.W.excIn K c_BadOutcomes veL "ValueError.__new__" = true)
    (a_BadText : PySem.W.nsIn K mainGlobals "BadText" = some (some (.ref c_BadText)))
    (co_BadText : coreB K c_BadText cH = true)
    (mo_BadText : moreB K c_BadText = true)
    (no_BadText : noB K c_BadText ["row", "what"] = true)
    (in_BadText : PySem.W.findIn K (.ref c_BadText) "__init__" = some (some (.ref i_BadText)))
    (ty_BadText : PySem.W.typeIn K (.ref i_BadText) = some (.type "function"))
    (lk_BadText : K.lookup i_BadText = some ⟨oc_i_BadText, od_i_BadText, .func (PySem.W.fnOf "__init__" "BadText.__init__" (defArgs s_i_BadText) (defBody s_i_BadText) (defScope s_i_BadText) .none kV_i_BadText dc_i_BadText pm_i_BadText an_i_BadText cd_i_BadText ct_i_BadText), sl_i_BadText⟩)
    (cd_BadText : PySem.W.codeIn K cd_i_BadText "BadText.__init__" = true)
    (kp_BadText : PySem.W.keepIn K (.ref i_BadText) = true)
    (a_Rising : PySem.W.nsIn K mainGlobals "Rising" = some (some (.ref c_Rising)))
    (co_Rising : coreB K c_Rising cH = true)
    (mo_Rising : moreB K c_Rising = true)
    (no_Rising : noB K c_Rising ["ray"] = true)
    (in_Rising : PySem.W.findIn K (.ref c_Rising) "__init__" = some (some (.ref i_Rising)))
    (ty_Rising : PySem.W.typeIn K (.ref i_Rising) = some (.type "function"))
    (lk_Rising : K.lookup i_Rising = some ⟨oc_i_Rising, od_i_Rising, .func (PySem.W.fnOf "__init__" "Rising.__init__" (defArgs s_i_Rising) (defBody s_i_Rising) (defScope s_i_Rising) .none kV_i_Rising dc_i_Rising pm_i_Rising an_i_Rising cd_i_Rising ct_i_Rising), sl_i_Rising⟩)
    (cd_Rising : PySem.W.codeIn K cd_i_Rising "Rising.__init__" = true)
    (kp_Rising : PySem.W.keepIn K (.ref i_Rising) = true)
    (a_BadBase : PySem.W.nsIn K mainGlobals "BadBase" = some (some (.ref c_BadBase)))
    (co_BadBase : coreB K c_BadBase cH = true)
    (mo_BadBase : moreB K c_BadBase = true)
    (q_BadBase : PySem.W.excIn K c_BadBase veL "ValueError.__new__" = true)
    (a_CountFull : PySem.W.nsIn K mainGlobals "CountFull" = some (some (.ref c_CountFull)))
    (co_CountFull : coreB K c_CountFull cH = true)
    (mo_CountFull : moreB K c_CountFull = true)
    (no_CountFull : noB K c_CountFull ["tried"] = true)
    (in_CountFull : PySem.W.findIn K (.ref c_CountFull) "__init__" = some (some (.ref i_CountFull)))
    (ty_CountFull : PySem.W.typeIn K (.ref i_CountFull) = some (.type "function"))
    (lk_CountFull : K.lookup i_CountFull = some ⟨oc_i_CountFull, od_i_CountFull, .func (PySem.W.fnOf "__init__" "CountFull.__init__" (defArgs s_i_CountFull) (defBody s_i_CountFull) (defScope s_i_CountFull) .none kV_i_CountFull dc_i_CountFull pm_i_CountFull an_i_CountFull cd_i_CountFull ct_i_CountFull), sl_i_CountFull⟩)
    (cd_CountFull : PySem.W.codeIn K cd_i_CountFull "CountFull.__init__" = true)
    (kp_CountFull : PySem.W.keepIn K (.ref i_CountFull) = true)
    (a_ManyMessages : PySem.W.nsIn K mainGlobals "ManyMessages" = some (some (.ref c_ManyMessages)))
    (co_ManyMessages : coreB K c_ManyMessages cH = true)
    (mo_ManyMessages : moreB K c_ManyMessages = true)
    (no_ManyMessages : noB K c_ManyMessages ["greatest"] = true)
    (in_ManyMessages : PySem.W.findIn K (.ref c_ManyMessages) "__init__" = some (some (.ref i_ManyMessages)))
    (ty_ManyMessages : PySem.W.typeIn K (.ref i_ManyMessages) = some (.type "function"))
    (lk_ManyMessages : K.lookup i_ManyMessages = some ⟨oc_i_ManyMessages, od_i_ManyMessages, .func (PySem.W.fnOf "__init__" "ManyMessages.__init__" (defArgs s_i_ManyMessages) (defBody s_i_ManyMessages) (defScope s_i_ManyMessages) .none kV_i_ManyMessages dc_i_ManyMessages pm_i_ManyMessages an_i_ManyMessages cd_i_ManyMessages ct_i_ManyMessages), sl_i_ManyMessages⟩)
    (cd_ManyMessages : PySem.W.codeIn K cd_i_ManyMessages "ManyMessages.__init__" = true)
    (kp_ManyMessages : PySem.W.keepIn K (.ref i_ManyMessages) = true)
    (a_Barred : PySem.W.nsIn K mainGlobals "Barred" = some (some (.ref c_Barred)))
    (co_Barred : coreB K c_Barred cH = true)
    (mo_Barred : moreB K c_Barred = true)
    (no_Barred : noB K c_Barred ["bar"] = true)
    (in_Barred : PySem.W.findIn K (.ref c_Barred) "__init__" = some (some (.ref i_Barred)))
    (ty_Barred : PySem.W.typeIn K (.ref i_Barred) = some (.type "function"))
    (lk_Barred : K.lookup i_Barred = some ⟨oc_i_Barred, od_i_Barred, .func (PySem.W.fnOf "__init__" "Barred.__init__" (defArgs s_i_Barred) (defBody s_i_Barred) (defScope s_i_Barred) .none kV_i_Barred dc_i_Barred pm_i_Barred an_i_Barred cd_i_Barred ct_i_Barred), sl_i_Barred⟩)
    (cd_Barred : PySem.W.codeIn K cd_i_Barred "Barred.__init__" = true)
    (kp_Barred : PySem.W.keepIn K (.ref i_Barred) = true)
    (a_LastMode : PySem.W.nsIn K mainGlobals "LastMode" = some (some (.ref c_LastMode)))
    (co_LastMode : coreB K c_LastMode cH = true)
    (mo_LastMode : moreB K c_LastMode = true)
    (q_LastMode : PySem.W.excIn K c_LastMode veL "ValueError.__new__" = true)
    (a_NoOutcome : PySem.W.nsIn K mainGlobals "NoOutcome" = some (some (.ref c_NoOutcome)))
    (co_NoOutcome : coreB K c_NoOutcome cH = true)
    (mo_NoOutcome : moreB K c_NoOutcome = true)
    (no_NoOutcome : noB K c_NoOutcome ["word", "outcome"] = true)
    (in_NoOutcome : PySem.W.findIn K (.ref c_NoOutcome) "__init__" = some (some (.ref i_NoOutcome)))
    (ty_NoOutcome : PySem.W.typeIn K (.ref i_NoOutcome) = some (.type "function"))
    (lk_NoOutcome : K.lookup i_NoOutcome = some ⟨oc_i_NoOutcome, od_i_NoOutcome, .func (PySem.W.fnOf "__init__" "NoOutcome.__init__" (defArgs s_i_NoOutcome) (defBody s_i_NoOutcome) (defScope s_i_NoOutcome) .none kV_i_NoOutcome dc_i_NoOutcome pm_i_NoOutcome an_i_NoOutcome cd_i_NoOutcome ct_i_NoOutcome), sl_i_NoOutcome⟩)
    (cd_NoOutcome : PySem.W.codeIn K cd_i_NoOutcome "NoOutcome.__init__" = true)
    (kp_NoOutcome : PySem.W.keepIn K (.ref i_NoOutcome) = true)
    (a_LastOutcome : PySem.W.nsIn K mainGlobals "LastOutcome" = some (some (.ref c_LastOutcome)))
    (co_LastOutcome : coreB K c_LastOutcome cH = true)
    (mo_LastOutcome : moreB K c_LastOutcome = true)
    (no_LastOutcome : noB K c_LastOutcome ["word"] = true)
    (in_LastOutcome : PySem.W.findIn K (.ref c_LastOutcome) "__init__" = some (some (.ref i_LastOutcome)))
    (ty_LastOutcome : PySem.W.typeIn K (.ref i_LastOutcome) = some (.type "function"))
    (lk_LastOutcome : K.lookup i_LastOutcome = some ⟨oc_i_LastOutcome, od_i_LastOutcome, .func (PySem.W.fnOf "__init__" "LastOutcome.__init__" (defArgs s_i_LastOutcome) (defBody s_i_LastOutcome) (defScope s_i_LastOutcome) .none kV_i_LastOutcome dc_i_LastOutcome pm_i_LastOutcome an_i_LastOutcome cd_i_LastOutcome ct_i_LastOutcome), sl_i_LastOutcome⟩)
    (cd_LastOutcome : PySem.W.codeIn K cd_i_LastOutcome "LastOutcome.__init__" = true)
    (kp_LastOutcome : PySem.W.keepIn K (.ref i_LastOutcome) = true)
    (a_NoLot : PySem.W.nsIn K mainGlobals "NoLot" = some (some (.ref c_NoLot)))
    (co_NoLot : coreB K c_NoLot cH = true)
    (mo_NoLot : moreB K c_NoLot = true)
    (no_NoLot : noB K c_NoLot ["lot"] = true)
    (in_NoLot : PySem.W.findIn K (.ref c_NoLot) "__init__" = some (some (.ref i_NoLot)))
    (ty_NoLot : PySem.W.typeIn K (.ref i_NoLot) = some (.type "function"))
    (lk_NoLot : K.lookup i_NoLot = some ⟨oc_i_NoLot, od_i_NoLot, .func (PySem.W.fnOf "__init__" "NoLot.__init__" (defArgs s_i_NoLot) (defBody s_i_NoLot) (defScope s_i_NoLot) .none kV_i_NoLot dc_i_NoLot pm_i_NoLot an_i_NoLot cd_i_NoLot ct_i_NoLot), sl_i_NoLot⟩)
    (cd_NoLot : PySem.W.codeIn K cd_i_NoLot "NoLot.__init__" = true)
    (kp_NoLot : PySem.W.keepIn K (.ref i_NoLot) = true)
    (a_TooNear : PySem.W.nsIn K mainGlobals "TooNear" = some (some (.ref c_TooNear)))
    (co_TooNear : coreB K c_TooNear cH = true)
    (mo_TooNear : moreB K c_TooNear = true)
    (no_TooNear : noB K c_TooNear ["tried"] = true)
    (in_TooNear : PySem.W.findIn K (.ref c_TooNear) "__init__" = some (some (.ref i_TooNear)))
    (ty_TooNear : PySem.W.typeIn K (.ref i_TooNear) = some (.type "function"))
    (lk_TooNear : K.lookup i_TooNear = some ⟨oc_i_TooNear, od_i_TooNear, .func (PySem.W.fnOf "__init__" "TooNear.__init__" (defArgs s_i_TooNear) (defBody s_i_TooNear) (defScope s_i_TooNear) .none kV_i_TooNear dc_i_TooNear pm_i_TooNear an_i_TooNear cd_i_TooNear ct_i_TooNear), sl_i_TooNear⟩)
    (cd_TooNear : PySem.W.codeIn K cd_i_TooNear "TooNear.__init__" = true)
    (kp_TooNear : PySem.W.keepIn K (.ref i_TooNear) = true)
    (a_BadProgram : PySem.W.nsIn K mainGlobals "BadProgram" = some (some (.ref c_BadProgram)))
    (co_BadProgram : coreB K c_BadProgram cH = true)
    (mo_BadProgram : moreB K c_BadProgram = true)
    (no_BadProgram : noB K c_BadProgram ["who", "what"] = true)
    (in_BadProgram : PySem.W.findIn K (.ref c_BadProgram) "__init__" = some (some (.ref i_BadProgram)))
    (ty_BadProgram : PySem.W.typeIn K (.ref i_BadProgram) = some (.type "function"))
    (lk_BadProgram : K.lookup i_BadProgram = some ⟨oc_i_BadProgram, od_i_BadProgram, .func (PySem.W.fnOf "__init__" "BadProgram.__init__" (defArgs s_i_BadProgram) (defBody s_i_BadProgram) (defScope s_i_BadProgram) .none kV_i_BadProgram dc_i_BadProgram pm_i_BadProgram an_i_BadProgram cd_i_BadProgram ct_i_BadProgram), sl_i_BadProgram⟩)
    (cd_BadProgram : PySem.W.codeIn K cd_i_BadProgram "BadProgram.__init__" = true)
    (kp_BadProgram : PySem.W.keepIn K (.ref i_BadProgram) = true)
    (a_NoEntry : PySem.W.nsIn K mainGlobals "NoEntry" = some (some (.ref c_NoEntry)))
    (co_NoEntry : coreB K c_NoEntry cH = true)
    (mo_NoEntry : moreB K c_NoEntry = true)
    (no_NoEntry : noB K c_NoEntry ["what"] = true)
    (in_NoEntry : PySem.W.findIn K (.ref c_NoEntry) "__init__" = some (some (.ref i_NoEntry)))
    (ty_NoEntry : PySem.W.typeIn K (.ref i_NoEntry) = some (.type "function"))
    (lk_NoEntry : K.lookup i_NoEntry = some ⟨oc_i_NoEntry, od_i_NoEntry, .func (PySem.W.fnOf "__init__" "NoEntry.__init__" (defArgs s_i_NoEntry) (defBody s_i_NoEntry) (defScope s_i_NoEntry) .none kV_i_NoEntry dc_i_NoEntry pm_i_NoEntry an_i_NoEntry cd_i_NoEntry ct_i_NoEntry), sl_i_NoEntry⟩)
    (cd_NoEntry : PySem.W.codeIn K cd_i_NoEntry "NoEntry.__init__" = true)
    (kp_NoEntry : PySem.W.keepIn K (.ref i_NoEntry) = true)
    (a_BadLate : PySem.W.nsIn K mainGlobals "BadLate" = some (some (.ref c_BadLate)))
    (co_BadLate : coreB K c_BadLate cH = true)
    (mo_BadLate : moreB K c_BadLate = true)
    (no_BadLate : noB K c_BadLate ["late"] = true)
    (in_BadLate : PySem.W.findIn K (.ref c_BadLate) "__init__" = some (some (.ref i_BadLate)))
    (ty_BadLate : PySem.W.typeIn K (.ref i_BadLate) = some (.type "function"))
    (lk_BadLate : K.lookup i_BadLate = some ⟨oc_i_BadLate, od_i_BadLate, .func (PySem.W.fnOf "__init__" "BadLate.__init__" (defArgs s_i_BadLate) (defBody s_i_BadLate) (defScope s_i_BadLate) .none kV_i_BadLate dc_i_BadLate pm_i_BadLate an_i_BadLate cd_i_BadLate ct_i_BadLate), sl_i_BadLate⟩)
    (cd_BadLate : PySem.W.codeIn K cd_i_BadLate "BadLate.__init__" = true)
    (kp_BadLate : PySem.W.keepIn K (.ref i_BadLate) = true)
    (a_BadStart : PySem.W.nsIn K mainGlobals "BadStart" = some (some (.ref c_BadStart)))
    (co_BadStart : coreB K c_BadStart cH = true)
    (mo_BadStart : moreB K c_BadStart = true)
    (no_BadStart : noB K c_BadStart ["mode"] = true)
    (in_BadStart : PySem.W.findIn K (.ref c_BadStart) "__init__" = some (some (.ref i_BadStart)))
    (ty_BadStart : PySem.W.typeIn K (.ref i_BadStart) = some (.type "function"))
    (lk_BadStart : K.lookup i_BadStart = some ⟨oc_i_BadStart, od_i_BadStart, .func (PySem.W.fnOf "__init__" "BadStart.__init__" (defArgs s_i_BadStart) (defBody s_i_BadStart) (defScope s_i_BadStart) .none kV_i_BadStart dc_i_BadStart pm_i_BadStart an_i_BadStart cd_i_BadStart ct_i_BadStart), sl_i_BadStart⟩)
    (cd_BadStart : PySem.W.codeIn K cd_i_BadStart "BadStart.__init__" = true)
    (kp_BadStart : PySem.W.keepIn K (.ref i_BadStart) = true)
    (a_BadTick : PySem.W.nsIn K mainGlobals "BadTick" = some (some (.ref c_BadTick)))
    (co_BadTick : coreB K c_BadTick cH = true)
    (mo_BadTick : moreB K c_BadTick = true)
    (no_BadTick : noB K c_BadTick ["what"] = true)
    (in_BadTick : PySem.W.findIn K (.ref c_BadTick) "__init__" = some (some (.ref i_BadTick)))
    (ty_BadTick : PySem.W.typeIn K (.ref i_BadTick) = some (.type "function"))
    (lk_BadTick : K.lookup i_BadTick = some ⟨oc_i_BadTick, od_i_BadTick, .func (PySem.W.fnOf "__init__" "BadTick.__init__" (defArgs s_i_BadTick) (defBody s_i_BadTick) (defScope s_i_BadTick) .none kV_i_BadTick dc_i_BadTick pm_i_BadTick an_i_BadTick cd_i_BadTick ct_i_BadTick), sl_i_BadTick⟩)
    (cd_BadTick : PySem.W.codeIn K cd_i_BadTick "BadTick.__init__" = true)
    (kp_BadTick : PySem.W.keepIn K (.ref i_BadTick) = true)
    (a_BadRun : PySem.W.nsIn K mainGlobals "BadRun" = some (some (.ref c_BadRun)))
    (co_BadRun : coreB K c_BadRun cH = true)
    (mo_BadRun : moreB K c_BadRun = true)
    (no_BadRun : noB K c_BadRun ["tick", "what"] = true)
    (in_BadRun : PySem.W.findIn K (.ref c_BadRun) "__init__" = some (some (.ref i_BadRun)))
    (ty_BadRun : PySem.W.typeIn K (.ref i_BadRun) = some (.type "function"))
    (lk_BadRun : K.lookup i_BadRun = some ⟨oc_i_BadRun, od_i_BadRun, .func (PySem.W.fnOf "__init__" "BadRun.__init__" (defArgs s_i_BadRun) (defBody s_i_BadRun) (defScope s_i_BadRun) .none kV_i_BadRun dc_i_BadRun pm_i_BadRun an_i_BadRun cd_i_BadRun ct_i_BadRun), sl_i_BadRun⟩)
    (cd_BadRun : PySem.W.codeIn K cd_i_BadRun "BadRun.__init__" = true)
    (kp_BadRun : PySem.W.keepIn K (.ref i_BadRun) = true)
    (a_Unheard : PySem.W.nsIn K mainGlobals "Unheard" = some (some (.ref c_Unheard)))
    (co_Unheard : coreB K c_Unheard cH = true)
    (mo_Unheard : moreB K c_Unheard = true)
    (no_Unheard : noB K c_Unheard ["outcomes"] = true)
    (in_Unheard : PySem.W.findIn K (.ref c_Unheard) "__init__" = some (some (.ref i_Unheard)))
    (ty_Unheard : PySem.W.typeIn K (.ref i_Unheard) = some (.type "function"))
    (lk_Unheard : K.lookup i_Unheard = some ⟨oc_i_Unheard, od_i_Unheard, .func (PySem.W.fnOf "__init__" "Unheard.__init__" (defArgs s_i_Unheard) (defBody s_i_Unheard) (defScope s_i_Unheard) .none kV_i_Unheard dc_i_Unheard pm_i_Unheard an_i_Unheard cd_i_Unheard ct_i_Unheard), sl_i_Unheard⟩)
    (cd_Unheard : PySem.W.codeIn K cd_i_Unheard "Unheard.__init__" = true)
    (kp_Unheard : PySem.W.keepIn K (.ref i_Unheard) = true)
    (a_BadPoint : PySem.W.nsIn K mainGlobals "BadPoint" = some (some (.ref c_BadPoint)))
    (co_BadPoint : coreB K c_BadPoint cH = true)
    (mo_BadPoint : moreB K c_BadPoint = true)
    (q_BadPoint : PySem.W.excIn K c_BadPoint veL "ValueError.__new__" = true)
    (a_NoBar : PySem.W.nsIn K mainGlobals "NoBar" = some (some (.ref c_NoBar)))
    (co_NoBar : coreB K c_NoBar cH = true)
    (mo_NoBar : moreB K c_NoBar = true)
    (no_NoBar : noB K c_NoBar ["what"] = true)
    (in_NoBar : PySem.W.findIn K (.ref c_NoBar) "__init__" = some (some (.ref i_NoBar)))
    (ty_NoBar : PySem.W.typeIn K (.ref i_NoBar) = some (.type "function"))
    (lk_NoBar : K.lookup i_NoBar = some ⟨oc_i_NoBar, od_i_NoBar, .func (PySem.W.fnOf "__init__" "NoBar.__init__" (defArgs s_i_NoBar) (defBody s_i_NoBar) (defScope s_i_NoBar) .none kV_i_NoBar dc_i_NoBar pm_i_NoBar an_i_NoBar cd_i_NoBar ct_i_NoBar), sl_i_NoBar⟩)
    (cd_NoBar : PySem.W.codeIn K cd_i_NoBar "NoBar.__init__" = true)
    (kp_NoBar : PySem.W.keepIn K (.ref i_NoBar) = true)
    (a_BadBound : PySem.W.nsIn K mainGlobals "BadBound" = some (some (.ref c_BadBound)))
    (co_BadBound : coreB K c_BadBound cH = true)
    (mo_BadBound : moreB K c_BadBound = true)
    (no_BadBound : noB K c_BadBound ["bound"] = true)
    (in_BadBound : PySem.W.findIn K (.ref c_BadBound) "__init__" = some (some (.ref i_BadBound)))
    (ty_BadBound : PySem.W.typeIn K (.ref i_BadBound) = some (.type "function"))
    (lk_BadBound : K.lookup i_BadBound = some ⟨oc_i_BadBound, od_i_BadBound, .func (PySem.W.fnOf "__init__" "BadBound.__init__" (defArgs s_i_BadBound) (defBody s_i_BadBound) (defScope s_i_BadBound) .none kV_i_BadBound dc_i_BadBound pm_i_BadBound an_i_BadBound cd_i_BadBound ct_i_BadBound), sl_i_BadBound⟩)
    (cd_BadBound : PySem.W.codeIn K cd_i_BadBound "BadBound.__init__" = true)
    (kp_BadBound : PySem.W.keepIn K (.ref i_BadBound) = true)
    (a_TooLong : PySem.W.nsIn K mainGlobals "TooLong" = some (some (.ref c_TooLong)))
    (co_TooLong : coreB K c_TooLong cH = true)
    (mo_TooLong : moreB K c_TooLong = true)
    (no_TooLong : noB K c_TooLong ["ticks"] = true)
    (in_TooLong : PySem.W.findIn K (.ref c_TooLong) "__init__" = some (some (.ref i_TooLong)))
    (ty_TooLong : PySem.W.typeIn K (.ref i_TooLong) = some (.type "function"))
    (lk_TooLong : K.lookup i_TooLong = some ⟨oc_i_TooLong, od_i_TooLong, .func (PySem.W.fnOf "__init__" "TooLong.__init__" (defArgs s_i_TooLong) (defBody s_i_TooLong) (defScope s_i_TooLong) .none kV_i_TooLong dc_i_TooLong pm_i_TooLong an_i_TooLong cd_i_TooLong ct_i_TooLong), sl_i_TooLong⟩)
    (cd_TooLong : PySem.W.codeIn K cd_i_TooLong "TooLong.__init__" = true)
    (kp_TooLong : PySem.W.keepIn K (.ref i_TooLong) = true)
    (a_BadSplits : PySem.W.nsIn K mainGlobals "BadSplits" = some (some (.ref c_BadSplits)))
    (co_BadSplits : coreB K c_BadSplits cH = true)
    (mo_BadSplits : moreB K c_BadSplits = true)
    (no_BadSplits : noB K c_BadSplits ["place"] = true)
    (in_BadSplits : PySem.W.findIn K (.ref c_BadSplits) "__init__" = some (some (.ref i_BadSplits)))
    (ty_BadSplits : PySem.W.typeIn K (.ref i_BadSplits) = some (.type "function"))
    (lk_BadSplits : K.lookup i_BadSplits = some ⟨oc_i_BadSplits, od_i_BadSplits, .func (PySem.W.fnOf "__init__" "BadSplits.__init__" (defArgs s_i_BadSplits) (defBody s_i_BadSplits) (defScope s_i_BadSplits) .none kV_i_BadSplits dc_i_BadSplits pm_i_BadSplits an_i_BadSplits cd_i_BadSplits ct_i_BadSplits), sl_i_BadSplits⟩)
    (cd_BadSplits : PySem.W.codeIn K cd_i_BadSplits "BadSplits.__init__" = true)
    (kp_BadSplits : PySem.W.keepIn K (.ref i_BadSplits) = true)
    (a_TooLarge : PySem.W.nsIn K mainGlobals "TooLarge" = some (some (.ref c_TooLarge)))
    (co_TooLarge : coreB K c_TooLarge cH = true)
    (mo_TooLarge : moreB K c_TooLarge = true)
    (q_TooLarge : PySem.W.excIn K c_TooLarge veL "ValueError.__new__" = true)
    (a_NotQuiet : PySem.W.nsIn K mainGlobals "NotQuiet" = some (some (.ref c_NotQuiet)))
    (co_NotQuiet : coreB K c_NotQuiet cH = true)
    (mo_NotQuiet : moreB K c_NotQuiet = true)
    (no_NotQuiet : noB K c_NotQuiet ["state"] = true)
    (in_NotQuiet : PySem.W.findIn K (.ref c_NotQuiet) "__init__" = some (some (.ref i_NotQuiet)))
    (ty_NotQuiet : PySem.W.typeIn K (.ref i_NotQuiet) = some (.type "function"))
    (lk_NotQuiet : K.lookup i_NotQuiet = some ⟨oc_i_NotQuiet, od_i_NotQuiet, .func (PySem.W.fnOf "__init__" "NotQuiet.__init__" (defArgs s_i_NotQuiet) (defBody s_i_NotQuiet) (defScope s_i_NotQuiet) .none kV_i_NotQuiet dc_i_NotQuiet pm_i_NotQuiet an_i_NotQuiet cd_i_NotQuiet ct_i_NotQuiet), sl_i_NotQuiet⟩)
    (cd_NotQuiet : PySem.W.codeIn K cd_i_NotQuiet "NotQuiet.__init__" = true)
    (kp_NotQuiet : PySem.W.keepIn K (.ref i_NotQuiet) = true)
    (a_NotLink : PySem.W.nsIn K mainGlobals "NotLink" = some (some (.ref c_NotLink)))
    (co_NotLink : coreB K c_NotLink cH = true)
    (mo_NotLink : moreB K c_NotLink = true)
    (no_NotLink : noB K c_NotLink ["what"] = true)
    (in_NotLink : PySem.W.findIn K (.ref c_NotLink) "__init__" = some (some (.ref i_NotLink)))
    (ty_NotLink : PySem.W.typeIn K (.ref i_NotLink) = some (.type "function"))
    (lk_NotLink : K.lookup i_NotLink = some ⟨oc_i_NotLink, od_i_NotLink, .func (PySem.W.fnOf "__init__" "NotLink.__init__" (defArgs s_i_NotLink) (defBody s_i_NotLink) (defScope s_i_NotLink) .none kV_i_NotLink dc_i_NotLink pm_i_NotLink an_i_NotLink cd_i_NotLink ct_i_NotLink), sl_i_NotLink⟩)
    (cd_NotLink : PySem.W.codeIn K cd_i_NotLink "NotLink.__init__" = true)
    (kp_NotLink : PySem.W.keepIn K (.ref i_NotLink) = true)
    (a_NoLeast : PySem.W.nsIn K mainGlobals "NoLeast" = some (some (.ref c_NoLeast)))
    (co_NoLeast : coreB K c_NoLeast cH = true)
    (mo_NoLeast : moreB K c_NoLeast = true)
    (q_NoLeast : PySem.W.excIn K c_NoLeast veL "ValueError.__new__" = true)
    (a_TooWide : PySem.W.nsIn K mainGlobals "TooWide" = some (some (.ref c_TooWide)))
    (co_TooWide : coreB K c_TooWide cH = true)
    (mo_TooWide : moreB K c_TooWide = true)
    (no_TooWide : noB K c_TooWide ["late"] = true)
    (in_TooWide : PySem.W.findIn K (.ref c_TooWide) "__init__" = some (some (.ref i_TooWide)))
    (ty_TooWide : PySem.W.typeIn K (.ref i_TooWide) = some (.type "function"))
    (lk_TooWide : K.lookup i_TooWide = some ⟨oc_i_TooWide, od_i_TooWide, .func (PySem.W.fnOf "__init__" "TooWide.__init__" (defArgs s_i_TooWide) (defBody s_i_TooWide) (defScope s_i_TooWide) .none kV_i_TooWide dc_i_TooWide pm_i_TooWide an_i_TooWide cd_i_TooWide ct_i_TooWide), sl_i_TooWide⟩)
    (cd_TooWide : PySem.W.codeIn K cd_i_TooWide "TooWide.__init__" = true)
    (kp_TooWide : PySem.W.keepIn K (.ref i_TooWide) = true)
    (a_NoFit : PySem.W.nsIn K mainGlobals "NoFit" = some (some (.ref c_NoFit)))
    (co_NoFit : coreB K c_NoFit cH = true)
    (mo_NoFit : moreB K c_NoFit = true)
    (no_NoFit : noB K c_NoFit ["fault"] = true)
    (in_NoFit : PySem.W.findIn K (.ref c_NoFit) "__init__" = some (some (.ref i_NoFit)))
    (ty_NoFit : PySem.W.typeIn K (.ref i_NoFit) = some (.type "function"))
    (lk_NoFit : K.lookup i_NoFit = some ⟨oc_i_NoFit, od_i_NoFit, .func (PySem.W.fnOf "__init__" "NoFit.__init__" (defArgs s_i_NoFit) (defBody s_i_NoFit) (defScope s_i_NoFit) .none kV_i_NoFit dc_i_NoFit pm_i_NoFit an_i_NoFit cd_i_NoFit ct_i_NoFit), sl_i_NoFit⟩)
    (cd_NoFit : PySem.W.codeIn K cd_i_NoFit "NoFit.__init__" = true)
    (kp_NoFit : PySem.W.keepIn K (.ref i_NoFit) = true)
    (a_NotBelow : PySem.W.nsIn K mainGlobals "NotBelow" = some (some (.ref c_NotBelow)))
    (co_NotBelow : coreB K c_NotBelow cH = true)
    (mo_NotBelow : moreB K c_NotBelow = true)
    (no_NotBelow : noB K c_NotBelow ["least"] = true)
    (in_NotBelow : PySem.W.findIn K (.ref c_NotBelow) "__init__" = some (some (.ref i_NotBelow)))
    (ty_NotBelow : PySem.W.typeIn K (.ref i_NotBelow) = some (.type "function"))
    (lk_NotBelow : K.lookup i_NotBelow = some ⟨oc_i_NotBelow, od_i_NotBelow, .func (PySem.W.fnOf "__init__" "NotBelow.__init__" (defArgs s_i_NotBelow) (defBody s_i_NotBelow) (defScope s_i_NotBelow) .none kV_i_NotBelow dc_i_NotBelow pm_i_NotBelow an_i_NotBelow cd_i_NotBelow ct_i_NotBelow), sl_i_NotBelow⟩)
    (cd_NotBelow : PySem.W.codeIn K cd_i_NotBelow "NotBelow.__init__" = true)
    (kp_NotBelow : PySem.W.keepIn K (.ref i_NotBelow) = true)
    (a_TooFar : PySem.W.nsIn K mainGlobals "TooFar" = some (some (.ref c_TooFar)))
    (co_TooFar : coreB K c_TooFar cH = true)
    (mo_TooFar : moreB K c_TooFar = true)
    (no_TooFar : noB K c_TooFar ["ticks"] = true)
    (in_TooFar : PySem.W.findIn K (.ref c_TooFar) "__init__" = some (some (.ref i_TooFar)))
    (ty_TooFar : PySem.W.typeIn K (.ref i_TooFar) = some (.type "function"))
    (lk_TooFar : K.lookup i_TooFar = some ⟨oc_i_TooFar, od_i_TooFar, .func (PySem.W.fnOf "__init__" "TooFar.__init__" (defArgs s_i_TooFar) (defBody s_i_TooFar) (defScope s_i_TooFar) .none kV_i_TooFar dc_i_TooFar pm_i_TooFar an_i_TooFar cd_i_TooFar ct_i_TooFar), sl_i_TooFar⟩)
    (cd_TooFar : PySem.W.codeIn K cd_i_TooFar "TooFar.__init__" = true)
    (kp_TooFar : PySem.W.keepIn K (.ref i_TooFar) = true)
    (a_BadKeeping : PySem.W.nsIn K mainGlobals "BadKeeping" = some (some (.ref c_BadKeeping)))
    (co_BadKeeping : coreB K c_BadKeeping cH = true)
    (mo_BadKeeping : moreB K c_BadKeeping = true)
    (no_BadKeeping : noB K c_BadKeeping ["what", "index"] = true)
    (in_BadKeeping : PySem.W.findIn K (.ref c_BadKeeping) "__init__" = some (some (.ref i_BadKeeping)))
    (ty_BadKeeping : PySem.W.typeIn K (.ref i_BadKeeping) = some (.type "function"))
    (lk_BadKeeping : K.lookup i_BadKeeping = some ⟨oc_i_BadKeeping, od_i_BadKeeping, .func (PySem.W.fnOf "__init__" "BadKeeping.__init__" (defArgs s_i_BadKeeping) (defBody s_i_BadKeeping) (defScope s_i_BadKeeping) .none kV_i_BadKeeping dc_i_BadKeeping pm_i_BadKeeping an_i_BadKeeping cd_i_BadKeeping ct_i_BadKeeping), sl_i_BadKeeping⟩)
    (cd_BadKeeping : PySem.W.codeIn K cd_i_BadKeeping "BadKeeping.__init__" = true)
    (kp_BadKeeping : PySem.W.keepIn K (.ref i_BadKeeping) = true)
    (a_NoGroup : PySem.W.nsIn K mainGlobals "NoGroup" = some (some (.ref c_NoGroup)))
    (co_NoGroup : coreB K c_NoGroup cH = true)
    (mo_NoGroup : moreB K c_NoGroup = true)
    (q_NoGroup : PySem.W.excIn K c_NoGroup veL "ValueError.__new__" = true)
    (a_NotClosed : PySem.W.nsIn K mainGlobals "NotClosed" = some (some (.ref c_NotClosed)))
    (co_NotClosed : coreB K c_NotClosed cH = true)
    (mo_NotClosed : moreB K c_NotClosed = true)
    (no_NotClosed : noB K c_NotClosed ["key"] = true)
    (in_NotClosed : PySem.W.findIn K (.ref c_NotClosed) "__init__" = some (some (.ref i_NotClosed)))
    (ty_NotClosed : PySem.W.typeIn K (.ref i_NotClosed) = some (.type "function"))
    (lk_NotClosed : K.lookup i_NotClosed = some ⟨oc_i_NotClosed, od_i_NotClosed, .func (PySem.W.fnOf "__init__" "NotClosed.__init__" (defArgs s_i_NotClosed) (defBody s_i_NotClosed) (defScope s_i_NotClosed) .none kV_i_NotClosed dc_i_NotClosed pm_i_NotClosed an_i_NotClosed cd_i_NotClosed ct_i_NotClosed), sl_i_NotClosed⟩)
    (cd_NotClosed : PySem.W.codeIn K cd_i_NotClosed "NotClosed.__init__" = true)
    (kp_NotClosed : PySem.W.keepIn K (.ref i_NotClosed) = true)
    (a_NotDone : PySem.W.nsIn K mainGlobals "NotDone" = some (some (.ref c_NotDone)))
    (co_NotDone : coreB K c_NotDone cH = true)
    (mo_NotDone : moreB K c_NotDone = true)
    (no_NotDone : noB K c_NotDone ["most"] = true)
    (in_NotDone : PySem.W.findIn K (.ref c_NotDone) "__init__" = some (some (.ref i_NotDone)))
    (ty_NotDone : PySem.W.typeIn K (.ref i_NotDone) = some (.type "function"))
    (lk_NotDone : K.lookup i_NotDone = some ⟨oc_i_NotDone, od_i_NotDone, .func (PySem.W.fnOf "__init__" "NotDone.__init__" (defArgs s_i_NotDone) (defBody s_i_NotDone) (defScope s_i_NotDone) .none kV_i_NotDone dc_i_NotDone pm_i_NotDone an_i_NotDone cd_i_NotDone ct_i_NotDone), sl_i_NotDone⟩)
    (cd_NotDone : PySem.W.codeIn K cd_i_NotDone "NotDone.__init__" = true)
    (kp_NotDone : PySem.W.keepIn K (.ref i_NotDone) = true)
    (a_BadGroup : PySem.W.nsIn K mainGlobals "BadGroup" = some (some (.ref c_BadGroup)))
    (co_BadGroup : coreB K c_BadGroup cH = true)
    (mo_BadGroup : moreB K c_BadGroup = true)
    (q_BadGroup : PySem.W.excIn K c_BadGroup veL "ValueError.__new__" = true)
    (a_BadPrices : PySem.W.nsIn K mainGlobals "BadPrices" = some (some (.ref c_BadPrices)))
    (co_BadPrices : coreB K c_BadPrices cH = true)
    (mo_BadPrices : moreB K c_BadPrices = true)
    (no_BadPrices : noB K c_BadPrices ["sensor"] = true)
    (in_BadPrices : PySem.W.findIn K (.ref c_BadPrices) "__init__" = some (some (.ref i_BadPrices)))
    (ty_BadPrices : PySem.W.typeIn K (.ref i_BadPrices) = some (.type "function"))
    (lk_BadPrices : K.lookup i_BadPrices = some ⟨oc_i_BadPrices, od_i_BadPrices, .func (PySem.W.fnOf "__init__" "BadPrices.__init__" (defArgs s_i_BadPrices) (defBody s_i_BadPrices) (defScope s_i_BadPrices) .none kV_i_BadPrices dc_i_BadPrices pm_i_BadPrices an_i_BadPrices cd_i_BadPrices ct_i_BadPrices), sl_i_BadPrices⟩)
    (cd_BadPrices : PySem.W.codeIn K cd_i_BadPrices "BadPrices.__init__" = true)
    (kp_BadPrices : PySem.W.keepIn K (.ref i_BadPrices) = true)
    (a_BadMany : PySem.W.nsIn K mainGlobals "BadMany" = some (some (.ref c_BadMany)))
    (co_BadMany : coreB K c_BadMany cH = true)
    (mo_BadMany : moreB K c_BadMany = true)
    (no_BadMany : noB K c_BadMany ["many"] = true)
    (in_BadMany : PySem.W.findIn K (.ref c_BadMany) "__init__" = some (some (.ref i_BadMany)))
    (ty_BadMany : PySem.W.typeIn K (.ref i_BadMany) = some (.type "function"))
    (lk_BadMany : K.lookup i_BadMany = some ⟨oc_i_BadMany, od_i_BadMany, .func (PySem.W.fnOf "__init__" "BadMany.__init__" (defArgs s_i_BadMany) (defBody s_i_BadMany) (defScope s_i_BadMany) .none kV_i_BadMany dc_i_BadMany pm_i_BadMany an_i_BadMany cd_i_BadMany ct_i_BadMany), sl_i_BadMany⟩)
    (cd_BadMany : PySem.W.codeIn K cd_i_BadMany "BadMany.__init__" = true)
    (kp_BadMany : PySem.W.keepIn K (.ref i_BadMany) = true)
    (a_BadLiars : PySem.W.nsIn K mainGlobals "BadLiars" = some (some (.ref c_BadLiars)))
    (co_BadLiars : coreB K c_BadLiars cH = true)
    (mo_BadLiars : moreB K c_BadLiars = true)
    (q_BadLiars : PySem.W.excIn K c_BadLiars veL "ValueError.__new__" = true)
    (a_BadDeed : PySem.W.nsIn K mainGlobals "BadDeed" = some (some (.ref c_BadDeed)))
    (co_BadDeed : coreB K c_BadDeed cH = true)
    (mo_BadDeed : moreB K c_BadDeed = true)
    (no_BadDeed : noB K c_BadDeed ["what"] = true)
    (in_BadDeed : PySem.W.findIn K (.ref c_BadDeed) "__init__" = some (some (.ref i_BadDeed)))
    (ty_BadDeed : PySem.W.typeIn K (.ref i_BadDeed) = some (.type "function"))
    (lk_BadDeed : K.lookup i_BadDeed = some ⟨oc_i_BadDeed, od_i_BadDeed, .func (PySem.W.fnOf "__init__" "BadDeed.__init__" (defArgs s_i_BadDeed) (defBody s_i_BadDeed) (defScope s_i_BadDeed) .none kV_i_BadDeed dc_i_BadDeed pm_i_BadDeed an_i_BadDeed cd_i_BadDeed ct_i_BadDeed), sl_i_BadDeed⟩)
    (cd_BadDeed : PySem.W.codeIn K cd_i_BadDeed "BadDeed.__init__" = true)
    (kp_BadDeed : PySem.W.keepIn K (.ref i_BadDeed) = true)
    (a_NotNow : PySem.W.nsIn K mainGlobals "NotNow" = some (some (.ref c_NotNow)))
    (co_NotNow : coreB K c_NotNow cH = true)
    (mo_NotNow : moreB K c_NotNow = true)
    (q_NotNow : PySem.W.excIn K c_NotNow veL "ValueError.__new__" = true)
    (a_NoPlan : PySem.W.nsIn K mainGlobals "NoPlan" = some (some (.ref c_NoPlan)))
    (co_NoPlan : coreB K c_NoPlan cH = true)
    (mo_NoPlan : moreB K c_NoPlan = true)
    (q_NoPlan : PySem.W.excIn K c_NoPlan veL "ValueError.__new__" = true)
    (a_NoDeed : PySem.W.nsIn K mainGlobals "NoDeed" = some (some (.ref c_NoDeed)))
    (co_NoDeed : coreB K c_NoDeed cH = true)
    (mo_NoDeed : moreB K c_NoDeed = true)
    (q_NoDeed : PySem.W.excIn K c_NoDeed veL "ValueError.__new__" = true)
    (a_mix : PySem.W.nsIn K mainGlobals "_law_mix" = some (some (.ref f_mix)))
    (lk_mix : K.lookup f_mix = some ⟨oc_f_mix, od_f_mix, .func (PySem.W.fnOf "_law_mix" "_law_mix" (defArgs s_mix) (defBody s_mix) (defScope s_mix) .none kV_f_mix dc_f_mix pm_f_mix an_f_mix cd_f_mix ct_f_mix), sl_f_mix⟩)
    (cd_mix : PySem.W.codeIn K cd_f_mix "_law_mix" = true)
    (kp_mix : PySem.W.keepIn K (.ref f_mix) = true)
    (a_hand : PySem.W.nsIn K mainGlobals "_law_hand" = some (some (.ref f_hand)))
    (lk_hand : K.lookup f_hand = some ⟨oc_f_hand, od_f_hand, .func (PySem.W.fnOf "_law_hand" "_law_hand" (defArgs s_hand) (defBody s_hand) (defScope s_hand) .none kV_f_hand dc_f_hand pm_f_hand an_f_hand cd_f_hand ct_f_hand), sl_f_hand⟩)
    (cd_hand : PySem.W.codeIn K cd_f_hand "_law_hand" = true)
    (kp_hand : PySem.W.keepIn K (.ref f_hand) = true)
    (a_draw : PySem.W.nsIn K mainGlobals "_law_draw" = some (some (.ref f_draw)))
    (lk_draw : K.lookup f_draw = some ⟨oc_f_draw, od_f_draw, .func (PySem.W.fnOf "_law_draw" "_law_draw" (defArgs s_draw) (defBody s_draw) (defScope s_draw) .none kV_f_draw dc_f_draw pm_f_draw an_f_draw cd_f_draw ct_f_draw), sl_f_draw⟩)
    (cd_draw : PySem.W.codeIn K cd_f_draw "_law_draw" = true)
    (kp_draw : PySem.W.keepIn K (.ref f_draw) = true)
    (a_name : PySem.W.nsIn K mainGlobals "_law_name" = some (some (.ref f_name)))
    (lk_name : K.lookup f_name = some ⟨oc_f_name, od_f_name, .func (PySem.W.fnOf "_law_name" "_law_name" (defArgs s_name) (defBody s_name) (defScope s_name) .none kV_f_name dc_f_name pm_f_name an_f_name cd_f_name ct_f_name), sl_f_name⟩)
    (cd_name : PySem.W.codeIn K cd_f_name "_law_name" = true)
    (kp_name : PySem.W.keepIn K (.ref f_name) = true)
    (a_first : PySem.W.nsIn K mainGlobals "_law_first" = some (some (.ref f_first)))
    (lk_first : K.lookup f_first = some ⟨oc_f_first, od_f_first, .func (PySem.W.fnOf "_law_first" "_law_first" (defArgs s_first) (defBody s_first) (defScope s_first) .none kV_f_first dc_f_first pm_f_first an_f_first cd_f_first ct_f_first), sl_f_first⟩)
    (cd_first : PySem.W.codeIn K cd_f_first "_law_first" = true)
    (kp_first : PySem.W.keepIn K (.ref f_first) = true)
    (a_second : PySem.W.nsIn K mainGlobals "_law_second" = some (some (.ref f_second)))
    (lk_second : K.lookup f_second = some ⟨oc_f_second, od_f_second, .func (PySem.W.fnOf "_law_second" "_law_second" (defArgs s_second) (defBody s_second) (defScope s_second) .none kV_f_second dc_f_second pm_f_second an_f_second cd_f_second ct_f_second), sl_f_second⟩)
    (cd_second : PySem.W.codeIn K cd_f_second "_law_second" = true)
    (kp_second : PySem.W.keepIn K (.ref f_second) = true)
    (a_third : PySem.W.nsIn K mainGlobals "_law_third" = some (some (.ref f_third)))
    (lk_third : K.lookup f_third = some ⟨oc_f_third, od_f_third, .func (PySem.W.fnOf "_law_third" "_law_third" (defArgs s_third) (defBody s_third) (defScope s_third) .none kV_f_third dc_f_third pm_f_third an_f_third cd_f_third ct_f_third), sl_f_third⟩)
    (cd_third : PySem.W.codeIn K cd_f_third "_law_third" = true)
    (kp_third : PySem.W.keepIn K (.ref f_third) = true)
    (a_classes : PySem.W.nsIn K mainGlobals "_law_classes" = some (some (.ref f_classes)))
    (lk_classes : K.lookup f_classes = some ⟨oc_f_classes, od_f_classes, .func (PySem.W.fnOf "_law_classes" "_law_classes" (defArgs s_classes) (defBody s_classes) (defScope s_classes) .none kV_f_classes dc_f_classes pm_f_classes an_f_classes cd_f_classes ct_f_classes), sl_f_classes⟩)
    (cd_classes : PySem.W.codeIn K cd_f_classes "_law_classes" = true)
    (kp_classes : PySem.W.keepIn K (.ref f_classes) = true)
    (a_raised : PySem.W.nsIn K mainGlobals "_law_raised" = some (some (.ref f_raised)))
    (lk_raised : K.lookup f_raised = some ⟨oc_f_raised, od_f_raised, .func (PySem.W.fnOf "_law_raised" "_law_raised" (defArgs s_raised) (defBody s_raised) (defScope s_raised) .none kV_f_raised dc_f_raised pm_f_raised an_f_raised cd_f_raised ct_f_raised), sl_f_raised⟩)
    (cd_raised : PySem.W.codeIn K cd_f_raised "_law_raised" = true)
    (kp_raised : PySem.W.keepIn K (.ref f_raised) = true)
    (a_law : PySem.W.nsIn K mainGlobals "law" = some (some (.ref f_law)))
    (lk_law : K.lookup f_law = some ⟨oc_f_law, od_f_law, .func (PySem.W.fnOf "law" "law" (defArgs s_law) (defBody s_law) (defScope s_law) .none kV_f_law dc_f_law pm_f_law an_f_law cd_f_law ct_f_law), sl_f_law⟩)
    (cd_law : PySem.W.codeIn K cd_f_law "law" = true)
    (kp_law : PySem.W.keepIn K (.ref f_law) = true)
    (z_int : PySem.W.nsIn K mainGlobals "int" = some none)
    (z_abs : PySem.W.nsIn K mainGlobals "abs" = some none)
    (z_len : PySem.W.nsIn K mainGlobals "len" = some none)
    (z_enumerate : PySem.W.nsIn K mainGlobals "enumerate" = some none)
    (z_range : PySem.W.nsIn K mainGlobals "range" = some none)
    (z_isinstance : PySem.W.nsIn K mainGlobals "isinstance" = some none)
    (z_any : PySem.W.nsIn K mainGlobals "any" = some none)
    (z_ValueError : PySem.W.nsIn K mainGlobals "ValueError" = some none)
    (nodup : (cH :: clsList ⟨cH, c_BadRatio, c_BadPlant, c_NoMode, c_BadPhase, c_BadTicks, c_BadTimes, c_BadUnit, c_BadChannel, c_NoWord, c_BadOrder, c_BadPeriod, c_BadLots, c_BadSensor, c_BadWorld, c_NoSensor, c_BadOutcomes, c_BadText, c_Rising, c_BadBase, c_CountFull, c_ManyMessages, c_Barred, c_LastMode, c_NoOutcome, c_LastOutcome, c_NoLot, c_TooNear, c_BadProgram, c_NoEntry, c_BadLate, c_BadStart, c_BadTick, c_BadRun, c_Unheard, c_BadPoint, c_NoBar, c_BadBound, c_TooLong, c_BadSplits, c_TooLarge, c_NotQuiet, c_NotLink, c_NoLeast, c_TooWide, c_NoFit, c_NotBelow, c_TooFar, c_BadKeeping, c_NoGroup, c_NotClosed, c_NotDone, c_BadGroup, c_BadPrices, c_BadMany, c_BadLiars, c_BadDeed, c_NotNow, c_NoPlan, c_NoDeed⟩).Nodup) :
    ∃ fd : FuncData, (∀ (s : Shared) (v : Value), BindsTo s fd ⟨[v], []⟩ [("script", v)]) ∧ ∀ base : Heap, K.In base → base.Ns mainGlobals mg → FnOk l.prog w K mg base CX0 4 fa fd ["script"] (spLaw K) := by
  have e := hfa.symm.trans (PySem.W.mg_of X G a_law)
  cases e
  have T : Bl mg := ⟨PySem.W.mg_none_of X G z_int, PySem.W.mg_none_of X G z_abs, PySem.W.mg_none_of X G z_len, PySem.W.mg_none_of X G z_enumerate, PySem.W.mg_none_of X G z_range, PySem.W.mg_none_of X G z_isinstance, PySem.W.mg_none_of X G z_any, PySem.W.mg_none_of X G z_ValueError⟩
  have gH := PySem.W.mg_of X G aH
  have kt : Kits K ⟨cH, c_BadRatio, c_BadPlant, c_NoMode, c_BadPhase, c_BadTicks, c_BadTimes, c_BadUnit, c_BadChannel, c_NoWord, c_BadOrder, c_BadPeriod, c_BadLots, c_BadSensor, c_BadWorld, c_NoSensor, c_BadOutcomes, c_BadText, c_Rising, c_BadBase, c_CountFull, c_ManyMessages, c_Barred, c_LastMode, c_NoOutcome, c_LastOutcome, c_NoLot, c_TooNear, c_BadProgram, c_NoEntry, c_BadLate, c_BadStart, c_BadTick, c_BadRun, c_Unheard, c_BadPoint, c_NoBar, c_BadBound, c_TooLong, c_BadSplits, c_TooLarge, c_NotQuiet, c_NotLink, c_NoLeast, c_TooWide, c_NoFit, c_NotBelow, c_TooFar, c_BadKeeping, c_NoGroup, c_NotClosed, c_NotDone, c_BadGroup, c_BadPrices, c_BadMany, c_BadLiars, c_BadDeed, c_NotNow, c_NoPlan, c_NoDeed⟩ := by
    have cores : ∀ C ∈ clsList ⟨cH, c_BadRatio, c_BadPlant, c_NoMode, c_BadPhase, c_BadTicks, c_BadTimes, c_BadUnit, c_BadChannel, c_NoWord, c_BadOrder, c_BadPeriod, c_BadLots, c_BadSensor, c_BadWorld, c_NoSensor, c_BadOutcomes, c_BadText, c_Rising, c_BadBase, c_CountFull, c_ManyMessages, c_Barred, c_LastMode, c_NoOutcome, c_LastOutcome, c_NoLot, c_TooNear, c_BadProgram, c_NoEntry, c_BadLate, c_BadStart, c_BadTick, c_BadRun, c_Unheard, c_BadPoint, c_NoBar, c_BadBound, c_TooLong, c_BadSplits, c_TooLarge, c_NotQuiet, c_NotLink, c_NoLeast, c_TooWide, c_NoFit, c_NotBelow, c_TooFar, c_BadKeeping, c_NoGroup, c_NotClosed, c_NotDone, c_BadGroup, c_BadPrices, c_BadMany, c_BadLiars, c_BadDeed, c_NotNow, c_NoPlan, c_NoDeed⟩, Core K C cH := (all_cons (core_ok co_BadRatio) (all_cons (core_ok co_BadPlant) (all_cons (core_ok co_NoMode) (all_cons (core_ok co_BadPhase) (all_cons (core_ok co_BadTicks) (all_cons (core_ok co_BadTimes) (all_cons (core_ok co_BadUnit) (all_cons (core_ok co_BadOutcomes) (all_cons (core_ok co_BadChannel) (all_cons (core_ok co_NoWord) (all_cons (core_ok co_BadOrder) (all_cons (core_ok co_BadPeriod) (all_cons (core_ok co_BadLots) (all_cons (core_ok co_BadSensor) (all_cons (core_ok co_BadWorld) (all_cons (core_ok co_NoSensor) (all_cons (core_ok co_BadText) (all_cons (core_ok co_Rising) (all_cons (core_ok co_BadBase) (all_cons (core_ok co_CountFull) (all_cons (core_ok co_ManyMessages) (all_cons (core_ok co_Barred) (all_cons (core_ok co_LastMode) (all_cons (core_ok co_NoOutcome) (all_cons (core_ok co_LastOutcome) (all_cons (core_ok co_NoLot) (all_cons (core_ok co_TooNear) (all_cons (core_ok co_BadProgram) (all_cons (core_ok co_NoEntry) (all_cons (core_ok co_BadLate) (all_cons (core_ok co_BadStart) (all_cons (core_ok co_BadTick) (all_cons (core_ok co_BadRun) (all_cons (core_ok co_Unheard) (all_cons (core_ok co_BadPoint) (all_cons (core_ok co_NoBar) (all_cons (core_ok co_BadBound) (all_cons (core_ok co_TooLong) (all_cons (core_ok co_BadSplits) (all_cons (core_ok co_TooLarge) (all_cons (core_ok co_NotQuiet) (all_cons (core_ok co_NotLink) (all_cons (core_ok co_NoLeast) (all_cons (core_ok co_TooWide) (all_cons (core_ok co_NoFit) (all_cons (core_ok co_NotBelow) (all_cons (core_ok co_TooFar) (all_cons (core_ok co_BadKeeping) (all_cons (core_ok co_NoGroup) (all_cons (core_ok co_NotClosed) (all_cons (core_ok co_NotDone) (all_cons (core_ok co_BadGroup) (all_cons (core_ok co_BadPrices) (all_cons (core_ok co_BadMany) (all_cons (core_ok co_BadLiars) (all_cons (core_ok co_BadDeed) (all_cons (core_ok co_NotNow) (all_cons (core_ok co_NoPlan) (all_cons (core_ok co_NoDeed) all_nil)))))))))))))))))))))))))))))))))))))))))))))))))))))))))))
    obtain ⟨nH, nd⟩ := List.nodup_cons.mp nodup
    refine ⟨nd, fun C hC D hD => kit_two (cores C hC) (cores D hD) (fun z => nH (z ▸ hD)), fun C hC => (kit_held (cores C hC) sH tH).1, fun C hC => kit_value (cores C hC), ?_⟩
    have z := (kit_held (core_ok co_NoMode) sH tH).2
    show (if (PySem.W.subIn K (.ref cH) (.type "BaseException") == some true) = true then PySem.W.kitCls K (.ref c_NoMode) (.ref cH) else none) = some true
    rw [bH, if_pos (by decide +kernel)]
    exact z
  have F_mix := fun_mk (st := s_mix) lk_mix cd_mix kp_mix
  have F_hand := fun_mk (st := s_hand) lk_hand cd_hand kp_hand
  have F_draw := fun_mk (st := s_draw) lk_draw cd_draw kp_draw
  have F_name := fun_mk (st := s_name) lk_name cd_name kp_name
  have F_first := fun_mk (st := s_first) lk_first cd_first kp_first
  have F_second := fun_mk (st := s_second) lk_second cd_second kp_second
  have F_third := fun_mk (st := s_third) lk_third cd_third kp_third
  have F_classes := fun_mk (st := s_classes) lk_classes cd_classes kp_classes
  have F_raised := fun_mk (st := s_raised) lk_raised cd_raised kp_raised
  have F_law := fun_mk (st := s_law) lk_law cd_law kp_law
  refine ⟨PySem.W.fnOf "law" "law" (defArgs s_law) (defBody s_law) (defScope s_law) .none kV_f_law dc_f_law pm_f_law an_f_law cd_f_law ct_f_law, fun s v => .of_eq rfl, fun base _ _ => ?_⟩
  have TC : ClsAll l.prog w K mg base ⟨cH, c_BadRatio, c_BadPlant, c_NoMode, c_BadPhase, c_BadTicks, c_BadTimes, c_BadUnit, c_BadChannel, c_NoWord, c_BadOrder, c_BadPeriod, c_BadLots, c_BadSensor, c_BadWorld, c_NoSensor, c_BadOutcomes, c_BadText, c_Rising, c_BadBase, c_CountFull, c_ManyMessages, c_Barred, c_LastMode, c_NoOutcome, c_LastOutcome, c_NoLot, c_TooNear, c_BadProgram, c_NoEntry, c_BadLate, c_BadStart, c_BadTick, c_BadRun, c_Unheard, c_BadPoint, c_NoBar, c_BadBound, c_TooLong, c_BadSplits, c_TooLarge, c_NotQuiet, c_NotLink, c_NoLeast, c_TooWide, c_NoFit, c_NotBelow, c_TooFar, c_BadKeeping, c_NoGroup, c_NotClosed, c_NotDone, c_BadGroup, c_BadPrices, c_BadMany, c_BadLiars, c_BadDeed, c_NotNow, c_NoPlan, c_NoDeed⟩ := {
    c_BadRatio := cl_mk X G hn ht a_BadRatio co_BadRatio mo_BadRatio no_BadRatio in_BadRatio ty_BadRatio (fun O N => ok_i_BadRatio (fun_mk (st := s_i_BadRatio) lk_BadRatio cd_BadRatio kp_BadRatio) O (N _ (List.Mem.head _))) ((fun_mk (st := s_i_BadRatio) lk_BadRatio cd_BadRatio kp_BadRatio).binds (ps := ["self", "what"]) fun _ _ _ _ _ _ us hl => match us, hl with | [_, _], _ => rfl)
    c_BadPlant := cl_mk X G hn ht a_BadPlant co_BadPlant mo_BadPlant no_BadPlant in_BadPlant ty_BadPlant (fun O N => ok_i_BadPlant (fun_mk (st := s_i_BadPlant) lk_BadPlant cd_BadPlant kp_BadPlant) O (N _ (List.Mem.head _)) (N _ (List.Mem.tail _ (List.Mem.head _)))) ((fun_mk (st := s_i_BadPlant) lk_BadPlant cd_BadPlant kp_BadPlant).binds (ps := ["self", "what", "mode"]) fun _ _ _ _ _ _ us hl => match us, hl with | [_, _, _], _ => rfl)
    c_NoMode := cl_mk X G hn ht a_NoMode co_NoMode mo_NoMode no_NoMode in_NoMode ty_NoMode (fun O N => ok_i_NoMode (fun_mk (st := s_i_NoMode) lk_NoMode cd_NoMode kp_NoMode) O (N _ (List.Mem.head _))) ((fun_mk (st := s_i_NoMode) lk_NoMode cd_NoMode kp_NoMode).binds (ps := ["self", "mode"]) fun _ _ _ _ _ _ us hl => match us, hl with | [_, _], _ => rfl)
    c_BadPhase := cl_mk X G hn ht a_BadPhase co_BadPhase mo_BadPhase no_BadPhase in_BadPhase ty_BadPhase (fun O N => ok_i_BadPhase (fun_mk (st := s_i_BadPhase) lk_BadPhase cd_BadPhase kp_BadPhase) O (N _ (List.Mem.head _))) ((fun_mk (st := s_i_BadPhase) lk_BadPhase cd_BadPhase kp_BadPhase).binds (ps := ["self", "phase"]) fun _ _ _ _ _ _ us hl => match us, hl with | [_, _], _ => rfl)
    c_BadTicks := cl_mk X G hn ht a_BadTicks co_BadTicks mo_BadTicks no_BadTicks in_BadTicks ty_BadTicks (fun O N => ok_i_BadTicks (fun_mk (st := s_i_BadTicks) lk_BadTicks cd_BadTicks kp_BadTicks) O (N _ (List.Mem.head _))) ((fun_mk (st := s_i_BadTicks) lk_BadTicks cd_BadTicks kp_BadTicks).binds (ps := ["self", "ticks"]) fun _ _ _ _ _ _ us hl => match us, hl with | [_, _], _ => rfl)
    c_BadTimes := cl_mk X G hn ht a_BadTimes co_BadTimes mo_BadTimes no_BadTimes in_BadTimes ty_BadTimes (fun O N => ok_i_BadTimes (fun_mk (st := s_i_BadTimes) lk_BadTimes cd_BadTimes kp_BadTimes) O (N _ (List.Mem.head _))) ((fun_mk (st := s_i_BadTimes) lk_BadTimes cd_BadTimes kp_BadTimes).binds (ps := ["self", "repeats"]) fun _ _ _ _ _ _ us hl => match us, hl with | [_, _], _ => rfl)
    c_BadUnit := cl_mk X G hn ht a_BadUnit co_BadUnit mo_BadUnit no_BadUnit in_BadUnit ty_BadUnit (fun O N => ok_i_BadUnit (fun_mk (st := s_i_BadUnit) lk_BadUnit cd_BadUnit kp_BadUnit) O (N _ (List.Mem.head _))) ((fun_mk (st := s_i_BadUnit) lk_BadUnit cd_BadUnit kp_BadUnit).binds (ps := ["self", "unit"]) fun _ _ _ _ _ _ us hl => match us, hl with | [_, _], _ => rfl)
    c_BadChannel := cl_mk X G hn ht a_BadChannel co_BadChannel mo_BadChannel no_BadChannel in_BadChannel ty_BadChannel (fun O N => ok_i_BadChannel (fun_mk (st := s_i_BadChannel) lk_BadChannel cd_BadChannel kp_BadChannel) O (N _ (List.Mem.head _)) (N _ (List.Mem.tail _ (List.Mem.head _))) (N _ (List.Mem.tail _ (List.Mem.tail _ (List.Mem.head _))))) ((fun_mk (st := s_i_BadChannel) lk_BadChannel cd_BadChannel kp_BadChannel).binds (ps := ["self", "what", "phase", "word"]) fun _ _ _ _ _ _ us hl => match us, hl with | [_, _, _, _], _ => rfl)
    c_NoWord := cl_mk X G hn ht a_NoWord co_NoWord mo_NoWord no_NoWord in_NoWord ty_NoWord (fun O N => ok_i_NoWord (fun_mk (st := s_i_NoWord) lk_NoWord cd_NoWord kp_NoWord) O (N _ (List.Mem.head _))) ((fun_mk (st := s_i_NoWord) lk_NoWord cd_NoWord kp_NoWord).binds (ps := ["self", "word"]) fun _ _ _ _ _ _ us hl => match us, hl with | [_, _], _ => rfl)
    c_BadOrder := cl_mk X G hn ht a_BadOrder co_BadOrder mo_BadOrder no_BadOrder in_BadOrder ty_BadOrder (fun O N => ok_i_BadOrder (fun_mk (st := s_i_BadOrder) lk_BadOrder cd_BadOrder kp_BadOrder) O (N _ (List.Mem.head _))) ((fun_mk (st := s_i_BadOrder) lk_BadOrder cd_BadOrder kp_BadOrder).binds (ps := ["self", "what"]) fun _ _ _ _ _ _ us hl => match us, hl with | [_, _], _ => rfl)
    c_BadPeriod := cl_mk X G hn ht a_BadPeriod co_BadPeriod mo_BadPeriod no_BadPeriod in_BadPeriod ty_BadPeriod (fun O N => ok_i_BadPeriod (fun_mk (st := s_i_BadPeriod) lk_BadPeriod cd_BadPeriod kp_BadPeriod) O (N _ (List.Mem.head _)) (N _ (List.Mem.tail _ (List.Mem.head _)))) ((fun_mk (st := s_i_BadPeriod) lk_BadPeriod cd_BadPeriod kp_BadPeriod).binds (ps := ["self", "one", "other"]) fun _ _ _ _ _ _ us hl => match us, hl with | [_, _, _], _ => rfl)
    c_BadLots := cl_mk X G hn ht a_BadLots co_BadLots mo_BadLots no_BadLots in_BadLots ty_BadLots (fun O N => ok_i_BadLots (fun_mk (st := s_i_BadLots) lk_BadLots cd_BadLots kp_BadLots) O (N _ (List.Mem.head _)) (N _ (List.Mem.tail _ (List.Mem.head _)))) ((fun_mk (st := s_i_BadLots) lk_BadLots cd_BadLots kp_BadLots).binds (ps := ["self", "index", "what"]) fun _ _ _ _ _ _ us hl => match us, hl with | [_, _, _], _ => rfl)
    c_BadSensor := cl_mk X G hn ht a_BadSensor co_BadSensor mo_BadSensor no_BadSensor in_BadSensor ty_BadSensor (fun O N => ok_i_BadSensor (fun_mk (st := s_i_BadSensor) lk_BadSensor cd_BadSensor kp_BadSensor) O (N _ (List.Mem.head _))) ((fun_mk (st := s_i_BadSensor) lk_BadSensor cd_BadSensor kp_BadSensor).binds (ps := ["self", "what"]) fun _ _ _ _ _ _ us hl => match us, hl with | [_, _], _ => rfl)
    c_BadWorld := cl_mk X G hn ht a_BadWorld co_BadWorld mo_BadWorld no_BadWorld in_BadWorld ty_BadWorld (fun O N => ok_i_BadWorld (fun_mk (st := s_i_BadWorld) lk_BadWorld cd_BadWorld kp_BadWorld) O (N _ (List.Mem.head _)) (N _ (List.Mem.tail _ (List.Mem.head _)))) ((fun_mk (st := s_i_BadWorld) lk_BadWorld cd_BadWorld kp_BadWorld).binds (ps := ["self", "what", "sensor"]) fun _ _ _ _ _ _ us hl => match us, hl with | [_, _, _], _ => rfl)
    c_NoSensor := cl_mk X G hn ht a_NoSensor co_NoSensor mo_NoSensor no_NoSensor in_NoSensor ty_NoSensor (fun O N => ok_i_NoSensor (fun_mk (st := s_i_NoSensor) lk_NoSensor cd_NoSensor kp_NoSensor) O (N _ (List.Mem.head _))) ((fun_mk (st := s_i_NoSensor) lk_NoSensor cd_NoSensor kp_NoSensor).binds (ps := ["self", "sensor"]) fun _ _ _ _ _ _ us hl => match us, hl with | [_, _], _ => rfl)
    c_BadOutcomes := cl0_mk X G hn ht a_BadOutcomes co_BadOutcomes mo_BadOutcomes q_BadOutcomes
    c_BadText := cl_mk X G hn ht a_BadText co_BadText mo_BadText no_BadText in_BadText ty_BadText (fun O N => ok_i_BadText (fun_mk (st := s_i_BadText) lk_BadText cd_BadText kp_BadText) O (N _ (List.Mem.head _)) (N _ (List.Mem.tail _ (List.Mem.head _)))) ((fun_mk (st := s_i_BadText) lk_BadText cd_BadText kp_BadText).binds (ps := ["self", "row", "what"]) fun _ _ _ _ _ _ us hl => match us, hl with | [_, _, _], _ => rfl)
    c_Rising := cl_mk X G hn ht a_Rising co_Rising mo_Rising no_Rising in_Rising ty_Rising (fun O N => ok_i_Rising (fun_mk (st := s_i_Rising) lk_Rising cd_Rising kp_Rising) O (N _ (List.Mem.head _))) ((fun_mk (st := s_i_Rising) lk_Rising cd_Rising kp_Rising).binds (ps := ["self", "ray"]) fun _ _ _ _ _ _ us hl => match us, hl with | [_, _], _ => rfl)
    c_BadBase := cl0_mk X G hn ht a_BadBase co_BadBase mo_BadBase q_BadBase
    c_CountFull := cl_mk X G hn ht a_CountFull co_CountFull mo_CountFull no_CountFull in_CountFull ty_CountFull (fun O N => ok_i_CountFull (fun_mk (st := s_i_CountFull) lk_CountFull cd_CountFull kp_CountFull) O (N _ (List.Mem.head _))) ((fun_mk (st := s_i_CountFull) lk_CountFull cd_CountFull kp_CountFull).binds (ps := ["self", "tried"]) fun _ _ _ _ _ _ us hl => match us, hl with | [_, _], _ => rfl)
    c_ManyMessages := cl_mk X G hn ht a_ManyMessages co_ManyMessages mo_ManyMessages no_ManyMessages in_ManyMessages ty_ManyMessages (fun O N => ok_i_ManyMessages (fun_mk (st := s_i_ManyMessages) lk_ManyMessages cd_ManyMessages kp_ManyMessages) O (N _ (List.Mem.head _))) ((fun_mk (st := s_i_ManyMessages) lk_ManyMessages cd_ManyMessages kp_ManyMessages).binds (ps := ["self", "greatest"]) fun _ _ _ _ _ _ us hl => match us, hl with | [_, _], _ => rfl)
    c_Barred := cl_mk X G hn ht a_Barred co_Barred mo_Barred no_Barred in_Barred ty_Barred (fun O N => ok_i_Barred (fun_mk (st := s_i_Barred) lk_Barred cd_Barred kp_Barred) O (N _ (List.Mem.head _))) ((fun_mk (st := s_i_Barred) lk_Barred cd_Barred kp_Barred).binds (ps := ["self", "bar"]) fun _ _ _ _ _ _ us hl => match us, hl with | [_, _], _ => rfl)
    c_LastMode := cl0_mk X G hn ht a_LastMode co_LastMode mo_LastMode q_LastMode
    c_NoOutcome := cl_mk X G hn ht a_NoOutcome co_NoOutcome mo_NoOutcome no_NoOutcome in_NoOutcome ty_NoOutcome (fun O N => ok_i_NoOutcome (fun_mk (st := s_i_NoOutcome) lk_NoOutcome cd_NoOutcome kp_NoOutcome) O (N _ (List.Mem.head _)) (N _ (List.Mem.tail _ (List.Mem.head _)))) ((fun_mk (st := s_i_NoOutcome) lk_NoOutcome cd_NoOutcome kp_NoOutcome).binds (ps := ["self", "word", "outcome"]) fun _ _ _ _ _ _ us hl => match us, hl with | [_, _, _], _ => rfl)
    c_LastOutcome := cl_mk X G hn ht a_LastOutcome co_LastOutcome mo_LastOutcome no_LastOutcome in_LastOutcome ty_LastOutcome (fun O N => ok_i_LastOutcome (fun_mk (st := s_i_LastOutcome) lk_LastOutcome cd_LastOutcome kp_LastOutcome) O (N _ (List.Mem.head _))) ((fun_mk (st := s_i_LastOutcome) lk_LastOutcome cd_LastOutcome kp_LastOutcome).binds (ps := ["self", "word"]) fun _ _ _ _ _ _ us hl => match us, hl with | [_, _], _ => rfl)
    c_NoLot := cl_mk X G hn ht a_NoLot co_NoLot mo_NoLot no_NoLot in_NoLot ty_NoLot (fun O N => ok_i_NoLot (fun_mk (st := s_i_NoLot) lk_NoLot cd_NoLot kp_NoLot) O (N _ (List.Mem.head _))) ((fun_mk (st := s_i_NoLot) lk_NoLot cd_NoLot kp_NoLot).binds (ps := ["self", "lot"]) fun _ _ _ _ _ _ us hl => match us, hl with | [_, _], _ => rfl)
    c_TooNear := cl_mk X G hn ht a_TooNear co_TooNear mo_TooNear no_TooNear in_TooNear ty_TooNear (fun O N => ok_i_TooNear (fun_mk (st := s_i_TooNear) lk_TooNear cd_TooNear kp_TooNear) O (N _ (List.Mem.head _))) ((fun_mk (st := s_i_TooNear) lk_TooNear cd_TooNear kp_TooNear).binds (ps := ["self", "tried"]) fun _ _ _ _ _ _ us hl => match us, hl with | [_, _], _ => rfl)
    c_BadProgram := cl_mk X G hn ht a_BadProgram co_BadProgram mo_BadProgram no_BadProgram in_BadProgram ty_BadProgram (fun O N => ok_i_BadProgram (fun_mk (st := s_i_BadProgram) lk_BadProgram cd_BadProgram kp_BadProgram) O (N _ (List.Mem.head _)) (N _ (List.Mem.tail _ (List.Mem.head _)))) ((fun_mk (st := s_i_BadProgram) lk_BadProgram cd_BadProgram kp_BadProgram).binds (ps := ["self", "who", "what"]) fun _ _ _ _ _ _ us hl => match us, hl with | [_, _, _], _ => rfl)
    c_NoEntry := cl_mk X G hn ht a_NoEntry co_NoEntry mo_NoEntry no_NoEntry in_NoEntry ty_NoEntry (fun O N => ok_i_NoEntry (fun_mk (st := s_i_NoEntry) lk_NoEntry cd_NoEntry kp_NoEntry) O (N _ (List.Mem.head _))) ((fun_mk (st := s_i_NoEntry) lk_NoEntry cd_NoEntry kp_NoEntry).binds (ps := ["self", "what"]) fun _ _ _ _ _ _ us hl => match us, hl with | [_, _], _ => rfl)
    c_BadLate := cl_mk X G hn ht a_BadLate co_BadLate mo_BadLate no_BadLate in_BadLate ty_BadLate (fun O N => ok_i_BadLate (fun_mk (st := s_i_BadLate) lk_BadLate cd_BadLate kp_BadLate) O (N _ (List.Mem.head _))) ((fun_mk (st := s_i_BadLate) lk_BadLate cd_BadLate kp_BadLate).binds (ps := ["self", "late"]) fun _ _ _ _ _ _ us hl => match us, hl with | [_, _], _ => rfl)
    c_BadStart := cl_mk X G hn ht a_BadStart co_BadStart mo_BadStart no_BadStart in_BadStart ty_BadStart (fun O N => ok_i_BadStart (fun_mk (st := s_i_BadStart) lk_BadStart cd_BadStart kp_BadStart) O (N _ (List.Mem.head _))) ((fun_mk (st := s_i_BadStart) lk_BadStart cd_BadStart kp_BadStart).binds (ps := ["self", "mode"]) fun _ _ _ _ _ _ us hl => match us, hl with | [_, _], _ => rfl)
    c_BadTick := cl_mk X G hn ht a_BadTick co_BadTick mo_BadTick no_BadTick in_BadTick ty_BadTick (fun O N => ok_i_BadTick (fun_mk (st := s_i_BadTick) lk_BadTick cd_BadTick kp_BadTick) O (N _ (List.Mem.head _))) ((fun_mk (st := s_i_BadTick) lk_BadTick cd_BadTick kp_BadTick).binds (ps := ["self", "what"]) fun _ _ _ _ _ _ us hl => match us, hl with | [_, _], _ => rfl)
    c_BadRun := cl_mk X G hn ht a_BadRun co_BadRun mo_BadRun no_BadRun in_BadRun ty_BadRun (fun O N => ok_i_BadRun (fun_mk (st := s_i_BadRun) lk_BadRun cd_BadRun kp_BadRun) O (N _ (List.Mem.head _)) (N _ (List.Mem.tail _ (List.Mem.head _)))) ((fun_mk (st := s_i_BadRun) lk_BadRun cd_BadRun kp_BadRun).binds (ps := ["self", "tick", "what"]) fun _ _ _ _ _ _ us hl => match us, hl with | [_, _, _], _ => rfl)
    c_Unheard := cl_mk X G hn ht a_Unheard co_Unheard mo_Unheard no_Unheard in_Unheard ty_Unheard (fun O N => ok_i_Unheard (fun_mk (st := s_i_Unheard) lk_Unheard cd_Unheard kp_Unheard) O (N _ (List.Mem.head _))) ((fun_mk (st := s_i_Unheard) lk_Unheard cd_Unheard kp_Unheard).binds (ps := ["self", "outcomes"]) fun _ _ _ _ _ _ us hl => match us, hl with | [_, _], _ => rfl)
    c_BadPoint := cl0_mk X G hn ht a_BadPoint co_BadPoint mo_BadPoint q_BadPoint
    c_NoBar := cl_mk X G hn ht a_NoBar co_NoBar mo_NoBar no_NoBar in_NoBar ty_NoBar (fun O N => ok_i_NoBar (fun_mk (st := s_i_NoBar) lk_NoBar cd_NoBar kp_NoBar) O (N _ (List.Mem.head _))) ((fun_mk (st := s_i_NoBar) lk_NoBar cd_NoBar kp_NoBar).binds (ps := ["self", "what"]) fun _ _ _ _ _ _ us hl => match us, hl with | [_, _], _ => rfl)
    c_BadBound := cl_mk X G hn ht a_BadBound co_BadBound mo_BadBound no_BadBound in_BadBound ty_BadBound (fun O N => ok_i_BadBound (fun_mk (st := s_i_BadBound) lk_BadBound cd_BadBound kp_BadBound) O (N _ (List.Mem.head _))) ((fun_mk (st := s_i_BadBound) lk_BadBound cd_BadBound kp_BadBound).binds (ps := ["self", "bound"]) fun _ _ _ _ _ _ us hl => match us, hl with | [_, _], _ => rfl)
    c_TooLong := cl_mk X G hn ht a_TooLong co_TooLong mo_TooLong no_TooLong in_TooLong ty_TooLong (fun O N => ok_i_TooLong (fun_mk (st := s_i_TooLong) lk_TooLong cd_TooLong kp_TooLong) O (N _ (List.Mem.head _))) ((fun_mk (st := s_i_TooLong) lk_TooLong cd_TooLong kp_TooLong).binds (ps := ["self", "ticks"]) fun _ _ _ _ _ _ us hl => match us, hl with | [_, _], _ => rfl)
    c_BadSplits := cl_mk X G hn ht a_BadSplits co_BadSplits mo_BadSplits no_BadSplits in_BadSplits ty_BadSplits (fun O N => ok_i_BadSplits (fun_mk (st := s_i_BadSplits) lk_BadSplits cd_BadSplits kp_BadSplits) O (N _ (List.Mem.head _))) ((fun_mk (st := s_i_BadSplits) lk_BadSplits cd_BadSplits kp_BadSplits).binds (ps := ["self", "place"]) fun _ _ _ _ _ _ us hl => match us, hl with | [_, _], _ => rfl)
    c_TooLarge := cl0_mk X G hn ht a_TooLarge co_TooLarge mo_TooLarge q_TooLarge
    c_NotQuiet := cl_mk X G hn ht a_NotQuiet co_NotQuiet mo_NotQuiet no_NotQuiet in_NotQuiet ty_NotQuiet (fun O N => ok_i_NotQuiet (fun_mk (st := s_i_NotQuiet) lk_NotQuiet cd_NotQuiet kp_NotQuiet) O (N _ (List.Mem.head _))) ((fun_mk (st := s_i_NotQuiet) lk_NotQuiet cd_NotQuiet kp_NotQuiet).binds (ps := ["self", "state"]) fun _ _ _ _ _ _ us hl => match us, hl with | [_, _], _ => rfl)
    c_NotLink := cl_mk X G hn ht a_NotLink co_NotLink mo_NotLink no_NotLink in_NotLink ty_NotLink (fun O N => ok_i_NotLink (fun_mk (st := s_i_NotLink) lk_NotLink cd_NotLink kp_NotLink) O (N _ (List.Mem.head _))) ((fun_mk (st := s_i_NotLink) lk_NotLink cd_NotLink kp_NotLink).binds (ps := ["self", "what"]) fun _ _ _ _ _ _ us hl => match us, hl with | [_, _], _ => rfl)
    c_NoLeast := cl0_mk X G hn ht a_NoLeast co_NoLeast mo_NoLeast q_NoLeast
    c_TooWide := cl_mk X G hn ht a_TooWide co_TooWide mo_TooWide no_TooWide in_TooWide ty_TooWide (fun O N => ok_i_TooWide (fun_mk (st := s_i_TooWide) lk_TooWide cd_TooWide kp_TooWide) O (N _ (List.Mem.head _))) ((fun_mk (st := s_i_TooWide) lk_TooWide cd_TooWide kp_TooWide).binds (ps := ["self", "late"]) fun _ _ _ _ _ _ us hl => match us, hl with | [_, _], _ => rfl)
    c_NoFit := cl_mk X G hn ht a_NoFit co_NoFit mo_NoFit no_NoFit in_NoFit ty_NoFit (fun O N => ok_i_NoFit (fun_mk (st := s_i_NoFit) lk_NoFit cd_NoFit kp_NoFit) O (N _ (List.Mem.head _))) ((fun_mk (st := s_i_NoFit) lk_NoFit cd_NoFit kp_NoFit).binds (ps := ["self", "fault"]) fun _ _ _ _ _ _ us hl => match us, hl with | [_, _], _ => rfl)
    c_NotBelow := cl_mk X G hn ht a_NotBelow co_NotBelow mo_NotBelow no_NotBelow in_NotBelow ty_NotBelow (fun O N => ok_i_NotBelow (fun_mk (st := s_i_NotBelow) lk_NotBelow cd_NotBelow kp_NotBelow) O (N _ (List.Mem.head _))) ((fun_mk (st := s_i_NotBelow) lk_NotBelow cd_NotBelow kp_NotBelow).binds (ps := ["self", "least"]) fun _ _ _ _ _ _ us hl => match us, hl with | [_, _], _ => rfl)
    c_TooFar := cl_mk X G hn ht a_TooFar co_TooFar mo_TooFar no_TooFar in_TooFar ty_TooFar (fun O N => ok_i_TooFar (fun_mk (st := s_i_TooFar) lk_TooFar cd_TooFar kp_TooFar) O (N _ (List.Mem.head _))) ((fun_mk (st := s_i_TooFar) lk_TooFar cd_TooFar kp_TooFar).binds (ps := ["self", "ticks"]) fun _ _ _ _ _ _ us hl => match us, hl with | [_, _], _ => rfl)
    c_BadKeeping := cl_mk X G hn ht a_BadKeeping co_BadKeeping mo_BadKeeping no_BadKeeping in_BadKeeping ty_BadKeeping (fun O N => ok_i_BadKeeping (fun_mk (st := s_i_BadKeeping) lk_BadKeeping cd_BadKeeping kp_BadKeeping) O (N _ (List.Mem.head _)) (N _ (List.Mem.tail _ (List.Mem.head _)))) ((fun_mk (st := s_i_BadKeeping) lk_BadKeeping cd_BadKeeping kp_BadKeeping).binds (ps := ["self", "what", "index"]) fun _ _ _ _ _ _ us hl => match us, hl with | [_, _, _], _ => rfl)
    c_NoGroup := cl0_mk X G hn ht a_NoGroup co_NoGroup mo_NoGroup q_NoGroup
    c_NotClosed := cl_mk X G hn ht a_NotClosed co_NotClosed mo_NotClosed no_NotClosed in_NotClosed ty_NotClosed (fun O N => ok_i_NotClosed (fun_mk (st := s_i_NotClosed) lk_NotClosed cd_NotClosed kp_NotClosed) O (N _ (List.Mem.head _))) ((fun_mk (st := s_i_NotClosed) lk_NotClosed cd_NotClosed kp_NotClosed).binds (ps := ["self", "key"]) fun _ _ _ _ _ _ us hl => match us, hl with | [_, _], _ => rfl)
    c_NotDone := cl_mk X G hn ht a_NotDone co_NotDone mo_NotDone no_NotDone in_NotDone ty_NotDone (fun O N => ok_i_NotDone (fun_mk (st := s_i_NotDone) lk_NotDone cd_NotDone kp_NotDone) O (N _ (List.Mem.head _))) ((fun_mk (st := s_i_NotDone) lk_NotDone cd_NotDone kp_NotDone).binds (ps := ["self", "most"]) fun _ _ _ _ _ _ us hl => match us, hl with | [_, _], _ => rfl)
    c_BadGroup := cl0_mk X G hn ht a_BadGroup co_BadGroup mo_BadGroup q_BadGroup
    c_BadPrices := cl_mk X G hn ht a_BadPrices co_BadPrices mo_BadPrices no_BadPrices in_BadPrices ty_BadPrices (fun O N => ok_i_BadPrices (fun_mk (st := s_i_BadPrices) lk_BadPrices cd_BadPrices kp_BadPrices) O (N _ (List.Mem.head _))) ((fun_mk (st := s_i_BadPrices) lk_BadPrices cd_BadPrices kp_BadPrices).binds (ps := ["self", "sensor"]) fun _ _ _ _ _ _ us hl => match us, hl with | [_, _], _ => rfl)
    c_BadMany := cl_mk X G hn ht a_BadMany co_BadMany mo_BadMany no_BadMany in_BadMany ty_BadMany (fun O N => ok_i_BadMany (fun_mk (st := s_i_BadMany) lk_BadMany cd_BadMany kp_BadMany) O (N _ (List.Mem.head _))) ((fun_mk (st := s_i_BadMany) lk_BadMany cd_BadMany kp_BadMany).binds (ps := ["self", "many"]) fun _ _ _ _ _ _ us hl => match us, hl with | [_, _], _ => rfl)
    c_BadLiars := cl0_mk X G hn ht a_BadLiars co_BadLiars mo_BadLiars q_BadLiars
    c_BadDeed := cl_mk X G hn ht a_BadDeed co_BadDeed mo_BadDeed no_BadDeed in_BadDeed ty_BadDeed (fun O N => ok_i_BadDeed (fun_mk (st := s_i_BadDeed) lk_BadDeed cd_BadDeed kp_BadDeed) O (N _ (List.Mem.head _))) ((fun_mk (st := s_i_BadDeed) lk_BadDeed cd_BadDeed kp_BadDeed).binds (ps := ["self", "what"]) fun _ _ _ _ _ _ us hl => match us, hl with | [_, _], _ => rfl)
    c_NotNow := cl0_mk X G hn ht a_NotNow co_NotNow mo_NotNow q_NotNow
    c_NoPlan := cl0_mk X G hn ht a_NoPlan co_NoPlan mo_NoPlan q_NoPlan
    c_NoDeed := cl0_mk X G hn ht a_NoDeed co_NoDeed mo_NoDeed q_NoDeed
  }
  have D_mix := def_mk (P := l.prog) (w := w) (base := base) X G a_mix kp_mix (ok_mix F_mix T) (F_mix.binds (ps := ["number", "turn"]) fun _ _ _ _ _ _ us hl => match us, hl with | [_, _], _ => rfl)
  have D_hand := def_mk (P := l.prog) (w := w) (base := base) X G a_hand kp_hand (ok_hand F_hand T) (F_hand.binds (ps := ["script"]) fun _ _ _ _ _ _ us hl => match us, hl with | [_], _ => rfl)
  have D_draw := def_mk (P := l.prog) (w := w) (base := base) X G a_draw kp_draw (ok_draw F_draw T D_mix) (F_draw.binds (ps := ["hand", "many"]) fun _ _ _ _ _ _ us hl => match us, hl with | [_, _], _ => rfl)
  have D_name := def_mk (P := l.prog) (w := w) (base := base) X G a_name kp_name (ok_name F_name T D_draw) (F_name.binds (ps := ["hand"]) fun _ _ _ _ _ _ us hl => match us, hl with | [_], _ => rfl)
  have D_first := def_mk (P := l.prog) (w := w) (base := base) X G a_first kp_first (ok_first F_first TC) (F_first.binds (ps := ["at", "to", "word", "name"]) fun _ _ _ _ _ _ us hl => match us, hl with | [_, _, _, _], _ => rfl)
  have D_second := def_mk (P := l.prog) (w := w) (base := base) X G a_second kp_second (ok_second F_second TC) (F_second.binds (ps := ["at", "to", "word", "name"]) fun _ _ _ _ _ _ us hl => match us, hl with | [_, _, _, _], _ => rfl)
  have D_third := def_mk (P := l.prog) (w := w) (base := base) X G a_third kp_third (ok_third F_third TC) (F_third.binds (ps := ["at", "to", "word", "name"]) fun _ _ _ _ _ _ us hl => match us, hl with | [_, _, _, _], _ => rfl)
  have D_classes := def_mk (P := l.prog) (w := w) (base := base) X G a_classes kp_classes (ok_classes F_classes T TC) (F_classes.binds (ps := ["e"]) fun _ _ _ _ _ _ us hl => match us, hl with | [_], _ => rfl)
  have D_raised := def_mk (P := l.prog) (w := w) (base := base) X G a_raised kp_raised (ok_raised F_raised T TC gH kt) (F_raised.binds (ps := ["at"]) fun _ _ _ _ _ _ us hl => match us, hl with | [_], _ => rfl)
  exact ok_law F_law T TC gH kt D_hand D_draw D_name D_first D_second D_third D_classes D_raised
theorem walk {l : PySem.W.OpenLaw} {q : Program} {loose : List Str} {XP : (Str → Option Value) → Heap → Prop} {YP : World → Heap → Prop} {d : DefRec} {K : Params → PySem.W.Frag} (hn : l.most = some 63) (hdf : d.params.defaults = [])
    (hY : ∀ (w : World) (h : Heap), YP w h → (K w.params).In h)
    (F : ∀ (w : World) (mg : Str → Option Value) (fa : Addr) (h : Heap), (K w.params).In h → h.Ns mainGlobals mg → mg d.name = some (.ref fa) →
      ∃ fd : FuncData, (∀ (s : Shared) (u : Value), BindsTo s fd ⟨[u], []⟩ [("script", u)]) ∧ ∀ base : Heap, (K w.params).In base → base.Ns mainGlobals mg → FnOk l.prog w (K w.params) mg base CX0 4 fa fd ["script"] (spLaw (K w.params))) :
    PySem.W.WalkO q loose XP YP l.row.toRowW d [] (fun f vs => PySem.call f vs) :=
  L2.walk_of (n := 63) (k := 4) (x := "script") (CX := fun _ => CX0) (sp := fun w => spLaw (K w.params)) hn (by decide) hdf ⟨rfl, by decide, by decide⟩ hY F (fun _ _ a ns hl _ hS => ⟨a, ns, rfl, hS, hl, fun _ => rfl⟩) fun _ _ _ _ _ z => z

end Far
namespace FarH
open PySem L2 Far
open He (ga ma frG frG_in frG_at FnD SaysE obsE valE eqO eqO_ok ba)
section
variable {K : PySem.W.Frag}
theorem Says.parts (c : Says K) : headOk K = true ∧ (∀ x ∈ fnNames, fnOk K x = true) ∧ (∀ x ∈ freeNames, PySem.W.nsIn K mainGlobals x = some none) ∧ (addrs K).Nodup := by
  obtain ⟨c1, c⟩ := ba c.b
  obtain ⟨c3, c⟩ := ba c
  obtain ⟨c4, c5⟩ := ba c
  exact ⟨c1, List.all_eq_true.mp c3, fun x hx => eqO_ok (List.all_eq_true.mp c4 x hx), noDup_ok c5⟩
theorem Says.cl0 (c : Says K) (i : Nat) {d : ClD} (h : cds0[i]? = some d := by rfl) : d.ok K = true := List.all_eq_true.mp c.c0 d (List.mem_of_getElem? h)
theorem Says.cl1 (c : Says K) (i : Nat) {d : ClD} (h : cds1[i]? = some d := by rfl) : d.ok K = true := List.all_eq_true.mp c.c1 d (List.mem_of_getElem? h)
theorem Says.cl2 (c : Says K) (i : Nat) {d : ClD} (h : cds2[i]? = some d := by rfl) : d.ok K = true := List.all_eq_true.mp c.c2 d (List.mem_of_getElem? h)
theorem Says.fn (c : Says K) (i : Nat) {x : Str} (h : fnNames[i]? = some x := by rfl) : PySem.W.nsIn K mainGlobals x = some (some (.ref (ga K x))) ∧ PySem.W.keepIn K (.ref (ga K x)) = true := by
  obtain ⟨h1, h2⟩ := ba (c.parts.2.1 x (List.mem_of_getElem? h))
  exact ⟨eqO_ok h1, h2⟩
theorem Says.free (c : Says K) (i : Nat) {x : Str} (h : freeNames[i]? = some x := by rfl) : PySem.W.nsIn K mainGlobals x = some none := c.parts.2.2.1 x (List.mem_of_getElem? h)
theorem cl_ok {x n : Str} {ns : List Str} (h : (ClD.mk x (n :: ns)).ok K = true) : PySem.W.nsIn K mainGlobals x = some (some (.ref (ga K x))) ∧ coreB K (ga K x) (ga K "HeldError") = true ∧ moreB K (ga K x) = true ∧ noB K (ga K x) (n :: ns) = true ∧
    PySem.W.findIn K (.ref (ga K x)) "__init__" = some (some (.ref (ma K (ga K x) "__init__"))) ∧ PySem.W.typeIn K (.ref (ma K (ga K x) "__init__")) = some (.type "function") ∧ PySem.W.keepIn K (.ref (ma K (ga K x) "__init__")) = true := by
  obtain ⟨h1, h⟩ := ba h
  obtain ⟨h2, h⟩ := ba h
  obtain ⟨h3, h⟩ := ba h
  obtain ⟨h4, h⟩ := ba (show (noB K (ga K x) (n :: ns) && initOk K x) = true from h)
  obtain ⟨h5, h⟩ := ba h
  obtain ⟨h6, h7⟩ := ba h
  exact ⟨eqO_ok h1, h2, h3, h4, eqO_ok h5, of_decide_eq_true h6, h7⟩
theorem cl0_ok {x : Str} (h : (ClD.mk x []).ok K = true) : PySem.W.nsIn K mainGlobals x = some (some (.ref (ga K x))) ∧ coreB K (ga K x) (ga K "HeldError") = true ∧ moreB K (ga K x) = true ∧ PySem.W.excIn K (ga K x) veL "ValueError.__new__" = true := by
  obtain ⟨h1, h⟩ := ba h
  obtain ⟨h2, h⟩ := ba h
  obtain ⟨h3, h4⟩ := ba h
  exact ⟨eqO_ok h1, h2, h3, h4⟩
end
theorem facts {l : PySem.W.OpenLaw} {w : World} {K : PySem.W.Frag} {h : Heap} {mg : Str → Option Value} {fa : Addr} (X : K.In h) (G : h.Ns mainGlobals mg) (hfa : mg "law" = some (.ref fa)) (c : Says K) :
    ∃ fd : FuncData, (∀ (s : Shared) (v : Value), BindsTo s fd ⟨[v], []⟩ [("script", v)]) ∧ ∀ base : Heap, K.In base → base.Ns mainGlobals mg → FnOk l.prog w K mg base CX0 4 fa fd ["script"] (spLaw K) := by
  obtain ⟨aH, cH⟩ := ba c.parts.1
  obtain ⟨tH, cH⟩ := ba cH
  obtain ⟨sH, cH⟩ := ba cH
  obtain ⟨bH, cH⟩ := ba cH
  obtain ⟨hn, ht⟩ := ba cH
  obtain ⟨a_BadRatio, co_BadRatio, mo_BadRatio, no_BadRatio, in_BadRatio, ty_BadRatio, kp_BadRatio⟩ := cl_ok (c.cl0 0)
  obtain ⟨_, _, _, _, _, _, _, _, _, lk_BadRatio, cd_BadRatio⟩ := c.f0.def_ 0
  obtain ⟨a_BadPlant, co_BadPlant, mo_BadPlant, no_BadPlant, in_BadPlant, ty_BadPlant, kp_BadPlant⟩ := cl_ok (c.cl0 1)
  obtain ⟨_, _, _, _, _, _, _, _, _, lk_BadPlant, cd_BadPlant⟩ := c.f0.def_ 1
  obtain ⟨a_NoMode, co_NoMode, mo_NoMode, no_NoMode, in_NoMode, ty_NoMode, kp_NoMode⟩ := cl_ok (c.cl0 2)
  obtain ⟨_, _, _, _, _, _, _, _, _, lk_NoMode, cd_NoMode⟩ := c.f0.def_ 2
  obtain ⟨a_BadPhase, co_BadPhase, mo_BadPhase, no_BadPhase, in_BadPhase, ty_BadPhase, kp_BadPhase⟩ := cl_ok (c.cl0 3)
  obtain ⟨_, _, _, _, _, _, _, _, _, lk_BadPhase, cd_BadPhase⟩ := c.f0.def_ 3
  obtain ⟨a_BadTicks, co_BadTicks, mo_BadTicks, no_BadTicks, in_BadTicks, ty_BadTicks, kp_BadTicks⟩ := cl_ok (c.cl0 4)
  obtain ⟨_, _, _, _, _, _, _, _, _, lk_BadTicks, cd_BadTicks⟩ := c.f0.def_ 4
  obtain ⟨a_BadTimes, co_BadTimes, mo_BadTimes, no_BadTimes, in_BadTimes, ty_BadTimes, kp_BadTimes⟩ := cl_ok (c.cl0 5)
  obtain ⟨_, _, _, _, _, _, _, _, _, lk_BadTimes, cd_BadTimes⟩ := c.f0.def_ 5
  obtain ⟨a_BadUnit, co_BadUnit, mo_BadUnit, no_BadUnit, in_BadUnit, ty_BadUnit, kp_BadUnit⟩ := cl_ok (c.cl0 6)
  obtain ⟨_, _, _, _, _, _, _, _, _, lk_BadUnit, cd_BadUnit⟩ := c.f0.def_ 6
  obtain ⟨a_BadChannel, co_BadChannel, mo_BadChannel, no_BadChannel, in_BadChannel, ty_BadChannel, kp_BadChannel⟩ := cl_ok (c.cl0 7)
  obtain ⟨_, _, _, _, _, _, _, _, _, lk_BadChannel, cd_BadChannel⟩ := c.f0.def_ 7
  obtain ⟨a_NoWord, co_NoWord, mo_NoWord, no_NoWord, in_NoWord, ty_NoWord, kp_NoWord⟩ := cl_ok (c.cl0 8)
  obtain ⟨_, _, _, _, _, _, _, _, _, lk_NoWord, cd_NoWord⟩ := c.f0.def_ 8
  obtain ⟨a_BadOrder, co_BadOrder, mo_BadOrder, no_BadOrder, in_BadOrder, ty_BadOrder, kp_BadOrder⟩ := cl_ok (c.cl0 9)
  obtain ⟨_, _, _, _, _, _, _, _, _, lk_BadOrder, cd_BadOrder⟩ := c.f0.def_ 9
  obtain ⟨a_BadPeriod, co_BadPeriod, mo_BadPeriod, no_BadPeriod, in_BadPeriod, ty_BadPeriod, kp_BadPeriod⟩ := cl_ok (c.cl0 10)
  obtain ⟨_, _, _, _, _, _, _, _, _, lk_BadPeriod, cd_BadPeriod⟩ := c.f0.def_ 10
  obtain ⟨a_BadLots, co_BadLots, mo_BadLots, no_BadLots, in_BadLots, ty_BadLots, kp_BadLots⟩ := cl_ok (c.cl0 11)
  obtain ⟨_, _, _, _, _, _, _, _, _, lk_BadLots, cd_BadLots⟩ := c.f0.def_ 11
  obtain ⟨a_BadSensor, co_BadSensor, mo_BadSensor, no_BadSensor, in_BadSensor, ty_BadSensor, kp_BadSensor⟩ := cl_ok (c.cl0 12)
  obtain ⟨_, _, _, _, _, _, _, _, _, lk_BadSensor, cd_BadSensor⟩ := c.f0.def_ 12
  obtain ⟨a_BadWorld, co_BadWorld, mo_BadWorld, no_BadWorld, in_BadWorld, ty_BadWorld, kp_BadWorld⟩ := cl_ok (c.cl0 13)
  obtain ⟨_, _, _, _, _, _, _, _, _, lk_BadWorld, cd_BadWorld⟩ := c.f0.def_ 13
  obtain ⟨a_NoSensor, co_NoSensor, mo_NoSensor, no_NoSensor, in_NoSensor, ty_NoSensor, kp_NoSensor⟩ := cl_ok (c.cl0 14)
  obtain ⟨_, _, _, _, _, _, _, _, _, lk_NoSensor, cd_NoSensor⟩ := c.f0.def_ 14
  obtain ⟨a_BadOutcomes, co_BadOutcomes, mo_BadOutcomes, q_BadOutcomes⟩ := cl0_ok (c.cl0 15)
  obtain ⟨a_BadText, co_BadText, mo_BadText, no_BadText, in_BadText, ty_BadText, kp_BadText⟩ := cl_ok (c.cl0 16)
  obtain ⟨_, _, _, _, _, _, _, _, _, lk_BadText, cd_BadText⟩ := c.f0.def_ 15
  obtain ⟨a_Rising, co_Rising, mo_Rising, no_Rising, in_Rising, ty_Rising, kp_Rising⟩ := cl_ok (c.cl0 17)
  obtain ⟨_, _, _, _, _, _, _, _, _, lk_Rising, cd_Rising⟩ := c.f0.def_ 16
  obtain ⟨a_BadBase, co_BadBase, mo_BadBase, q_BadBase⟩ := cl0_ok (c.cl0 18)
  obtain ⟨a_CountFull, co_CountFull, mo_CountFull, no_CountFull, in_CountFull, ty_CountFull, kp_CountFull⟩ := cl_ok (c.cl0 19)
  obtain ⟨_, _, _, _, _, _, _, _, _, lk_CountFull, cd_CountFull⟩ := c.f0.def_ 17
  obtain ⟨a_ManyMessages, co_ManyMessages, mo_ManyMessages, no_ManyMessages, in_ManyMessages, ty_ManyMessages, kp_ManyMessages⟩ := cl_ok (c.cl1 0)
  obtain ⟨_, _, _, _, _, _, _, _, _, lk_ManyMessages, cd_ManyMessages⟩ := c.f0.def_ 18
  obtain ⟨a_Barred, co_Barred, mo_Barred, no_Barred, in_Barred, ty_Barred, kp_Barred⟩ := cl_ok (c.cl1 1)
  obtain ⟨_, _, _, _, _, _, _, _, _, lk_Barred, cd_Barred⟩ := c.f0.def_ 19
  obtain ⟨a_LastMode, co_LastMode, mo_LastMode, q_LastMode⟩ := cl0_ok (c.cl1 2)
  obtain ⟨a_NoOutcome, co_NoOutcome, mo_NoOutcome, no_NoOutcome, in_NoOutcome, ty_NoOutcome, kp_NoOutcome⟩ := cl_ok (c.cl1 3)
  obtain ⟨_, _, _, _, _, _, _, _, _, lk_NoOutcome, cd_NoOutcome⟩ := c.f0.def_ 20
  obtain ⟨a_LastOutcome, co_LastOutcome, mo_LastOutcome, no_LastOutcome, in_LastOutcome, ty_LastOutcome, kp_LastOutcome⟩ := cl_ok (c.cl1 4)
  obtain ⟨_, _, _, _, _, _, _, _, _, lk_LastOutcome, cd_LastOutcome⟩ := c.f0.def_ 21
  obtain ⟨a_NoLot, co_NoLot, mo_NoLot, no_NoLot, in_NoLot, ty_NoLot, kp_NoLot⟩ := cl_ok (c.cl1 5)
  obtain ⟨_, _, _, _, _, _, _, _, _, lk_NoLot, cd_NoLot⟩ := c.f0.def_ 22
  obtain ⟨a_TooNear, co_TooNear, mo_TooNear, no_TooNear, in_TooNear, ty_TooNear, kp_TooNear⟩ := cl_ok (c.cl1 6)
  obtain ⟨_, _, _, _, _, _, _, _, _, lk_TooNear, cd_TooNear⟩ := c.f0.def_ 23
  obtain ⟨a_BadProgram, co_BadProgram, mo_BadProgram, no_BadProgram, in_BadProgram, ty_BadProgram, kp_BadProgram⟩ := cl_ok (c.cl1 7)
  obtain ⟨_, _, _, _, _, _, _, _, _, lk_BadProgram, cd_BadProgram⟩ := c.f0.def_ 24
  obtain ⟨a_NoEntry, co_NoEntry, mo_NoEntry, no_NoEntry, in_NoEntry, ty_NoEntry, kp_NoEntry⟩ := cl_ok (c.cl1 8)
  obtain ⟨_, _, _, _, _, _, _, _, _, lk_NoEntry, cd_NoEntry⟩ := c.f0.def_ 25
  obtain ⟨a_BadLate, co_BadLate, mo_BadLate, no_BadLate, in_BadLate, ty_BadLate, kp_BadLate⟩ := cl_ok (c.cl1 9)
  obtain ⟨_, _, _, _, _, _, _, _, _, lk_BadLate, cd_BadLate⟩ := c.f0.def_ 26
  obtain ⟨a_BadStart, co_BadStart, mo_BadStart, no_BadStart, in_BadStart, ty_BadStart, kp_BadStart⟩ := cl_ok (c.cl1 10)
  obtain ⟨_, _, _, _, _, _, _, _, _, lk_BadStart, cd_BadStart⟩ := c.f0.def_ 27
  obtain ⟨a_BadTick, co_BadTick, mo_BadTick, no_BadTick, in_BadTick, ty_BadTick, kp_BadTick⟩ := cl_ok (c.cl1 11)
  obtain ⟨_, _, _, _, _, _, _, _, _, lk_BadTick, cd_BadTick⟩ := c.f0.def_ 28
  obtain ⟨a_BadRun, co_BadRun, mo_BadRun, no_BadRun, in_BadRun, ty_BadRun, kp_BadRun⟩ := cl_ok (c.cl1 12)
  obtain ⟨_, _, _, _, _, _, _, _, _, lk_BadRun, cd_BadRun⟩ := c.f1.def_ 0
  obtain ⟨a_Unheard, co_Unheard, mo_Unheard, no_Unheard, in_Unheard, ty_Unheard, kp_Unheard⟩ := cl_ok (c.cl1 13)
  obtain ⟨_, _, _, _, _, _, _, _, _, lk_Unheard, cd_Unheard⟩ := c.f1.def_ 1
  obtain ⟨a_BadPoint, co_BadPoint, mo_BadPoint, q_BadPoint⟩ := cl0_ok (c.cl1 14)
  obtain ⟨a_NoBar, co_NoBar, mo_NoBar, no_NoBar, in_NoBar, ty_NoBar, kp_NoBar⟩ := cl_ok (c.cl1 15)
  obtain ⟨_, _, _, _, _, _, _, _, _, lk_NoBar, cd_NoBar⟩ := c.f1.def_ 2
  obtain ⟨a_BadBound, co_BadBound, mo_BadBound, no_BadBound, in_BadBound, ty_BadBound, kp_BadBound⟩ := cl_ok (c.cl1 16)
  obtain ⟨_, _, _, _, _, _, _, _, _, lk_BadBound, cd_BadBound⟩ := c.f1.def_ 3
  obtain ⟨a_TooLong, co_TooLong, mo_TooLong, no_TooLong, in_TooLong, ty_TooLong, kp_TooLong⟩ := cl_ok (c.cl1 17)
  obtain ⟨_, _, _, _, _, _, _, _, _, lk_TooLong, cd_TooLong⟩ := c.f1.def_ 4
  obtain ⟨a_BadSplits, co_BadSplits, mo_BadSplits, no_BadSplits, in_BadSplits, ty_BadSplits, kp_BadSplits⟩ := cl_ok (c.cl1 18)
  obtain ⟨_, _, _, _, _, _, _, _, _, lk_BadSplits, cd_BadSplits⟩ := c.f1.def_ 5
  obtain ⟨a_TooLarge, co_TooLarge, mo_TooLarge, q_TooLarge⟩ := cl0_ok (c.cl1 19)
  obtain ⟨a_NotQuiet, co_NotQuiet, mo_NotQuiet, no_NotQuiet, in_NotQuiet, ty_NotQuiet, kp_NotQuiet⟩ := cl_ok (c.cl2 0)
  obtain ⟨_, _, _, _, _, _, _, _, _, lk_NotQuiet, cd_NotQuiet⟩ := c.f1.def_ 6
  obtain ⟨a_NotLink, co_NotLink, mo_NotLink, no_NotLink, in_NotLink, ty_NotLink, kp_NotLink⟩ := cl_ok (c.cl2 1)
  obtain ⟨_, _, _, _, _, _, _, _, _, lk_NotLink, cd_NotLink⟩ := c.f1.def_ 7
  obtain ⟨a_NoLeast, co_NoLeast, mo_NoLeast, q_NoLeast⟩ := cl0_ok (c.cl2 2)
  obtain ⟨a_TooWide, co_TooWide, mo_TooWide, no_TooWide, in_TooWide, ty_TooWide, kp_TooWide⟩ := cl_ok (c.cl2 3)
  obtain ⟨_, _, _, _, _, _, _, _, _, lk_TooWide, cd_TooWide⟩ := c.f1.def_ 8
  obtain ⟨a_NoFit, co_NoFit, mo_NoFit, no_NoFit, in_NoFit, ty_NoFit, kp_NoFit⟩ := cl_ok (c.cl2 4)
  obtain ⟨_, _, _, _, _, _, _, _, _, lk_NoFit, cd_NoFit⟩ := c.f1.def_ 9
  obtain ⟨a_NotBelow, co_NotBelow, mo_NotBelow, no_NotBelow, in_NotBelow, ty_NotBelow, kp_NotBelow⟩ := cl_ok (c.cl2 5)
  obtain ⟨_, _, _, _, _, _, _, _, _, lk_NotBelow, cd_NotBelow⟩ := c.f1.def_ 10
  obtain ⟨a_TooFar, co_TooFar, mo_TooFar, no_TooFar, in_TooFar, ty_TooFar, kp_TooFar⟩ := cl_ok (c.cl2 6)
  obtain ⟨_, _, _, _, _, _, _, _, _, lk_TooFar, cd_TooFar⟩ := c.f1.def_ 11
  obtain ⟨a_BadKeeping, co_BadKeeping, mo_BadKeeping, no_BadKeeping, in_BadKeeping, ty_BadKeeping, kp_BadKeeping⟩ := cl_ok (c.cl2 7)
  obtain ⟨_, _, _, _, _, _, _, _, _, lk_BadKeeping, cd_BadKeeping⟩ := c.f1.def_ 12
  obtain ⟨a_NoGroup, co_NoGroup, mo_NoGroup, q_NoGroup⟩ := cl0_ok (c.cl2 8)
  obtain ⟨a_NotClosed, co_NotClosed, mo_NotClosed, no_NotClosed, in_NotClosed, ty_NotClosed, kp_NotClosed⟩ := cl_ok (c.cl2 9)
  obtain ⟨_, _, _, _, _, _, _, _, _, lk_NotClosed, cd_NotClosed⟩ := c.f1.def_ 13
  obtain ⟨a_NotDone, co_NotDone, mo_NotDone, no_NotDone, in_NotDone, ty_NotDone, kp_NotDone⟩ := cl_ok (c.cl2 10)
  obtain ⟨_, _, _, _, _, _, _, _, _, lk_NotDone, cd_NotDone⟩ := c.f1.def_ 14
  obtain ⟨a_BadGroup, co_BadGroup, mo_BadGroup, q_BadGroup⟩ := cl0_ok (c.cl2 11)
  obtain ⟨a_BadPrices, co_BadPrices, mo_BadPrices, no_BadPrices, in_BadPrices, ty_BadPrices, kp_BadPrices⟩ := cl_ok (c.cl2 12)
  obtain ⟨_, _, _, _, _, _, _, _, _, lk_BadPrices, cd_BadPrices⟩ := c.f1.def_ 15
  obtain ⟨a_BadMany, co_BadMany, mo_BadMany, no_BadMany, in_BadMany, ty_BadMany, kp_BadMany⟩ := cl_ok (c.cl2 13)
  obtain ⟨_, _, _, _, _, _, _, _, _, lk_BadMany, cd_BadMany⟩ := c.f1.def_ 16
  obtain ⟨a_BadLiars, co_BadLiars, mo_BadLiars, q_BadLiars⟩ := cl0_ok (c.cl2 14)
  obtain ⟨a_BadDeed, co_BadDeed, mo_BadDeed, no_BadDeed, in_BadDeed, ty_BadDeed, kp_BadDeed⟩ := cl_ok (c.cl2 15)
  obtain ⟨_, _, _, _, _, _, _, _, _, lk_BadDeed, cd_BadDeed⟩ := c.f1.def_ 17
  obtain ⟨a_NotNow, co_NotNow, mo_NotNow, q_NotNow⟩ := cl0_ok (c.cl2 16)
  obtain ⟨a_NoPlan, co_NoPlan, mo_NoPlan, q_NoPlan⟩ := cl0_ok (c.cl2 17)
  obtain ⟨a_NoDeed, co_NoDeed, mo_NoDeed, q_NoDeed⟩ := cl0_ok (c.cl2 18)
  obtain ⟨a_mix, kp_mix⟩ := c.fn 0
  obtain ⟨_, _, _, _, _, _, _, _, _, lk_mix, cd_mix⟩ := c.f1.def_ 18
  obtain ⟨a_hand, kp_hand⟩ := c.fn 1
  obtain ⟨_, _, _, _, _, _, _, _, _, lk_hand, cd_hand⟩ := c.f1.def_ 19
  obtain ⟨a_draw, kp_draw⟩ := c.fn 2
  obtain ⟨_, _, _, _, _, _, _, _, _, lk_draw, cd_draw⟩ := c.f1.def_ 20
  obtain ⟨a_name, kp_name⟩ := c.fn 3
  obtain ⟨_, _, _, _, _, _, _, _, _, lk_name, cd_name⟩ := c.f1.def_ 21
  obtain ⟨a_first, kp_first⟩ := c.fn 4
  obtain ⟨_, _, _, _, _, _, _, _, _, lk_first, cd_first⟩ := c.f1.def_ 22
  obtain ⟨a_second, kp_second⟩ := c.fn 5
  obtain ⟨_, _, _, _, _, _, _, _, _, lk_second, cd_second⟩ := c.f1.def_ 23
  obtain ⟨a_third, kp_third⟩ := c.fn 6
  obtain ⟨_, _, _, _, _, _, _, _, _, lk_third, cd_third⟩ := c.f1.def_ 24
  obtain ⟨a_classes, kp_classes⟩ := c.fn 7
  obtain ⟨_, _, _, _, _, _, _, _, _, lk_classes, cd_classes⟩ := c.f1.def_ 25
  obtain ⟨a_raised, kp_raised⟩ := c.fn 8
  obtain ⟨_, _, _, _, _, _, _, _, _, lk_raised, cd_raised⟩ := c.f1.def_ 26
  obtain ⟨a_law, kp_law⟩ := c.fn 9
  obtain ⟨_, _, _, _, _, _, _, _, _, lk_law, cd_law⟩ := c.f1.def_ 27
  exact all_mk X G hfa (eqO_ok aH) (of_decide_eq_true tH) sH (of_decide_eq_true bH) (eqO_ok hn) (of_decide_eq_true ht) a_BadRatio co_BadRatio mo_BadRatio no_BadRatio in_BadRatio ty_BadRatio lk_BadRatio cd_BadRatio kp_BadRatio a_BadPlant co_BadPlant mo_BadPlant no_BadPlant in_BadPlant ty_BadPlant lk_BadPlant cd_BadPlant kp_BadPlant a_NoMode co_NoMode mo_NoMode no_NoMode in_NoMode ty_NoMode lk_NoMode cd_NoMode kp_NoMode a_BadPhase co_BadPhase mo_BadPhase no_BadPhase in_BadPhase ty_BadPhase lk_BadPhase cd_BadPhase kp_BadPhase a_BadTicks co_BadTicks mo_BadTicks no_BadTicks in_BadTicks ty_BadTicks lk_BadTicks cd_BadTicks kp_BadTicks a_BadTimes co_BadTimes mo_BadTimes no_BadTimes in_BadTimes ty_BadTimes lk_BadTimes cd_BadTimes kp_BadTimes a_BadUnit co_BadUnit mo_BadUnit no_BadUnit in_BadUnit ty_BadUnit lk_BadUnit cd_BadUnit kp_BadUnit a_BadChannel co_BadChannel mo_BadChannel no_BadChannel in_BadChannel ty_BadChannel lk_BadChannel cd_BadChannel kp_BadChannel a_NoWord co_NoWord mo_NoWord no_NoWord in_NoWord ty_NoWord lk_NoWord cd_NoWord kp_NoWord a_BadOrder co_BadOrder mo_BadOrder no_BadOrder in_BadOrder ty_BadOrder lk_BadOrder cd_BadOrder kp_BadOrder a_BadPeriod co_BadPeriod mo_BadPeriod no_BadPeriod in_BadPeriod ty_BadPeriod lk_BadPeriod cd_BadPeriod kp_BadPeriod a_BadLots co_BadLots mo_BadLots no_BadLots in_BadLots ty_BadLots lk_BadLots cd_BadLots kp_BadLots a_BadSensor co_BadSensor mo_BadSensor no_BadSensor in_BadSensor ty_BadSensor lk_BadSensor cd_BadSensor kp_BadSensor a_BadWorld co_BadWorld mo_BadWorld no_BadWorld in_BadWorld ty_BadWorld lk_BadWorld cd_BadWorld kp_BadWorld a_NoSensor co_NoSensor mo_NoSensor no_NoSensor in_NoSensor ty_NoSensor lk_NoSensor cd_NoSensor kp_NoSensor a_BadOutcomes co_BadOutcomes mo_BadOutcomes q_BadOutcomes a_BadText co_BadText mo_BadText no_BadText in_BadText ty_BadText lk_BadText cd_BadText kp_BadText a_Rising co_Rising mo_Rising no_Rising in_Rising ty_Rising lk_Rising cd_Rising kp_Rising a_BadBase co_BadBase mo_BadBase q_BadBase a_CountFull co_CountFull mo_CountFull no_CountFull in_CountFull ty_CountFull lk_CountFull cd_CountFull kp_CountFull a_ManyMessages co_ManyMessages mo_ManyMessages no_ManyMessages in_ManyMessages ty_ManyMessages lk_ManyMessages cd_ManyMessages kp_ManyMessages a_Barred co_Barred mo_Barred no_Barred in_Barred ty_Barred lk_Barred cd_Barred kp_Barred a_LastMode co_LastMode mo_LastMode q_LastMode a_NoOutcome co_NoOutcome mo_NoOutcome no_NoOutcome in_NoOutcome ty_NoOutcome lk_NoOutcome cd_NoOutcome kp_NoOutcome a_LastOutcome co_LastOutcome mo_LastOutcome no_LastOutcome in_LastOutcome ty_LastOutcome lk_LastOutcome cd_LastOutcome kp_LastOutcome a_NoLot co_NoLot mo_NoLot no_NoLot in_NoLot ty_NoLot lk_NoLot cd_NoLot kp_NoLot a_TooNear co_TooNear mo_TooNear no_TooNear in_TooNear ty_TooNear lk_TooNear cd_TooNear kp_TooNear a_BadProgram co_BadProgram mo_BadProgram no_BadProgram in_BadProgram ty_BadProgram lk_BadProgram cd_BadProgram kp_BadProgram a_NoEntry co_NoEntry mo_NoEntry no_NoEntry in_NoEntry ty_NoEntry lk_NoEntry cd_NoEntry kp_NoEntry a_BadLate co_BadLate mo_BadLate no_BadLate in_BadLate ty_BadLate lk_BadLate cd_BadLate kp_BadLate a_BadStart co_BadStart mo_BadStart no_BadStart in_BadStart ty_BadStart lk_BadStart cd_BadStart kp_BadStart a_BadTick co_BadTick mo_BadTick no_BadTick in_BadTick ty_BadTick lk_BadTick cd_BadTick kp_BadTick a_BadRun co_BadRun mo_BadRun no_BadRun in_BadRun ty_BadRun lk_BadRun cd_BadRun kp_BadRun a_Unheard co_Unheard mo_Unheard no_Unheard in_Unheard ty_Unheard lk_Unheard cd_Unheard kp_Unheard a_BadPoint co_BadPoint mo_BadPoint q_BadPoint a_NoBar co_NoBar mo_NoBar no_NoBar in_NoBar ty_NoBar lk_NoBar cd_NoBar kp_NoBar a_BadBound co_BadBound mo_BadBound no_BadBound in_BadBound ty_BadBound lk_BadBound cd_BadBound kp_BadBound a_TooLong co_TooLong mo_TooLong no_TooLong in_TooLong ty_TooLong lk_TooLong cd_TooLong kp_TooLong a_BadSplits co_BadSplits mo_BadSplits no_BadSplits in_BadSplits ty_BadSplits lk_BadSplits cd_BadSplits kp_BadSplits a_TooLarge co_TooLarge mo_TooLarge q_TooLarge a_NotQuiet co_NotQuiet mo_NotQuiet no_NotQuiet in_NotQuiet ty_NotQuiet lk_NotQuiet cd_NotQuiet kp_NotQuiet a_NotLink co_NotLink mo_NotLink no_NotLink in_NotLink ty_NotLink lk_NotLink cd_NotLink kp_NotLink a_NoLeast co_NoLeast mo_NoLeast q_NoLeast a_TooWide co_TooWide mo_TooWide no_TooWide in_TooWide ty_TooWide lk_TooWide cd_TooWide kp_TooWide a_NoFit co_NoFit mo_NoFit no_NoFit in_NoFit ty_NoFit lk_NoFit cd_NoFit kp_NoFit a_NotBelow co_NotBelow mo_NotBelow no_NotBelow in_NotBelow ty_NotBelow lk_NotBelow cd_NotBelow kp_NotBelow a_TooFar co_TooFar mo_TooFar no_TooFar in_TooFar ty_TooFar lk_TooFar cd_TooFar kp_TooFar a_BadKeeping co_BadKeeping mo_BadKeeping no_BadKeeping in_BadKeeping ty_BadKeeping lk_BadKeeping cd_BadKeeping kp_BadKeeping a_NoGroup co_NoGroup mo_NoGroup q_NoGroup a_NotClosed co_NotClosed mo_NotClosed no_NotClosed in_NotClosed ty_NotClosed lk_NotClosed cd_NotClosed kp_NotClosed a_NotDone co_NotDone mo_NotDone no_NotDone in_NotDone ty_NotDone lk_NotDone cd_NotDone kp_NotDone a_BadGroup co_BadGroup mo_BadGroup q_BadGroup a_BadPrices co_BadPrices mo_BadPrices no_BadPrices in_BadPrices ty_BadPrices lk_BadPrices cd_BadPrices kp_BadPrices a_BadMany co_BadMany mo_BadMany no_BadMany in_BadMany ty_BadMany lk_BadMany cd_BadMany kp_BadMany a_BadLiars co_BadLiars mo_BadLiars q_BadLiars a_BadDeed co_BadDeed mo_BadDeed no_BadDeed in_BadDeed ty_BadDeed lk_BadDeed cd_BadDeed kp_BadDeed a_NotNow co_NotNow mo_NotNow q_NotNow a_NoPlan co_NoPlan mo_NoPlan q_NoPlan a_NoDeed co_NoDeed mo_NoDeed q_NoDeed a_mix lk_mix cd_mix kp_mix a_hand lk_hand cd_hand kp_hand a_draw lk_draw cd_draw kp_draw a_name lk_name cd_name kp_name a_first lk_first cd_first kp_first a_second lk_second cd_second kp_second a_third lk_third cd_third kp_third a_classes lk_classes cd_classes kp_classes a_raised lk_raised cd_raised kp_raised a_law lk_law cd_law kp_law (c.free 0) (c.free 1) (c.free 2) (c.free 3) (c.free 4) (c.free 5) (c.free 6) (c.free 7) c.parts.2.2.2
end FarH
open PySem PySem.W PySem.Calls PyProof.Rows
theorem PySem.Challenge.cw_farheld_k00_whole_errors_side_by_side_holds : PySem.Challenge.rw_farheld_k00_whole_errors_side_by_side.Holds := by
  w_on; o_law
  refine HandSHeadRun.head_any (r := OpenLaw.row PySem.Challenge.rw_farheld_k00_whole_errors_side_by_side) (q := view (OpenLaw.row PySem.Challenge.rw_farheld_k00_whole_errors_side_by_side).prog [71]) (H := FarH.hk) (ob := FarH.ob) (M := 15000) (loose := FarHead.names) (d := HandSHeadRun.topDef (OpenLaw.row PySem.Challenge.rw_farheld_k00_whole_errors_side_by_side).prog 71) (kwd := []) FarH.ob_eq
    (by kernel_rfl) (fun s => by kernel_rfl) FarHead.run (by kernel_rfl) (by kernel_rfl) (by kernel_rfl) (by rfl) (by first | assumption | decide +kernel) (by decide +kernel) ⟨rfl, rfl, rfl, rfl, rfl, by decide +kernel⟩ ?hw ?hc
  case hw => w_witness2
  case hc =>
    refine L2.walk_ofE (l := PySem.Challenge.rw_farheld_k00_whole_errors_side_by_side) (n := 63) (k := 4) (x := "script") (CX := L2.CX0) rfl (by decide) (by kernel_rfl) ⟨rfl, by decide, by decide⟩ ?F (fun _ _ _ _ z => z)
    intro w mg fa h Y G hmg0
    obtain ⟨K, KX, c⟩ := Y
    have hmg : mg ("law" : PySem.Str) = some (.ref fa) := by
      have e : (HandSHeadRun.topDef (OpenLaw.row PySem.Challenge.rw_farheld_k00_whole_errors_side_by_side).prog 71).name = ("law" : PySem.Str) := by kernel_rfl
      rw [← e]
      exact hmg0
    obtain ⟨fd, hb, hF⟩ := FarH.facts (l := PySem.Challenge.rw_farheld_k00_whole_errors_side_by_side) (w := w) KX G hmg c
    exact ⟨K, fd, Far.spLaw K, KX, hb, fun H a ns hl _ hS => ⟨a, ns, rfl, hS, hl, fun _ => rfl⟩, hF⟩
