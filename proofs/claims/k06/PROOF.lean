import PyProof.Rows.All
import Wide.All
import OpenK.AllK
import Wide.FinOn
import HandS.CallLocal
import HandS.Codes
import HandS.Conv
import HandS.Deep
import HandS.DictComp
import HandS.EndTab
import HandS.Exc
import HandS.ExcField
import HandS.ExcInit
import HandS.ExcIs
import HandS.ExcOwn
import HandS.Flow
import HandS.ForMost
import HandS.Head0
import HandS.Head1
import HandS.Head2
import HandS.HeadEnd
import HandS.HeadHook1
import HandS.IsInst
import HandS.Iter
import HandS.Lambda
import HandS.ListItems
import HandS.More
import HandS.NoneIn
import HandS.RaiseMore
import HandS.Rev
import HandS.SetFor
import HandS.SetKeys
import HandS.Small
import HandS.SortInts
import HandS.SortKw
import HandS.Strs
import HandS.Style
import HandS.TryOnly
import HandS.TupAny
import HandS.TupLe
import HandS.TupMul
import HandS.Wide
import HandS.Words
import HandS.WordsExc
import HandS.Zip
import KE.GoesEnum
import KE.KExcIs
import KE.KItemsList
import KE.KMinKey
import PySem.Challenge.RW_asifcopied_k06_errors_and_what_they_tell
set_option Elab.async false
set_option linter.all false
set_option maxRecDepth 100000
set_option maxHeartbeats 4000000
namespace Law
namespace W
open PySem PySem.Spec PyProof.Rows L2
def topR (i : Nat) : Stmt := PySem.Challenge.pw_asifcopied_k06_errors_and_what_they_tell.main.body.getD i (.Pass ⟨0, 0, 0, 0⟩)
def adrR (K : PySem.W.Frag) (x : Str) : Addr := He.ga K x
def clsChkR (K : PySem.W.Frag) (CE C : Addr) (x : Str) : Bool :=
  (PySem.W.nsIn K mainGlobals x == some (some (.ref C))) && (PySem.W.keepIn K (.ref C) && ((PySem.W.typeIn K (.ref C) == some (.type "type")) && ((PySem.W.subIn K (.ref C) (.type "BaseException") == some true) && ((PySem.W.subIn K (.ref C) (.ref CE) == some true) && ((PySem.W.clsIn K C).isSome && ((PySem.W.findIn K (.ref C) "__getattribute__" == some (some (.builtin "BaseException.__getattribute__"))) && ((PySem.W.findIn K (.ref C) "__getattr__" == some none) && ((PySem.W.findIn K (.ref C) "__class__" == some (some (.builtin "object.__class__"))) && ((PySem.W.mroIn K C (.type "object") == some true) && ((PySem.W.kitOne K (.ref C) (.ref CE) == some true) && (PySem.W.kitOne K (.ref C) (.type "ValueError") == some true)))))))))))
def erNamesR : List Str := [("BadBits" : Str), ("BadCell" : Str), ("BadCode" : Str), ("BadContent" : Str), ("BadCopied" : Str), ("BadCounts" : Str), ("BadCourse" : Str), ("BadDeep" : Str), ("BadDepth" : Str), ("BadDisk" : Str), ("BadEntries" : Str), ("BadExtra" : Str), ("BadField" : Str), ("BadGiven" : Str), ("BadHeap" : Str), ("BadItem" : Str), ("BadItems" : Str), ("BadLabels" : Str), ("BadLanded" : Str), ("BadLater" : Str), ("BadLeast" : Str), ("BadLeft" : Str), ("BadLevel" : Str), ("BadLine" : Str), ("BadMany" : Str), ("BadMarks" : Str), ("BadMost" : Str), ("BadMoves" : Str), ("BadName" : Str), ("BadParents" : Str), ("BadPlace" : Str), ("BadPlan" : Str), ("BadPrice" : Str), ("BadProgram" : Str), ("BadRecord" : Str), ("BadRoom" : Str), ("BadRounds" : Str), ("BadRows" : Str), ("BadRule" : Str), ("BadShape" : Str), ("BadStanding" : Str), ("BadState" : Str), ("BadStory" : Str), ("BadTable" : Str), ("BadUsed" : Str), ("BadValue" : Str), ("BadValues" : Str), ("BadVersion" : Str), ("BadWay" : Str), ("BadWide" : Str), ("Fell" : Str), ("LastName" : Str), ("NoEntry" : Str), ("NotCopied" : Str), ("NotForest" : Str), ("NotOver" : Str), ("TooMany" : Str), ("BadDeed" : Str), ("BadEvents" : Str), ("BadPuts" : Str), ("BadText" : Str), ("Full" : Str), ("NoRecord" : Str), ("NoWay" : Str), ("NotNewest" : Str), ("Stopped" : Str), ("TooPointed" : Str), ("Unknown" : Str), ("CopyError" : Str)]
def erX0R : List Str := [("BadBits" : Str), ("BadCell" : Str), ("BadCode" : Str), ("BadContent" : Str), ("BadCopied" : Str), ("BadCounts" : Str), ("BadCourse" : Str), ("BadDeep" : Str), ("BadDepth" : Str), ("BadDisk" : Str), ("BadEntries" : Str), ("BadExtra" : Str), ("BadField" : Str), ("BadGiven" : Str), ("BadHeap" : Str), ("BadItem" : Str), ("BadItems" : Str), ("BadLabels" : Str), ("BadLanded" : Str), ("BadLater" : Str), ("BadLeast" : Str), ("BadLeft" : Str), ("BadLevel" : Str), ("BadLine" : Str), ("BadMany" : Str), ("BadMarks" : Str), ("BadMost" : Str), ("BadMoves" : Str), ("BadName" : Str), ("BadParents" : Str), ("BadPlace" : Str), ("BadPlan" : Str), ("BadPrice" : Str), ("BadProgram" : Str), ("BadRecord" : Str), ("BadRoom" : Str), ("BadRounds" : Str), ("BadRows" : Str), ("BadRule" : Str), ("BadShape" : Str), ("BadStanding" : Str), ("BadState" : Str), ("BadStory" : Str), ("BadTable" : Str), ("BadUsed" : Str), ("BadValue" : Str), ("BadValues" : Str), ("BadVersion" : Str), ("BadWay" : Str), ("BadWide" : Str), ("Fell" : Str), ("LastName" : Str), ("NoEntry" : Str), ("NotCopied" : Str), ("NotForest" : Str), ("NotOver" : Str), ("TooMany" : Str), ("CopyError" : Str)]
def erFirstR : List Str := [("BadBits" : Str), ("BadCell" : Str), ("BadCode" : Str), ("BadContent" : Str), ("BadCopied" : Str), ("BadCounts" : Str), ("BadCourse" : Str), ("BadDeep" : Str), ("BadDepth" : Str), ("BadDisk" : Str), ("BadEntries" : Str), ("BadExtra" : Str), ("BadField" : Str), ("BadGiven" : Str), ("BadHeap" : Str), ("BadItem" : Str), ("BadItems" : Str), ("BadLabels" : Str), ("BadLanded" : Str), ("BadLater" : Str), ("BadLeast" : Str), ("BadLeft" : Str), ("BadLevel" : Str), ("BadLine" : Str), ("BadMany" : Str), ("BadMarks" : Str), ("BadMost" : Str), ("BadMoves" : Str), ("BadName" : Str), ("BadParents" : Str), ("BadPlace" : Str), ("BadPlan" : Str), ("BadPrice" : Str), ("BadProgram" : Str), ("BadRecord" : Str), ("BadRoom" : Str), ("BadRounds" : Str), ("BadRows" : Str), ("BadRule" : Str), ("BadShape" : Str), ("BadStanding" : Str), ("BadState" : Str)]
def erRestR : List Str := [("BadStory" : Str), ("BadTable" : Str), ("BadUsed" : Str), ("BadValue" : Str), ("BadValues" : Str), ("BadVersion" : Str), ("BadWay" : Str), ("BadWide" : Str), ("Fell" : Str), ("LastName" : Str), ("NoEntry" : Str), ("NotCopied" : Str), ("NotForest" : Str), ("NotOver" : Str), ("TooMany" : Str), ("BadDeed" : Str), ("BadEvents" : Str), ("BadPuts" : Str), ("BadText" : Str), ("Full" : Str), ("NoRecord" : Str), ("NoWay" : Str), ("NotNewest" : Str), ("Stopped" : Str), ("TooPointed" : Str), ("Unknown" : Str)]
def erA (K : PySem.W.Frag) : Bool := erNamesR.all fun x => clsChkR K (adrR K "CopyError") (adrR K x) x
def erB (K : PySem.W.Frag) : Bool := erX0R.all fun x => PySem.W.excIn K (adrR K x) [.type "ValueError", .type "Exception", .type "BaseException", .type "object"] "ValueError.__new__"
def erCp (K : PySem.W.Frag) (l : List Str) : Bool := (l.map fun x => (x, adrR K x)).all fun p => ((erFirstR ++ erRestR).map fun y => (y, adrR K y)).all fun q => PySem.W.kitOne K (.ref p.2) (.ref q.2) == some (decide (p.1 = q.1))
def erC (K : PySem.W.Frag) : Bool := erCp K erNamesR
theorem erC_of {K : PySem.W.Frag} (n : Nat) (h : erCp K (erNamesR.take n) = true) (k : erCp K (erNamesR.drop n) = true) : erC K = true := by
  unfold erC
  rw [← List.take_append_drop n erNamesR]
  unfold erCp at *
  rw [List.map_append, List.all_append, h, k]; rfl
def oexB (K : PySem.W.Frag) (C CE : Addr) : Bool := match K.lookup C with
  | some ⟨.type t, _, .cls cd, sl⟩ => (match cd.mro, sl.toList with
    | .ref C' :: bm, [_, _, _, _, some (.builtin n), _] => (t == "type") && ((C' == C) && ((n == "ValueError.__new__") && (cd.hasDict && (!cd.hasDel && (bm == [.ref CE, .type "ValueError", .type "Exception", .type "BaseException", .type "object"])))))
    | _, _ => false)
  | _ => false
theorem oexB_ok {K : PySem.W.Frag} {C CE : Addr} (q : oexB K C CE = true) : ∃ nm q N bs sn sub ab col dd k0 k1 k2 k3 k5, K.lookup C = some (excClassObj nm q C N bs (.ref CE :: [.type "ValueError", .type "Exception", .type "BaseException", .type "object"]) true sn sub ab col dd k0 k1 k2 k3 k5 "ValueError.__new__") := by
  unfold oexB at q
  split at q
  · rename_i t dd cd sl ho
    split at q
    · rename_i C' bm k0 k1 k2 k3 n k5 hm hs
      simp only [Bool.and_eq_true, beq_iff_eq, Bool.not_eq_true'] at q
      obtain ⟨rfl, rfl, rfl, hh, hdel, rfl⟩ := q
      obtain ⟨nm, bs, mro, ns, qn, hd, sn, sub, ab, col, del⟩ := cd
      dsimp only at hm hdel hh
      subst hm hdel hh
      have hsl : sl = #[k0, k1, k2, k3, some (.builtin "ValueError.__new__"), k5] := by
        obtain ⟨l⟩ := sl
        simp only at hs
        rw [hs]
      subst hsl
      exact ⟨nm, qn, ns, bs, sn, sub, ab, col, dd, k0, k1, k2, k3, k5, ho⟩
    · cases q
  · cases q
def iAd (K : PySem.W.Frag) (x : Str) : Addr := He.ma K (He.ga K x) "__init__"
def x1B (K : PySem.W.Frag) (x : Str) (fs : List Str) : Bool := oexB K (He.ga K x) (He.ga K "CopyError") && ((PySem.W.findIn K (.ref (He.ga K x)) "__setattr__" == some (some (.builtin "object.__setattr__"))) && (PySem.W.hasDictIn K (He.ga K x) && ((fs.all fun f => PySem.W.findIn K (.ref (He.ga K x)) f == some none) &&
  ((PySem.W.findIn K (.ref (He.ga K x)) "__init__" == some (some (.ref (iAd K x)))) && ((PySem.W.typeIn K (.ref (iAd K x)) == some (.type "function")) && PySem.W.keepIn K (.ref (iAd K x)))))))
structure X1F (K : PySem.W.Frag) (x : Str) (fs : List Str) : Prop where
  o : oexB K (He.ga K x) (He.ga K "CopyError") = true
  sa : PySem.W.findIn K (.ref (He.ga K x)) "__setattr__" = some (some (.builtin "object.__setattr__"))
  hd : PySem.W.hasDictIn K (He.ga K x) = true
  no : ∀ f ∈ fs, PySem.W.findIn K (.ref (He.ga K x)) f = some none
  ini : PySem.W.findIn K (.ref (He.ga K x)) "__init__" = some (some (.ref (iAd K x)))
  it : PySem.W.typeIn K (.ref (iAd K x)) = some (.type "function")
  ik : PySem.W.keepIn K (.ref (iAd K x)) = true
theorem x1B_ok {K : PySem.W.Frag} {x : Str} {fs : List Str} (h : x1B K x fs = true) : X1F K x fs := by
  unfold x1B at h
  simp only [Bool.and_eq_true] at h
  obtain ⟨h1, h2, h3, h4, h5, h6, h7⟩ := h
  exact ⟨h1, beq_iff_eq.mp h2, h3, fun f hf => beq_iff_eq.mp (List.all_eq_true.mp h4 f hf), beq_iff_eq.mp h5, beq_iff_eq.mp h6, h7⟩
def defNs : List Str := [("_law_begun" : Str), ("_law_blended" : Str), ("_law_draw" : Str), ("_law_pick" : Str), ("_law_er_made" : Str), ("_law_er_first" : Str), ("_law_er_kinds" : Str), ("_law_er_told" : Str), ("law" : Str)]
def freeNs : List Str := [("int" : Str), ("len" : Str), ("abs" : Str), ("isinstance" : Str), ("tuple" : Str), ("list" : Str), ("range" : Str), ("min" : Str), ("all" : Str), ("sorted" : Str), ("bool" : Str), ("enumerate" : Str), ("reversed" : Str), ("zip" : Str), ("str" : Str), ("ValueError" : Str)]
def x1L : List (Str × List Str) := [(("BadDeed" : Str), [("at" : Str)]), (("BadEvents" : Str), [("at" : Str)]), (("BadPuts" : Str), [("at" : Str)]), (("BadText" : Str), [("line" : Str)]), (("Full" : Str), [("many" : Str)]), (("NoRecord" : Str), [("record" : Str)]), (("NoWay" : Str), [("at" : Str)]), (("NotNewest" : Str), [("newest" : Str)]), (("TooPointed" : Str), [("record" : Str)]), (("Unknown" : Str), [("name" : Str)]), (("Stopped" : Str), [("word" : Str), ("steps" : Str)])]
def eB (K : PySem.W.Frag) : Bool := (PySem.W.subIn K (.ref (He.ga K "CopyError")) (.type "BaseException") == some true) && (PySem.W.hasDictIn K (He.ga K "CopyError") && ((PySem.W.typeIn K (.ref (He.ga K "CopyError")) == some (.type "type")) && ((PySem.W.specialIn K (.builtin "object.__class__") "__get__" == some (some (.builtin "getset_descriptor.__get__"))) && (PySem.W.takesIn K (.builtin "object.__class__") == some true))))
def nsB (K : PySem.W.Frag) : Bool := defNs.all fun x => (PySem.W.nsIn K mainGlobals x == some (some (.ref (He.ga K x)))) && PySem.W.keepIn K (.ref (He.ga K x))
def frB (K : PySem.W.Frag) : Bool := freeNs.all fun x => PySem.W.nsIn K mainGlobals x == some none
def x1B1 (K : PySem.W.Frag) : Bool := x1L.all fun p => x1B K p.1 p.2
def bigB (K : PySem.W.Frag) : Bool := nsB K && (frB K && (eB K && (x1B1 K && (erA K && (erB K && erC K)))))
abbrev si_BadDeed : Stmt := (C8.clsBody (topR 9)).getD 0 (.Pass ⟨0, 0, 0, 0⟩)
abbrev si_BadEvents : Stmt := (C8.clsBody (topR 14)).getD 0 (.Pass ⟨0, 0, 0, 0⟩)
abbrev si_BadPuts : Stmt := (C8.clsBody (topR 38)).getD 0 (.Pass ⟨0, 0, 0, 0⟩)
abbrev si_BadText : Stmt := (C8.clsBody (topR 49)).getD 0 (.Pass ⟨0, 0, 0, 0⟩)
abbrev si_Full : Stmt := (C8.clsBody (topR 57)).getD 0 (.Pass ⟨0, 0, 0, 0⟩)
abbrev si_NoRecord : Stmt := (C8.clsBody (topR 60)).getD 0 (.Pass ⟨0, 0, 0, 0⟩)
abbrev si_NoWay : Stmt := (C8.clsBody (topR 61)).getD 0 (.Pass ⟨0, 0, 0, 0⟩)
abbrev si_NotNewest : Stmt := (C8.clsBody (topR 64)).getD 0 (.Pass ⟨0, 0, 0, 0⟩)
abbrev si_TooPointed : Stmt := (C8.clsBody (topR 68)).getD 0 (.Pass ⟨0, 0, 0, 0⟩)
abbrev si_Unknown : Stmt := (C8.clsBody (topR 69)).getD 0 (.Pass ⟨0, 0, 0, 0⟩)
abbrev si_Stopped : Stmt := (C8.clsBody (topR 66)).getD 0 (.Pass ⟨0, 0, 0, 0⟩)
noncomputable def fnD : List He.FnD := [⟨("_law_begun", none), "_law_begun", "_law_begun", defArgs (topR 71), defBody (topR 71), defScope (topR 71)⟩, ⟨("_law_blended", none), "_law_blended", "_law_blended", defArgs (topR 72), defBody (topR 72), defScope (topR 72)⟩, ⟨("_law_draw", none), "_law_draw", "_law_draw", defArgs (topR 73), defBody (topR 73), defScope (topR 73)⟩, ⟨("_law_pick", none), "_law_pick", "_law_pick", defArgs (topR 74), defBody (topR 74), defScope (topR 74)⟩, ⟨("_law_er_made", none), "_law_er_made", "_law_er_made", defArgs (topR 75), defBody (topR 75), defScope (topR 75)⟩, ⟨("_law_er_first", none), "_law_er_first", "_law_er_first", defArgs (topR 76), defBody (topR 76), defScope (topR 76)⟩, ⟨("_law_er_kinds", none), "_law_er_kinds", "_law_er_kinds", defArgs (topR 77), defBody (topR 77), defScope (topR 77)⟩, ⟨("_law_er_told", none), "_law_er_told", "_law_er_told", defArgs (topR 78), defBody (topR 78), defScope (topR 78)⟩, ⟨("law", none), "law", "law", defArgs (topR 79), defBody (topR 79), defScope (topR 79)⟩, ⟨("BadDeed", some "__init__"), "__init__", "BadDeed.__init__", defArgs si_BadDeed, defBody si_BadDeed, defScope si_BadDeed⟩, ⟨("BadEvents", some "__init__"), "__init__", "BadEvents.__init__", defArgs si_BadEvents, defBody si_BadEvents, defScope si_BadEvents⟩, ⟨("BadPuts", some "__init__"), "__init__", "BadPuts.__init__", defArgs si_BadPuts, defBody si_BadPuts, defScope si_BadPuts⟩, ⟨("BadText", some "__init__"), "__init__", "BadText.__init__", defArgs si_BadText, defBody si_BadText, defScope si_BadText⟩, ⟨("Full", some "__init__"), "__init__", "Full.__init__", defArgs si_Full, defBody si_Full, defScope si_Full⟩, ⟨("NoRecord", some "__init__"), "__init__", "NoRecord.__init__", defArgs si_NoRecord, defBody si_NoRecord, defScope si_NoRecord⟩, ⟨("NoWay", some "__init__"), "__init__", "NoWay.__init__", defArgs si_NoWay, defBody si_NoWay, defScope si_NoWay⟩, ⟨("NotNewest", some "__init__"), "__init__", "NotNewest.__init__", defArgs si_NotNewest, defBody si_NotNewest, defScope si_NotNewest⟩, ⟨("TooPointed", some "__init__"), "__init__", "TooPointed.__init__", defArgs si_TooPointed, defBody si_TooPointed, defScope si_TooPointed⟩, ⟨("Unknown", some "__init__"), "__init__", "Unknown.__init__", defArgs si_Unknown, defBody si_Unknown, defScope si_Unknown⟩, ⟨("Stopped", some "__init__"), "__init__", "Stopped.__init__", defArgs si_Stopped, defBody si_Stopped, defScope si_Stopped⟩]
noncomputable def obsK (K : PySem.W.Frag) : He.Al := (bigB K && fnD.all fun d => (He.Fa.code d.at_ d.qual).ok K, fnD.map fun d => He.fnObs K d.at_)
noncomputable def obsG (n : Nat) (g : Addr → Option Obj) : He.Al := obsK (He.frG g (He.asG g n))
noncomputable def hook6 (n : Nat) : PySem.W.Hook where
  α := He.Al
  obs := fun s => obsG n s.heap.get?
  val := fun _ => (true, fnD.map He.FnD.val)
  says := fun _ h => ∃ K : PySem.W.Frag, K.In h ∧ obsK K = (true, fnD.map He.FnD.val)
  of := fun _ _ e => ⟨_, He.frG_in, e⟩
  keeps := fun _ _ _ ⟨K, hK, c⟩ k => ⟨K, PySem.W.Frag.In.keeps hK k, c⟩
abbrev R6 : PySem.W.OpenRow := PySem.W.OpenLaw.row PySem.Challenge.rw_asifcopied_k06_errors_and_what_they_tell
noncomputable abbrev hk : PySem.W.Hook := hook6 5
noncomputable def ob (s : PySem.W.SharedT) : He.Al := obsG 5 (HandSHeadRun.getT s)
theorem ob_eq (s : PySem.W.SharedT) : ob s = hk.obs s.abs := by
  have e : HandSHeadRun.getT s = s.abs.heap.get? := funext (HandSHeadRun.getT_eq s)
  show obsG 5 _ = obsG 5 _
  rw [e]
def loose0 : List Str := [("CopyError" : Str), ("BadBits" : Str), ("BadCell" : Str), ("BadCode" : Str), ("BadContent" : Str), ("BadCopied" : Str), ("BadCounts" : Str), ("BadCourse" : Str), ("BadDeed" : Str), ("BadDeep" : Str), ("BadDepth" : Str), ("BadDisk" : Str), ("BadEntries" : Str), ("BadEvents" : Str), ("BadExtra" : Str), ("BadField" : Str), ("BadGiven" : Str), ("BadHeap" : Str), ("BadItem" : Str), ("BadItems" : Str), ("BadLabels" : Str), ("BadLanded" : Str), ("BadLater" : Str), ("BadLeast" : Str), ("BadLeft" : Str), ("BadLevel" : Str), ("BadLine" : Str), ("BadMany" : Str), ("BadMarks" : Str), ("BadMost" : Str)]
def loose1 : List Str := [("BadMoves" : Str), ("BadName" : Str), ("BadParents" : Str), ("BadPlace" : Str), ("BadPlan" : Str), ("BadPrice" : Str), ("BadProgram" : Str), ("BadPuts" : Str), ("BadRecord" : Str), ("BadRoom" : Str), ("BadRounds" : Str), ("BadRows" : Str), ("BadRule" : Str), ("BadShape" : Str), ("BadStanding" : Str), ("BadState" : Str), ("BadStory" : Str), ("BadTable" : Str), ("BadText" : Str), ("BadUsed" : Str), ("BadValue" : Str), ("BadValues" : Str), ("BadVersion" : Str), ("BadWay" : Str), ("BadWide" : Str), ("Fell" : Str), ("Full" : Str), ("LastName" : Str), ("NoEntry" : Str), ("NoRecord" : Str)]
def loose2 : List Str := [("NoWay" : Str), ("NotCopied" : Str), ("NotForest" : Str), ("NotNewest" : Str), ("NotOver" : Str), ("Stopped" : Str), ("TooMany" : Str), ("TooPointed" : Str), ("Unknown" : Str), ("_law_begun" : Str), ("_law_blended" : Str), ("_law_draw" : Str), ("_law_pick" : Str), ("_law_er_made" : Str), ("_law_er_first" : Str), ("_law_er_kinds" : Str), ("_law_er_told" : Str)]
def looseN : List Str := loose0 ++ loose1 ++ loose2
noncomputable abbrev ran (w : World) (os : OsState) : Option PySem.W.SharedT := HandSHeadRun.endF (HandSHeadRun.stepQ (HandSHeadRun.denQ HandSHeadRun.tabQ) R6.prog w) 20000 R6.prog w os
noncomputable abbrev kf (s : PySem.W.SharedT) : PySem.W.Frag := He.frG (HandSHeadRun.getT s) (He.asG (HandSHeadRun.getT s) 5)
theorem opt_pair {σ α β : Type _} {x : Option σ} {f : σ → α} {g : σ → β} {a : α} {b : β} (h : x.map f = some a) (k : x.map g = some b) : x.map (fun s => (f s, g s)) = some (a, b) := by
  cases x with
  | none => cases h
  | some s =>
    have h := Option.some.inj h
    have k := Option.some.inj k
    exact congrArg some (Prod.ext h k)
theorem opt_and {σ : Type _} {x : Option σ} {f g : σ → Bool} (h : x.map f = some true) (k : x.map g = some true) : x.map (fun s => f s && g s) = some true := by
  cases x with
  | none => cases h
  | some s =>
    have h := Option.some.inj h
    have k := Option.some.inj k
    exact congrArg some (Bool.and_eq_true_iff.mpr ⟨h, k⟩)
 set_option maxHeartbeats 0 in
theorem runE1 (w : World) (os : OsState) : (ran w os).map (fun s => erCp (kf s) (erNamesR.take 34)) = some true := by
  kernel_rfl
 set_option maxHeartbeats 0 in
theorem runE2 (w : World) (os : OsState) : (ran w os).map (fun s => erCp (kf s) (erNamesR.drop 34)) = some true := by
  kernel_rfl
theorem runE (w : World) (os : OsState) : (ran w os).map (fun s => erC (kf s)) = some true := by
  have h := runE1 w os
  have k := runE2 w os
  revert h k
  generalize ran w os = x
  intro h k
  cases x with
  | none => cases h
  | some s => exact congrArg some (erC_of 34 (Option.some.inj h) (Option.some.inj k))
 set_option maxHeartbeats 0 in
theorem runD (w : World) (os : OsState) : (ran w os).map (fun s => erA (kf s) && erB (kf s)) = some true := by
  kernel_rfl
 set_option maxHeartbeats 0 in
theorem runC (w : World) (os : OsState) : (ran w os).map (fun s => x1B1 (kf s)) = some true := by
  kernel_rfl
 set_option maxHeartbeats 0 in
theorem runB (w : World) (os : OsState) : (ran w os).map (fun s => nsB (kf s) && (frB (kf s) && eB (kf s))) = some true := by
  kernel_rfl
 set_option maxHeartbeats 0 in
theorem runA (w : World) (os : OsState) : (ran w os).map (fun s => (HandSHeadRun.looksF R6.prog (PySem.W.boot_heap w.params) s.abs, HandSHeadRun.seenQ (PySem.W.view R6.prog [79]) looseN (PySem.importedModules R6.prog.main.body) (fun s => PySem.W.xlAt (PySem.W.view R6.prog [79]) [] s && PySem.W.recOk R6.toRowW.records s) s.abs)) = some (true, PySem.W.openGood (PySem.W.view R6.prog [79]) looseN) := by
  kernel_rfl
 set_option maxHeartbeats 0 in
theorem runFG (w : World) (os : OsState) : (ran w os).map (fun s => (fnD.all fun d => (He.Fa.code d.at_ d.qual).ok (kf s), fnD.map fun d => He.fnObs (kf s) d.at_)) = some (true, fnD.map He.FnD.val) := by
  kernel_rfl
theorem runF (w : World) (os : OsState) : (ran w os).map (fun s => fnD.all fun d => (He.Fa.code d.at_ d.qual).ok (kf s)) = some true := by
  have h := runFG w os
  revert h
  generalize ran w os = x
  intro h
  cases x with
  | none => cases h
  | some s => exact congrArg some (Prod.mk.inj (Option.some.inj h)).1
theorem runG (w : World) (os : OsState) : (ran w os).map (fun s => fnD.map fun d => He.fnObs (kf s) d.at_) = some (fnD.map He.FnD.val) := by
  have h := runFG w os
  revert h
  generalize ran w os = x
  intro h
  cases x with
  | none => cases h
  | some s => exact congrArg some (Prod.mk.inj (Option.some.inj h)).2
theorem big_eq (K : PySem.W.Frag) : bigB K = ((nsB K && (frB K && eB K)) && (x1B1 K && ((erA K && erB K) && erC K))) := by
  unfold bigB
  cases nsB K <;> cases frB K <;> cases eB K <;> cases x1B1 K <;> cases erA K <;> cases erB K <;> rfl
theorem run2 (w : World) (os : OsState) : (ran w os).map ob = some (true, fnD.map He.FnD.val) := by
  have h := opt_pair (opt_and (opt_and (runB w os) (opt_and (runC w os) (opt_and (runD w os) (runE w os)))) (runF w os)) (runG w os)
  have e : ob = fun s => (((nsB (kf s) && (frB (kf s) && eB (kf s))) && (x1B1 (kf s) && ((erA (kf s) && erB (kf s)) && erC (kf s)))) && (fnD.all fun d => (He.Fa.code d.at_ d.qual).ok (kf s)), fnD.map fun d => He.fnObs (kf s) d.at_) := funext fun s => by
    rw [← big_eq]
    rfl
  rw [e]
  exact h
theorem run (w : World) : HandSHeadRun.RunEq R6 (PySem.W.view R6.prog [79]) hk ob 20000 looseN w := fun os => by
  have h := runA w os
  have k := run2 w os
  show (ran w os).map _ = _
  revert h k
  generalize ran w os = x
  intro h k
  cases x with
  | none => cases k
  | some s =>
    obtain ⟨h1, h2⟩ := Prod.mk.inj (Option.some.inj h)
    have k := Option.some.inj k
    exact congrArg some (Prod.ext h1 (Prod.ext h2 k))
end W
end Law

/-! PL: readings over plain data. -/
namespace PL
open PySem L2

/-- plain data -/
inductive D where
  | non | bl (b : Bool) | int (i : Int) | str (s : Str) | tup (l : List D) | lst (l : List D) | dic (l : List (Key × D)) | opq (v : V) | ftp (l : List D) | exc (c : Value) (ns : List Str) (l : List D) | lam (F : Addr → Addr → Heap → Prop) (C : Addr → Heap → Prop) | ins (C : Addr) (ns : List Str) (l : List D) | dit (l : List (List Key × D))

/-- an exception's object at a, of the class c, its dict at d -/
def ExcK (c : Value) (d : Option Addr) (a : Addr) : HO := .ext fun h => ∃ (oe : Obj) (vs : Array Value), h.get? a = some oe ∧ Zc c d oe ∧ oe.data = .fields vs

/-- what stands at addresses -/
abbrev At := Addr → HO → Prop
mutual
inductive Rp (A : At) : V → D → Prop
  | non : Rp A .non .non
  | bl (b : Bool) : Rp A (.bl b) (.bl b)
  | int (i : Int) : Rp A (.int i) (.int i)
  | str (s : Str) : Rp A (.str s) (.str s)
  | opq (v : V) : Rp A v (.opq v)
  | tup {a : Addr} {xs : List V} {ds : List D} : A a (.tup xs) → RpL A xs ds → Rp A (.ref a) (.tup ds)
  | lst {a : Addr} {xs : List V} {ds : List D} : A a (.lst xs) → RpL A xs ds → Rp A (.ref a) (.lst ds)
  | dic {a : Addr} {xs : List (Key × V)} {ds : List (Key × D)} : A a (.dK xs) → RpD A xs ds → Rp A (.ref a) (.dic ds)
  | ftp {a : Addr} {ob : Obj} {xs : List V} {ds : List D} : A a (.frz ob (.tup xs)) → ob.dict = none → RpL A xs ds → Rp A (.ref a) (.ftp ds)
  | exc0 {a : Addr} {c : Value} : A a (ExcK c none a) → Rp A (.ref a) (.exc c [] [])
  | exc1 {a dd : Addr} {c : Value} {ns : List Str} {xs : List V} {ds : List D} : A a (ExcK c (some dd) a) → A dd (.xd (ns.zip xs)) → ns.length = xs.length → RpL A xs ds → Rp A (.ref a) (.exc c ns ds)
  | lam {a c : Addr} {F : Addr → Addr → Heap → Prop} {C : Addr → Heap → Prop} : A a (.ext (F a c)) → A c (.ext (C c)) → Rp A (.ref a) (.lam F C)
  | ins {a dx C : Addr} {ns : List Str} {xs : List V} {ds : List D} : A a (.ins C dx (ns.zip xs)) → ns.length = xs.length → RpL A xs ds → Rp A (.ref a) (.ins C ns ds)
  | dit {a : Addr} {xs : List (List Key × V)} {ds : List (List Key × D)} : A a (.dT xs) → RpT A xs ds → Rp A (.ref a) (.dit ds)
inductive RpL (A : At) : List V → List D → Prop
  | nil : RpL A [] []
  | cons {v : V} {xs : List V} {d : D} {ds : List D} : Rp A v d → RpL A xs ds → RpL A (v :: xs) (d :: ds)
inductive RpD (A : At) : List (Key × V) → List (Key × D) → Prop
  | nil : RpD A [] []
  | cons {k : Key} {v : V} {xs : List (Key × V)} {d : D} {ds : List (Key × D)} : Rp A v d → RpD A xs ds → RpD A ((k, v) :: xs) ((k, d) :: ds)
inductive RpT (A : At) : List (List Key × V) → List (List Key × D) → Prop
  | nil : RpT A [] []
  | cons {k : List Key} {v : V} {xs : List (List Key × V)} {d : D} {ds : List (List Key × D)} : Rp A v d → RpT A xs ds → RpT A ((k, v) :: xs) ((k, d) :: ds)
end
def LeA (A B : At) : Prop := ∀ a o, A a o → B a o
theorem LeA.refl (A : At) : LeA A A := fun _ _ h => h
theorem LeA.trans {A B C : At} (x : LeA A B) (y : LeA B C) : LeA A C := fun a o h => y a o (x a o h)
mutual
theorem Rp.mono {A B : At} (h : LeA A B) : ∀ {v : V} {d : D}, Rp A v d → Rp B v d
  | _, _, .non => .non
  | _, _, .bl b => .bl b
  | _, _, .int i => .int i
  | _, _, .str s => .str s
  | _, _, .opq v => .opq v
  | _, _, .tup e r => .tup (h _ _ e) (RpL.mono h r)
  | _, _, .lst e r => .lst (h _ _ e) (RpL.mono h r)
  | _, _, .dic e r => .dic (h _ _ e) (RpD.mono h r)
  | _, _, .ftp e d r => .ftp (h _ _ e) d (RpL.mono h r)
  | _, _, .exc0 e => .exc0 (h _ _ e)
  | _, _, .exc1 e d l r => .exc1 (h _ _ e) (h _ _ d) l (RpL.mono h r)
  | _, _, .lam e u => .lam (h _ _ e) (h _ _ u)
  | _, _, .ins e l r => .ins (h _ _ e) l (RpL.mono h r)
  | _, _, .dit e r => .dit (h _ _ e) (RpT.mono h r)
theorem RpL.mono {A B : At} (h : LeA A B) : ∀ {v : List V} {d : List D}, RpL A v d → RpL B v d
  | _, _, .nil => .nil
  | _, _, .cons a r => .cons (Rp.mono h a) (RpL.mono h r)
theorem RpD.mono {A B : At} (h : LeA A B) : ∀ {v : List (Key × V)} {d : List (Key × D)}, RpD A v d → RpD B v d
  | _, _, .nil => .nil
  | _, _, .cons a r => .cons (Rp.mono h a) (RpD.mono h r)
theorem RpT.mono {A B : At} (h : LeA A B) : ∀ {v : List (List Key × V)} {d : List (List Key × D)}, RpT A v d → RpT B v d
  | _, _, .nil => .nil
  | _, _, .cons a r => .cons (Rp.mono h a) (RpT.mono h r)
end
section
variable {A B : At} {v w : V} {d e : D} {xs ys : List V} {ds es : List D}
theorem RpL.length : ∀ {xs : List V} {ds : List D}, RpL A xs ds → xs.length = ds.length
  | _, _, .nil => rfl
  | _, _, .cons _ r => congrArg Nat.succ (RpL.length r)
theorem RpL.get : ∀ {xs : List V} {ds : List D} {i : Nat} {d : D}, RpL A xs ds → ds[i]? = some d → ∃ v, xs[i]? = some v ∧ Rp A v d
  | _, _, _, _, .nil, h => by cases h
  | _, _, 0, _, .cons a _, h => by cases h; exact ⟨_, rfl, a⟩
  | _, _, i + 1, _, .cons _ r, h => RpL.get (i := i) r h
theorem RpL.getV : ∀ {xs : List V} {ds : List D} {i : Nat} {v : V}, RpL A xs ds → xs[i]? = some v → ∃ d, ds[i]? = some d ∧ Rp A v d
  | _, _, _, _, .nil, h => by cases h
  | _, _, 0, _, .cons a _, h => by cases h; exact ⟨_, rfl, a⟩
  | _, _, i + 1, _, .cons _ r, h => RpL.getV (i := i) r h
theorem RpL.append : ∀ {xs ys : List V} {ds es : List D}, RpL A xs ds → RpL A ys es → RpL A (xs ++ ys) (ds ++ es)
  | _, _, _, _, .nil, s => s
  | _, _, _, _, .cons a r, s => .cons a (RpL.append r s)
theorem RpL.take : ∀ {xs : List V} {ds : List D} (n : Nat), RpL A xs ds → RpL A (xs.take n) (ds.take n)
  | _, _, 0, _ => by simp; exact .nil
  | _, _, _ + 1, .nil => .nil
  | _, _, n + 1, .cons a r => .cons a (RpL.take n r)
theorem RpL.drop : ∀ {xs : List V} {ds : List D} (n : Nat), RpL A xs ds → RpL A (xs.drop n) (ds.drop n)
  | _, _, 0, h => h
  | _, _, _ + 1, .nil => .nil
  | _, _, n + 1, .cons _ r => RpL.drop n r
theorem RpL.set : ∀ {xs : List V} {ds : List D} (n : Nat) {v : V} {d : D}, Rp A v d → RpL A xs ds → RpL A (xs.set n v) (ds.set n d)
  | _, _, _, _, _, _, .nil => .nil
  | _, _, 0, _, _, h, .cons _ r => .cons h r
  | _, _, n + 1, _, _, h, .cons a r => .cons a (RpL.set n h r)
theorem RpL.eraseIdx : ∀ {xs : List V} {ds : List D} (n : Nat), RpL A xs ds → RpL A (xs.eraseIdx n) (ds.eraseIdx n)
  | _, _, _, .nil => .nil
  | _, _, 0, .cons _ r => r
  | _, _, n + 1, .cons a r => .cons a (RpL.eraseIdx n r)
theorem RpL.dropLast : ∀ {xs : List V} {ds : List D}, RpL A xs ds → RpL A xs.dropLast ds.dropLast
  | _, _, .nil => .nil
  | _, _, .cons _ .nil => .nil
  | _, _, .cons a (.cons b r) => .cons a (RpL.dropLast (.cons b r))
theorem RpL.rev {xs : List V} {ds : List D} (h : RpL A xs ds) : RpL A xs.reverse ds.reverse := by
  induction xs generalizing ds with
  | nil => cases h; exact .nil
  | cons x xs ih =>
    cases h with
    | cons a r =>
      rw [List.reverse_cons, List.reverse_cons]
      exact (ih r).append (.cons a .nil)
theorem RpL.rep (n : Nat) (h : Rp A v d) : RpL A (List.replicate n v) (List.replicate n d) := by
  induction n with
  | zero => exact .nil
  | succ n ih => exact .cons h ih
theorem RpL.ints {ns : List Int} : ∀ {xs : List V}, RpL A xs (ns.map D.int) → xs = ns.map V.int := by
  induction ns with
  | nil => intro xs h; cases h; rfl
  | cons n ns ih =>
    intro xs h
    cases h with
    | cons a r => cases a; rw [ih r]; rfl
theorem RpL.ofInts (ns : List Int) : RpL A (ns.map V.int) (ns.map D.int) := by
  induction ns with
  | nil => exact .nil
  | cons n ns ih => exact .cons (.int n) ih
theorem RpL.bls {ns : List Bool} : ∀ {xs : List V}, RpL A xs (ns.map D.bl) → xs = ns.map V.bl := by
  induction ns with
  | nil => intro xs h; cases h; rfl
  | cons n ns ih =>
    intro xs h
    cases h with
    | cons a r => cases a; rw [ih r]; rfl
end

/-! ### the world, the frame -/
/-- what an own object is: there, and no lasting fact -/
def Trk (o : Option HO) : Prop := ∃ u, o = some u ∧ ∀ φ, u ≠ .ext φ
theorem Trk.ne {o : Option HO} (h : Trk o) : o ≠ none := by obtain ⟨u, rfl, _⟩ := h; exact fun z => nomatch z
/-- ok n: what the world's own objects are, so that at most n draws were made -/
structure Wd where
  Z : Addr → Prop
  ok : Nat → Hp → Prop
  up : ∀ n k H, n ≤ k → ok n H → ok k H
  st : ∀ n H H', (∀ b o, Z b → H b = some o → H' b = some o) → (∀ b φ, H b = some (.ext φ) → H' b = some (.ext φ)) → ok n H → ok n H'
  tr : ∀ n H b, ok n H → Z b → Trk (H b)
/-- so many draws are let -/
def LIM : Nat := 1099511627776
/-- o stands at a; a dict may be locked meanwhile -/
def Fzb (o : HO) : Prop := (∃ kvs, o = .dK kvs) ∨ ∃ xs, o = .tup xs
def Rk (H : Hp) (a : Addr) (o : HO) : Prop := H a = some o ∨ ∃ ob, ∃ _ : Unit, Fzb o ∧ H a = some (.frz ob o)
theorem rk_lst {H : Hp} {a : Addr} {xs : List V} (h : Rk H a (.lst xs)) : H a = some (.lst xs) := h.elim id fun ⟨_, _, e, _⟩ => e.elim (fun ⟨_, e⟩ => nomatch e) fun ⟨_, e⟩ => nomatch e
theorem rk_rd {H : Hp} {a : Addr} {o : HO} (h : Rk H a o) : Rd H a o := h.elim .inl fun ⟨ob, _, _, e⟩ => .inr ⟨ob, e⟩
theorem rdS {H H' : Hp} {b : Addr} {o : HO} (sm : ∀ b o, H b = some o → H' b = some o) (h : Rd H b o) : Rd H' b o := h.elim (fun e => .inl (sm _ _ e)) fun ⟨u, e⟩ => .inr ⟨u, sm _ _ e⟩
theorem rk_frz {H : Hp} {a : Addr} {ob : Obj} {o : HO} (h : Rk H a (.frz ob o)) : H a = some (.frz ob o) := h.elim id fun ⟨_, _, e, _⟩ => e.elim (fun ⟨_, e⟩ => nomatch e) fun ⟨_, e⟩ => nomatch e
theorem rk_tup {H : Hp} {a : Addr} {xs : List V} (h : Rk H a (.tup xs)) : Rd H a (.tup xs) := rk_rd h
theorem rd_mv {H H' : Hp} {b : Addr} {u : HO} (g : ∀ o, H b = some o → H' b = some o) (h : Rk H b u) : Rk H' b u := h.elim (fun e => .inl (g _ e)) fun ⟨ob, k, x, e⟩ => .inr ⟨ob, k, x, g _ e⟩
theorem rd_upd {H : Hp} {a b : Addr} {o u : HO} (n : b ≠ a) (h : Rk H b u) : Rk (upd H a o) b u := rd_mv (fun _ e => by rw [upd_ne n]; exact e) h
theorem rd_ne {H : Hp} {b p : Addr} {u : HO} (h : Rk H b u) (n : H p = none) : b ≠ p := h.elim (fun e => ne_of_none e n) fun ⟨_, _, _, e⟩ => ne_of_none e n
def Sh (O : Addr → Prop) (H : Hp) : At := fun a o => Rk H a o ∧ ¬ O a
/-- all but the world's own objects are as they were -/
def Grow (w : Wd) (H H' : Hp) : Prop := ∀ b o, H b = some o → ¬ w.Z b → H' b = some o
theorem Grow.refl (w : Wd) (H : Hp) : Grow w H H := fun _ _ h _ => h
/-- .. and but for what is mine -/
def GrowM (w : Wd) (M : Addr → Prop) (H H' : Hp) : Prop := ∀ b o, H b = some o → ¬ w.Z b → ¬ M b → H' b = some o
theorem GrowM.refl (w : Wd) (M : Addr → Prop) (H : Hp) : GrowM w M H H := fun _ _ h _ _ => h
theorem GrowM.trans {w : Wd} {M : Addr → Prop} {H H1 H2 : Hp} (a : GrowM w M H H1) (b : GrowM w M H1 H2) : GrowM w M H H2 := fun c o h z m => b c o (a c o h z m) z m
theorem Grow.m {w : Wd} {M : Addr → Prop} {H H' : Hp} (g : Grow w H H') : GrowM w M H H' := fun b o h z _ => g b o h z
theorem GrowM.no {w : Wd} {H H' : Hp} (g : GrowM w (fun _ => False) H H') : Grow w H H' := fun b o h z => g b o h z id
theorem Grow.trans {w : Wd} {H H1 H2 : Hp} (a : Grow w H H1) (b : Grow w H1 H2) : Grow w H H2 := fun c o h z => b c o (a c o h z) z
theorem Grow.free {w : Wd} {n : Nat} {H H' : Hp} (g : Grow w H H') (k : w.ok n H') {a : Addr} (h : H' a = none) : H a = none := by
  cases e : H a with
  | none => rfl
  | some o =>
    by_cases z : w.Z a
    · exact absurd h (w.tr n H' a k z).ne
    · rw [g a o e z] at h; cases h
theorem Grow.new {w : Wd} {H : Hp} {p : Addr} (o : HO) (h : H p = none) : Grow w H (upd H p o) := fun b u e _ => by
  rw [upd_ne (ne_of_none e h)]; exact e
theorem st_upd {w : Wd} {n : Nat} {H : Hp} {a : Addr} {o : HO} (hz : ¬ w.Z a) (hx : ∀ φ, H a ≠ some (.ext φ)) (k : w.ok n H) : w.ok n (upd H a o) :=
  w.st _ _ _ (fun b u z h => by rw [upd_ne (fun q => hz (by rw [← q]; exact z))]; exact h) (fun b φ h => by rw [upd_ne (fun q => hx φ (by rw [← q]; exact h))]; exact h) k
theorem Wd.okNew {w : Wd} {n : Nat} {H : Hp} {p : Addr} {o : HO} (h : H p = none) (k : w.ok n H) : w.ok n (upd H p o) := w.st _ _ _ (fun b u _ e => by rw [upd_ne (ne_of_none e h)]; exact e) (fun b φ e => by rw [upd_ne (ne_of_none e h)]; exact e) k
/-- an exception told as data: its class, its attributes -/
abbrev Exn := Value × List Str × List D
/-- what is fixed of the exceptions that leave a body: how many draws are let, the heap at the entry, what is wanted of them -/
structure XC where
  lim : Nat
  le : lim ≤ LIM
  xb : Hp
  E : XK
  X : Exn → Prop
  My : Addr → Prop
/-- an exception as it leaves: its class, its dict -/
def ExnAt (A : At) (c : Value) (d : Option Addr) (e : Exn) : Prop := c = e.1 ∧ ((d = none ∧ e.2.1 = [] ∧ e.2.2 = []) ∨ ∃ dd xs, d = some dd ∧ A dd (.xd (e.2.1.zip xs)) ∧ e.2.1.length = xs.length ∧ RpL A xs e.2.2)
theorem ExnAt.mono {A B : At} {c : Value} {d : Option Addr} {e : Exn} (l : LeA A B) (h : ExnAt A c d e) : ExnAt B c d e := ⟨h.1, h.2.elim .inl fun ⟨dd, xs, h1, h2, h3, h4⟩ => .inr ⟨dd, xs, h1, l _ _ h2, h3, h4.mono l⟩⟩
def XC.no (H : Hp) : XC := ⟨LIM, Nat.le_refl _, H, fun _ _ _ => False, fun _ => False, fun _ => False⟩
/-- what is fixed through a body: the world, the heap at its entry, what was hidden there -/
structure Cfg where
  w : Wd
  H0 : Hp
  Oc : Addr → Prop
  ctr : ∀ b, Oc b → Trk (H0 b)
  x : XC
  hb : GrowM w x.My x.xb H0
  myo : ∀ b, x.My b → Oc b
  door : ∀ n H c d e, n ≤ x.lim → w.ok n H → GrowM w x.My x.xb H → (∀ b, Oc b → Trk (H b)) → ExnAt (Sh Oc H) c d e → x.X e → x.E c d H
abbrev Cfg.nx (w : Wd) (H : Hp) (Oc : Addr → Prop) (ctr : ∀ b, Oc b → Trk (H b)) : Cfg := ⟨w, H, Oc, ctr, XC.no H, GrowM.refl _ _ _, fun _ h => h.elim, fun _ _ _ _ _ _ _ _ _ _ h => h.elim⟩
/-- of worlds alone -/
abbrev nx (C : Wd → Prop) : Wd → XC → Prop := fun w _ => C w
/-- a thing that may be changed, with all that it owns: where it stands, what it holds -/
inductive T where
  | dat (d : D) | own (a : Addr) (ds : List D) | owd (a : Addr) (kvs : List (Key × D)) | owt (a : Addr) (kvs : List (List Key × D))
  | lst (a : Addr) (ts : List T) | dic (a : Addr) (ks : List Key) (ts : List T) | dit (a : Addr) (ks : List (List Key)) (ts : List T)
  | obj (a C : Addr) (ns : List Str) (ts : List T)
mutual
def T.fp : T → List Addr
  | .dat _ => []
  | .own a _ => [a]
  | .owd a _ => [a]
  | .owt a _ => [a]
  | .lst a ts => a :: T.fpL ts
  | .dic a _ ts => a :: T.fpL ts
  | .dit a _ ts => a :: T.fpL ts
  | .obj a _ _ ts => a :: T.fpL ts
def T.fpL : List T → List Addr
  | [] => []
  | t :: ts => t.fp ++ T.fpL ts
end
mutual
inductive RT (A : At) (H : Hp) : V → T → Prop
  | dat {v : V} {d : D} : Rp A v d → RT A H v (.dat d)
  | own {a : Addr} {xs : List V} {ds : List D} : H a = some (.lst xs) → RpL A xs ds → RT A H (.ref a) (.own a ds)
  | owd {a : Addr} {xs : List (Key × V)} {ds : List (Key × D)} : H a = some (.dK xs) → RpD A xs ds → RT A H (.ref a) (.owd a ds)
  | owt {a : Addr} {xs : List (List Key × V)} {ds : List (List Key × D)} : H a = some (.dT xs) → RpT A xs ds → RT A H (.ref a) (.owt a ds)
  | lst {a : Addr} {xs : List V} {ts : List T} : H a = some (.lst xs) → RTL A H xs ts → RT A H (.ref a) (.lst a ts)
  | dic {a : Addr} {ks : List Key} {xs : List V} {ts : List T} : H a = some (.dK (ks.zip xs)) → ks.length = xs.length → RTL A H xs ts → RT A H (.ref a) (.dic a ks ts)
  | dit {a : Addr} {ks : List (List Key)} {xs : List V} {ts : List T} : H a = some (.dT (ks.zip xs)) → ks.length = xs.length → RTL A H xs ts → RT A H (.ref a) (.dit a ks ts)
  | obj {a dx C : Addr} {ns : List Str} {xs : List V} {ts : List T} : H a = some (.ins C dx (ns.zip xs)) → ns.length = xs.length → RTL A H xs ts → RT A H (.ref a) (.obj a C ns ts)
inductive RTL (A : At) (H : Hp) : List V → List T → Prop
  | nil : RTL A H [] []
  | cons {v : V} {xs : List V} {t : T} {ts : List T} : RT A H v t → RTL A H xs ts → RTL A H (v :: xs) (t :: ts)
end
mutual
theorem RT.keep {A B : At} {H H' : Hp} (l : LeA A B) : ∀ {v : V} {t : T}, (∀ a ∈ t.fp, ∀ o, H a = some o → H' a = some o) → RT A H v t → RT B H' v t
  | _, _, _, .dat r => .dat (r.mono l)
  | _, _, h, .own e r => .own (h _ (List.mem_singleton.mpr rfl) _ e) (r.mono l)
  | _, _, h, .owd e r => .owd (h _ (List.mem_singleton.mpr rfl) _ e) (r.mono l)
  | _, _, h, .owt e r => .owt (h _ (List.mem_singleton.mpr rfl) _ e) (r.mono l)
  | _, _, h, .lst e r => .lst (h _ List.mem_cons_self _ e) (RTL.keep l (fun a m => h a (List.mem_cons_of_mem _ m)) r)
  | _, _, h, .dic e q r => .dic (h _ List.mem_cons_self _ e) q (RTL.keep l (fun a m => h a (List.mem_cons_of_mem _ m)) r)
  | _, _, h, .dit e q r => .dit (h _ List.mem_cons_self _ e) q (RTL.keep l (fun a m => h a (List.mem_cons_of_mem _ m)) r)
  | _, _, h, .obj e q r => .obj (h _ List.mem_cons_self _ e) q (RTL.keep l (fun a m => h a (List.mem_cons_of_mem _ m)) r)
theorem RTL.keep {A B : At} {H H' : Hp} (l : LeA A B) : ∀ {v : List V} {t : List T}, (∀ a ∈ T.fpL t, ∀ o, H a = some o → H' a = some o) → RTL A H v t → RTL B H' v t
  | _, _, _, .nil => .nil
  | _, _, h, .cons a r => .cons (RT.keep l (fun b m => h b (List.mem_append_left _ m)) a) (RTL.keep l (fun b m => h b (List.mem_append_right _ m)) r)
end
mutual
theorem RT.there {A : At} {H : Hp} : ∀ {v : V} {t : T}, RT A H v t → ∀ a ∈ t.fp, Trk (H a)
  | _, _, .dat r, _, m => nomatch m
  | _, _, .own e r, a, m => by obtain rfl := List.mem_singleton.mp m; exact ⟨_, e, fun _ z => nomatch z⟩
  | _, _, .owd e r, a, m => by obtain rfl := List.mem_singleton.mp m; exact ⟨_, e, fun _ z => nomatch z⟩
  | _, _, .owt e r, a, m => by obtain rfl := List.mem_singleton.mp m; exact ⟨_, e, fun _ z => nomatch z⟩
  | _, _, .lst e r, a, m => (List.mem_cons.mp m).elim (fun z => by rw [z]; exact ⟨_, e, fun _ z => nomatch z⟩) (RTL.there r a)
  | _, _, .dic e q r, a, m => (List.mem_cons.mp m).elim (fun z => by rw [z]; exact ⟨_, e, fun _ z => nomatch z⟩) (RTL.there r a)
  | _, _, .dit e q r, a, m => (List.mem_cons.mp m).elim (fun z => by rw [z]; exact ⟨_, e, fun _ z => nomatch z⟩) (RTL.there r a)
  | _, _, .obj e q r, a, m => (List.mem_cons.mp m).elim (fun z => by rw [z]; exact ⟨_, e, fun _ z => nomatch z⟩) (RTL.there r a)
theorem RTL.there {A : At} {H : Hp} : ∀ {v : List V} {t : List T}, RTL A H v t → ∀ a ∈ T.fpL t, Trk (H a)
  | _, _, .nil, _, m => nomatch m
  | _, _, .cons r s, a, m => (List.mem_append.mp m).elim (RT.there r a) (RTL.there s a)
end
/-- the thing itself is a node -/
def T.nd : T → Bool
  | .dat _ => false
  | _ => true
/-- where it stands -/
def T.ad : T → Addr
  | .own a _ | .owd a _ | .owt a _ | .lst a _ | .dic a _ _ | .dit a _ _ | .obj a _ _ _ => a
  | .dat _ => 0
theorem RT.ref {A : At} {H : Hp} {v : V} {t : T} (r : RT A H v t) (n : t.nd = true) : v = .ref t.ad ∧ t.ad ∈ t.fp := by
  cases r with
  | dat r => cases n
  | own e r => exact ⟨rfl, List.mem_cons_self⟩
  | owd e r => exact ⟨rfl, List.mem_cons_self⟩
  | owt e r => exact ⟨rfl, List.mem_cons_self⟩
  | lst e r => exact ⟨rfl, List.mem_cons_self⟩
  | dic e q r => exact ⟨rfl, List.mem_cons_self⟩
  | dit e q r => exact ⟨rfl, List.mem_cons_self⟩
  | obj e q r => exact ⟨rfl, List.mem_cons_self⟩
/-- what a name holds: nothing, data, a list or a dict of its own, a thing with all that it owns -/
inductive Sv where
  | un | dat (d : D) | own (ds : List D) | owd (ds : List (Key × D)) | tr (m : Bool) (t : T)
/-- an own object of the frame stands at a -/
structure OwnAt (G : Cfg) (O : Addr → Prop) (a : Addr) : Prop where
  o : O a
  z : ¬ G.w.Z a
  n : G.H0 a = none
inductive Slv (G : Cfg) (O : Addr → Prop) (H : Hp) : V → Sv → Prop
  | dat {v : V} {d : D} : Rp (Sh O H) v d → Slv G O H v (.dat d)
  | own {a : Addr} {xs : List V} {ds : List D} : H a = some (.lst xs) → OwnAt G O a → RpL (Sh O H) xs ds → Slv G O H (.ref a) (.own ds)
  | owd {a : Addr} {xs : List (Key × V)} {ds : List (Key × D)} : H a = some (.dK xs) → OwnAt G O a → RpD (Sh O H) xs ds → Slv G O H (.ref a) (.owd ds)
  | tr {m : Bool} {v : V} {t : T} : RT (Sh O H) H v t → t.nd = true → t.fp.Nodup → (∀ a ∈ t.fp, O a ∧ ¬ G.w.Z a) → (m = true → ∀ a ∈ t.fp, G.H0 a = none ∨ G.x.My a) → Slv G O H v (.tr m t)
abbrev Ev := List Sv
def Sv.isOwn : Sv → Bool
  | .own _ => true
  | .owd _ => true
  | .tr _ _ => true
  | _ => false
/-- what a name owns -/
def Sv.owns : Sv → V → Addr → Prop
  | .own _, v, a => v = .ref a
  | .owd _, v, a => v = .ref a
  | .tr _ t, _, a => a ∈ t.fp
  | _, _, _ => False
def IsOwn (env : Ev) (i : Nat) : Prop := ∃ c, env[i]? = some c ∧ c.isOwn = true
/-- the name i owns a -/
def Own2 (env : Ev) (σ : L2.St) (i : Nat) (a : Addr) : Prop := ∃ c v, env[i]? = some c ∧ σ[i]? = some (some v) ∧ c.owns v a
/-- a heap in which the hidden things are tracked -/
structure Wl (G : Cfg) (n : Nat) (O : Addr → Prop) (H : Hp) : Prop where
  ok : G.w.ok n H
  zo : ∀ b, G.w.Z b → O b
  co : ∀ b, G.Oc b → O b
  tr : ∀ b, O b → Trk (H b)
  base : GrowM G.w G.x.My G.H0 H
structure Fr (G : Cfg) (n : Nat) (O : Addr → Prop) (env : Ev) (σ : L2.St) (H : Hp) : Prop where
  wl : Wl G n O H
  len : env.length = σ.length
  sl : ∀ (i : Nat) c, env[i]? = some c → c ≠ .un → ∃ v, σ[i]? = some (some v) ∧ Slv G O H v c
  uq : ∀ (i j : Nat) a, Own2 env σ i a → Own2 env σ j a → i = j
theorem sh_grow {G : Cfg} {O : Addr → Prop} {H H' : Hp} (zo : ∀ b, G.w.Z b → O b) (g : Grow G.w H H') : LeA (Sh O H) (Sh O H') := fun a o ⟨h, n⟩ => ⟨rd_mv (fun o e => g a o e fun z => n (zo a z)) h, n⟩
theorem Wl.grow {G : Cfg} {n n' : Nat} {O : Addr → Prop} {H H' : Hp} (k : Wl G n O H) (g : Grow G.w H H') (ok : G.w.ok n' H') : Wl G n' O H' :=
  ⟨ok, k.zo, k.co, fun b o => by
    by_cases z : G.w.Z b
    · exact G.w.tr _ H' b ok z
    · obtain ⟨u, e, n⟩ := k.tr b o
      exact ⟨u, g b u e z, n⟩, k.base.trans g.m⟩
theorem Slv.grow {G : Cfg} {n : Nat} {O : Addr → Prop} {H H' : Hp} {v : V} {c : Sv} (k : Wl G n O H) (g : Grow G.w H H') (h : Slv G O H v c) : Slv G O H' v c := by
  cases h with
  | dat r => exact .dat (r.mono (sh_grow k.zo g))
  | own e o r => exact .own (g _ _ e o.z) o (r.mono (sh_grow k.zo g))
  | owd e o r => exact .owd (g _ _ e o.z) o (r.mono (sh_grow k.zo g))
  | tr r nd u o m => exact .tr (r.keep (sh_grow k.zo g) fun a ha b e => g a b e (o a ha).2) nd u o m
theorem Fr.grow {G : Cfg} {n n' : Nat} {O : Addr → Prop} {env : Ev} {σ : L2.St} {H H' : Hp} (F : Fr G n O env σ H) (g : Grow G.w H H') (ok : G.w.ok n' H') : Fr G n' O env σ H' :=
  ⟨F.wl.grow g ok, F.len, fun i c e n => let ⟨v, h, s⟩ := F.sl i c e n; ⟨v, h, s.grow F.wl g⟩, F.uq⟩
theorem Slv.ownAt {G : Cfg} {O : Addr → Prop} {H : Hp} {v : V} {c : Sv} (s : Slv G O H v c) : ∀ {a : Addr}, c.owns v a → O a ∧ ¬ G.w.Z a ∧ Trk (H a) := fun {a} o => by
  cases s with
  | dat r => exact (show False from o).elim
  | own e oa r => cases (show V.ref _ = V.ref a from o); exact ⟨oa.o, oa.z, _, e, fun _ z => nomatch z⟩
  | owd e oa r => cases (show V.ref _ = V.ref a from o); exact ⟨oa.o, oa.z, _, e, fun _ z => nomatch z⟩
  | tr r nd u q m => exact ⟨(q a o).1, (q a o).2, r.there a o⟩
theorem Wl.n0 {G : Cfg} {n : Nat} {O : Addr → Prop} {H : Hp} (k : Wl G n O H) {a : Addr} (h : H a = none) : G.H0 a = none := by
  cases q : G.H0 a with
  | none => rfl
  | some u =>
    have nO : ¬ O a := fun o => (k.tr a o).ne h
    have := k.base a u q (fun z => nO (k.zo a z)) fun m => nO (k.co a (G.myo a m))
    rw [h] at this; cases this
theorem Fr.uqo {G : Cfg} {n : Nat} {O : Addr → Prop} {env : Ev} {σ : L2.St} {H : Hp} (F : Fr G n O env σ H) (i j : Nat) (a : Addr) (hi : IsOwn env i) (hj : IsOwn env j) (ei : σ[i]? = some (some (.ref a))) (ej : σ[j]? = some (some (.ref a))) : i = j := by
  have key : ∀ k, IsOwn env k → σ[k]? = some (some (.ref a)) → Own2 env σ k a := fun k ⟨c, e, o⟩ es => by
    refine ⟨c, _, e, es, ?_⟩
    obtain ⟨v, h1, h2⟩ := F.sl k c e (by intro z; rw [z] at o; cases o)
    rw [es] at h1; cases h1
    cases h2 with
    | dat r => cases o
    | own _ _ _ => exact rfl
    | owd _ _ _ => exact rfl
    | tr r nd _ _ _ =>
      obtain ⟨q1, q2⟩ := r.ref nd
      cases q1; exact q2
  exact F.uq i j a (key i hi ei) (key j hj ej)
theorem Wl.free {G : Cfg} {n : Nat} {O : Addr → Prop} {H : Hp} (k : Wl G n O H) {a : Addr} (h : H a = none) : ¬ O a := fun o => (k.tr a o).ne h
theorem Wl.nox {G : Cfg} {n : Nat} {O : Addr → Prop} {H : Hp} (k : Wl G n O H) {a : Addr} {φ : Heap → Prop} (h : H a = some (.ext φ)) : ¬ O a := fun o => by
  obtain ⟨u, e, n⟩ := k.tr a o
  rw [h] at e
  exact n φ (Option.some.inj e).symm

/-! ### reading -/
inductive Rr (G : Cfg) (O : Addr → Prop) (H : Hp) : V → D → Prop
  | dat {v : V} {d : D} : Rp (Sh O H) v d → Rr G O H v d
  | own {a : Addr} {xs : List V} {ds : List D} : H a = some (.lst xs) → ¬ G.w.Z a → RpL (Sh O H) xs ds → Rr G O H (.ref a) (.lst ds)
  | owd {a : Addr} {xs : List (Key × V)} {ds : List (Key × D)} : H a = some (.dK xs) → ¬ G.w.Z a → RpD (Sh O H) xs ds → Rr G O H (.ref a) (.dic ds)
theorem Rr.grow {G : Cfg} {n : Nat} {O : Addr → Prop} {H H' : Hp} {v : V} {d : D} (k : Wl G n O H) (g : Grow G.w H H') (h : Rr G O H v d) : Rr G O H' v d := by
  cases h with
  | dat r => exact .dat (r.mono (sh_grow k.zo g))
  | own e z r => exact .own (g _ _ e z) z (r.mono (sh_grow k.zo g))
  | owd e z r => exact .owd (g _ _ e z) z (r.mono (sh_grow k.zo g))
inductive RrL (G : Cfg) (O : Addr → Prop) (H : Hp) : List V → List D → Prop
  | nil : RrL G O H [] []
  | cons {v : V} {xs : List V} {d : D} {ds : List D} : Rr G O H v d → RrL G O H xs ds → RrL G O H (v :: xs) (d :: ds)
theorem RrL.grow {G : Cfg} {n : Nat} {O : Addr → Prop} {H H' : Hp} (k : Wl G n O H) (g : Grow G.w H H') : ∀ {v : List V} {d : List D}, RrL G O H v d → RrL G O H' v d
  | _, _, .nil => .nil
  | _, _, .cons a r => .cons (a.grow k g) (RrL.grow k g r)
/-- a list that is read -/
theorem Rr.list {G : Cfg} {O : Addr → Prop} {H : Hp} {v : V} {ds : List D} (r : Rr G O H v (.lst ds)) : ∃ a xs, v = .ref a ∧ H a = some (.lst xs) ∧ RpL (Sh O H) xs ds := by
  cases r with
  | dat r => cases r with | lst e r => exact ⟨_, _, rfl, rk_lst e.1, r⟩
  | own e z r => exact ⟨_, _, rfl, e, r⟩
theorem Rr.tuple {G : Cfg} {O : Addr → Prop} {H : Hp} {v : V} {ds : List D} (r : Rr G O H v (.tup ds)) : ∃ a xs, v = .ref a ∧ Rd H a (.tup xs) ∧ RpL (Sh O H) xs ds := by
  cases r with
  | dat r => cases r with | tup e r => exact ⟨_, _, rfl, rk_tup e.1, r⟩
theorem Rr.dict {G : Cfg} {O : Addr → Prop} {H : Hp} {v : V} {ds : List (Key × D)} (r : Rr G O H v (.dic ds)) : ∃ a xs, v = .ref a ∧ Rk H a (.dK xs) ∧ RpD (Sh O H) xs ds := by
  cases r with
  | dat r => cases r with | dic e r => exact ⟨_, _, rfl, e.1, r⟩
  | owd e z r => exact ⟨_, _, rfl, .inl e, r⟩
theorem Rr.int {G : Cfg} {O : Addr → Prop} {H : Hp} {v : V} {i : Int} (r : Rr G O H v (.int i)) : v = .int i := by
  cases r with | dat r => cases r; rfl
theorem Rr.bl {G : Cfg} {O : Addr → Prop} {H : Hp} {v : V} {i : Bool} (r : Rr G O H v (.bl i)) : v = .bl i := by
  cases r with | dat r => cases r; rfl
theorem Rr.str {G : Cfg} {O : Addr → Prop} {H : Hp} {v : V} {i : Str} (r : Rr G O H v (.str i)) : v = .str i := by
  cases r with | dat r => cases r; rfl
theorem Rr.non {G : Cfg} {O : Addr → Prop} {H : Hp} {v : V} (r : Rr G O H v .non) : v = .non := by
  cases r with | dat r => cases r; rfl

/-! ### the judgements -/
abbrev EM := Ev → (D → Prop) → Prop
abbrev TM := Ev → (Bool → Prop) → Prop
abbrev AM := Ev → (List D → Prop) → Prop
abbrev XM := Ev → (Sv → Prop) → Prop
structure Pe where
  nx : Ev → Prop
  rt : D → Prop
  bk : Ev → Prop := fun _ => False
  ct : Ev → Prop := fun _ => False
  rm : Ev → D → Prop := fun _ _ => False
abbrev SM := Ev → Pe → Prop
variable (C : Wd → XC → Prop)
def SE (c : Nat) (te : TE) (m : EM) : Prop := ∀ G, C G.w G.x → ∀ n O env σ H (Qd : D → Prop) (Q : VK), n + c ≤ G.x.lim → Fr G n O env σ H → m env Qd → (∀ d v H', Qd d → Grow G.w H H' → G.w.ok (n + c) H' → Rp (Sh O H') v d → Q v H') → te σ H Q
def SR (c : Nat) (te : TE) (m : EM) : Prop := ∀ G, C G.w G.x → ∀ n O env σ H (Qd : D → Prop) (Q : VK), n + c ≤ G.x.lim → Fr G n O env σ H → m env Qd → (∀ d v H', Qd d → Grow G.w H H' → G.w.ok (n + c) H' → Rr G O H' v d → Q v H') → te σ H Q
def ST (c : Nat) (tt : TT) (m : TM) : Prop := ∀ G, C G.w G.x → ∀ n O env σ H (Qd : Bool → Prop) (Q : Bool → Hp → Prop), n + c ≤ G.x.lim → Fr G n O env σ H → m env Qd → (∀ b H', Qd b → Grow G.w H H' → G.w.ok (n + c) H' → Q b H') → tt σ H Q
def SA (c : Nat) (ta : TA) (m : AM) : Prop := ∀ G, C G.w G.x → ∀ n O env σ H (Qd : List D → Prop) (Q : List V → Hp → Prop), n + c ≤ G.x.lim → Fr G n O env σ H → m env Qd → (∀ ds vs H', Qd ds → Grow G.w H H' → G.w.ok (n + c) H' → RpL (Sh O H') vs ds → Q vs H') → ta σ H Q
def SAr (c : Nat) (ta : TA) (m : AM) : Prop := ∀ G, C G.w G.x → ∀ n O env σ H (Qd : List D → Prop) (Q : List V → Hp → Prop), n + c ≤ G.x.lim → Fr G n O env σ H → m env Qd → (∀ ds vs H', Qd ds → Grow G.w H H' → G.w.ok (n + c) H' → RrL G O H' vs ds → Q vs H') → ta σ H Q
/-- a new list -/
def SL (c : Nat) (te : TE) (m : AM) : Prop := ∀ G, C G.w G.x → ∀ n O env σ H (Qd : List D → Prop) (Q : VK), n + c ≤ G.x.lim → Fr G n O env σ H → m env Qd →
  (∀ ds a xs H', Qd ds → Grow G.w H H' → G.w.ok (n + c) H' → H a = none → H' a = some (.lst xs) → RpL (Sh (fun b => O b ∨ b = a) H') xs ds → Q (.ref a) H') → te σ H Q
/-- what a name may be given: data, or a new list or dict -/
def SX (c : Nat) (te : TE) (m : XM) : Prop := ∀ G, C G.w G.x → ∀ n O env σ H (Qd : Sv → Prop) (Q : VK), n + c ≤ G.x.lim → Fr G n O env σ H → m env Qd →
  (∀ z v O' H', Qd z → Grow G.w H H' → Wl G (n + c) O' H' → LeA (Sh O H) (Sh O' H') → (∀ b, O b → O' b) → Slv G O' H' v z → z ≠ .un → (∀ a, z.owns v a → H a = none) → Q v H') → te σ H Q
structure EOk (G : Cfg) (n : Nat) (O : Addr → Prop) (H : Hp) (P : Pe) (D : Ends) : Prop where
  nx : ∀ O' env' σ' H', LeA (Sh O H) (Sh O' H') → Fr G n O' env' σ' H' → P.nx env' → D.nx σ' H'
  rt : ∀ d v O' H', Wl G n O' H' → Rp (Sh O' H') v d → P.rt d → D.rt v H'
  bk : ∀ O' env' σ' H', LeA (Sh O H) (Sh O' H') → Fr G n O' env' σ' H' → P.bk env' → D.bk σ' H'
  ct : ∀ O' env' σ' H', LeA (Sh O H) (Sh O' H') → Fr G n O' env' σ' H' → P.ct env' → D.ct σ' H'
  rm : ∀ d v O' env' σ' H', LeA (Sh O H) (Sh O' H') → Fr G n O' env' σ' H' → Rp (Sh O' H') v d → P.rm env' d → D.rt v H'
def SS (c : Nat) (t : TS) (m : SM) : Prop := ∀ G, C G.w G.x → ∀ n O env σ H P D, n + c ≤ G.x.lim → Fr G n O env σ H → m env P → EOk G (n + c) O H P D → t D σ H
theorem EOk.le {G : Cfg} {n : Nat} {O O1 : Addr → Prop} {H H1 : Hp} {P : Pe} {D : Ends} (e : EOk G n O H P D) (l : LeA (Sh O H) (Sh O1 H1)) : EOk G n O1 H1 P D :=
  ⟨fun O' v s h a => e.nx O' v s h (l.trans a), e.rt, fun O' v s h a => e.bk O' v s h (l.trans a), fun O' v s h a => e.ct O' v s h (l.trans a), fun d v O' e' s' H' a => e.rm d v O' e' s' H' (l.trans a)⟩
variable {C}
section
variable {te ta tb ti to : TE} {tt tu : TT} {t tr : TA} {m ma mb mi : EM} {mt mu : TM} {am ar : AM} {i : Nat}
/-! ### names, constants -/
def mVar (i : Nat) : EM := fun env Q => match env[i]? with | some (.dat d) => Q d | _ => False
def mRd (i : Nat) : EM := fun env Q => match env[i]? with | some (.dat d) => Q d | some (.own ds) => Q (.lst ds) | some (.owd ds) => Q (.dic ds) | _ => False
def mC (d : D) : EM := fun _ Q => Q d
theorem se_var : SE C 0 (tVar i) (mVar i) := fun G _ n O env σ H Qd Q hl F hm k => by
  unfold mVar at hm
  split at hm
  · rename_i d e
    obtain ⟨v, hv, s⟩ := F.sl i _ e (by intro z; cases z)
    cases s with
    | dat r => exact ⟨v, hv, k d v H hm (Grow.refl _ _) F.wl.ok r⟩
  · exact hm.elim
theorem sr_var : SR C 0 (tVar i) (mRd i) := fun G _ n O env σ H Qd Q hl F hm k => by
  unfold mRd at hm
  split at hm
  · rename_i d e
    obtain ⟨v, hv, s⟩ := F.sl i _ e (by intro z; cases z)
    cases s with
    | dat r => exact ⟨v, hv, k d v H hm (Grow.refl _ _) F.wl.ok (.dat r)⟩
  · rename_i d e
    obtain ⟨v, hv, s⟩ := F.sl i _ e (by intro z; cases z)
    cases s with
    | own e o r => exact ⟨_, hv, k _ _ H hm (Grow.refl _ _) F.wl.ok (.own e o.z r)⟩
  · rename_i d e
    obtain ⟨v, hv, s⟩ := F.sl i _ e (by intro z; cases z)
    cases s with
    | owd e o r => exact ⟨_, hv, k _ _ H hm (Grow.refl _ _) F.wl.ok (.owd e o.z r)⟩
  · exact hm.elim
theorem SE.r {c : Nat} (h : SE C c te m) : SR C c te m := fun G c n O env σ H Qd Q hl F hm k => h G c n O env σ H Qd Q hl F hm fun d v H' q g ok r => k d v H' q g ok (.dat r)
theorem se_int {z : Int} : SE C 0 (tC (.int z)) (mC (.int z)) := fun G _ n O env σ H Qd Q hl F hm k => k _ _ H hm (Grow.refl _ _) F.wl.ok (.int z)
theorem se_non : SE C 0 (tC .non) (mC .non) := fun G _ n O env σ H Qd Q hl F hm k => k _ _ H hm (Grow.refl _ _) F.wl.ok .non
theorem se_bl {b : Bool} : SE C 0 (tC (.bl b)) (mC (.bl b)) := fun G _ n O env σ H Qd Q hl F hm k => k _ _ H hm (Grow.refl _ _) F.wl.ok (.bl b)
theorem se_str {b : Str} : SE C 0 (tC (.str b)) (mC (.str b)) := fun G _ n O env σ H Qd Q hl F hm k => k _ _ H hm (Grow.refl _ _) F.wl.ok (.str b)
theorem se_opq {v : V} : SE C 0 (tC v) (mC (.opq v)) := fun G _ n O env σ H Qd Q hl F hm k => k _ _ H hm (Grow.refl _ _) F.wl.ok (.opq v)
/-! ### operators -/
def m2 (ma mb : EM) (k : D → D → (D → Prop) → Prop) : EM := fun env Q => ma env fun x => mb env fun y => k x y Q
def K2 (C : Wd → XC → Prop) (r : R2) (k : D → D → (D → Prop) → Prop) : Prop := ∀ G, C G.w G.x → ∀ n O H x y d e (Qd : D → Prop) (Q : VK), Wl G n O H → Rr G O H x d → Rr G O H y e → k d e Qd →
  (∀ z v H', Qd z → Grow G.w H H' → G.w.ok n H' → Rp (Sh O H') v z → Q v H') → r x y H Q
theorem se_op {ca cb : Nat} {r : R2} {k : D → D → (D → Prop) → Prop} (ha : SR C ca ta ma) (hb : SR C cb tb mb) (hk : K2 C r k) : SE C (ca + cb) (tOp r ta tb) (m2 ma mb k) := fun G c n O env σ H Qd Q hl F hm q =>
  ha G c n O env σ H _ _ (by omega) F hm fun x v H1 h1 g1 ok1 r1 => hb G c _ O env σ H1 _ _ (by omega) (F.grow g1 ok1) h1 fun y u H2 h2 g2 ok2 r2 =>
    hk G c _ O H2 v u x y Qd Q ((F.wl.grow g1 ok1).grow g2 ok2) (r1.grow (F.wl.grow g1 ok1) g2) r2 h2 fun z w H3 h3 g3 ok3 r3 => q z w H3 h3 (g1.trans (g2.trans g3)) (by rw [← Nat.add_assoc]; exact ok3) r3
def kI (f : Int → Int → D) : D → D → (D → Prop) → Prop := fun x y Q => match x, y with | .int i, .int j => Q (f i j) | _, _ => False
def kIc (c : Int → Int → Prop) (f : Int → Int → D) : D → D → (D → Prop) → Prop := fun x y Q => match x, y with | .int i, .int j => c i j ∧ Q (f i j) | _, _ => False
theorem k2_int {f : Int → Int → Int} : K2 C (rI0 fun i j => .int (f i j)) (kI fun i j => .int (f i j)) := fun G _ n O H x y d e Qd Q F rx ry hk q => by
  unfold kI at hk
  split at hk
  · cases rx.int; cases ry.int
    exact ⟨_, _, rfl, rfl, q _ _ H hk (Grow.refl _ _) F.ok (.int _)⟩
  · exact hk.elim
theorem k2_bl {f : Int → Int → Bool} : K2 C (rI0 fun i j => .bl (f i j)) (kI fun i j => .bl (f i j)) := fun G _ n O H x y d e Qd Q F rx ry hk q => by
  unfold kI at hk
  split at hk
  · cases rx.int; cases ry.int
    exact ⟨_, _, rfl, rfl, q _ _ H hk (Grow.refl _ _) F.ok (.bl _)⟩
  · exact hk.elim
theorem k2_intC {c : Int → Int → Prop} {f : Int → Int → Int} : K2 C (rI c fun i j => .int (f i j)) (kIc c fun i j => .int (f i j)) := fun G _ n O H x y d e Qd Q F rx ry hk q => by
  unfold kIc at hk
  split at hk
  · cases rx.int; cases ry.int
    exact ⟨_, _, rfl, rfl, hk.1, q _ _ H hk.2 (Grow.refl _ _) F.ok (.int _)⟩
  · exact hk.elim
end
end PL

namespace PL
open PySem L2
section
variable {C : Wd → XC → Prop} {K : PySem.W.Frag} {te ta tb ti to : TE} {tt tu : TT} {t tr : TA} {m ma mb mi : EM} {mt mu : TM} {am ar : AM} {i c c1 c2 : Nat} {G : Cfg} {O : Addr → Prop} {H : Hp}
theorem sqL {a : Addr} {xs : List V} (h : H a = some (.lst xs)) : SqL K H a xs := .inl (.inl h)
theorem sqT {a : Addr} {xs : List V} (h : Rd H a (.tup xs)) : SqT K H a xs := .inl h
/-! ### argument lists -/
def aNil : AM := fun _ Q => Q []
def aCons (m : EM) (a : AM) : AM := fun env Q => m env fun d => a env fun ds => Q (d :: ds)
theorem sa_nil : SA C 0 tNil aNil := fun G _ n O env σ H Qd Q hl F hm k => k [] [] H hm (Grow.refl _ _) F.wl.ok .nil
theorem sa_cons (h : SE C c1 te m) (r : SA C c2 t am) : SA C (c1 + c2) (tCons te t) (aCons m am) := fun G c n O env σ H Qd Q hl F hm k =>
  h G c n O env σ H _ _ (by omega) F hm fun d v H1 h1 g1 ok1 r1 => r G c _ O env σ H1 _ _ (by omega) (F.grow g1 ok1) h1 fun ds vs H2 h2 g2 ok2 r2 =>
    k _ _ H2 h2 (g1.trans g2) (by rw [← Nat.add_assoc]; exact ok2) (.cons (r1.mono (sh_grow F.wl.zo g2)) r2)
theorem sar_nil : SAr C 0 tNil aNil := fun G _ n O env σ H Qd Q hl F hm k => k [] [] H hm (Grow.refl _ _) F.wl.ok .nil
theorem sar_cons (h : SR C c1 te m) (r : SAr C c2 t am) : SAr C (c1 + c2) (tCons te t) (aCons m am) := fun G c n O env σ H Qd Q hl F hm k =>
  h G c n O env σ H _ _ (by omega) F hm fun d v H1 h1 g1 ok1 r1 => r G c _ O env σ H1 _ _ (by omega) (F.grow g1 ok1) h1 fun ds vs H2 h2 g2 ok2 r2 =>
    k _ _ H2 h2 (g1.trans g2) (by rw [← Nat.add_assoc]; exact ok2) (.cons (r1.grow (F.wl.grow g1 ok1) g2) r2)
/-! ### displays -/
def mTup (a : AM) : EM := fun env Q => a env fun ds => ds.length ≤ sizeLine ∧ Q (.tup ds)
theorem new_tup {G : Cfg} {n : Nat} {O : Addr → Prop} {H : Hp} {p : Addr} {xs : List V} {ds : List D} (k : Wl G n O H) (h : H p = none) (r : RpL (Sh O H) xs ds) : Rp (Sh O (upd H p (.tup xs))) (.ref p) (.tup ds) :=
  .tup ⟨.inl upd_same, k.free h⟩ (r.mono (sh_grow k.zo (Grow.new _ h)))
theorem se_tup (h : SA C c t am) : SE C c (tTup t) (mTup am) := fun G c n O env σ H Qd Q hL F hm k =>
  h G c n O env σ H _ _ hL F hm fun ds vs H1 ⟨hl, h1⟩ g1 ok1 r1 => ⟨by rw [r1.length]; exact hl, fun p hp =>
    k _ _ _ h1 (g1.trans (Grow.new _ hp)) (Wd.okNew hp ok1) (new_tup (F.wl.grow g1 ok1) hp r1)⟩
def mLst (a : AM) : AM := fun env Q => a env fun ds => ds.length ≤ sizeLine ∧ Q ds
theorem add_le {G : Cfg} {O : Addr → Prop} {H : Hp} {p : Addr} {o : HO} (h : H p = none) : LeA (Sh O H) (Sh (fun b => O b ∨ b = p) (upd H p o)) := fun a u ⟨e, n⟩ =>
  have ne : a ≠ p := rd_ne e h
  ⟨rd_upd ne e, fun z => z.elim n ne⟩
theorem sl_lst (h : SA C c t am) : SL C c (tLst t) (mLst am) := fun G c n O env σ H Qd Q hL F hm k =>
  h G c n O env σ H _ _ hL F hm fun ds vs H1 ⟨hl, h1⟩ g1 ok1 r1 => ⟨by rw [r1.length]; exact hl, fun p hp =>
    k _ p vs _ h1 (g1.trans (Grow.new _ hp)) (Wd.okNew hp ok1) (g1.free ok1 hp) upd_same (r1.mono (add_le (G := G) hp))⟩
theorem SL.e (h : SL C c te am) : SE C c te (fun env Q => am env fun ds => Q (.lst ds)) := fun G c n O env σ H Qd Q hL F hm k =>
  h G c n O env σ H _ _ hL F hm fun ds a xs H1 h1 g1 ok1 n e r => k _ _ _ h1 g1 ok1 (.lst ⟨.inl e, F.wl.free n⟩ (r.mono fun b u ⟨x, y⟩ => ⟨x, fun z => y (.inl z)⟩))
def mOwn (a : AM) : XM := fun env Q => a env fun ds => Q (.own ds)
def mDat (m : EM) : XM := fun env Q => m env fun d => Q (.dat d)
theorem SL.x (h : SL C c te am) : SX C c te (mOwn am) := fun G c n O env σ H Qd Q hL F hm k =>
  h G c n O env σ H _ _ hL F hm fun ds a xs H1 h1 g1 ok1 n e r => by
    have W1 := F.wl.grow g1 ok1
    have nO : ¬ O a := F.wl.free n
    refine k (.own ds) _ (fun b => O b ∨ b = a) H1 h1 g1 ⟨ok1, fun b z => .inl (W1.zo b z), fun b z => .inl (W1.co b z), fun b z => ?_, W1.base⟩ (fun b u ⟨x, y⟩ => ⟨rd_mv (fun o x => g1 b o x fun z => y (F.wl.zo b z)) x, fun z => z.elim y fun q => ?_⟩) (fun b z => .inl z) (.own e ⟨.inr rfl, fun z => nO (F.wl.zo a z), ?_⟩ r) (by intro z; cases z) (fun b eb => by cases (show V.ref _ = V.ref b from eb); exact n)
    · rcases z with z | z
      · exact W1.tr b z
      · rw [z, e]; exact ⟨_, rfl, fun _ q => nomatch q⟩
    · exact rd_ne x n q
    · exact F.wl.n0 n
theorem SE.x (h : SE C c te m) : SX C c te (mDat m) := fun G c n O env σ H Qd Q hL F hm k =>
  h G c n O env σ H _ _ hL F hm fun d v H1 h1 g1 ok1 r => k (.dat d) v O H1 h1 g1 (F.wl.grow g1 ok1) (sh_grow F.wl.zo g1) (fun _ z => z) (.dat r) (by intro z; cases z) (fun _ z => (show False from z).elim)
/-! ### calls of built-ins by values -/
def KC (C : Wd → XC → Prop) (r : List V → Hp → VK → Prop) (k : List D → (D → Prop) → Prop) : Prop := ∀ G, C G.w G.x → ∀ n O H vs ds (Qd : D → Prop) (Q : VK), Wl G n O H → RrL G O H vs ds → k ds Qd →
  (∀ z v H', Qd z → Grow G.w H H' → G.w.ok n H' → Rp (Sh O H') v z → Q v H') → r vs H Q
def mCB (a : AM) (k : List D → (D → Prop) → Prop) : EM := fun env Q => a env fun ds => k ds Q
theorem se_cb {r : List V → Hp → VK → Prop} {k : List D → (D → Prop) → Prop} (h : SAr C c t am) (hk : KC C r k) : SE C c (tCB r t) (mCB am k) := fun G c n O env σ H Qd Q hL F hm q =>
  h G c n O env σ H _ _ hL F hm fun ds vs H1 h1 g1 ok1 r1 => hk G c _ O H1 vs ds Qd Q (F.wl.grow g1 ok1) r1 h1 fun z v H2 h2 g2 ok2 r2 => q z v H2 h2 (g1.trans g2) ok2 r2
/-- .. that give a new list -/
def KL (C : Wd → XC → Prop) (r : List V → Hp → VK → Prop) (k : List D → (List D → Prop) → Prop) : Prop := ∀ G, C G.w G.x → ∀ n O H vs ds (Qd : List D → Prop) (Q : VK), Wl G n O H → RrL G O H vs ds → k ds Qd →
  (∀ z a xs H', Qd z → Grow G.w H H' → G.w.ok n H' → H a = none → H' a = some (.lst xs) → RpL (Sh (fun b => O b ∨ b = a) H') xs z → Q (.ref a) H') → r vs H Q
def mCL (a : AM) (k : List D → (List D → Prop) → Prop) : AM := fun env Q => a env fun ds => k ds Q
theorem sl_cb {r : List V → Hp → VK → Prop} {k : List D → (List D → Prop) → Prop} (h : SAr C c t am) (hk : KL C r k) : SL C c (tCB r t) (mCL am k) := fun G c n O env σ H Qd Q hL F hm q =>
  h G c n O env σ H _ _ hL F hm fun ds vs H1 h1 g1 ok1 r1 => hk G c _ O H1 vs ds Qd Q (F.wl.grow g1 ok1) r1 h1 fun z a xs H2 h2 g2 ok2 n e r2 => q z a xs H2 h2 (g1.trans g2) ok2 (g1.free ok1 n) e r2
theorem RrL.one {vs : List V} {d : D} (h : RrL G O H vs [d]) : ∃ v, vs = [v] ∧ Rr G O H v d := by
  cases h with | cons a r => cases r; exact ⟨_, rfl, a⟩
theorem RrL.two {vs : List V} {d e : D} (h : RrL G O H vs [d, e]) : ∃ v w, vs = [v, w] ∧ Rr G O H v d ∧ Rr G O H w e := by
  cases h with | cons a r => cases r with | cons b r => cases r; exact ⟨_, _, rfl, a, b⟩
def kLen : List D → (D → Prop) → Prop := fun ds Q => match ds with | [.lst l] => Q (.int l.length) | [.tup l] => Q (.int l.length) | _ => False
theorem kc_len : KC C (fun xs H Q => ∃ x n, xs = [x] ∧ LenV K x H n ∧ Q (.int n) H) kLen := fun G _ n O H vs ds Qd Q W r h q => by
  unfold kLen at h
  split at h
  · obtain ⟨v, rfl, r1⟩ := r.one
    obtain ⟨a, xs, rfl, e, r⟩ := r1.list
    exact ⟨_, xs.length, rfl, .inl ⟨xs, sqL e, rfl⟩, q _ _ H h (Grow.refl _ _) W.ok (by rw [r.length]; exact .int _)⟩
  · obtain ⟨v, rfl, r1⟩ := r.one
    obtain ⟨a, xs, rfl, e, r⟩ := r1.tuple
    exact ⟨_, xs.length, rfl, .inr ⟨xs, sqT e, rfl⟩, q _ _ H h (Grow.refl _ _) W.ok (by rw [r.length]; exact .int _)⟩
  · exact h.elim
def kTuple : List D → (D → Prop) → Prop := fun ds Q => match ds with | [.lst l] => Q (.tup l) | [.tup l] => Q (.tup l) | _ => False
theorem kc_tuple : KC C (fun xs H Q => ∃ p ys, xs = [.ref p] ∧ ((SqL K H p ys ∧ ∀ l, H l = none → Q (.ref l) (upd H l (.tup ys))) ∨ (SqT K H p ys ∧ Q (.ref p) H))) kTuple := fun G _ n O H vs ds Qd Q W r h q => by
  unfold kTuple at h
  split at h
  · obtain ⟨v, rfl, r1⟩ := r.one
    obtain ⟨a, xs, rfl, e, r⟩ := r1.list
    exact ⟨a, xs, rfl, .inl ⟨sqL e, fun p hp => q _ _ _ h (Grow.new _ hp) (Wd.okNew hp W.ok) (new_tup W hp r)⟩⟩
  · obtain ⟨v, rfl, r1⟩ := r.one
    cases r1 with
    | dat r2 => cases r2 with | tup e r3 => exact ⟨_, _, rfl, .inr ⟨sqT (rk_tup e.1), q _ _ H h (Grow.refl _ _) W.ok (.tup e r3)⟩⟩
  · exact h.elim
def kList : List D → (List D → Prop) → Prop := fun ds Q => match ds with | [.lst l] => Q l | [.tup l] => Q l | _ => False
theorem kl_list : KL C (fun xs H Q => ∃ p ys, xs = [.ref p] ∧ (SqL K H p ys ∨ SqT K H p ys) ∧ ∀ l, H l = none → Q (.ref l) (upd H l (.lst ys))) kList := fun G _ n O H vs ds Qd Q W r h q => by
  unfold kList at h
  split at h
  · obtain ⟨v, rfl, r1⟩ := r.one
    obtain ⟨a, xs, rfl, e, r⟩ := r1.list
    exact ⟨a, xs, rfl, .inl (sqL e), fun p hp => q _ p xs _ h (Grow.new _ hp) (Wd.okNew hp W.ok) hp upd_same (r.mono (add_le (G := G) hp))⟩
  · obtain ⟨v, rfl, r1⟩ := r.one
    obtain ⟨a, xs, rfl, e, r⟩ := r1.tuple
    exact ⟨a, xs, rfl, .inr (sqT e), fun p hp => q _ p xs _ h (Grow.new _ hp) (Wd.okNew hp W.ok) hp upd_same (r.mono (add_le (G := G) hp))⟩
  · exact h.elim
def kMin2 : List D → (D → Prop) → Prop := fun ds Q => match ds with | [.int i, .int j] => Q (.int (if j < i then j else i)) | _ => False
theorem kc_min2 : KC C (fun xs H Q => ∃ i j, xs = [.int i, .int j] ∧ Q (.int (if j < i then j else i)) H) kMin2 := fun G _ n O H vs ds Qd Q W r h q => by
  unfold kMin2 at h
  split at h
  · obtain ⟨v, w, rfl, r1, r2⟩ := r.two
    cases r1.int; cases r2.int
    exact ⟨_, _, rfl, q _ _ H h (Grow.refl _ _) W.ok (.int _)⟩
  · exact h.elim
def kAll : List D → (D → Prop) → Prop := fun ds Q => ∃ bs : List Bool, ds = [.lst (bs.map D.bl)] ∧ Q (.bl (bs.all id))
theorem kc_all : KC C (rAll K) kAll := fun G _ n O H vs ds Qd Q W r h q => by
  obtain ⟨bs, rfl, h⟩ := h
  obtain ⟨v, rfl, r1⟩ := r.one
  obtain ⟨a, xs, rfl, e, r⟩ := r1.list
  rw [r.bls] at e
  exact ⟨a, bs, rfl, sqL e, q _ _ H h (Grow.refl _ _) W.ok (.bl _)⟩
def kSorted : List D → (List D → Prop) → Prop := fun ds Q => ∃ ns : List Int, ds = [.lst (ns.map D.int)] ∧ ∀ ns' : List Int, ns'.Perm ns → ns'.Pairwise (· ≤ ·) → Q (ns'.map D.int)
theorem kl_sorted : KL C (rSortedI K) kSorted := fun G _ n O H vs ds Qd Q W r h q => by
  obtain ⟨ns, rfl, h⟩ := h
  obtain ⟨v, rfl, r1⟩ := r.one
  obtain ⟨a, xs, rfl, e, r⟩ := r1.list
  rw [r.ints] at e
  exact ⟨a, ns, rfl, sqL e, fun ns' p hp hs hn => q _ p _ _ (h ns' hp hs) (Grow.new _ hn) (Wd.okNew hn W.ok) hn upd_same (.ofInts ns')⟩
/-! ### subscripts -/
theorem RpL.atI {A : At} {xs : List V} {ds : List D} {i : Int} {d : D} (r : RpL A xs ds) (h : atI ds i = some d) : ∃ v, L2.atI xs i = some v ∧ Rp A v d := by
  unfold L2.atI at h ⊢
  rw [r.length]
  cases e : ixN ds.length i with
  | none => rw [e] at h; cases h
  | some j => rw [e] at h; exact r.get h
def kIx : D → D → (D → Prop) → Prop := fun x y Q => match x, y with
  | .lst l, .int i => (match atI l i with | some d => Q d | none => False)
  | .tup l, .int i => (match atI l i with | some d => Q d | none => False)
  | _, _ => False
theorem k2_ix : K2 C (rIx K) kIx := fun G _ n O H x y d e Qd Q W rx ry hk q => by
  unfold kIx at hk
  split at hk
  · split at hk
    · rename_i hd
      cases ry.int
      obtain ⟨a, xs, rfl, e, r⟩ := rx.list
      obtain ⟨v, hv, rv⟩ := r.atI hd
      exact .inl ⟨a, xs, _, v, rfl, rfl, sqL e, hv, q _ _ H hk (Grow.refl _ _) W.ok rv⟩
    · exact hk.elim
  · split at hk
    · rename_i hd
      cases ry.int
      obtain ⟨a, xs, rfl, e, r⟩ := rx.tuple
      obtain ⟨v, hv, rv⟩ := r.atI hd
      exact .inr (.inl ⟨a, xs, _, v, rfl, rfl, sqT e, hv, q _ _ H hk (Grow.refl _ _) W.ok rv⟩)
    · exact hk.elim
  · exact hk.elim
/-! ### is None, == of scalars -/
def D.isN : D → Bool
  | .non => true
  | _ => false
def kIsN (p : Bool → Bool) : D → D → (D → Prop) → Prop := fun x y Q => match x, y with
  | .opq _, _ => False
  | x, .non => Q (.bl (p x.isN))
  | _, _ => False
theorem isN_of {v : V} {d : D} (r : Rr G O H v d) (h : ∀ w, d ≠ .opq w) : decide (v = V.non) = d.isN := by
  cases r with
  | dat r => cases r <;> first | rfl | exact absurd rfl (h _) | exact decide_eq_false (fun z => nomatch z)
  | own => exact decide_eq_false (fun z => nomatch z)
  | owd => exact decide_eq_false (fun z => nomatch z)
theorem k2_isN : K2 C (fun x y H Q => y = .non ∧ Q (.bl (decide (x = .non))) H) (kIsN id) := fun G _ n O H x y d e Qd Q W rx ry hk q => by
  unfold kIsN at hk
  split at hk
  · exact hk.elim
  · rename_i hne
    refine ⟨ry.non, q _ _ H hk (Grow.refl _ _) W.ok ?_⟩
    rw [isN_of rx fun w e => hne w e]
    exact .bl _
  · exact hk.elim
theorem k2_notN : K2 C (fun x y H Q => y = .non ∧ Q (.bl (!decide (x = .non))) H) (kIsN not) := fun G _ n O H x y d e Qd Q W rx ry hk q => by
  unfold kIsN at hk
  split at hk
  · exact hk.elim
  · rename_i hne
    refine ⟨ry.non, q _ _ H hk (Grow.refl _ _) W.ok ?_⟩
    rw [isN_of rx fun w e => hne w e]
    exact .bl _
  · exact hk.elim
/-- two ints, two texts -/
def kEqS (p : Bool → Bool) : D → D → (D → Prop) → Prop := fun x y Q => match x, y with
  | .int i, .int j => Q (.bl (p (decide (i = j))))
  | .str i, .str j => Q (.bl (p (decide (i = j))))
  | _, _ => False
theorem k2_eqS : K2 C rEq (kEqS id) := fun G _ n O H x y d e Qd Q W rx ry hk q => by
  unfold kEqS at hk
  split at hk
  · cases rx.int; cases ry.int
    refine ⟨rfl, q _ _ H hk (Grow.refl _ _) W.ok ?_⟩
    have e : ∀ i j : Int, decide (V.int i = V.int j) = decide (i = j) := fun i j => by simp
    rw [e]; exact .bl _
  · cases rx.str; cases ry.str
    refine ⟨rfl, q _ _ H hk (Grow.refl _ _) W.ok ?_⟩
    have e : ∀ i j : Str, decide (V.str i = V.str j) = decide (i = j) := fun i j => by simp
    rw [e]; exact .bl _
  · exact hk.elim
theorem k2_neS : K2 C rNe (kEqS not) := fun G _ n O H x y d e Qd Q W rx ry hk q => by
  unfold kEqS at hk
  split at hk
  · cases rx.int; cases ry.int
    refine ⟨rfl, q _ _ H hk (Grow.refl _ _) W.ok ?_⟩
    have e : ∀ i j : Int, decide (V.int i = V.int j) = decide (i = j) := fun i j => by simp
    rw [e]; exact .bl _
  · cases rx.str; cases ry.str
    refine ⟨rfl, q _ _ H hk (Grow.refl _ _) W.ok ?_⟩
    have e : ∀ i j : Str, decide (V.str i = V.str j) = decide (i = j) := fun i j => by simp
    rw [e]; exact .bl _
  · exact hk.elim
end
end PL

namespace PL
open PySem L2
/-! ### the frame changed -/
theorem Slv.le {G : Cfg} {O O' : Addr → Prop} {H H' : Hp} {v : V} {c : Sv} (g : Grow G.w H H') (l : LeA (Sh O H) (Sh O' H')) (m : ∀ b, O b → O' b) (h : Slv G O H v c) : Slv G O' H' v c := by
  cases h with
  | dat r => exact .dat (r.mono l)
  | own e o r => exact .own (g _ _ e o.z) ⟨m _ o.o, o.z, o.n⟩ (r.mono l)
  | owd e o r => exact .owd (g _ _ e o.z) ⟨m _ o.o, o.z, o.n⟩ (r.mono l)
  | tr r nd u o mm => exact .tr (r.keep l fun a ha b e => g a b e (o a ha).2) nd u (fun a ha => ⟨m _ (o a ha).1, (o a ha).2⟩) mm
theorem Slv.tracked {G : Cfg} {O : Addr → Prop} {H : Hp} {a : Addr} {c : Sv} (h : Slv G O H (.ref a) c) (o : c.isOwn = true) : H a ≠ none := by
  cases h with
  | dat r => cases o
  | own e _ _ => rw [e]; intro z; cases z
  | owd e _ _ => rw [e]; intro z; cases z
  | tr r nd _ _ _ => obtain ⟨q1, q2⟩ := r.ref nd; cases q1; exact (r.there _ q2).ne
theorem Fr.set {G : Cfg} {n n' : Nat} {O O' : Addr → Prop} {env : Ev} {σ : L2.St} {H H' : Hp} {i : Nat} {v : V} {c : Sv} (F : Fr G n O env σ H) (g : Grow G.w H H') (W : Wl G n' O' H') (l : LeA (Sh O H) (Sh O' H')) (m : ∀ b, O b → O' b)
    (s : Slv G O' H' v c) (f : ∀ a, c.owns v a → H a = none) : Fr G n' O' (env.set i c) (σ.set i (some v)) H' := by
  refine ⟨W, by rw [List.length_set, List.length_set]; exact F.len, fun j d e n => ?_, fun j k a oj ok => ?_⟩
  · by_cases hj : i = j
    · subst hj
      have hl : i < env.length := by
        have := (List.getElem?_eq_some_iff.mp e).1
        rwa [List.length_set] at this
      rw [List.getElem?_set_self hl] at e
      cases e
      exact ⟨v, List.getElem?_set_self (by rw [← F.len]; exact hl), s⟩
    · rw [List.getElem?_set_ne hj] at e
      obtain ⟨u, h1, h2⟩ := F.sl j d e n
      exact ⟨u, by rw [List.getElem?_set_ne hj]; exact h1, h2.le g l m⟩
  · have key : ∀ {j : Nat} {a : Addr}, i ≠ j → Own2 (env.set i c) (σ.set i (some v)) j a → Own2 env σ j a ∧ H a ≠ none := fun {j a} hj ⟨d, w, e, es, o⟩ => by
      rw [List.getElem?_set_ne hj] at e es
      obtain ⟨u, h1, h2⟩ := F.sl j d e (by intro z; rw [z] at o; exact o.elim)
      rw [es] at h1; cases h1
      exact ⟨⟨d, w, e, es, o⟩, (h2.ownAt o).2.2.ne⟩
    have self : ∀ {a : Addr}, Own2 (env.set i c) (σ.set i (some v)) i a → H a = none := fun {a} ⟨d, w, e, es, o⟩ => by
      have hl : i < env.length := by
        have := (List.getElem?_eq_some_iff.mp e).1
        rwa [List.length_set] at this
      rw [List.getElem?_set_self hl] at e
      cases e
      rw [List.getElem?_set_self (by rw [← F.len]; exact hl)] at es
      cases es
      exact f a o
    by_cases hj : i = j
    · subst hj
      by_cases hk : i = k
      · exact hk
      · obtain ⟨_, t⟩ := key hk ok
        exact absurd (self oj) t
    · obtain ⟨o1, t1⟩ := key hj oj
      by_cases hk : i = k
      · subst hk
        exact absurd (self ok) t1
      · obtain ⟨o2, _⟩ := key hk ok
        exact F.uq j k a o1 o2
/-- what a slot holds, that does not own a, stays when a is changed -/
theorem Slv.upd {G : Cfg} {O : Addr → Prop} {H : Hp} {v : V} {c : Sv} {a : Addr} {o : HO} (h : Slv G O H v c) (sh : LeA (Sh O H) (Sh O (L2.upd H a o))) (n : ¬ c.owns v a) : Slv G O (L2.upd H a o) v c := by
  cases h with
  | dat r => exact .dat (r.mono sh)
  | own eh oa r => exact .own (by rw [upd_ne (fun z => n (congrArg V.ref z))]; exact eh) oa (r.mono sh)
  | owd eh oa r => exact .owd (by rw [upd_ne (fun z => n (congrArg V.ref z))]; exact eh) oa (r.mono sh)
  | tr r nd u q m => exact .tr (r.keep sh fun b hb w e => by rw [upd_ne (fun z => n (by rw [← z]; exact hb))]; exact e) nd u q m
/-- an own list, an own dict is changed -/
theorem Fr.mut {G : Cfg} {n : Nat} {O : Addr → Prop} {env : Ev} {σ : L2.St} {H : Hp} {i : Nat} {a : Addr} {c c' : Sv} {o : HO} (F : Fr G n O env σ H) (e : env[i]? = some c) (es : σ[i]? = some (some (.ref a))) (oc : c.isOwn = true) (oc' : c'.isOwn = true)
    (oa : OwnAt G O a) (s : ∀ H', LeA (Sh O H) (Sh O H') → H' a = some o → Slv G O H' (.ref a) c') (nt : (match c, c' with | .tr _ _, _ => false | _, .tr _ _ => false | _, _ => true) = true := by rfl) : Fr G n O (env.set i c') σ (upd H a o) := by
  have ow : ∀ b, c.owns (.ref a) b ↔ b = a := fun b => by
    cases c with
    | un => cases oc
    | dat d => cases oc
    | own ds => exact ⟨fun z => (V.ref.inj z).symm, fun z => congrArg V.ref z.symm⟩
    | owd ds => exact ⟨fun z => (V.ref.inj z).symm, fun z => congrArg V.ref z.symm⟩
    | tr _ _ => cases nt
  have ow' : ∀ b, c'.owns (.ref a) b ↔ b = a := fun b => by
    cases c' with
    | un => cases oc'
    | dat d => cases oc'
    | own ds => exact ⟨fun z => (V.ref.inj z).symm, fun z => congrArg V.ref z.symm⟩
    | owd ds => exact ⟨fun z => (V.ref.inj z).symm, fun z => congrArg V.ref z.symm⟩
    | tr _ _ => cases c <;> cases nt
  have sh : LeA (Sh O H) (Sh O (upd H a o)) := fun b u ⟨h, n⟩ => ⟨rd_upd (fun z => n (by rw [z]; exact oa.o)) h, n⟩
  have hnx : ∀ φ, H a ≠ some (.ext φ) := fun φ z => by
    obtain ⟨u, h1, h2⟩ := F.sl i c e (by intro q; rw [q] at oc; cases oc)
    rw [es] at h1; cases h1
    have t2 := h2.ownAt ((ow a).mpr rfl)
    obtain ⟨w, e1, e2⟩ := t2.2.2
    rw [e1] at z; exact e2 φ (Option.some.inj z)
  have hno : ∀ φ, o ≠ .ext φ := fun φ z => by
    have h2 := s _ sh upd_same
    cases h2 with
    | dat r => cases oc'
    | own eh _ _ => rw [upd_same] at eh; rw [z] at eh; cases eh
    | owd eh _ _ => rw [upd_same] at eh; rw [z] at eh; cases eh
    | tr _ _ _ _ _ => cases c <;> cases nt
  have hnt : ∀ ps, o ≠ .tbl ps := fun ps z => by
    have h2 := s _ sh upd_same
    cases h2 with
    | dat r => cases oc'
    | own eh _ _ => rw [upd_same] at eh; rw [z] at eh; cases eh
    | owd eh _ _ => rw [upd_same] at eh; rw [z] at eh; cases eh
    | tr _ _ _ _ _ => cases c <;> cases nt
  have hl := (List.getElem?_eq_some_iff.mp e).1
  have iso : ∀ {j : Nat} {b : Addr}, Own2 (env.set i c') σ j b → Own2 env σ j b := fun {j b} ⟨d, w, ed, es', od⟩ => by
    by_cases hj : i = j
    · subst hj
      rw [List.getElem?_set_self hl] at ed; cases ed
      rw [es] at es'; cases es'
      exact ⟨c, _, e, es, (ow b).mpr ((ow' b).mp od)⟩
    · rw [List.getElem?_set_ne hj] at ed; exact ⟨d, w, ed, es', od⟩
  refine ⟨⟨st_upd oa.z hnx F.wl.ok, F.wl.zo, F.wl.co, fun b z => ?_, fun b u h z mm => ?_⟩, by rw [List.length_set]; exact F.len, fun j d ed n => ?_, fun j k b oj ok => F.uq j k b (iso oj) (iso ok)⟩
  · by_cases hb : b = a
    · rw [hb, upd_same]; exact ⟨_, rfl, hno⟩
    · rw [upd_ne hb]; exact F.wl.tr b z
  · rw [upd_ne (fun q => by rw [q, oa.n] at h; cases h)]; exact F.wl.base b u h z mm
  · by_cases hj : i = j
    · subst hj
      rw [List.getElem?_set_self hl] at ed
      cases ed
      exact ⟨_, es, s _ sh upd_same⟩
    · rw [List.getElem?_set_ne hj] at ed
      obtain ⟨u, h1, h2⟩ := F.sl j d ed n
      exact ⟨u, h1, h2.upd sh fun od => hj (F.uq i j a ⟨c, _, e, es, (ow a).mpr rfl⟩ ⟨d, u, ed, h1, od⟩)⟩
def frz (env : Ev) (i : Nat) : Ev := match env[i]? with
  | some (.own ds) => env.set i (.dat (.lst ds))
  | some (.owd ds) => env.set i (.dat (.dic ds))
  | _ => env
theorem Fr.frz {G : Cfg} {n : Nat} {O : Addr → Prop} {env : Ev} {σ : L2.St} {H : Hp} (F : Fr G n O env σ H) (i : Nat) : ∃ O', LeA (Sh O H) (Sh O' H) ∧ Fr G n O' (PL.frz env i) σ H := by
  have go : ∀ (a : Addr) (c : Sv) (d : D), env[i]? = some c → c.owns (.ref a) a → σ[i]? = some (some (.ref a)) → OwnAt G O a → (∀ A : At, LeA (Sh O H) A → (∀ u, H a = some u → A a u) → Rp A (.ref a) d) → ∃ O', LeA (Sh O H) (Sh O' H) ∧ Fr G n O' (env.set i (.dat d)) σ H := by
    intro a c d e oc es oa r
    have le : LeA (Sh O H) (Sh (fun b => O b ∧ b ≠ a) H) := fun b u ⟨h, n⟩ => ⟨h, fun z => n z.1⟩
    have hl := (List.getElem?_eq_some_iff.mp e).1
    have iso : ∀ {j : Nat} {b : Addr}, Own2 (env.set i (.dat d)) σ j b → Own2 env σ j b ∧ i ≠ j := fun {j b} ⟨d', w, ed, es', od⟩ => by
      by_cases hj : i = j
      · subst hj
        rw [List.getElem?_set_self hl] at ed; cases ed; exact (show False from od).elim
      · rw [List.getElem?_set_ne hj] at ed; exact ⟨⟨d', w, ed, es', od⟩, hj⟩
    refine ⟨fun b => O b ∧ b ≠ a, le, ⟨⟨F.wl.ok, fun b z => ⟨F.wl.zo b z, fun q => oa.z (by rw [← q]; exact z)⟩, fun b z => ⟨F.wl.co b z, fun q => (G.ctr b z).ne (by rw [q]; exact oa.n)⟩, fun b z => F.wl.tr b z.1, F.wl.base⟩, by rw [List.length_set]; exact F.len, fun j d' ed n => ?_, fun j k b oj ok => F.uq j k b (iso oj).1 (iso ok).1⟩⟩
    by_cases hj : i = j
    · subst hj
      rw [List.getElem?_set_self hl] at ed
      cases ed
      exact ⟨_, es, .dat (r _ le fun u hu => ⟨.inl hu, fun z => z.2 rfl⟩)⟩
    · rw [List.getElem?_set_ne hj] at ed
      obtain ⟨u, h1, h2⟩ := F.sl j d' ed n
      refine ⟨u, h1, ?_⟩
      have ne : ∀ b, d'.owns u b → b ≠ a := fun b od z => by
        subst z
        exact hj (F.uq i j b ⟨c, _, e, es, oc⟩ ⟨d', u, ed, h1, od⟩)
      cases h2 with
      | dat r => exact .dat (r.mono le)
      | own eh o r => exact .own eh ⟨⟨o.o, ne _ rfl⟩, o.z, o.n⟩ (r.mono le)
      | owd eh o r => exact .owd eh ⟨⟨o.o, ne _ rfl⟩, o.z, o.n⟩ (r.mono le)
      | tr r nd u q m => exact .tr (r.keep le fun _ _ _ e => e) nd u (fun b hb => ⟨⟨(q b hb).1, ne b hb⟩, (q b hb).2⟩) m
  unfold PL.frz
  split
  · rename_i ds e
    obtain ⟨v, es, s⟩ := F.sl i _ e (by intro z; cases z)
    cases s with
    | own eh o r => exact go _ _ _ e rfl es o fun A le h => .lst (h _ eh) (r.mono le)
  · rename_i ds e
    obtain ⟨v, es, s⟩ := F.sl i _ e (by intro z; cases z)
    cases s with
    | owd eh o r => exact go _ _ _ e rfl es o fun A le h => .dic (h _ eh) (r.mono le)
  · exact ⟨O, LeA.refl _, F⟩
section
variable {C : Wd → XC → Prop} {K : PySem.W.Frag} {te ta tb tk ti to : TE} {tt tu : TT} {t tr : TA} {m ma mb mk mi : EM} {mt mu : TM} {mx my : XM} {am ar : AM} {i j c c1 c2 c3 : Nat} {ts tz : TS} {sm sz : SM}
/-! ### tests -/
def mB (m : EM) : TM := fun env Q => m env fun d => match d with | .bl b => Q b | _ => False
theorem st_b (h : SE C c te m) : ST C c (tTest te) (mB m) := fun G c n O env σ H Qd Q hL F hm k =>
  h G c n O env σ H _ _ hL F hm fun d v H1 h1 g1 ok1 r1 => by
    split at h1
    · cases r1; exact ⟨_, rfl, k _ H1 h1 g1 ok1⟩
    · exact h1.elim
theorem st_tb (h : SE C c te m) : ST C c (tB te) (mB m) := st_b h
def D.tru : D → Option Bool
  | .non => some false
  | .bl b => some b
  | .int i => some (i != 0)
  | .tup l => some !l.isEmpty
  | .lst l => some !l.isEmpty
  | _ => none
def mTru (m : EM) : TM := fun env Q => m env fun d => match d.tru with | some b => Q b | none => False
theorem isEmpty_len {α β : Type} {xs : List α} {ys : List β} (h : xs.length = ys.length) : xs.isEmpty = ys.isEmpty := by
  cases xs <;> cases ys <;> first | rfl | cases h
theorem RpD.length {A : At} : ∀ {xs : List (Key × V)} {ds : List (Key × D)}, RpD A xs ds → xs.length = ds.length
  | _, _, .nil => rfl
  | _, _, .cons _ r => congrArg Nat.succ (RpD.length r)
theorem st_tru (h : SR C c te m) : ST C c (fun σ H Q => te σ H fun x H' => ∃ k, TruV K x H' k ∧ Q k H') (mTru m) := fun G c n O env σ H Qd Q hL F hm k =>
  h G c n O env σ H _ _ hL F hm fun d v H1 h1 g1 ok1 r1 => by
    unfold D.tru at h1
    cases d with
    | non => cases r1.non; exact ⟨_, rfl, k _ H1 h1 g1 ok1⟩
    | bl b => cases r1.bl; exact ⟨_, rfl, k _ H1 h1 g1 ok1⟩
    | int b => cases r1.int; exact ⟨_, rfl, k _ H1 h1 g1 ok1⟩
    | tup l => obtain ⟨a, xs, rfl, e, r⟩ := r1.tuple; exact ⟨_, .inr (.inl ⟨xs, sqT e, by rw [isEmpty_len r.length]⟩), k _ H1 h1 g1 ok1⟩
    | lst l => obtain ⟨a, xs, rfl, e, r⟩ := r1.list; exact ⟨_, .inl ⟨xs, sqL e, by rw [isEmpty_len r.length]⟩, k _ H1 h1 g1 ok1⟩
    | dic l => exact h1.elim
    | str s => exact h1.elim
    | opq s => exact h1.elim
    | ftp l => exact h1.elim
    | exc c ns l => exact h1.elim
    | lam F C => exact h1.elim
    | ins C ns l => exact h1.elim
    | dit l => exact h1.elim
def mAnd (a b : TM) : TM := fun env Q => a env fun c => if c = true then b env Q else Q false
def mOr (a b : TM) : TM := fun env Q => a env fun c => if c = true then Q true else b env Q
def mNot (a : TM) : TM := fun env Q => a env fun c => Q (!c)
theorem ok_le {w : Wd} {n a b : Nat} {H : Hp} (h : a ≤ b) (k : w.ok (n + a) H) : w.ok (n + b) H := w.up _ _ _ (by omega) k
theorem ok_as {w : Wd} {n a b : Nat} {H : Hp} (k : w.ok (n + a + b) H) : w.ok (n + (a + b)) H := by rw [← Nat.add_assoc]; exact k
theorem SE.le (h : SE C c te m) (l : c ≤ c1) : SE C c1 te m := fun G g n O env σ H Qd Q hL F hm k => h G g n O env σ H Qd Q (by omega) F hm fun d v H' q gr ok r => k d v H' q gr (ok_le l ok) r
theorem ST.le (h : ST C c tt mt) (l : c ≤ c1) : ST C c1 tt mt := fun G g n O env σ H Qd Q hL F hm k => h G g n O env σ H Qd Q (by omega) F hm fun d H' q gr ok => k d H' q gr (ok_le l ok)
theorem Wl.le {G : Cfg} {n a b : Nat} {O : Addr → Prop} {H : Hp} (h : a ≤ b) (k : Wl G (n + a) O H) : Wl G (n + b) O H := ⟨ok_le h k.ok, k.zo, k.co, k.tr, k.base⟩
theorem Fr.le {G : Cfg} {n a b : Nat} {O : Addr → Prop} {env : Ev} {σ : L2.St} {H : Hp} (h : a ≤ b) (F : Fr G (n + a) O env σ H) : Fr G (n + b) O env σ H := ⟨F.wl.le h, F.len, F.sl, F.uq⟩
theorem EOk.dn {G : Cfg} {n a b : Nat} {O : Addr → Prop} {H : Hp} {P : Pe} {D : Ends} (h : a ≤ b) (e : EOk G (n + b) O H P D) : EOk G (n + a) O H P D :=
  ⟨fun O' v s H' l F => e.nx O' v s H' l (F.le h), fun d v O' H' W => e.rt d v O' H' (W.le h), fun O' v s H' l F => e.bk O' v s H' l (F.le h), fun O' v s H' l F => e.ct O' v s H' l (F.le h), fun d v O' e' s' H' l F => e.rm d v O' e' s' H' l (F.le h)⟩
theorem SS.le (h : SS C c ts sm) (l : c ≤ c1) : SS C c1 ts sm := fun G g n O env σ H P D hL F hm e => h G g n O env σ H P D (by omega) F hm (e.dn l)
theorem st_and (h : ST C c1 tt mt) (h' : ST C c2 tu mu) : ST C (c1 + c2) (tAnd tt tu) (mAnd mt mu) := fun G c n O env σ H Qd Q hL F hm k =>
  h G c n O env σ H _ _ (by omega) F hm fun b H1 h1 g1 ok1 => by
    cases b with
    | true => exact iteT (h' G c _ O env σ H1 Qd Q (by omega) (F.grow g1 ok1) h1 fun b H2 h2 g2 ok2 => k b H2 h2 (g1.trans g2) (ok_as ok2))
    | false => exact iteF (k false H1 h1 g1 (ok_le (by omega) ok1))
theorem st_or (h : ST C c1 tt mt) (h' : ST C c2 tu mu) : ST C (c1 + c2) (tOr tt tu) (mOr mt mu) := fun G c n O env σ H Qd Q hL F hm k =>
  h G c n O env σ H _ _ (by omega) F hm fun b H1 h1 g1 ok1 => by
    cases b with
    | true => exact iteT (k true H1 h1 g1 (ok_le (by omega) ok1))
    | false => exact iteF (h' G c _ O env σ H1 Qd Q (by omega) (F.grow g1 ok1) h1 fun b H2 h2 g2 ok2 => k b H2 h2 (g1.trans g2) (ok_as ok2))
theorem st_not (h : ST C c tt mt) : ST C c (tNot tt) (mNot mt) := fun G c n O env σ H Qd Q hL F hm k => h G c n O env σ H _ _ hL F hm fun b H1 h1 g1 ok1 => k _ H1 h1 g1 ok1
/-! ### values by tests -/
def mIf (t : TM) (a b : EM) : EM := fun env Q => t env fun c => if c = true then a env Q else b env Q
theorem se_if (h : ST C c1 tt mt) (ha : SE C c2 ta ma) (hb : SE C c3 tb mb) : SE C (c1 + (c2 + c3)) (tIf tt ta tb) (mIf mt ma mb) := fun G c n O env σ H Qd Q hL F hm k =>
  h G c n O env σ H _ _ (by omega) F hm fun b H1 h1 g1 ok1 => by
    cases b with
    | true => exact iteT (ha G c _ O env σ H1 Qd Q (by omega) (F.grow g1 ok1) h1 fun d v H2 h2 g2 ok2 r2 => k d v H2 h2 (g1.trans g2) (ok_le (by omega) (ok_as ok2)) r2)
    | false => exact iteF (hb G c _ O env σ H1 Qd Q (by omega) (F.grow g1 ok1) h1 fun d v H2 h2 g2 ok2 r2 => k d v H2 h2 (g1.trans g2) (ok_le (by omega) (ok_as ok2)) r2)
def mAndV (a b : EM) : EM := fun env Q => a env fun d => match d with | .bl c => if c = true then b env Q else Q (.bl false) | _ => False
def mOrV (a b : EM) : EM := fun env Q => a env fun d => match d with | .bl c => if c = true then Q (.bl true) else b env Q | _ => False
def mNotV (a : EM) : EM := fun env Q => a env fun d => match d with | .bl c => Q (.bl !c) | _ => False
theorem se_andV (ha : SE C c1 ta ma) (hb : SE C c2 tb mb) : SE C (c1 + c2) (tAndV ta tb) (mAndV ma mb) := fun G c n O env σ H Qd Q hL F hm k =>
  ha G c n O env σ H _ _ (by omega) F hm fun d v H1 h1 g1 ok1 r1 => by
    split at h1
    · rename_i b
      cases r1
      refine ⟨b, rfl, ?_⟩
      cases b with
      | true => exact iteT (hb G c _ O env σ H1 Qd Q (by omega) (F.grow g1 ok1) h1 fun d v H2 h2 g2 ok2 r2 => k d v H2 h2 (g1.trans g2) (ok_as ok2) r2)
      | false => exact iteF (k _ _ H1 h1 g1 (ok_le (by omega) ok1) (.bl false))
    · exact h1.elim
theorem se_orV (ha : SE C c1 ta ma) (hb : SE C c2 tb mb) : SE C (c1 + c2) (tOrV ta tb) (mOrV ma mb) := fun G c n O env σ H Qd Q hL F hm k =>
  ha G c n O env σ H _ _ (by omega) F hm fun d v H1 h1 g1 ok1 r1 => by
    split at h1
    · rename_i b
      cases r1
      refine ⟨b, rfl, ?_⟩
      cases b with
      | true => exact iteT (k _ _ H1 h1 g1 (ok_le (by omega) ok1) (.bl true))
      | false => exact iteF (hb G c _ O env σ H1 Qd Q (by omega) (F.grow g1 ok1) h1 fun d v H2 h2 g2 ok2 r2 => k d v H2 h2 (g1.trans g2) (ok_as ok2) r2)
    · exact h1.elim
theorem se_notV (ha : SE C c ta ma) : SE C c (tNotV ta) (mNotV ma) := fun G c n O env σ H Qd Q hL F hm k =>
  ha G c n O env σ H _ _ hL F hm fun d v H1 h1 g1 ok1 r1 => by
    split at h1
    · cases r1; exact ⟨_, rfl, k _ _ H1 h1 g1 ok1 (.bl _)⟩
    · exact h1.elim
/-! ### statements -/
def sNext : SM := fun env P => P.nx env
def sSeq (a b : SM) : SM := fun env P => a env { P with nx := fun e => b e P }
theorem ss_next : SS C 0 tNext sNext := fun G c n O env σ H P D hL F hm e => e.nx O env σ H (LeA.refl _) F hm
theorem ss_seq (h : SS C c1 ts sm) (h' : SS C c2 tz sz) : SS C (c1 + c2) (tSeq ts tz) (sSeq sm sz) := fun G c n O env σ H P D hL F hm e =>
  h G c n O env σ H _ _ (by omega) F hm ⟨fun O' env' σ' H' l F' q => h' G c _ O' env' σ' H' P D (by omega) F' q (by rw [Nat.add_assoc]; exact e.le l), fun d v O' H' W => e.rt d v O' H' (W.le (by omega)), fun O' v s H' l F => e.bk O' v s H' l (F.le (by omega)), fun O' v s H' l F => e.ct O' v s H' l (F.le (by omega)), fun d v O' e' s' H' l F => e.rm d v O' e' s' H' l (F.le (by omega))⟩
theorem ss_frz (i : Nat) (h : SS C c ts sm) : SS C c ts (fun env P => sm (frz env i) P) := fun G c n O env σ H P D hL F hm e => by
  obtain ⟨O', l, F'⟩ := F.frz i
  exact h G c n O' _ σ H P D hL F' hm (e.le l)
def sSet (i : Nat) (x : XM) : SM := fun env P => x env fun c => P.nx (env.set i c)
theorem ss_set (h : SX C c te mx) : SS C c (tAsg te (gName i)) (sSet i mx) := fun G c n O env σ H P D hL F hm e =>
  h G c n O env σ H _ _ hL F hm fun c v O' H' q g W l mo s _ f => e.nx O' _ _ H' l (F.set g W l mo s f) q
def sPar (i j : Nat) (x y : XM) : SM := fun env P => x env fun c => y env fun d => P.nx ((env.set i c).set j d)
theorem ss_par (h : SX C c1 ta mx) (h' : SX C c2 tb my) : SS C (c1 + c2) (tPar i j (tCons ta (tCons tb tNil))) (sPar i j mx my) := fun G c n O env σ H P D hL F hm e =>
  h G c n O env σ H _ _ (by omega) F hm fun x1 v O1 H1 q g W l mo s nn f =>
    h' G c _ O1 env σ H1 _ _ (by omega) ⟨W, F.len, fun k d e n => let ⟨u, h1, h2⟩ := F.sl k d e n; ⟨u, h1, h2.le g l mo⟩, F.uq⟩ q fun x2 u O2 H2 q2 g2 W2 l2 mo2 s2 n2 f2 =>
      ⟨v, u, rfl, e.nx O2 _ _ H2 (l.trans l2) (by rw [← Nat.add_assoc]; exact (F.set (i := i) g W l mo s f).set (i := j) g2 W2 l2 mo2 s2 f2) q2⟩
def sRet (m : EM) : SM := fun env P => m env P.rt
theorem ss_ret (h : SE C c te m) : SS C c (tRet te) (sRet m) := fun G c n O env σ H P D hL F hm e =>
  h G c n O env σ H _ _ hL F hm fun d v H' q g ok r => e.rt d v O H' (F.wl.grow g ok) r q
def sRetN : SM := fun env P => P.rt .non
theorem ss_retN : SS C 0 tRetN sRetN := fun G c n O env σ H P D hL F hm e => e.rt .non .non O H F.wl .non hm
def sIf (t : TM) (a b : SM) : SM := fun env P => t env fun c => if c = true then a env P else b env P
theorem EOk.grow {G : Cfg} {n k : Nat} {O : Addr → Prop} {H H1 : Hp} {P : Pe} {D : Ends} {env : Ev} {σ : L2.St} (e : EOk G n O H P D) (F : Fr G k O env σ H) (g : Grow G.w H H1) : EOk G n O H1 P D := e.le (sh_grow F.wl.zo g)
theorem ss_if (h : ST C c1 tt mt) (ha : SS C c2 ts sm) (hb : SS C c3 tz sz) : SS C (c1 + (c2 + c3)) (tIfS tt ts tz) (sIf mt sm sz) := fun G c n O env σ H P D hL F hm e =>
  h G c n O env σ H _ _ (by omega) F hm fun b H1 h1 g1 ok1 => by
    cases b with
    | true => exact iteT (ha G c _ O env σ H1 P D (by omega) (F.grow g1 ok1) h1 (by rw [Nat.add_assoc]; exact (e.grow F g1).dn (by omega)))
    | false => exact iteF (hb G c _ O env σ H1 P D (by omega) (F.grow g1 ok1) h1 (by rw [Nat.add_assoc]; exact (e.grow F g1).dn (by omega)))
def sDrop (m : EM) : SM := fun env P => m env fun _ => P.nx env
theorem ss_drop (h : SE C c te m) : SS C c (tDrop te) (sDrop m) := fun G c n O env σ H P D hL F hm e =>
  h G c n O env σ H _ _ hL F hm fun d v H' q g ok r => e.nx O env σ H' (sh_grow F.wl.zo g) (F.grow g ok) q
def sNever : SM := fun _ _ => False
theorem ss_never : SS C 0 tNever sNever := fun G c n O env σ H P D hL F hm e => hm
def sBreak : SM := fun env P => P.bk env
def sCont : SM := fun env P => P.ct env
theorem ss_break : SS C 0 tBreak sBreak := fun G c n O env σ H P D hL F hm e => e.bk O env σ H (LeA.refl _) F hm
theorem ss_cont : SS C 0 tCont sCont := fun G c n O env σ H P D hL F hm e => e.ct O env σ H (LeA.refl _) F hm
/-- x.append(e) -/
def sApp (i : Nat) (m : EM) : SM := fun env P => match env[i]? with | some (.own ds) => m env fun d => ds.length < sizeLine ∧ P.nx (env.set i (.own (ds ++ [d]))) | _ => False
theorem own_le {G : Cfg} {O : Addr → Prop} {H : Hp} {a : Addr} {o : HO} (oa : OwnAt G O a) : LeA (Sh O H) (Sh O (upd H a o)) := fun b u ⟨h, n⟩ => ⟨rd_upd (fun z => n (by rw [z]; exact oa.o)) h, n⟩
theorem ss_app (h : SE C c te m) : SS C c (tDrop (tBM K "list" rAppend (tVar i) (tCons te tNil))) (sApp i m) := fun G c n O env σ H P D hL F hm e => by
  unfold sApp at hm
  split at hm
  · rename_i ds ei
    obtain ⟨v, es, s⟩ := F.sl i _ ei (by intro z; cases z)
    cases s with
    | @own a xs _ eh oa r =>
      refine ⟨_, es, .inl ⟨rfl, xs, sqL eh⟩, ?_⟩
      refine h G c n O env σ H _ _ hL F hm fun d v H1 ⟨hl, q⟩ g ok rv => ?_
      have F1 := F.grow g ok
      have eh1 := g _ _ eh oa.z
      have r1 := r.mono (sh_grow F.wl.zo g)
      refine ⟨a, xs, v, rfl, rfl, eh1, by rw [r.length]; exact hl, ?_⟩
      exact e.nx O _ _ _ ((sh_grow F.wl.zo g).trans (own_le oa)) (F1.mut ei es rfl rfl oa fun H' l e' => .own e' oa ((r1.append (.cons rv .nil)).mono l)) q
  · exact hm.elim
/-- x[k] = e -/
def sSetIx (i : Nat) (mi m : EM) : SM := fun env P => match env[i]? with
  | some (.own ds) => m env fun d => mi env fun k => (match k with | .int k => (match ixN ds.length k with | some j => P.nx (env.set i (.own (ds.set j d))) | none => False) | _ => False)
  | _ => False
theorem ss_setIx (h : SE C c1 te m) (hi : SE C c2 ti mi) : SS C (c1 + c2) (tAsg te (gSub (tVar i) ti rSetL)) (sSetIx i mi m) := fun G c n O env σ H P D hL F hm e => by
  unfold sSetIx at hm
  split at hm
  · rename_i ds ei
    obtain ⟨v, es, s⟩ := F.sl i _ ei (by intro z; cases z)
    cases s with
    | @own a xs _ eh oa r =>
      refine h G c n O env σ H _ _ (by omega) F hm fun d v H1 q1 g1 ok1 rv => ?_
      have F1 := F.grow g1 ok1
      refine ⟨_, es, ?_⟩
      refine hi G c _ O env σ H1 _ _ (by omega) F1 q1 fun k u H2 q2 g2 ok2 rk => ?_
      have g := g1.trans g2
      have eh2 := g _ _ eh oa.z
      have r2 := r.mono (sh_grow F.wl.zo g)
      split at q2
      · split at q2
        · rename_i j hj
          cases rk
          refine ⟨a, xs, _, j, rfl, rfl, eh2, by rw [r.length]; exact hj, ?_⟩
          exact e.nx O _ _ _ ((sh_grow F.wl.zo g).trans (own_le oa)) ((F.grow g (ok_as ok2)).mut ei es rfl rfl oa fun H' l e' => .own e' oa ((RpL.set j (rv.mono (sh_grow F.wl.zo g2)) r2).mono l)) q2
        · exact q2.elim
      · exact q2.elim
  · exact hm.elim
end
end PL

namespace PL
open PySem L2
/-! ### targets -/
abbrev GM := Ev → D → (Ev → Prop) → Prop
abbrev GMs := Ev → List D → (Ev → Prop) → Prop
def SG (C : Wd → XC → Prop) (vs : List Nat) (g : TG) (m : GM) : Prop := ∀ G, C G.w G.x → ∀ n O env σ H d v (Qd : Ev → Prop) (Q : L2.St → Hp → Prop), Fr G n O env σ H → Rp (Sh O H) v d → m env d Qd →
  (∀ env' σ', Fr G n O env' σ' H → wipe σ' vs = wipe σ vs → Qd env' → Q σ' H) → g v σ H Q
def SGs (C : Wd → XC → Prop) (vs : List Nat) (g : TGs) (m : GMs) : Prop := ∀ G, C G.w G.x → ∀ n O env σ H ds us (Qd : Ev → Prop) (Q : L2.St → Hp → Prop), Fr G n O env σ H → RpL (Sh O H) us ds → m env ds Qd →
  (∀ env' σ', Fr G n O env' σ' H → wipe σ' vs = wipe σ vs → Qd env' → Q σ' H) → g us σ H Q
section
variable {C : Wd → XC → Prop} {K : PySem.W.Frag} {te ta tb tk ti to : TE} {tt tu : TT} {t tr : TA} {m ma mb mk mi : EM} {mt mu : TM} {mx my : XM} {am ar : AM} {i j c c1 c2 c3 : Nat} {n : Nat} {ts tz : TS} {sm sz : SM} {g : TG} {gs : TGs} {mg : GM} {mgs : GMs} {vs : List Nat} {wi : TI}
theorem wipe_set : ∀ {vs : List Nat} {σ : L2.St} {i : Nat} {v : Option V}, i ∈ vs → wipe (σ.set i v) vs = wipe σ vs
  | [], _, _, _, h => by cases h
  | w :: vs, σ, i, v, h => by
    unfold wipe
    by_cases e : i ∈ vs
    · rw [wipe_set e]
    · have ew : i = w := by
        rcases List.mem_cons.mp h with z | z
        · exact z
        · exact absurd z e
      subst ew
      have : ∀ (us : List Nat) (τ : L2.St), i ∉ us → (wipe (τ.set i v) us) = (wipe τ us).set i v := by
        intro us
        induction us with
        | nil => intro τ _; rfl
        | cons u us ih =>
          intro τ hn
          unfold wipe
          rw [ih τ fun z => hn (List.mem_cons_of_mem _ z), List.set_comm _ _ (fun z => hn (by rw [z]; exact List.mem_cons_self))]
      rw [this vs σ e, List.set_set]
theorem wipe_sub {vs : List Nat} {σ : L2.St} : ∀ us : List Nat, (∀ u ∈ us, u ∈ vs) → wipe (wipe σ us) vs = wipe σ vs
  | [], _ => rfl
  | u :: us, h => by
    show wipe ((wipe σ us).set u none) vs = _
    rw [wipe_set (h u List.mem_cons_self)]
    exact wipe_sub us fun w hw => h w (List.mem_cons_of_mem _ hw)
theorem wipe_wipe {vs : List Nat} {σ : L2.St} : wipe (wipe σ vs) vs = wipe σ vs := wipe_sub vs fun _ h => h
def gN (i : Nat) : GM := fun env d Q => Q (env.set i (.dat d))
theorem sg_name (h : i ∈ vs := by decide) : SG C vs (gName i) (gN i) := fun G c n O env σ H d v Qd Q F r hm k =>
  k _ _ (F.set (Grow.refl _ _) F.wl (LeA.refl _) (fun _ z => z) (.dat r) fun _ z => (show False from z).elim) (wipe_set h) hm
def gsN : GMs := fun env ds Q => ds = [] ∧ Q env
def gsC (m : GM) (ms : GMs) : GMs := fun env ds Q => match ds with | d :: r => m env d fun e => ms e r Q | [] => False
theorem sgs_nil : SGs C vs gNil gsN := fun G c n O env σ H ds us Qd Q F r ⟨e, q⟩ k => by
  subst e; cases r
  exact ⟨rfl, k env σ F rfl q⟩
theorem sgs_cons (h : SG C vs g mg) (h' : SGs C vs gs mgs) : SGs C vs (gCons g gs) (gsC mg mgs) := fun G c n O env σ H ds us Qd Q F r hm k => by
  unfold gsC at hm
  split at hm
  · cases r with
    | cons a r => exact ⟨_, _, rfl, h G c n O env σ H _ _ _ _ F a hm fun e1 s1 F1 w1 q1 => h' G c n O e1 s1 H _ _ _ _ F1 r q1 fun e2 s2 F2 w2 q2 => k e2 s2 F2 (w2.trans w1) q2⟩
  · exact hm.elim
def gT (n : Nat) (ms : GMs) : GM := fun env d Q => match d with | .tup ds => ds.length = n ∧ ms env ds Q | _ => False
theorem sg_tup {l : Nat} (h : SGs C vs gs mgs) : SG C vs (gTup K l gs) (gT l mgs) := fun G c n O env σ H d v Qd Q F r hm k => by
  unfold gT at hm
  split at hm
  · cases r with
    | tup e r => exact ⟨_, _, rfl, sqT (rk_tup e.1), by rw [r.length]; exact hm.1, h G c n O env σ H _ _ _ _ F r hm.2 k⟩
  · exact hm.elim
def sTo (m : EM) (g : GM) : SM := fun env P => m env fun d => g env d P.nx
theorem ss_to (h : SE C c te m) (hg : SG C vs g mg) : SS C c (tAsg te g) (sTo m mg) := fun G c n O env σ H P D hL F hm e =>
  h G c n O env σ H _ _ hL F hm fun d v H1 q gr ok r => hg G c _ O env σ H1 d v _ _ (F.grow gr ok) r q fun e' s' F' _ q' => e.nx O e' s' H1 (sh_grow F.wl.zo gr) F' q'
/-! ### what is walked -/
def Walks (G : Cfg) (J : It) (O : Addr → Prop) (H : Hp) (ds : List D) : Prop := ∀ n O' H', LeA (Sh O H) (Sh O' H') → Wl G n O' H' → ∀ i : Nat,
  (i < ds.length → J.go i H' ∧ ∀ x H'', J.yld i H' x H'' → Grow G.w H' H'' ∧ G.w.ok n H'' ∧ ∃ d, ds[i]? = some d ∧ Rp (Sh O' H'') x d) ∧ (ds.length ≤ i → J.stop i H')
def SI (C : Wd → XC → Prop) (c : Nat) (wi : TI) (m : AM) : Prop := ∀ G, C G.w G.x → ∀ n O env σ H (Qd : List D → Prop) (R : It → Hp → Prop), n + c ≤ G.x.lim → Fr G n O env σ H → m env Qd → (∀ ds J H', Qd ds → Grow G.w H H' → G.w.ok (n + c) H' → Walks G J O H' ds → R J H') → wi σ H R
def iL (m : EM) : AM := fun env Q => m env fun d => match d with | .lst l => Q l | _ => False
theorem walks_list {G : Cfg} {O : Addr → Prop} {H : Hp} {a : Addr} {xs : List V} {ds : List D} (e : Sh O H a (.lst xs)) (r : RpL (Sh O H) xs ds) : Walks G (Itl K a) O H ds := fun n O' H' l W i => by
  have e' := rk_lst (l _ _ e).1
  have r' := r.mono l
  refine ⟨fun hi => ?_, fun hi => ⟨xs, sqL e', by rw [r.length]; exact hi⟩⟩
  obtain ⟨v, hv, rv⟩ := r'.get (List.getElem?_eq_getElem hi)
  refine ⟨⟨xs, v, sqL e', hv⟩, fun x H'' ⟨eH, hx⟩ => ?_⟩
  subst eH
  have := hx xs (sqL e')
  rw [hv] at this; cases this
  exact ⟨Grow.refl _ _, W.ok, _, List.getElem?_eq_getElem hi, rv⟩
theorem walks_tup {G : Cfg} {O : Addr → Prop} {H : Hp} {a : Addr} {xs : List V} {ds : List D} (e : Sh O H a (.tup xs)) (r : RpL (Sh O H) xs ds) : Walks G (Itt K a) O H ds := fun n O' H' l W i => by
  have e' := rk_tup (l _ _ e).1
  have r' := r.mono l
  refine ⟨fun hi => ?_, fun hi => ⟨xs, sqT e', by rw [r.length]; exact hi⟩⟩
  obtain ⟨v, hv, rv⟩ := r'.get (List.getElem?_eq_getElem hi)
  refine ⟨⟨xs, v, sqT e', hv⟩, fun x H'' ⟨eH, hx⟩ => ?_⟩
  subst eH
  have := hx xs (sqT e')
  rw [hv] at this; cases this
  exact ⟨Grow.refl _ _, W.ok, _, List.getElem?_eq_getElem hi, rv⟩
theorem si_list (h : SE C c te m) : SI C c (iList K te) (iL m) := fun G c n O env σ H Qd R hL F hm k =>
  h G c n O env σ H _ _ hL F hm fun d v H1 q g ok r => by
    split at q
    · cases r with
      | lst e r => exact ⟨_, rfl, ⟨_, sqL (rk_lst e.1)⟩, k _ _ H1 q g ok (walks_list e r)⟩
    · exact q.elim
def iT (m : EM) : AM := fun env Q => m env fun d => match d with | .tup l => Q l | _ => False
theorem si_tup (h : SE C c te m) : SI C c (iTup K te) (iT m) := fun G c n O env σ H Qd R hL F hm k =>
  h G c n O env σ H _ _ hL F hm fun d v H1 q g ok r => by
    split at q
    · cases r with
      | tup e r => exact ⟨_, rfl, ⟨_, sqT (rk_tup e.1)⟩, k _ _ H1 q g ok (walks_tup e r)⟩
    · exact q.elim
def rng (lo : Int) (n : Nat) : List D := (List.range n).map fun k : Nat => D.int (lo + (k : Int))
theorem rng_length (lo : Int) (n : Nat) : (rng lo n).length = n := by unfold rng; rw [List.length_map, List.length_range]
theorem rng_get {lo : Int} {n i : Nat} (h : i < n) : (rng lo n)[i]? = some (.int (lo + (i : Int))) := by
  unfold rng
  rw [List.getElem?_map, List.getElem?_range h]; rfl
theorem walks_rng {G : Cfg} {O : Addr → Prop} {H : Hp} (lo : Int) (n : Nat) : Walks G (Itr lo n) O H (rng lo n) := fun n' O' H' l W i => by
  rw [rng_length]
  refine ⟨fun hi => ⟨hi, fun x H'' ⟨eH, ex⟩ => ?_⟩, fun hi => hi⟩
  subst eH; subst ex
  exact ⟨Grow.refl _ _, W.ok, _, rng_get hi, .int _⟩
def iR1 (a : AM) : AM := fun env Q => a env fun ds => match ds with | [.int j] => (-(2 ^ 62) ≤ j ∧ j < 2 ^ 62) ∧ Q (rng 0 j.toNat) | _ => False
theorem si_rng1 (h : SA C c t am) : SI C c (iRng1 t) (iR1 am) := fun G c n O env σ H Qd R hL F hm k =>
  h G c n O env σ H _ _ hL F hm fun ds vs H1 q g ok r => by
    split at q
    · cases r with
      | cons a r =>
        cases a; cases r
        exact ⟨_, rfl, q.1.1, q.1.2, k _ _ H1 q.2 g ok (walks_rng 0 _)⟩
    · exact q.elim
def iR2 (a : AM) : AM := fun env Q => a env fun ds => match ds with | [.int i, .int j] => (-(2 ^ 62) ≤ i ∧ i < 2 ^ 62 ∧ -(2 ^ 62) ≤ j ∧ j < 2 ^ 62) ∧ Q (rng i (j - i).toNat) | _ => False
theorem si_rng2 (h : SA C c t am) : SI C c (iRng2 t) (iR2 am) := fun G c n O env σ H Qd R hL F hm k =>
  h G c n O env σ H _ _ hL F hm fun ds vs H1 q g ok r => by
    split at q
    · cases r with
      | cons a r =>
        cases r with
        | cons b r =>
          cases a; cases b; cases r
          exact ⟨_, _, rfl, q.1, k _ _ H1 q.2 g ok (walks_rng _ _)⟩
    · exact q.elim
/-! ### for -/
def loopP (g : GM) (b : SM) : List D → Ev → Pe → Prop
  | [], env, P => P.nx env
  | d :: r, env, P => g env d fun e1 => b e1 { P with nx := fun e2 => loopP g b r e2 P, ct := fun e2 => loopP g b r e2 P, bk := P.nx }
def sFor (a : AM) (g : GM) (b : SM) : SM := fun env P => a env fun ds => loopP g b ds env P
theorem loop_at {g : GM} {b : SM} {ds : List D} {i : Nat} {d : D} {env : Ev} {P : Pe} (h : ds[i]? = some d) (q : loopP g b (ds.drop i) env P) : g env d fun e1 => b e1 { P with nx := fun e2 => loopP g b (ds.drop (i + 1)) e2 P, ct := fun e2 => loopP g b (ds.drop (i + 1)) e2 P, bk := P.nx } := by
  obtain ⟨hi, e⟩ := List.getElem?_eq_some_iff.mp h
  rw [List.drop_eq_getElem_cons hi, e] at q
  exact q
theorem for_run {T : Nat} {X : List D → SM} (hX : ∀ ds env P, X ds env P → ds.length * c2 ≤ T ∧ loopP mg sm ds env P) (hg : SG C vs g mg) (hb : SS C c2 ts sm) {G : Cfg} (c : C G.w G.x) {n : Nat} {O : Addr → Prop} {env : Ev} {σ : L2.St} {H : Hp} {P : Pe} {D : Ends} (hL : n + (c1 + T) ≤ G.x.lim) (F : Fr G n O env σ H)
    (hi : ∀ (Qd' : List PL.D → Prop) (R : It → Hp → Prop), am env Qd' → (∀ ds J H', Qd' ds → Grow G.w H H' → G.w.ok (n + c1) H' → Walks G J O H' ds → R J H') → wi σ H R) (hm : am env fun ds => X ds env P) (e : EOk G (n + (c1 + T)) O H P D) : tFor wi g ts D σ H :=
  hi _ _ hm fun ds J H1 q0 gr ok wk => by
    obtain ⟨hT, q⟩ := hX ds env P q0
    have F1 := F.grow gr ok
    have l1 := sh_grow F.wl.zo gr
    have hle1 : ∀ i, i ≤ ds.length → i * c2 ≤ T := fun i h => Nat.le_trans (Nat.mul_le_mul_right _ h) hT
    refine ⟨fun i m σ' H' => m = ds.length - i ∧ i ≤ ds.length ∧ ∃ O' env', LeA (Sh O H1) (Sh O' H') ∧ Fr G (n + c1 + i * c2) O' env' σ' H' ∧ loopP mg sm (ds.drop i) env' P, ⟨ds.length, by simp, Nat.zero_le _, O, env, LeA.refl _, by rw [Nat.zero_mul]; exact F1, q⟩, ?_⟩
    rintro i m σ' H' ⟨rfl, hle, O', env', l, F', q'⟩
    by_cases hlt : i < ds.length
    · obtain ⟨go, yl⟩ := (wk _ O' H' l F'.wl i).1 hlt
      have hT1 := hle1 (i + 1) hlt
      rw [Nat.succ_mul] at hT1
      refine .inr ⟨go, fun σ2 H2 => ∃ O2 env2, LeA (Sh O H1) (Sh O2 H2) ∧ Fr G (n + c1 + (i + 1) * c2) O2 env2 σ2 H2 ∧ loopP mg sm (ds.drop (i + 1)) env2 P, fun σ2 H2 h2 => ⟨ds.length - (i + 1), by omega, rfl, hlt, h2⟩, fun x H'' hy => ?_⟩
      obtain ⟨g2, ok2, d, hd, rd⟩ := yl x H'' hy
      have l2 := sh_grow F'.wl.zo g2
      refine hg G c _ O' env' σ' H'' d x _ _ (F'.grow g2 ok2) rd (loop_at hd q') fun e1 s1 F3 _ q3 => ?_
      have en : n + c1 + i * c2 + c2 = n + c1 + (i + 1) * c2 := by rw [Nat.succ_mul, ← Nat.add_assoc]
      have ei : n + c1 + i * c2 + c2 = n + (c1 + i * c2 + c2) := by omega
      refine hb G c _ O' e1 s1 H'' _ _ (by omega) F3 q3 ⟨fun O4 e4 s4 H4 l4 F4 q4 => ⟨O4, e4, l.trans (l2.trans l4), by rw [← en]; exact F4, q4⟩, fun d v O4 H4 W => e.rt d v O4 H4 (by rw [ei] at W; exact W.le (by omega)), fun O4 e4 s4 H4 l4 F4 q4 => e.nx O4 e4 s4 H4 (l1.trans (l.trans (l2.trans l4))) (by rw [ei] at F4; exact F4.le (by omega)) q4, fun O4 e4 s4 H4 l4 F4 q4 => ⟨O4, e4, l.trans (l2.trans l4), by rw [← en]; exact F4, q4⟩, fun d v O4 e4 s4 H4 l4 F4 => e.rm d v O4 e4 s4 H4 (l1.trans (l.trans (l2.trans l4))) (by rw [ei] at F4; exact F4.le (by omega))⟩
    · have ei : i = ds.length := by omega
      have hT1 := hle1 i hle
      refine .inl ⟨(wk _ O' H' l F'.wl i).2 (by omega), e.nx O' env' σ' H' (l1.trans l) (by rw [Nat.add_assoc] at F'; exact F'.le (by omega)) ?_⟩
      rw [ei, List.drop_length] at q'
      exact q'
theorem ss_forG {T : Nat} {X : List D → SM} (hX : ∀ ds env P, X ds env P → ds.length * c2 ≤ T ∧ loopP mg sm ds env P) (hi : SI C c1 wi am) (hg : SG C vs g mg) (hb : SS C c2 ts sm) : SS C (c1 + T) (tFor wi g ts) (fun env P => am env fun ds => X ds env P) := fun G c n O env σ H P D hL F hm e =>
  for_run hX hg hb c hL F (fun Qd' R h k' => hi G c n O env σ H Qd' R (by omega) F h k') hm e
/-- a loop whose turns draw nothing -/
theorem ss_for (hi : SI C c1 wi am) (hg : SG C vs g mg) (hb : SS C 0 ts sm) : SS C c1 (tFor wi g ts) (sFor am mg sm) := ss_forG (T := 0) (X := fun ds env P => loopP mg sm ds env P) (fun _ _ _ h => ⟨by simp, h⟩) hi hg hb
/-- a loop of at most L turns -/
def sForL (L : Nat) (a : AM) (g : GM) (b : SM) : SM := fun env P => a env fun ds => ds.length ≤ L ∧ loopP g b ds env P
theorem ss_forL (L : Nat) (hi : SI C c1 wi am) (hg : SG C vs g mg) (hb : SS C c2 ts sm) : SS C (c1 + L * c2) (tFor wi g ts) (sForL L am mg sm) := ss_forG (X := fun ds env P => ds.length ≤ L ∧ loopP mg sm ds env P) (fun _ _ _ h => ⟨Nat.mul_le_mul_right _ h.1, h.2⟩) hi hg hb
/-! ### while -/
def sWhile (t : TM) (b : SM) : SM := fun env P => ∃ I : Nat → Ev → Prop, (∃ n, I n env) ∧ ∀ n e, I n e → t e fun c => if c = true then b e { P with nx := fun e2 => ∃ k, k < n ∧ I k e2, ct := fun e2 => ∃ k, k < n ∧ I k e2, bk := P.nx } else P.nx e
theorem ss_while (ht : ST C 0 tt mt) (hb : SS C 0 ts sm) : SS C 0 (tWhile tt ts) (sWhile mt sm) := fun G c n O env σ H P D hL F ⟨I, ⟨n0, i0⟩, turn⟩ e => by
  refine ⟨fun k σ' H' => ∃ O' env', LeA (Sh O H) (Sh O' H') ∧ Fr G n O' env' σ' H' ∧ I k env', ⟨n0, O, env, LeA.refl _, F, i0⟩, ?_⟩
  rintro k σ' H' ⟨O', env', l, F', hI⟩
  refine ht G c n O' env' σ' H' _ _ hL F' (turn k env' hI) fun b H1 q g1 ok1 => ?_
  have F1 := F'.grow g1 ok1
  have l1 := l.trans (sh_grow F'.wl.zo g1)
  cases b with
  | true =>
    rw [if_pos rfl] at q ⊢
    refine ⟨fun σ2 H2 => ∃ k', k' < k ∧ ∃ O2 env2, LeA (Sh O H) (Sh O2 H2) ∧ Fr G n O2 env2 σ2 H2 ∧ I k' env2, fun σ2 H2 h2 => h2, ?_⟩
    exact hb G c n O' env' σ' H1 _ _ hL F1 q ⟨fun O4 e4 s4 H4 l4 F4 ⟨k, hk, q4⟩ => ⟨k, hk, O4, e4, l1.trans l4, F4, q4⟩, e.rt, fun O4 e4 s4 H4 l4 F4 q4 => e.nx O4 e4 s4 H4 (l1.trans l4) F4 q4, fun O4 e4 s4 H4 l4 F4 ⟨k, hk, q4⟩ => ⟨k, hk, O4, e4, l1.trans l4, F4, q4⟩, fun d v O4 e4 s4 H4 l4 F4 => e.rm d v O4 e4 s4 H4 (l1.trans l4) F4⟩
  | false =>
    rw [if_neg Bool.false_ne_true] at q ⊢
    exact e.nx O' env' σ' H1 l1 F1 q
/-- a while of at most L turns, which may draw -/
def sWhileL (L : Nat) (t : TM) (b : SM) : SM := fun env P => ∃ I : Nat → Ev → Prop, (∃ n, n ≤ L ∧ I n env) ∧ ∀ n e, I n e → t e fun c => if c = true then b e { P with nx := fun e2 => ∃ k, k < n ∧ I k e2, ct := fun e2 => ∃ k, k < n ∧ I k e2, bk := P.nx } else P.nx e
theorem ss_whileL (L : Nat) (ht : ST C c1 tt mt) (hb : SS C c2 ts sm) : SS C ((L + 1) * (c1 + c2)) (tWhile tt ts) (sWhileL L mt sm) := fun G c n O env σ H P D hL F ⟨I, ⟨n0, hn0, i0⟩, turn⟩ e => by
  refine ⟨fun k σ' H' => k ≤ L ∧ ∃ O' env', LeA (Sh O H) (Sh O' H') ∧ Fr G (n + (L - k) * (c1 + c2)) O' env' σ' H' ∧ I k env', ⟨n0, hn0, O, env, LeA.refl _, (Fr.le (a := 0) (Nat.zero_le _) F), i0⟩, ?_⟩
  rintro k σ' H' ⟨hk, O', env', l, F', hI⟩
  have hle : (L - k) * (c1 + c2) + (c1 + c2) ≤ (L + 1) * (c1 + c2) := by
    rw [← Nat.succ_mul]
    exact Nat.mul_le_mul_right _ (by omega)
  refine ht G c _ O' env' σ' H' _ _ (by omega) F' (turn k env' hI) fun b H1 q g1 ok1 => ?_
  have F1 := F'.grow g1 ok1
  have l1 := l.trans (sh_grow F'.wl.zo g1)
  cases b with
  | true =>
    rw [if_pos rfl] at q ⊢
    refine ⟨fun σ2 H2 => ∃ k', k' < k ∧ ∃ O2 env2, LeA (Sh O H) (Sh O2 H2) ∧ Fr G (n + ((L - k) * (c1 + c2) + (c1 + c2))) O2 env2 σ2 H2 ∧ I k' env2, fun σ2 H2 ⟨k', hk', O2, e2, l2, F2, i2⟩ => ⟨k', hk', by omega, O2, e2, l2, F2.le (by rw [← Nat.succ_mul]; exact Nat.mul_le_mul_right _ (by omega)), i2⟩, ?_⟩
    have en : n + (L - k) * (c1 + c2) + c1 + c2 = n + ((L - k) * (c1 + c2) + (c1 + c2)) := by omega
    refine hb G c _ O' env' σ' H1 _ _ (by omega) F1 q ⟨fun O4 e4 s4 H4 l4 F4 ⟨k, hk, q4⟩ => ⟨k, hk, O4, e4, l1.trans l4, by rw [← en]; exact F4, q4⟩, fun d v O4 H4 W => e.rt d v O4 H4 (by rw [en] at W; exact W.le hle), fun O4 e4 s4 H4 l4 F4 q4 => e.nx O4 e4 s4 H4 (l1.trans l4) (by rw [en] at F4; exact F4.le hle) q4, fun O4 e4 s4 H4 l4 F4 ⟨k, hk, q4⟩ => ⟨k, hk, O4, e4, l1.trans l4, by rw [← en]; exact F4, q4⟩, fun d v O4 e4 s4 H4 l4 F4 => e.rm d v O4 e4 s4 H4 (l1.trans l4) (by rw [en] at F4; exact F4.le hle)⟩
  | false =>
    rw [if_neg Bool.false_ne_true] at q ⊢
    exact e.nx O' env' σ' H1 l1 (by rw [Nat.add_assoc] at F1; exact F1.le (by omega)) q
/-! ### comprehensions -/
def wipeE (env : Ev) : List Nat → Ev
  | [] => env
  | v :: vs => (wipeE env vs).set v .un
theorem Fr.wipe {G : Cfg} {n : Nat} {O : Addr → Prop} {env : Ev} {σ : L2.St} {H : Hp} (F : Fr G n O env σ H) : ∀ vs, Fr G n O (wipeE env vs) (L2.wipe σ vs) H
  | [] => F
  | v :: vs => by
    have F := Fr.wipe F vs
    unfold wipeE L2.wipe
    generalize wipeE env vs = env at F ⊢
    generalize L2.wipe σ vs = σ at F ⊢
    have iso : ∀ {j : Nat} {a : Addr}, Own2 (env.set v .un) (σ.set v none) j a → Own2 env σ j a := fun {j a} ⟨d', w, ed, es', od⟩ => by
      by_cases hj : v = j
      · subst hj
        have hl := (List.getElem?_eq_some_iff.mp ed).1
        rw [List.length_set] at hl
        rw [List.getElem?_set_self hl] at ed; cases ed; exact (show False from od).elim
      · rw [List.getElem?_set_ne hj] at ed es'; exact ⟨d', w, ed, es', od⟩
    refine ⟨F.wl, by rw [List.length_set, List.length_set]; exact F.len, fun j d e n => ?_, fun j k a oj ok => F.uq j k a (iso oj) (iso ok)⟩
    · by_cases hj : v = j
      · subst hj
        have hl := (List.getElem?_eq_some_iff.mp e).1
        rw [List.length_set] at hl
        rw [List.getElem?_set_self hl] at e; cases e
        exact absurd rfl n
      · rw [List.getElem?_set_ne hj] at e ⊢
        exact F.sl j d e n
def lcP (g : GM) (t : TM) (m : EM) (env : Ev) : List D → List D → (List D → Prop) → Prop
  | [], acc, Q => Q acc
  | d :: r, acc, Q => g env d fun e1 => t e1 fun b => if b = true then m e1 fun y => acc.length < sizeLine ∧ lcP g t m env r (acc ++ [y]) Q else lcP g t m env r acc Q
def mLc (a : AM) (g : GM) (t : TM) (m : EM) (vs : List Nat) : AM := fun env Q => a env fun ds => lcP g t m (wipeE env vs) ds [] Q
def tmYes : TM := fun _ Q => Q true
theorem st_yes' : ST C 0 tYes tmYes := fun G c n O env σ H Qd Q hL F hm k => k true H hm (Grow.refl _ _) F.wl.ok
theorem lc_at {env : Ev} {ds acc : List D} {i : Nat} {d : D} {Q : List D → Prop} (h : ds[i]? = some d) (q : lcP mg mt m env (ds.drop i) acc Q) : mg env d fun e1 => mt e1 fun b => if b = true then m e1 fun y => acc.length < sizeLine ∧ lcP mg mt m env (ds.drop (i + 1)) (acc ++ [y]) Q else lcP mg mt m env (ds.drop (i + 1)) acc Q := by
  obtain ⟨hi, e⟩ := List.getElem?_eq_some_iff.mp h
  rw [List.drop_eq_getElem_cons hi, e] at q
  exact q
/-- .. while nothing is changed meanwhile -/
def WalksG (G : Cfg) (J : It) (O : Addr → Prop) (H : Hp) (ds : List D) : Prop := ∀ n O' H', LeA (Sh O H) (Sh O' H') → Wl G n O' H' → Grow G.w H H' → ∀ i : Nat,
  (i < ds.length → J.go i H' ∧ ∀ x H'', J.yld i H' x H'' → Grow G.w H' H'' ∧ G.w.ok n H'' ∧ ∃ d, ds[i]? = some d ∧ Rp (Sh O' H'') x d) ∧ (ds.length ≤ i → J.stop i H')
theorem walks_g {G : Cfg} {J : It} {O : Addr → Prop} {H : Hp} {ds : List D} (w : Walks G J O H ds) : WalksG G J O H ds := fun n O' H' l W _ => w n O' H' l W
theorem lc_run {T : Nat} {X : Ev → List D → (List D → Prop) → Prop} (hX : ∀ env ds Q, X env ds Q → ds.length * (c2 + c3) ≤ T ∧ lcP mg mt m env ds [] Q) (hg : SG C vs g mg) (ht : ST C c2 tt mt) (he : SE C c3 te m) {G : Cfg} (c : C G.w G.x) {n : Nat} {O : Addr → Prop} {env : Ev} {σ : L2.St} {H : Hp} (Qd : List D → Prop) (Q : VK) (hL : n + (c1 + T) ≤ G.x.lim) (F : Fr G n O env σ H)
    (hi : ∀ (Qd' : List D → Prop) (R : It → Hp → Prop), am env Qd' → (∀ ds J H', Qd' ds → Grow G.w H H' → G.w.ok (n + c1) H' → WalksG G J O H' ds → R J H') → wi σ H R) (hm : am env fun ds => X (wipeE env vs) ds Qd)
    (k : ∀ ds a xs H', Qd ds → Grow G.w H H' → G.w.ok (n + (c1 + T)) H' → H a = none → H' a = some (.lst xs) → RpL (Sh (fun b => O b ∨ b = a) H') xs ds → Q (.ref a) H') : tLc wi g tt te vs σ H Q :=
  hi _ _ hm fun ds J H1 q0 gr ok wk => by
    obtain ⟨hT, q⟩ := hX _ ds _ q0
    have hle1 : ∀ i, i ≤ ds.length → i * (c2 + c3) ≤ T := fun i h => Nat.le_trans (Nat.mul_le_mul_right _ h) hT
    intro D hD
    have F1 := F.grow gr ok
    have nO : ¬ O D := F1.wl.free hD
    have le0 := add_le (G := G) (O := O) (o := HO.lst []) hD
    have gw : Grow G.w H1 (upd H1 D (.lst [])) := Grow.new _ hD
    have ok0 := Wd.okNew (o := HO.lst []) hD ok
    have nZ : ¬ G.w.Z D := fun z => nO (F.wl.zo D z)
    have n0 : G.H0 D = none := F1.wl.n0 hD
    have oD : OwnAt G (fun b => O b ∨ b = D) D := ⟨.inr rfl, nZ, n0⟩
    have W0 : Wl G (n + c1) (fun b => O b ∨ b = D) (upd H1 D (.lst [])) := ⟨ok0, fun b z => .inl (F.wl.zo b z), fun b z => .inl (F.wl.co b z), fun b z => by
      by_cases hb : b = D
      · rw [hb, upd_same]; exact ⟨_, rfl, fun _ q => nomatch q⟩
      · rw [upd_ne hb]; exact F1.wl.tr b (z.elim id fun y => absurd y hb), F1.wl.base.trans gw.m⟩
    have Fw : Fr G (n + c1) (fun b => O b ∨ b = D) (wipeE env vs) (L2.wipe σ vs) (upd H1 D (.lst [])) := by
      have F2 := F1.wipe vs
      exact ⟨W0, F2.len, fun j d e n => let ⟨u, h1, h2⟩ := F2.sl j d e n; ⟨u, h1, h2.le gw le0 fun _ z => .inl z⟩, F2.uq⟩
    refine ⟨fun i mm H' => mm = ds.length - i ∧ i ≤ ds.length ∧ ∃ acc xs, LeA (Sh O H1) (Sh (fun b => O b ∨ b = D) H') ∧ Grow G.w H1 H' ∧ Fr G (n + c1 + i * (c2 + c3)) (fun b => O b ∨ b = D) (wipeE env vs) (L2.wipe σ vs) H' ∧ H' D = some (.lst xs) ∧ RpL (Sh (fun b => O b ∨ b = D) H') xs acc ∧ lcP mg mt m (wipeE env vs) (ds.drop i) acc Qd, ⟨ds.length, by simp, Nat.zero_le _, [], [], le0, gw, by rw [Nat.zero_mul]; exact Fw, upd_same, .nil, q⟩, ?_⟩
    rintro i mm H' ⟨rfl, hle, acc, xs, l, gg, F', eD, rD, q'⟩
    by_cases hlt : i < ds.length
    · obtain ⟨go, yl⟩ := (wk _ _ H' l F'.wl gg i).1 hlt
      have hT1 := hle1 (i + 1) hlt
      rw [Nat.succ_mul] at hT1
      have en : n + c1 + i * (c2 + c3) + (c2 + c3) = n + c1 + (i + 1) * (c2 + c3) := by rw [Nat.succ_mul, ← Nat.add_assoc (n + c1)]
      refine .inr ⟨go, fun H2 => ∃ acc xs, LeA (Sh O H1) (Sh (fun b => O b ∨ b = D) H2) ∧ Grow G.w H1 H2 ∧ Fr G (n + c1 + (i + 1) * (c2 + c3)) (fun b => O b ∨ b = D) (wipeE env vs) (L2.wipe σ vs) H2 ∧ H2 D = some (.lst xs) ∧ RpL (Sh (fun b => O b ∨ b = D) H2) xs acc ∧ lcP mg mt m (wipeE env vs) (ds.drop (i + 1)) acc Qd, fun H2 h2 => ⟨ds.length - (i + 1), by omega, rfl, hlt, h2⟩, fun x H'' hy => ?_⟩
      obtain ⟨g2, ok2, d, hd, rd⟩ := yl x H'' hy
      have l2 := sh_grow F'.wl.zo g2
      have F2 := F'.grow g2 ok2
      refine hg G c _ _ _ _ H'' d x _ _ F2 rd (lc_at hd q') fun e1 s1 F3 w3 q3 => ?_
      refine ⟨w3.trans (by rw [wipe_wipe]), ?_⟩
      refine ht G c _ _ e1 s1 H'' _ _ (by omega) F3 q3 fun b H3 q4 g4 ok4 => ?_
      have F4 := F3.grow g4 ok4
      cases b with
      | true =>
        rw [if_pos rfl] at q4 ⊢
        refine he G c _ _ e1 s1 H3 _ _ (by omega) F4 q4 fun y u H4 q5 g5 ok5 r5 => ?_
        have g3 := g2.trans (g4.trans g5)
        have e4 := g3 _ _ eD nZ
        have r4 := rD.mono (sh_grow F'.wl.zo g3)
        refine ⟨xs, e4, by rw [r4.length]; exact q5.1, acc ++ [y], xs ++ [u], ?_, ?_, ?_, upd_same, ?_, q5.2⟩
        · exact (l.trans (sh_grow F'.wl.zo g3)).trans (own_le oD)
        · exact fun b o h z => by
            have ne : b ≠ D := ne_of_none h hD
            rw [upd_ne ne]; exact (gg.trans g3) b o h z
        · have F5 := F'.grow g3 ok5
          rw [Nat.add_assoc _ c2 c3, en] at F5 ok5
          have W5 : Wl G (n + c1 + (i + 1) * (c2 + c3)) (fun b => O b ∨ b = D) (upd H4 D (.lst (xs ++ [u]))) := ⟨st_upd nZ (fun φ z => by rw [e4] at z; cases z) ok5, F5.wl.zo, F5.wl.co, fun b z => by
            by_cases hb : b = D
            · rw [hb, upd_same]; exact ⟨_, rfl, fun _ q => nomatch q⟩
            · rw [upd_ne hb]; exact F5.wl.tr b z, fun b o h z mm => by rw [upd_ne (fun q => by rw [q, n0] at h; cases h)]; exact F5.wl.base b o h z mm⟩
          refine ⟨W5, F5.len, fun j d e n => ?_, F5.uq⟩
          obtain ⟨w, h1, h2⟩ := F5.sl j d e n
          refine ⟨w, h1, ?_⟩
          obtain ⟨w0, h10, h20⟩ := (F1.wipe vs).sl j d e n
          rw [h1] at h10; cases h10
          have le5 := own_le (G := G) (H := H4) (o := HO.lst (xs ++ [u])) oD
          exact h2.upd le5 fun od => (h20.ownAt od).2.2.ne hD
        · exact (r4.append (.cons r5 .nil)).mono (own_le oD)
      | false =>
        rw [if_neg Bool.false_ne_true] at q4 ⊢
        have g3 := g2.trans g4
        exact ⟨acc, xs, l.trans (sh_grow F'.wl.zo g3), gg.trans g3, (by rw [← en]; exact F'.grow g3 (ok_le (by omega) ok4)), g3 _ _ eD nZ, rD.mono (sh_grow F'.wl.zo g3), q4⟩
    · have ei : i = ds.length := by omega
      have hT1 := hle1 i hle
      refine .inl ⟨(wk _ _ H' l F'.wl gg i).2 (by omega), ?_⟩
      rw [ei, List.drop_length] at q'
      exact k acc D xs H' q' (gr.trans gg) (by have := F'.wl.ok; rw [Nat.add_assoc] at this; exact ok_le (by omega) this) (gr.free ok hD) eD rD
theorem sl_lcG {T : Nat} {X : Ev → List D → (List D → Prop) → Prop} (hX : ∀ env ds Q, X env ds Q → ds.length * (c2 + c3) ≤ T ∧ lcP mg mt m env ds [] Q) (hi : SI C c1 wi am) (hg : SG C vs g mg) (ht : ST C c2 tt mt) (he : SE C c3 te m) : SL C (c1 + T) (tLc wi g tt te vs) (fun env Q => am env fun ds => X (wipeE env vs) ds Q) := fun G c n O env σ H Qd Q hL F hm k =>
  lc_run hX hg ht he c Qd Q hL F (fun Qd' R h k' => hi G c n O env σ H Qd' R (by omega) F h fun ds J H' q g ok w => k' ds J H' q g ok (walks_g w)) hm k
theorem sl_lc (hi : SI C c1 wi am) (hg : SG C vs g mg) (ht : ST C 0 tt mt) (he : SE C 0 te m) : SL C c1 (tLc wi g tt te vs) (mLc am mg mt m vs) := sl_lcG (T := 0) (X := fun env ds Q => lcP mg mt m env ds [] Q) (fun _ _ _ h => ⟨by simp, h⟩) hi hg ht he
/-- .. over an own list, which stays own -/
def mLcO (i : Nat) (g : GM) (t : TM) (m : EM) (vs : List Nat) : AM := fun env Q => match env[i]? with
  | some (.own ds) => lcP g t m (wipeE env vs) ds [] Q
  | _ => False
theorem sl_lcOwn {i : Nat} (hg : SG C vs g mg) (ht : ST C 0 tt mt) (he : SE C 0 te m) : SL C 0 (tLc (iList K (tVar i)) g tt te vs) (mLcO i mg mt m vs) := fun G c n O env σ H Qd Q hL F hm k => by
  unfold mLcO at hm
  split at hm
  · rename_i ds ei
    obtain ⟨v, es, s⟩ := F.sl i _ ei (by intro z; cases z)
    cases s with
    | @own a xs _ eh oa r =>
      refine lc_run (C := C) (c1 := 0) (c2 := 0) (c3 := 0) (T := 0) (am := fun env Q => Q ds) (X := fun env ds Q => lcP mg mt m env ds [] Q) (fun _ _ _ h => ⟨by simp, h⟩) hg ht he c Qd _ hL F (fun Qd' R h k' => ?_) hm k
      refine ⟨_, es, a, rfl, ⟨xs, sqL eh⟩, k' _ _ _ h (Grow.refl _ _) F.wl.ok fun n' O' H' l W gg j => ?_⟩
      have e' := gg _ _ eh oa.z
      have r' := r.mono l
      refine ⟨fun hi => ?_, fun hi => ⟨xs, sqL e', by rw [r.length]; exact hi⟩⟩
      obtain ⟨v, hv, rv⟩ := r'.get (List.getElem?_eq_getElem hi)
      refine ⟨⟨xs, v, sqL e', hv⟩, fun x H'' ⟨eH, hx⟩ => ?_⟩
      subst eH
      have := hx xs (sqL e')
      rw [hv] at this; cases this
      exact ⟨Grow.refl _ _, W.ok, _, List.getElem?_eq_getElem hi, rv⟩
  · exact hm.elim
/-- .. over at most L things, which may draw -/
def mLcL (L : Nat) (a : AM) (g : GM) (t : TM) (m : EM) (vs : List Nat) : AM := fun env Q => a env fun ds => ds.length ≤ L ∧ lcP g t m (wipeE env vs) ds [] Q
theorem sl_lcL (L : Nat) (hi : SI C c1 wi am) (hg : SG C vs g mg) (ht : ST C c2 tt mt) (he : SE C c3 te m) : SL C (c1 + L * (c2 + c3)) (tLc wi g tt te vs) (mLcL L am mg mt m vs) := sl_lcG (X := fun env ds Q => ds.length ≤ L ∧ lcP mg mt m env ds [] Q) (fun _ _ _ h => ⟨Nat.mul_le_mul_right _ h.1, h.2⟩) hi hg ht he
end
end PL

namespace PL
open PySem L2
/-! ### data compared -/
mutual
def toPy : D → PyData
  | .non => .none
  | .bl b => .bool b
  | .int i => .int i
  | .str s => .str s
  | .tup l => .tuple (toPyL l)
  | .lst l => .list (toPyL l)
  | .dic _ => .none
  | .opq _ => .none
  | .ftp _ => .none
  | .exc _ _ _ => .none
  | .lam _ _ => .none
  | .ins _ _ _ => .none
  | .dit _ => .none
def toPyL : List D → List PyData
  | [] => []
  | d :: r => toPy d :: toPyL r
end
/-! plain: no truth values, no dicts, depth at most n -/
mutual
def D.pl : Nat → D → Bool
  | _, .non => true
  | _, .bl _ => false
  | _, .int _ => true
  | _, .str s => PyData.canLay0 (.str s)
  | 0, .tup _ => false
  | n + 1, .tup l => D.plL n l
  | 0, .lst _ => false
  | n + 1, .lst l => D.plL n l
  | _, .dic _ => false
  | _, .opq _ => false
  | _, .ftp _ => false
  | _, .exc _ _ _ => false
  | _, .lam _ _ => false
  | _, .ins _ _ _ => false
  | _, .dit _ => false
def D.plL : Nat → List D → Bool
  | _, [] => true
  | n, d :: r => D.pl n d && D.plL n r
end
mutual
theorem pl_shaped : ∀ (n : Nat) (d : D), d.pl n = true → (toPy d).canLay0 = true ∧ (toPy d).depth ≤ n
  | n, .non, _ => ⟨rfl, by simp [toPy, PyData.depth]⟩
  | n, .bl b, h => by simp [D.pl] at h
  | n, .int i, _ => ⟨rfl, by simp [toPy, PyData.depth]⟩
  | n, .str s, h => ⟨by simpa [D.pl, toPy] using h, by simp [toPy, PyData.depth]⟩
  | 0, .tup l, h => by simp [D.pl] at h
  | n + 1, .tup l, h => by
    have := pl_shapedL n l (by simpa [D.pl] using h)
    exact ⟨by simpa [toPy, PyData.canLay0] using this.1, by simp only [toPy, PyData.depth]; omega⟩
  | 0, .lst l, h => by simp [D.pl] at h
  | n + 1, .lst l, h => by
    have := pl_shapedL n l (by simpa [D.pl] using h)
    exact ⟨by simpa [toPy, PyData.canLay0] using this.1, by simp only [toPy, PyData.depth]; omega⟩
  | n, .dic l, h => by simp [D.pl] at h
  | n, .opq l, h => by simp [D.pl] at h
  | n, .ftp l, h => by simp [D.pl] at h
  | n, .exc _ _ _, h => by simp [D.pl] at h
  | n, .lam _ _, h => by simp [D.pl] at h
  | n, .ins _ _ _, h => by simp [D.pl] at h
  | n, .dit _, h => by simp [D.pl] at h
theorem pl_shapedL : ∀ (n : Nat) (l : List D), D.plL n l = true → PyData.canLayAll0 (toPyL l) = true ∧ PyData.depthAll (toPyL l) ≤ n
  | n, [], _ => ⟨rfl, by simp [toPyL, PyData.depthAll]⟩
  | n, d :: r, h => by
    have h' : d.pl n = true ∧ D.plL n r = true := by simpa [D.plL] using h
    have a := pl_shaped n d h'.1
    have b := pl_shapedL n r h'.2
    exact ⟨by simp only [toPyL, PyData.canLayAll0, a.1, b.1, Bool.and_self], by simp only [toPyL, PyData.depthAll]; omega⟩
end
mutual
theorem eqv_pl : ∀ (n m : Nat) (d e : D), d.pl n = true → e.pl m = true → (PyData.eqv (toPy d) (toPy e) = true ↔ d = e)
  | n, m, .non, e, h, h' => by cases e <;> simp [toPy, PyData.eqv, D.pl] at h h' ⊢
  | n, m, .bl b, e, h, h' => by simp [D.pl] at h
  | n, m, .int i, e, h, h' => by cases e <;> simp [toPy, PyData.eqv, D.pl] at h h' ⊢
  | n, m, .str s, e, h, h' => by cases e <;> simp [toPy, PyData.eqv, D.pl] at h h' ⊢
  | 0, m, .tup l, e, h, h' => by simp [D.pl] at h
  | n + 1, m, .tup l, e, h, h' => by
    cases e with
    | tup r =>
      cases m with
      | zero => simp [D.pl] at h'
      | succ m =>
        have := eqv_plL n m l r (by simpa [D.pl] using h) (by simpa [D.pl] using h')
        simp only [toPy, PyData.eqv, this, D.tup.injEq]
    | _ => simp [toPy, PyData.eqv, D.pl] at h h' ⊢
  | 0, m, .lst l, e, h, h' => by simp [D.pl] at h
  | n + 1, m, .lst l, e, h, h' => by
    cases e with
    | lst r =>
      cases m with
      | zero => simp [D.pl] at h'
      | succ m =>
        have := eqv_plL n m l r (by simpa [D.pl] using h) (by simpa [D.pl] using h')
        simp only [toPy, PyData.eqv, this, D.lst.injEq]
    | _ => simp [toPy, PyData.eqv, D.pl] at h h' ⊢
  | n, m, .dic l, e, h, h' => by simp [D.pl] at h
  | n, m, .opq l, e, h, h' => by simp [D.pl] at h
  | n, m, .ftp l, e, h, h' => by simp [D.pl] at h
  | n, m, .exc _ _ _, e, h, h' => by simp [D.pl] at h
  | n, m, .lam _ _, e, h, h' => by simp [D.pl] at h
  | n, m, .ins _ _ _, e, h, h' => by simp [D.pl] at h
  | n, m, .dit _, e, h, h' => by simp [D.pl] at h
theorem eqv_plL : ∀ (n m : Nat) (l r : List D), D.plL n l = true → D.plL m r = true → (PyData.eqvAll (toPyL l) (toPyL r) = true ↔ l = r)
  | n, m, [], [], _, _ => by simp [toPyL, PyData.eqvAll]
  | n, m, [], e :: r, _, _ => by simp [toPyL, PyData.eqvAll]
  | n, m, d :: l, [], _, _ => by simp [toPyL, PyData.eqvAll]
  | n, m, d :: l, e :: r, h, h' => by
    have h1 : d.pl n = true ∧ D.plL n l = true := by simpa [D.plL] using h
    have h2 : e.pl m = true ∧ D.plL m r = true := by simpa [D.plL] using h'
    have a := eqv_pl n m d e h1.1 h2.1
    have b := eqv_plL n m l r h1.2 h2.2
    simp only [toPyL, PyData.eqvAll, Bool.and_eq_true, a, b, List.cons.injEq]
end
mutual
theorem Rp.dp {K : PySem.W.Frag} {A : At} {H : Hp} (hA : ∀ a o, A a o → Rk H a o) : ∀ {v : V} {d : D} (n : Nat), d.pl n = true → Rp A v d → Dp K H v (toPy d)
  | _, _, _, _, .non => .non
  | _, _, _, _, .bl b => .bl b
  | _, _, _, _, .int i => .int i
  | _, _, _, _, .str s => .str s
  | _, .opq _, n, h, _ => by simp [D.pl] at h
  | _, _, 0, h, .tup e r => by simp [D.pl] at h
  | _, _, n + 1, h, .tup e r => .tup (.inl (rk_tup (hA _ _ e))) (RpL.dp hA n (by simpa [D.pl] using h) r)
  | _, _, 0, h, .lst e r => by simp [D.pl] at h
  | _, _, n + 1, h, .lst e r => .lst (.inl (.inl (rk_lst (hA _ _ e)))) (RpL.dp hA n (by simpa [D.pl] using h) r)
  | _, _, n, h, .dic e r => by simp [D.pl] at h
  | _, _, n, h, .ftp e d r => by simp [D.pl] at h
  | _, _, n, h, .exc0 e => by simp [D.pl] at h
  | _, _, n, h, .exc1 e d l r => by simp [D.pl] at h
  | _, _, n, h, .lam e u => by simp [D.pl] at h
  | _, _, n, h, .ins e l r => by simp [D.pl] at h
theorem RpL.dp {K : PySem.W.Frag} {A : At} {H : Hp} (hA : ∀ a o, A a o → Rk H a o) : ∀ {v : List V} {d : List D} (n : Nat), D.plL n d = true → RpL A v d → DpAll K H v (toPyL d)
  | _, _, _, _, .nil => .nil
  | _, _, n, h, .cons a r => by
    simp only [D.plL, Bool.and_eq_true] at h
    exact .cons (Rp.dp hA n h.1 a) (RpL.dp hA n h.2 r)
end
theorem Rr.dp {K : PySem.W.Frag} {G : Cfg} {O : Addr → Prop} {H : Hp} {v : V} {d : D} {n : Nat} (h : d.pl n = true) (r : Rr G O H v d) : Dp K H v (toPy d) := by
  cases r with
  | dat r => exact r.dp (fun _ _ z => z.1) n h
  | own e z r =>
    cases n with
    | zero => simp [D.pl] at h
    | succ n => exact .lst (.inl (.inl e)) (r.dp (fun _ _ z => z.1) n (by simpa [D.pl] using h))
  | owd e z r => simp [D.pl] at h
section
variable {C : Wd → XC → Prop} {K : PySem.W.Frag} {te ta tb tc tk ti to : TE} {tt tu : TT} {t tr : TA} {m ma mb mc mk mi : EM} {mt mu : TM} {mx my : XM} {am ar : AM} {i j c c1 c2 c3 : Nat} {ts tz : TS} {sm sz : SM}
/-- == of plain data: the answer is whether they are one -/
def kEqD (p : Bool → Bool) : D → D → (D → Prop) → Prop := fun x y Q => x.pl 60 = true ∧ y.pl 60 = true ∧ (x = y → Q (.bl (p true))) ∧ (x ≠ y → Q (.bl (p false)))
theorem shaped_pl {d : D} (h : d.pl 60 = true) : SeqAt.shaped (toPy d) = true := by
  have := pl_shaped 60 d h
  show ((toPy d).canLay0 && decide ((toPy d).depth ≤ 64)) = true
  rw [this.1, Bool.true_and]
  exact decide_eq_true (by omega)
theorem k2_eqD : K2 C (rEqD K) (kEqD id) := fun G _ n O H x y d e Qd Q W rx ry ⟨h1, h2, h3, h4⟩ q => by
  refine ⟨_, _, rx.dp h1, ry.dp h2, shaped_pl h1, shaped_pl h2, ?_⟩
  by_cases e' : d = e
  · rw [(eqv_pl 60 60 d e h1 h2).mpr e']
    exact q _ _ H (h3 e') (Grow.refl _ _) W.ok (.bl true)
  · have : PyData.eqv (toPy d) (toPy e) = false := by
      cases q : PyData.eqv (toPy d) (toPy e) with
      | false => rfl
      | true => exact absurd ((eqv_pl 60 60 d e h1 h2).mp q) e'
    rw [this]
    exact q _ _ H (h4 e') (Grow.refl _ _) W.ok (.bl false)
theorem k2_neD : K2 C (rNeD K) (kEqD not) := fun G _ n O H x y d e Qd Q W rx ry ⟨h1, h2, h3, h4⟩ q => by
  refine ⟨_, _, rx.dp h1, ry.dp h2, shaped_pl h1, shaped_pl h2, ?_⟩
  by_cases e' : d = e
  · rw [(eqv_pl 60 60 d e h1 h2).mpr e']
    exact q _ _ H (h3 e') (Grow.refl _ _) W.ok (.bl false)
  · have : PyData.eqv (toPy d) (toPy e) = false := by
      cases q : PyData.eqv (toPy d) (toPy e) with
      | false => rfl
      | true => exact absurd ((eqv_pl 60 60 d e h1 h2).mp q) e'
    rw [this]
    exact q _ _ H (h4 e') (Grow.refl _ _) W.ok (.bl true)
/-! ### in, not in, index: ints -/
def kInI (p : Bool → Bool) : D → D → (D → Prop) → Prop := fun x y Q => ∃ (i : Int) (ns : List Int), x = .int i ∧ (y = .lst (ns.map D.int) ∨ y = .tup (ns.map D.int)) ∧ Q (.bl (p (decide (i ∈ ns))))
theorem flat_ints (ns : List Int) : (ns.map V.int).all flatV = true := by induction ns with | nil => rfl | cons n ns ih => simp [flatV, ih]
theorem inV_ints (i : Int) (ns : List Int) : inV (.int i) (ns.map V.int) = decide (i ∈ ns) := by
  unfold inV
  rw [List.any_map]
  induction ns with
  | nil => rfl
  | cons n ns ih =>
    rw [List.any_cons, ih]
    simp only [Function.comp, eqV, List.mem_cons, Bool.decide_or]
    congr 1
    by_cases h : n = i
    · subst h; simp
    · rw [beq_eq_false_iff_ne.mpr h, decide_eq_false fun z => h z.symm]
theorem k2_in : K2 C (rIn K false) (kInI id) := fun G _ n O H x y d e Qd Q W rx ry ⟨i, ns, e1, e2, h⟩ q => by
  subst e1
  cases rx.int
  have fin := q _ _ H h (Grow.refl _ _) W.ok (.bl _)
  rcases e2 with e2 | e2
  · subst e2
    obtain ⟨a, xs, rfl, e, r⟩ := ry.list
    rw [r.ints] at e
    exact ⟨a, _, rfl, .inl (sqL e), rfl, flat_ints ns, by rw [inV_ints]; exact fin⟩
  · subst e2
    obtain ⟨a, xs, rfl, e, r⟩ := ry.tuple
    rw [r.ints] at e
    exact ⟨a, _, rfl, .inr (sqT e), rfl, flat_ints ns, by rw [inV_ints]; exact fin⟩
theorem k2_notIn : K2 C (rIn K true) (kInI not) := fun G _ n O H x y d e Qd Q W rx ry ⟨i, ns, e1, e2, h⟩ q => by
  subst e1
  cases rx.int
  have fin := q _ _ H h (Grow.refl _ _) W.ok (.bl _)
  rcases e2 with e2 | e2
  · subst e2
    obtain ⟨a, xs, rfl, e, r⟩ := ry.list
    rw [r.ints] at e
    exact ⟨a, _, rfl, .inl (sqL e), rfl, flat_ints ns, by rw [inV_ints]; exact fin⟩
  · subst e2
    obtain ⟨a, xs, rfl, e, r⟩ := ry.tuple
    rw [r.ints] at e
    exact ⟨a, _, rfl, .inr (sqT e), rfl, flat_ints ns, by rw [inV_ints]; exact fin⟩
theorem idx_take (i : Int) : ∀ ns : List Int, ¬ i ∈ ns.take (ns.idxOf i)
  | [] => by simp
  | n :: ns => by
    rw [List.idxOf_cons]
    by_cases h : n = i
    · subst h; simp
    · rw [beq_eq_false_iff_ne.mpr h]
      simp only [cond_false, List.take_succ_cons, List.mem_cons, not_or]
      exact ⟨fun z => h z.symm, idx_take i ns⟩
/-- a method of a list that is read -/
def KM (C : Wd → XC → Prop) (r : V → List V → Hp → VK → Prop) (k : D → List D → (D → Prop) → Prop) : Prop := ∀ G, C G.w G.x → ∀ n O H x vs d ds (Qd : D → Prop) (Q : VK), Wl G n O H → Rr G O H x d → RpL (Sh O H) vs ds → k d ds Qd →
  (∀ z v H', Qd z → Grow G.w H H' → G.w.ok n H' → Rp (Sh O H') v z → Q v H') → r x vs H Q
def mBM (mo : EM) (a : AM) (k : D → List D → (D → Prop) → Prop) : EM := fun env Q => mo env fun x => (match x with | .lst _ => True | _ => False) ∧ a env fun ds => k x ds Q
theorem se_bm {r : V → List V → Hp → VK → Prop} {k : D → List D → (D → Prop) → Prop} (ho : SR C c1 to m) (ha : SA C c2 t am) (hk : KM C r k) : SE C (c1 + c2) (tBM K "list" r to t) (mBM m am k) := fun G c n O env σ H Qd Q hL F hm q =>
  ho G c n O env σ H _ _ (by omega) F hm fun d x H1 ⟨hl, h1⟩ g1 ok1 r1 => by
    split at hl
    · obtain ⟨a, xs, ex, e, _⟩ := r1.list
      have ty : tyV K "list" x H1 := by subst ex; exact .inl ⟨rfl, xs, sqL e⟩
      exact ⟨ty, ha G c _ O env σ H1 _ _ (by omega) (F.grow g1 ok1) h1 fun ds vs H2 h2 g2 ok2 r2 => hk G c _ O H2 _ vs _ ds Qd Q ((F.wl.grow g1 ok1).grow g2 ok2) (r1.grow (F.wl.grow g1 ok1) g2) r2 h2 fun z w H3 h3 g3 ok3 r3 => q z w H3 h3 (g1.trans (g2.trans g3)) (by rw [← Nat.add_assoc]; exact ok3) r3⟩
    · exact hl.elim
def kIndexI : D → List D → (D → Prop) → Prop := fun x ds Q => ∃ (i : Int) (ns : List Int), x = .lst (ns.map D.int) ∧ ds = [.int i] ∧ i ∈ ns ∧ Q (.int (ns.idxOf i))
theorem km_index : KM C (rIndex K) kIndexI := fun G _ n O H x vs d ds Qd Q W rx rv ⟨i, ns, e1, e2, hi, h⟩ q => by
  subst e1; subst e2
  obtain ⟨a, xs, rfl, e, r⟩ := rx.list
  rw [r.ints] at e
  cases rv with
  | cons r1 r2 =>
    cases r1; cases r2
    have hlt : ns.idxOf i < ns.length := List.idxOf_lt_length_iff.mpr hi
    refine ⟨a, _, .int i, ns.idxOf i, .int i, rfl, rfl, sqL e, rfl, flat_ints ns, ?_, by simp [eqV], fun k z hk hz => ?_, q _ _ H h (Grow.refl _ _) W.ok (.int _)⟩
    · rw [List.getElem?_map, List.getElem?_eq_getElem hlt, List.getElem_idxOf hlt]; rfl
    · rw [List.getElem?_map] at hz
      have hkl : k < ns.length := by omega
      rw [List.getElem?_eq_getElem hkl] at hz
      cases hz
      have : ¬ ns[k] = i := fun z => by
        have hm : i ∈ ns.take (ns.idxOf i) := by
          rw [List.mem_take_iff_getElem]
          exact ⟨k, by omega, z⟩
        exact idx_take i ns hm
      simpa [eqV] using this
end
end PL

namespace PL
open PySem L2
section
variable {C : Wd → XC → Prop} {K : PySem.W.Frag} {te ta tb tc tk ti to : TE} {tt tu : TT} {t tr : TA} {m ma mb mc mk mi : EM} {mt mu : TM} {mx my : XM} {am ar : AM} {i j c c1 c2 c3 : Nat} {ts tz : TS} {sm sz : SM}
/-! ### lists and tuples put together -/
def KL2 (C : Wd → XC → Prop) (r : R2) (k : D → D → (List D → Prop) → Prop) : Prop := ∀ G, C G.w G.x → ∀ n O H x y d e (Qd : List D → Prop) (Q : VK), Wl G n O H → Rr G O H x d → Rr G O H y e → k d e Qd →
  (∀ z a xs H', Qd z → Grow G.w H H' → G.w.ok n H' → H a = none → H' a = some (.lst xs) → RpL (Sh (fun b => O b ∨ b = a) H') xs z → Q (.ref a) H') → r x y H Q
def ml2 (ma mb : EM) (k : D → D → (List D → Prop) → Prop) : AM := fun env Q => ma env fun x => mb env fun y => k x y Q
theorem sl_op {r : R2} {k : D → D → (List D → Prop) → Prop} (ha : SR C c1 ta ma) (hb : SR C c2 tb mb) (hk : KL2 C r k) : SL C (c1 + c2) (tOp r ta tb) (ml2 ma mb k) := fun G c n O env σ H Qd Q hL F hm q =>
  ha G c n O env σ H _ _ (by omega) F hm fun x v H1 h1 g1 ok1 r1 => hb G c _ O env σ H1 _ _ (by omega) (F.grow g1 ok1) h1 fun y u H2 h2 g2 ok2 r2 =>
    hk G c _ O H2 v u x y Qd Q ((F.wl.grow g1 ok1).grow g2 ok2) (r1.grow (F.wl.grow g1 ok1) g2) r2 h2 fun z a xs H3 h3 g3 ok3 n e r3 => q z a xs H3 h3 (g1.trans (g2.trans g3)) (by rw [← Nat.add_assoc]; exact ok3) (g1.free ok1 (g2.free ok2 n)) e r3
def kCatL : D → D → (List D → Prop) → Prop := fun x y Q => match x, y with | .lst a, .lst b => a.length + b.length ≤ sizeLine ∧ Q (a ++ b) | _, _ => False
theorem kl_cat : KL2 C rCat kCatL := fun G _ n O H x y d e Qd Q W rx ry hk q => by
  unfold kCatL at hk
  split at hk
  · obtain ⟨a, xs, rfl, e1, r1⟩ := rx.list
    obtain ⟨b, ys, rfl, e2, r2⟩ := ry.list
    exact ⟨a, b, xs, ys, rfl, rfl, e1, e2, by rw [r1.length, r2.length]; exact hk.1, fun p hp => q _ p _ _ hk.2 (Grow.new _ hp) (Wd.okNew hp W.ok) hp upd_same ((r1.append r2).mono (add_le (G := G) hp))⟩
  · exact hk.elim
theorem RpL.flat {A : At} {xs : List V} {ds : List D} (r : RpL A xs ds) : ∀ n : Nat, RpL A (List.replicate n xs).flatten (List.replicate n ds).flatten
  | 0 => .nil
  | n + 1 => by
    rw [List.replicate_succ, List.replicate_succ, List.flatten_cons, List.flatten_cons]
    exact r.append (RpL.flat r n)
def kRepL : D → D → (List D → Prop) → Prop := fun x y Q => match x, y with | .lst a, .int k => (-(2 ^ 63) ≤ k ∧ k < 2 ^ 63 ∧ a.length * k.toNat ≤ sizeLine) ∧ Q (List.replicate k.toNat a).flatten | _, _ => False
theorem kl_rep : KL2 C rRep kRepL := fun G _ n O H x y d e Qd Q W rx ry hk q => by
  unfold kRepL at hk
  split at hk
  · obtain ⟨a, xs, rfl, e1, r1⟩ := rx.list
    cases ry.int
    obtain ⟨⟨h1, h2, h3⟩, hq⟩ := hk
    exact ⟨a, _, xs, rfl, rfl, e1, h1, h2, by rw [r1.length]; exact h3, fun p hp => q _ p _ _ hq (Grow.new _ hp) (Wd.okNew hp W.ok) hp upd_same ((r1.flat _).mono (add_le (G := G) hp))⟩
  · exact hk.elim
def kCatT : D → D → (D → Prop) → Prop := fun x y Q => match x, y with | .tup a, .tup b => a.length + b.length ≤ sizeLine ∧ Q (.tup (a ++ b)) | _, _ => False
theorem Rr.tup' {G : Cfg} {O : Addr → Prop} {H : Hp} {v : V} {ds : List D} (r : Rr G O H v (.tup ds)) : Rp (Sh O H) v (.tup ds) := by
  cases r with | dat r => exact r
theorem k2_catT : K2 C (rCatA K) kCatT := fun G _ n O H x y d e Qd Q W rx ry hk q => by
  unfold kCatT at hk
  split at hk
  · rename_i a b
    have qx := rx.tup'
    have qy := ry.tup'
    obtain ⟨p1, xs, rfl, e1, r1⟩ := rx.tuple
    obtain ⟨p2, ys, rfl, e2, r2⟩ := ry.tuple
    refine ⟨p1, p2, xs, ys, rfl, rfl, sqT e1, sqT e2, by rw [r1.length, r2.length]; exact hk.1, fun z => ?_, fun _ z => ?_, fun _ _ p hp => q _ _ _ hk.2 (Grow.new _ hp) (Wd.okNew hp W.ok) (new_tup W hp (r1.append r2))⟩
    · subst z
      cases r1
      exact q _ _ H hk.2 (Grow.refl _ _) W.ok qy
    · subst z
      cases r2
      have := hk.2
      rw [List.append_nil] at this
      exact q _ _ H this (Grow.refl _ _) W.ok qx
  · exact hk.elim
/-! ### slices -/
def SO (C : Wd → XC → Prop) (c : Nat) (t : TO) (m : Ev → (Option Int → Prop) → Prop) : Prop := ∀ G, C G.w G.x → ∀ n O env σ H (Qd : Option Int → Prop) (Q : Option Int → Hp → Prop), n + c ≤ G.x.lim → Fr G n O env σ H → m env Qd → (∀ b H', Qd b → Grow G.w H H' → G.w.ok (n + c) H' → Q b H') → t σ H Q
def oNone : Ev → (Option Int → Prop) → Prop := fun _ Q => Q none
def oSome (m : EM) : Ev → (Option Int → Prop) → Prop := fun env Q => m env fun d => match d with | .int i => Q (some i) | _ => False
theorem so_none : SO C 0 tNoPart oNone := fun G _ n O env σ H Qd Q hL F hm k => k none H hm (Grow.refl _ _) F.wl.ok
theorem so_some (h : SE C c te m) : SO C c (tPart te) (oSome m) := fun G c n O env σ H Qd Q hL F hm k =>
  h G c n O env σ H _ _ hL F hm fun d v H1 h1 g1 ok1 r1 => by
    split at h1
    · cases r1; exact ⟨_, rfl, k _ H1 h1 g1 ok1⟩
    · exact h1.elim
/-- the items of xs[lo:hi] -/
def cutD (ds : List D) (lo hi : Option Int) : List D := (ds.drop (HT.sIx ds.length 0 lo)).take (HT.sIx ds.length ds.length hi - HT.sIx ds.length 0 lo)
theorem RpL.cut {A : At} {xs : List V} {ds : List D} (r : RpL A xs ds) (lo hi : Option Int) : RpL A (cutV xs lo hi) (cutD ds lo hi) := by
  unfold cutV cutD
  rw [r.length]
  exact (r.drop _).take _
variable {tl th : TO} {ol oh : Ev → (Option Int → Prop) → Prop}
def mSlL (m : EM) (l h : Ev → (Option Int → Prop) → Prop) : AM := fun env Q => m env fun x => l env fun a => h env fun b => match x with | .lst ds => Q (cutD ds a b) | _ => False
theorem sl_slL (h : SR C c1 te m) (h1 : SO C c2 tl ol) (h2 : SO C c3 th oh) : SL C (c1 + (c2 + c3)) (tSl (rSlL K) te tl th) (mSlL m ol oh) := fun G c n O env σ H Qd Q hL F hm q =>
  h G c n O env σ H _ _ (by omega) F hm fun x v H1 q1 g1 ok1 r1 => h1 G c _ O env σ H1 _ _ (by omega) (F.grow g1 ok1) q1 fun a H2 q2 g2 ok2 => h2 G c _ O env σ H2 _ _ (by omega) ((F.grow g1 ok1).grow g2 ok2) q2 fun b H3 q3 g3 ok3 => by
    rw [Nat.add_assoc, Nat.add_assoc, ← Nat.add_assoc c1, Nat.add_assoc c1] at ok3
    split at q3
    · obtain ⟨p, xs, rfl, e, r⟩ := ((r1.grow (F.wl.grow g1 ok1) g2).grow ((F.wl.grow g1 ok1).grow g2 ok2) g3).list
      exact ⟨p, xs, rfl, sqL e, fun u hu => q _ u _ _ q3 ((g1.trans (g2.trans g3)).trans (Grow.new _ hu)) (Wd.okNew hu ok3) (g1.free ok1 (g2.free ok2 (g3.free ok3 hu))) upd_same ((r.cut _ _).mono (add_le (G := G) hu))⟩
    · exact q3.elim
def mSlT (m : EM) (l h : Ev → (Option Int → Prop) → Prop) : EM := fun env Q => m env fun x => l env fun a => h env fun b => match x with | .tup ds => Q (.tup (cutD ds a b)) | _ => False
theorem cut_whole {ds : List D} {lo hi : Option Int} (h : HT.sIx ds.length 0 lo = 0 ∧ HT.sIx ds.length ds.length hi = ds.length) : cutD ds lo hi = ds := by
  unfold cutD
  rw [h.1, h.2, List.drop_zero, Nat.sub_zero, List.take_length]
theorem se_slT (h : SR C c1 te m) (h1 : SO C c2 tl ol) (h2 : SO C c3 th oh) : SE C (c1 + (c2 + c3)) (tSl (rSlA K) te tl th) (mSlT m ol oh) := fun G c n O env σ H Qd Q hL F hm q =>
  h G c n O env σ H _ _ (by omega) F hm fun x v H1 q1 g1 ok1 r1 => h1 G c _ O env σ H1 _ _ (by omega) (F.grow g1 ok1) q1 fun a H2 q2 g2 ok2 => h2 G c _ O env σ H2 _ _ (by omega) ((F.grow g1 ok1).grow g2 ok2) q2 fun b H3 q3 g3 ok3 => by
    have W3 := ((F.wl.grow g1 ok1).grow g2 ok2).grow g3 ok3
    rw [Nat.add_assoc, Nat.add_assoc, ← Nat.add_assoc c1, Nat.add_assoc c1] at ok3
    split at q3
    · have rr := (r1.grow (F.wl.grow g1 ok1) g2).grow ((F.wl.grow g1 ok1).grow g2 ok2) g3
      have qx := rr.tup'
      obtain ⟨p, xs, rfl, e, r⟩ := rr.tuple
      have gg := g1.trans (g2.trans g3)
      refine ⟨p, xs, rfl, sqT e, fun z => ?_, fun _ u hu => q _ _ _ q3 (gg.trans (Grow.new _ hu)) (Wd.okNew hu ok3) (new_tup W3 hu (r.cut _ _))⟩
      rw [r.length] at z
      rw [cut_whole z] at q3
      exact q _ _ H3 q3 gg ok3 qx
    · exact q3.elim
/-! ### one-place operators, calls of numbers, chains -/
def mNeg (m : EM) : EM := fun env Q => m env fun d => match d with | .int i => Q (.int (-i)) | _ => False
theorem se_neg (h : SE C c te m) : SE C c (tUn (rU fun i => .int (-i)) te) (mNeg m) := fun G c n O env σ H Qd Q hL F hm k =>
  h G c n O env σ H _ _ hL F hm fun d v H1 h1 g1 ok1 r1 => by
    split at h1
    · cases r1; exact ⟨_, rfl, k _ _ H1 h1 g1 ok1 (.int _)⟩
    · exact h1.elim
def kInt1 : List D → (D → Prop) → Prop := fun ds Q => match ds with | [.int i] => Q (.int i) | _ => False
theorem kc_int1 : KC C (fun xs H Q => (∃ i, xs = [.int i] ∧ Q (.int i) H) ∨ ∃ k, xs = [.bl k] ∧ Q (.int (if k then 1 else 0)) H) kInt1 := fun G _ n O H vs ds Qd Q W r h q => by
  unfold kInt1 at h
  split at h
  · obtain ⟨v, rfl, r1⟩ := r.one
    cases r1.int
    exact .inl ⟨_, rfl, q _ _ H h (Grow.refl _ _) W.ok (.int _)⟩
  · exact h.elim
def kAbs : List D → (D → Prop) → Prop := fun ds Q => match ds with | [.int i] => Q (.int (if i < 0 then -i else i)) | _ => False
theorem kc_abs : KC C (fun xs H Q => ∃ i, xs = [.int i] ∧ Q (.int (if i < 0 then -i else i)) H) kAbs := fun G _ n O H vs ds Qd Q W r h q => by
  unfold kAbs at h
  split at h
  · obtain ⟨v, rfl, r1⟩ := r.one
    cases r1.int
    exact ⟨_, rfl, q _ _ H h (Grow.refl _ _) W.ok (.int _)⟩
  · exact h.elim
/-- a op b op c, each answer a truth value by ints -/
def mChain (ma mb mc : EM) (p q : Int → Int → Bool) : EM := fun env Q => ma env fun x => mb env fun y => match x, y with
  | .int a, .int b => if p a b = true then mc env fun z => (match z with | .int c => Q (.bl (q b c)) | _ => False) else Q (.bl false)
  | _, _ => False
theorem se_chain {p q : Int → Int → Bool} (ha : SE C c1 ta ma) (hb : SE C c2 tb mb) (hc : SE C c3 tc mc) : SE C (c1 + (c2 + c3)) (tChain (rI0 fun i j => .bl (p i j)) (rI0 fun i j => .bl (q i j)) ta tb tc) (mChain ma mb mc p q) := fun G c n O env σ H Qd Q hL F hm k =>
  ha G c n O env σ H _ _ (by omega) F hm fun x v H1 h1 g1 ok1 r1 => hb G c _ O env σ H1 _ _ (by omega) (F.grow g1 ok1) h1 fun y u H2 h2 g2 ok2 r2 => by
    split at h2
    · rename_i a b
      cases r1; cases r2
      refine ⟨_, _, rfl, rfl, p a b, rfl, ?_⟩
      by_cases hp : p a b = true
      · rw [hp]
        rw [if_pos hp] at h2
        refine iteT (hc G c _ O env σ H2 _ _ (by omega) ((F.grow g1 ok1).grow g2 ok2) h2 fun z w H3 h3 g3 ok3 r3 => ?_)
        rw [Nat.add_assoc, Nat.add_assoc, ← Nat.add_assoc c1, Nat.add_assoc c1] at ok3
        split at h3
        · cases r3
          exact ⟨_, _, rfl, rfl, k _ _ H3 h3 (g1.trans (g2.trans g3)) ok3 (.bl _)⟩
        · exact h3.elim
      · rw [if_neg hp] at h2
        rw [Bool.eq_false_iff.mpr hp]
        exact iteF (k _ _ H2 h2 (g1.trans g2) (ok_le (by omega) (ok_as ok2)) (.bl false))
    · exact h2.elim
/-! ### isinstance -/
def D.ty : D → Option String
  | .non => some "NoneType"
  | .bl _ => some "bool"
  | .int _ => some "int"
  | .str _ => some "str"
  | .tup _ => some "tuple"
  | .lst _ => some "list"
  | .dic _ => some "dict"
  | .opq _ => none
  | .ftp _ => some "tuple"
  | .exc _ _ _ => none
  | .lam _ _ => none
  | .ins _ _ _ => none
  | .dit _ => none
theorem dgetK {H : Hp} {a : Addr} {kvs : List (Key × V)} {k : Key} (e : Rk H a (.dK kvs)) : DGet H a (kV k) (valV kvs k) := .inl ⟨kvs, k, rk_rd e, rfl, rfl⟩
theorem Rr.tyOf {G : Cfg} {O : Addr → Prop} {H : Hp} {v : V} {d : D} {s : String} (r : Rr G O H v d) (h : d.ty = some s) : TyX K H v (.type s) := by
  cases r with
  | dat r =>
    cases r with
    | non => cases h; exact .base .non
    | bl b => cases h; exact .base (.bl b)
    | int b => cases h; exact .base (.int b)
    | str b => cases h; exact .base (.str b)
    | opq v => cases h
    | tup e r =>
      cases h
      rcases rk_tup e.1 with e | ⟨_, e⟩
      · exact .base (.tup e)
      · exact .fTuple e
    | ftp e d r => cases h; exact .fTuple (rk_frz e.1)
    | exc0 e => cases h
    | exc1 e d l r => cases h
    | lam e u => cases h
    | ins e l r => cases h
    | dit e r => cases h
    | lst e r => cases h; exact .base (.lst (rk_lst e.1))
    | dic e r =>
      cases h
      rcases e.1 with e | ⟨_, _, _, e⟩
      · exact .base (.dK e)
      · exact .fDict e
  | own e z r => cases h; exact .base (.lst e)
  | owd e z r => cases h; exact .base (.dK e)
/-- is a value of the type a an instance of b -/
def tyIs (a b : String) : Bool := a == b || (a == "bool" && b == "int")
theorem kitB_int : ∀ a ∈ ["NoneType", "bool", "int", "str", "tuple", "list", "dict"], ∀ b ∈ ["bool", "int", "str", "tuple", "list", "dict"], kitB a b = some (tyIs a b) := by decide +kernel
def kIsi (T : String) : List D → (D → Prop) → Prop := fun ds Q => match ds with
  | [d, .opq (.ty b)] => b = T ∧ (match d.ty with | some a => Q (.bl (tyIs a T)) | none => False)
  | _ => False
theorem kc_isi {T : String} (hT : T ∈ ["bool", "int", "str", "tuple", "list", "dict"]) : KC C (rIsi K) (kIsi T) := fun G _ n O H vs ds Qd Q W r h q => by
  unfold kIsi at h
  split at h
  · rename_i d b
    obtain ⟨v, w, rfl, r1, r2⟩ := r.two
    have ew : w = .ty b := by
      cases r2 with | dat r => cases r; rfl
    subst ew
    obtain ⟨rfl, h⟩ := h
    split at h
    · rename_i a ha
      have hin : a ∈ ["NoneType", "bool", "int", "str", "tuple", "list", "dict"] := by
        cases d <;> cases ha <;> decide
      exact ⟨v, _, _, _, _, rfl, .ty b, r1.tyOf ha, kit_ty (kitB_int a hin b hT), q _ _ H h (Grow.refl _ _) W.ok (.bl _)⟩
    · exact h.elim
  · exact h.elim
/-! ### dicts -/
def D.key : D → Option Key
  | .int i => some (.inl i)
  | .str s => some (.inr s)
  | _ => none
def getD (kvs : List (Key × D)) (k : Key) : Option D := (kvs.find? fun kv => decide (kv.1 = k)).map (·.2)
theorem RpD.get {A : At} {k : Key} : ∀ {xs : List (Key × V)} {ds : List (Key × D)}, RpD A xs ds → (match getD ds k with | some d => ∃ v, valV xs k = some v ∧ Rp A v d | none => valV xs k = none)
  | _, _, .nil => rfl
  | _, _, @RpD.cons _ k' v xs d ds a r => by
    unfold getD valV
    rw [List.find?_cons, List.find?_cons]
    by_cases h : k' = k
    · rw [decide_eq_true h]
      exact ⟨v, rfl, a⟩
    · rw [decide_eq_false h]
      exact RpD.get r
theorem Rr.key {G : Cfg} {O : Addr → Prop} {H : Hp} {v : V} {d : D} {k : Key} (r : Rr G O H v d) (h : d.key = some k) : v = kV k := by
  cases d <;> cases h
  · cases r.int; rfl
  · cases r.str; rfl
def mGet (md mk : EM) : EM := fun env Q => md env fun x => mk env fun y => match x, y.key with
  | .dic kvs, some k => (match getD kvs k with | some d => Q d | none => False)
  | _, _ => False
theorem se_get (hd : SR C c1 ta m) (hk : SE C c2 tk mk) : SE C (c1 + c2) (tDGet ta tk) (mGet m mk) := fun G c n O env σ H Qd Q hL F hm q =>
  hd G c n O env σ H _ _ (by omega) F hm fun x v H1 h1 g1 ok1 r1 => hk G c _ O env σ H1 _ _ (by omega) (F.grow g1 ok1) h1 fun y u H2 h2 g2 ok2 r2 => by
    split at h2
    · rename_i kvs k hk'
      have W2 := (F.wl.grow g1 ok1).grow g2 ok2
      obtain ⟨a, xs, rfl, e, r⟩ := (r1.grow (F.wl.grow g1 ok1) g2).dict
      have eu := (Rr.dat (G := G) r2).key hk'
      subst eu
      have := r.get (k := k)
      split at h2
      · rename_i d hg
        rw [hg] at this
        obtain ⟨w, hw, rw'⟩ := this
        exact ⟨a, w, rfl, by rw [← hw]; exact dgetK e, q _ _ H2 h2 (g1.trans g2) (ok_as ok2) rw'⟩
      · exact h2.elim
    · exact h2.elim
def mInD (p : Bool → Bool) (mk md : EM) : EM := fun env Q => mk env fun y => md env fun x => match x, y.key with
  | .dic kvs, some k => Q (.bl (p (getD kvs k).isSome))
  | _, _ => False
theorem se_inD (hk : SE C c1 tk mk) (hd : SR C c2 ta m) : SE C (c1 + c2) (tDIn tk ta) (mInD id mk m) := fun G c n O env σ H Qd Q hL F hm q =>
  hk G c n O env σ H _ _ (by omega) F hm fun y u H1 h1 g1 ok1 r1 => hd G c _ O env σ H1 _ _ (by omega) (F.grow g1 ok1) h1 fun x v H2 h2 g2 ok2 r2 => by
    split at h2
    · rename_i kvs k hk'
      obtain ⟨a, xs, rfl, e, r⟩ := r2.dict
      have eu := (Rr.dat (G := G) r1).key hk'
      subst eu
      have this := r.get (k := k)
      refine ⟨a, valV xs k, rfl, dgetK e, ?_⟩
      have es : (valV xs k).isSome = (getD kvs k).isSome := by
        cases hg : getD kvs k with
        | none => rw [hg] at this; rw [this]; rfl
        | some d => rw [hg] at this; obtain ⟨w, hw, _⟩ := this; rw [hw]; rfl
      rw [es]
      exact q _ _ H2 h2 (g1.trans g2) (ok_as ok2) (.bl _)
    · exact h2.elim
theorem se_notInD (hk : SE C c1 tk mk) (hd : SR C c2 ta m) : SE C (c1 + c2) (tDNotIn tk ta) (mInD not mk m) := fun G c n O env σ H Qd Q hL F hm q =>
  hk G c n O env σ H _ _ (by omega) F hm fun y u H1 h1 g1 ok1 r1 => hd G c _ O env σ H1 _ _ (by omega) (F.grow g1 ok1) h1 fun x v H2 h2 g2 ok2 r2 => by
    split at h2
    · rename_i kvs k hk'
      obtain ⟨a, xs, rfl, e, r⟩ := r2.dict
      have eu := (Rr.dat (G := G) r1).key hk'
      subst eu
      have this := r.get (k := k)
      refine ⟨a, valV xs k, rfl, dgetK e, ?_⟩
      have es : (valV xs k).isSome = (getD kvs k).isSome := by
        cases hg : getD kvs k with
        | none => rw [hg] at this; rw [this]; rfl
        | some d => rw [hg] at this; obtain ⟨w, hw, _⟩ := this; rw [hw]; rfl
      rw [es]
      exact q _ _ H2 h2 (g1.trans g2) (ok_as ok2) (.bl _)
    · exact h2.elim
end
end PL

namespace PL
open PySem PySem.Spec PyProof.Rows L2
def putD (kvs : List (Key × D)) (k : Key) (d : D) : List (Key × D) := if (kvs.any fun kv => decide (kv.1 = k)) = true then kvs.map (fun kv => if kv.1 = k then (kv.1, d) else kv) else kvs ++ [(k, d)]
theorem RpD.any {A : At} {k : Key} : ∀ {xs : List (Key × V)} {ds : List (Key × D)}, RpD A xs ds → (xs.any fun kv => decide (kv.1 = k)) = (ds.any fun kv => decide (kv.1 = k))
  | _, _, .nil => rfl
  | _, _, .cons a r => by rw [List.any_cons, List.any_cons, RpD.any r]
theorem RpD.upd {A : At} {k : Key} {v : V} {d : D} (h : Rp A v d) : ∀ {xs : List (Key × V)} {ds : List (Key × D)}, RpD A xs ds → RpD A (xs.map fun kv => if kv.1 = k then (kv.1, v) else kv) (ds.map fun kv => if kv.1 = k then (kv.1, d) else kv)
  | _, _, .nil => .nil
  | _, _, @RpD.cons _ k' v' xs d' ds a r => by
    rw [List.map_cons, List.map_cons]
    by_cases e : k' = k
    · simp only [if_pos e]; exact .cons h (RpD.upd h r)
    · simp only [if_neg e]; exact .cons a (RpD.upd h r)
theorem RpD.app {A : At} : ∀ {xs ys : List (Key × V)} {ds es : List (Key × D)}, RpD A xs ds → RpD A ys es → RpD A (xs ++ ys) (ds ++ es)
  | _, _, _, _, .nil, s => s
  | _, _, _, _, .cons a r, s => .cons a (RpD.app r s)
theorem RpD.put {A : At} {k : Key} {v : V} {d : D} {xs : List (Key × V)} {ds : List (Key × D)} (r : RpD A xs ds) (h : Rp A v d) : RpD A (putK xs k v) (putD ds k d) := by
  unfold putK putD
  rw [r.any]
  split
  · exact r.upd h
  · exact r.app (.cons h .nil)
section
variable {C : Wd → XC → Prop} {K : PySem.W.Frag} {te ta tb tc tk ti to : TE} {tt tu : TT} {t tr : TA} {m ma mb mc mk mi : EM} {mt mu : TM} {mx my : XM} {am ar : AM} {i j c c1 c2 c3 : Nat} {ts tz : TS} {sm sz : SM}
/-- d[k] = e -/
def sPutD (i : Nat) (mk m : EM) : SM := fun env P => match env[i]? with
  | some (.owd kvs) => m env fun d => mk env fun y => (match y.key with | some k => kvs.length < sizeLine ∧ P.nx (env.set i (.owd (putD kvs k d))) | none => False)
  | _ => False
theorem ss_putD (hk : SE C c2 tk mk) (h : SE C c1 te m) : SS C (c1 + c2) (sDPut (tVar i) tk te) (sPutD i mk m) := fun G c n O env σ H P D hL F hm e => by
  unfold sPutD at hm
  split at hm
  · rename_i kvs ei
    obtain ⟨v, es, s⟩ := F.sl i _ ei (by intro z; cases z)
    cases s with
    | @owd a xs _ eh oa r =>
      refine h G c n O env σ H _ _ (by omega) F hm fun d v H1 q1 g1 ok1 rv => ?_
      have F1 := F.grow g1 ok1
      refine ⟨_, es, ?_⟩
      refine hk G c _ O env σ H1 _ _ (by omega) F1 q1 fun y u H2 q2 g2 ok2 rk => ?_
      have g := g1.trans g2
      have eh2 := g _ _ eh oa.z
      have r2 := r.mono (sh_grow F.wl.zo g)
      split at q2
      · rename_i k hk'
        have eu := (Rr.dat (G := G) rk).key hk'
        subst eu
        exact ⟨a, _, rfl, DPut.k eh2 (by rw [r2.length]; exact q2.1), e.nx O _ _ _ ((sh_grow F.wl.zo g).trans (own_le oa)) ((F.grow g (ok_as ok2)).mut ei es rfl rfl oa fun H' l e' => .owd e' oa ((r2.put (rv.mono (sh_grow F.wl.zo g2))).mono l)) q2.2⟩
      · exact q2.elim
  · exact hm.elim
/-- {k: v, ..}: few entries -/
def mPairs : List (EM × EM) → Ev → (List (D × D) → Prop) → Prop
  | [], _, Q => Q []
  | (a, b) :: r, env, Q => a env fun x => b env fun y => mPairs r env fun ps => Q ((x, y) :: ps)
def mkKvs : List (D × D) → Option (List (Key × D))
  | [] => some []
  | (x, y) :: r => match x.key, mkKvs r with | some k, some kv => some ((k, y) :: kv) | _, _ => none
def mergeD (kvs more : List (Key × D)) : List (Key × D) := more.foldl (fun acc kv => putD acc kv.1 kv.2) kvs
theorem RpD.merge {A : At} : ∀ {ys : List (Key × V)} {es : List (Key × D)}, RpD A ys es → ∀ {xs : List (Key × V)} {ds : List (Key × D)}, RpD A xs ds → RpD A (mergeK xs ys) (mergeD ds es)
  | _, _, .nil, _, _, r => r
  | _, _, @RpD.cons _ k v ys d es a q, xs, ds, r => by
    show RpD A (mergeK (putK xs k v) ys) (mergeD (putD ds k d) es)
    exact RpD.merge q (r.put a)
inductive SPs (C : Wd → XC → Prop) : Nat → List (TE × TE) → List (EM × EM) → Prop
  | nil : SPs C 0 [] []
  | cons {a b c : Nat} {ta tb : TE} {ma mb : EM} {r : List (TE × TE)} {s : List (EM × EM)} : SE C a ta ma → SE C b tb mb → SPs C c r s → SPs C (a + (b + c)) ((ta, tb) :: r) ((ma, mb) :: s)
inductive RpP (A : At) : List (V × V) → List (D × D) → Prop
  | nil : RpP A [] []
  | cons {v w : V} {x y : D} {r : List (V × V)} {s : List (D × D)} : Rp A v x → Rp A w y → RpP A r s → RpP A ((v, w) :: r) ((x, y) :: s)
theorem RpP.mono {A B : At} (h : LeA A B) : ∀ {r : List (V × V)} {s : List (D × D)}, RpP A r s → RpP B r s
  | _, _, .nil => .nil
  | _, _, .cons a b r => .cons (a.mono h) (b.mono h) (RpP.mono h r)
theorem pairs_run {C : Wd → XC → Prop} {G : Cfg} (g : C G.w G.x) {O : Addr → Prop} {env : Ev} {σ : L2.St} : ∀ {c : Nat} {l : List (TE × TE)} {ms : List (EM × EM)}, SPs C c l ms → ∀ {n : Nat} {H : Hp} {Qd : List (D × D) → Prop} {Q : List (V × V) → Hp → Prop}, n + c ≤ G.x.lim → Fr G n O env σ H → mPairs ms env Qd →
    (∀ ps vs H', Qd ps → Grow G.w H H' → G.w.ok (n + c) H' → RpP (Sh O H') vs ps → Q vs H') → tPairs l σ H Q
  | _, _, _, .nil, n, H, Qd, Q, hL, F, hm, k => k [] [] H hm (Grow.refl _ _) F.wl.ok .nil
  | _, _, _, @SPs.cons _ a b c _ _ _ _ _ _ ha hb r, n, H, Qd, Q, hL, F, hm, k => by
    unfold tPairs
    refine ha G g n O env σ H _ _ (by omega) F hm fun x v H1 h1 g1 ok1 r1 => hb G g _ O env σ H1 _ _ (by omega) (F.grow g1 ok1) h1 fun y w H2 h2 g2 ok2 r2 => ?_
    refine pairs_run g r (by omega) ((F.grow g1 ok1).grow g2 ok2) h2 fun ps vs H3 h3 g3 ok3 r3 => ?_
    exact k _ _ H3 h3 (g1.trans (g2.trans g3)) (by rw [show n + (a + (b + c)) = n + a + b + c by omega]; exact ok3) (.cons (r1.mono (sh_grow F.wl.zo (g2.trans g3))) (r2.mono (sh_grow F.wl.zo g3)) r3)
theorem kvs_of {A : At} : ∀ {vs : List (V × V)} {ps : List (D × D)} {kvs : List (Key × D)}, RpP A vs ps → mkKvs ps = some kvs → ∃ kv : List (Key × V), vs = kv.map (fun kv => (kV kv.1, kv.2)) ∧ RpD A kv kvs
  | _, _, _, .nil, h => by cases h; exact ⟨[], rfl, .nil⟩
  | _, _, _, @RpP.cons _ v w x y r s a b q, h => by
    unfold mkKvs at h
    split at h
    · rename_i k kv hk hr
      cases h
      obtain ⟨kv', e, r'⟩ := kvs_of q hr
      have ev : v = kV k := by
        cases x <;> cases hk
        · cases a; rfl
        · cases a; rfl
      subst ev
      exact ⟨(k, w) :: kv', by rw [e]; rfl, .cons b r'⟩
    · cases h
def xDisp (ms : List (EM × EM)) : XM := fun env Q => mPairs ms env fun ps => match mkKvs ps with | some kvs => kvs.length ≤ 15 ∧ Q (.owd (mergeD [] kvs)) | none => False
theorem sx_disp {l : List (TE × TE)} {ms : List (EM × EM)} (h : SPs C c l ms) : SX C c (tDisp l) (xDisp ms) := fun G c n O env σ H Qd Q hL F hm k => by
  intro p hp
  have ok0 := Wd.okNew (o := HO.dK []) hp F.wl.ok
  have g0 : Grow G.w H (upd H p (.dK [])) := Grow.new _ hp
  have nO : ¬ O p := F.wl.free hp
  have nZ : ¬ G.w.Z p := fun z => nO (F.wl.zo p z)
  have n0 : G.H0 p = none := F.wl.n0 hp
  have F0 := F.grow g0 ok0
  -- p is hidden meanwhile
  have FO : Fr G n (fun b => O b ∨ b = p) env σ (upd H p (.dK [])) := ⟨⟨ok0, fun b z => .inl (F.wl.zo b z), fun b z => .inl (F.wl.co b z), fun b z => by
      by_cases hb : b = p
      · rw [hb, upd_same]; exact ⟨_, rfl, fun _ q => nomatch q⟩
      · exact F0.wl.tr b (z.elim id fun y => absurd y hb), F0.wl.base⟩, F.len, fun j d e n => let ⟨u, h1, h2⟩ := F.sl j d e n; ⟨u, h1, h2.le g0 (add_le (G := G) hp) fun _ z => .inl z⟩, F.uq⟩
  refine pairs_run c h hL FO hm fun ps vs H1 h1 g1 ok1 r1 => ?_
  have e1 : H1 p = some (.dK []) := g1 _ _ upd_same nZ
  refine ⟨e1, ?_⟩
  split at h1
  · rename_i kvs hk
    obtain ⟨kv, ev, rk⟩ := kvs_of r1 hk
    have F1 := FO.grow g1 ok1
    have oa : OwnAt G (fun b => O b ∨ b = p) p := ⟨.inr rfl, nZ, n0⟩
    have le := own_le (G := G) (H := H1) (o := HO.dK (mergeK [] kv)) oa
    have gg : Grow G.w H (upd H1 p (.dK (mergeK [] kv))) := fun b u hb z => by
      rw [upd_ne (ne_of_none hb hp)]; exact (g0.trans g1) b u hb z
    refine ⟨kv, ev, by rw [rk.length]; exact h1.1, k (.owd (mergeD [] kvs)) _ (fun b => O b ∨ b = p) _ h1.2 gg ⟨st_upd nZ (fun φ z => by rw [e1] at z; cases z) ok1, F1.wl.zo, F1.wl.co, fun b z => ?_, fun b u hb z mm => ?_⟩ (fun b u hb => ?_) (fun _ z => .inl z) (.owd upd_same oa ((RpD.merge rk .nil).mono le)) (by intro z; cases z) fun a ea => by cases (show V.ref _ = V.ref a from ea); exact hp⟩
    · by_cases hb : b = p
      · rw [hb, upd_same]; exact ⟨_, rfl, fun _ q => nomatch q⟩
      · rw [upd_ne hb]; exact F1.wl.tr b z
    · rw [upd_ne (fun q => by rw [q, n0] at hb; cases hb)]; exact F1.wl.base b u hb z mm
    · exact le _ _ (sh_grow FO.wl.zo g1 _ _ (add_le (G := G) hp _ _ hb))
  · exact h1.elim
/-! ### x += e -/
def sAug (i : Nat) (m : EM) (f : Int → Int → Int) : SM := fun env P => match env[i]? with
  | some (.dat (.int x)) => m env fun d => (match d with | .int y => P.nx (env.set i (.dat (.int (f x y)))) | _ => False)
  | _ => False
theorem ss_aug {f : Int → Int → Int} (h : SE C c te m) : SS C c (tAug i te (ipI f)) (sAug i m f) := fun G c n O env σ H P D hL F hm e => by
  unfold sAug at hm
  split at hm
  · rename_i x ei
    obtain ⟨v, es, s⟩ := F.sl i _ ei (by intro z; cases z)
    cases s with
    | dat r =>
      cases r
      refine ⟨_, es, h G c n O env σ H _ _ hL F hm fun d v H1 q1 g1 ok1 rv => ?_⟩
      split at q1
      · cases rv
        have F1 := F.grow g1 ok1
        exact ⟨_, _, rfl, rfl, e.nx O _ _ H1 (sh_grow F.wl.zo g1) (F1.set (Grow.refl _ _) F1.wl (LeA.refl _) (fun _ z => z) (.dat (.int _)) fun _ z => (show False from z).elim) q1⟩
      · exact q1.elim
  · exact hm.elim
/-- x[k] += e, x an own list of ints -/
def sAugIx (i : Nat) (mi m : EM) (f : Int → Int → Int) : SM := fun env P => match env[i]? with
  | some (.own ds) => mi env fun k => (match k with
    | .int k => (match ixN ds.length k with
      | some j => (match ds[j]? with
        | some (.int x) => m env fun d => (match d with | .int y => P.nx (env.set i (.own (ds.set j (.int (f x y))))) | _ => False)
        | _ => False)
      | none => False)
    | _ => False)
  | _ => False
theorem ss_augIx {f : Int → Int → Int} (hi : SE C c1 ti mi) (h : SE C c2 te m) : SS C (c1 + c2) (tAugS (tVar i) ti te (rIxL K) (ipI f) rSetL) (sAugIx i mi m f) := fun G c n O env σ H P D hL F hm e => by
  unfold sAugIx at hm
  split at hm
  · rename_i ds ei
    obtain ⟨v, es, s⟩ := F.sl i _ ei (by intro z; cases z)
    cases s with
    | @own a xs _ eh oa r =>
      refine ⟨_, es, hi G c n O env σ H _ _ (by omega) F hm fun k u H1 q1 g1 ok1 rk => ?_⟩
      have F1 := F.grow g1 ok1
      split at q1
      · split at q1
        · rename_i j hj
          split at q1
          · rename_i x hx
            cases rk
            have eh1 := g1 _ _ eh oa.z
            have r1 := r.mono (sh_grow F.wl.zo g1)
            obtain ⟨w, hw, rw'⟩ := r1.get hx
            cases rw'
            refine ⟨a, xs, _, _, rfl, rfl, sqL eh1, by unfold atI; rw [r1.length, hj]; exact hw, ?_⟩
            refine h G c _ O env σ H1 _ _ (by omega) F1 q1 fun d v H2 q2 g2 ok2 rv => ?_
            split at q2
            · cases rv
              have g := g1.trans g2
              have eh2 := g _ _ eh oa.z
              have r2 := r.mono (sh_grow F.wl.zo g)
              refine ⟨_, _, rfl, rfl, a, xs, _, j, rfl, rfl, eh2, by rw [r2.length]; exact hj, ?_⟩
              exact e.nx O _ _ _ ((sh_grow F.wl.zo g).trans (own_le oa)) ((F.grow g (ok_as ok2)).mut ei es rfl rfl oa fun H' l e' => .own e' oa ((RpL.set j (.int _) r2).mono l)) q2
            · exact q2.elim
          · exact q1.elim
        · exact q1.elim
      · exact q1.elim
  · exact hm.elim
/-- y = x.pop() -/
def sPop (i j : Nat) : SM := fun env P => match env[i]? with
  | some (.own ds) => (match ds[ds.length - 1]? with | some d => P.nx ((env.set i (.own ds.dropLast)).set j (.dat d)) | none => False)
  | _ => False
theorem ss_pop : SS C 0 (tAsg (tBM0 K "list" rPop (tVar i)) (gName j)) (sPop i j) := fun G c n O env σ H P D hL F hm e => by
  unfold sPop at hm
  split at hm
  · rename_i ds ei
    obtain ⟨v, es, s⟩ := F.sl i _ ei (by intro z; cases z)
    cases s with
    | @own a xs _ eh oa r =>
      split at hm
      · rename_i d hd
        obtain ⟨w, hw, rw'⟩ := r.get hd
        refine ⟨_, es, .inl ⟨rfl, xs, sqL eh⟩, a, xs, w, rfl, rfl, eh, by rw [r.length]; exact hw, ?_⟩
        have F1 := F.mut (c' := .own ds.dropLast) (o := .lst xs.dropLast) ei es rfl rfl oa fun H' l e' => .own e' oa (r.dropLast.mono l)
        exact e.nx O _ _ _ (own_le oa) (F1.set (i := j) (Grow.refl _ _) F1.wl (LeA.refl _) (fun _ z => z) (.dat (rw'.mono (own_le oa))) fun _ z => (show False from z).elim) hm
      · exact hm.elim
  · exact hm.elim
/-! ### calls of defs -/
def Mono (S : List D → (D → Prop) → Prop) : Prop := ∀ ds P Q, (∀ d, P d → Q d) → S ds P → S ds Q
/-- a def's promise over plain data: S tells of the arguments, and of the wanted answer, what is asked; at most k draws are made -/
def spP (C : Wd → Prop) (k : Nat) (S : List D → (D → Prop) → Prop) : Sp := fun vs H Q _ => ∃ (w : Wd) (n : Nat) (Oc : Addr → Prop) (ds : List D), C w ∧ n + k ≤ LIM ∧ w.ok n H ∧ (∀ b, w.Z b → Oc b) ∧ (∀ b, Oc b → Trk (H b)) ∧ RpL (Sh Oc H) vs ds ∧
  S ds fun d => ∀ v H', Grow w H H' → w.ok (n + k) H' → Rp (Sh Oc H') v d → Q v H'
/-- .. whatever the token of the world is -/
def spT (C : V → Wd → Prop) (k : Nat) (S : V → List D → (D → Prop) → Prop) : Sp := fun vs H Q E => ∃ tok, spP (C tok) k (S tok) vs H Q E
def mCall (a : AM) (S : List D → (D → Prop) → Prop) : EM := fun env Q => a env fun ds => S ds Q
theorem call_sp {C' : Wd → Prop} {k : Nat} {S : List D → (D → Prop) → Prop} {G : Cfg} {n : Nat} {O : Addr → Prop} {env : Ev} {σ : L2.St} {H : Hp} {vs : List V} {ds : List D} {Qd : D → Prop} {Q : VK} {E : XK} (c : C' G.w) (hS : Mono S) (hL : n + k ≤ LIM) (F : Fr G n O env σ H) (r : RpL (Sh O H) vs ds) (h : S ds Qd)
    (q : ∀ d v H', Qd d → Grow G.w H H' → G.w.ok (n + k) H' → Rp (Sh O H') v d → Q v H') : spP C' k S vs H Q E :=
  ⟨G.w, n, O, ds, c, hL, F.wl.ok, F.wl.zo, F.wl.tr, r, hS ds _ _ (fun d hd v H' g ok r => q d v H' hd g ok r) h⟩
theorem se_call {C' : Wd → Prop} {k : Nat} {S : List D → (D → Prop) → Prop} {E : XK} (h : SA C c t am) (hS : Mono S) (hC : ∀ w x, C w x → C' w) : SE C (c + k) (tCall (spP C' k S) [] E t) (mCall am S) := fun G c n O env σ H Qd Q hL F hm q =>
  h G c n O env σ H _ _ (by omega) F hm fun ds vs H1 h1 g1 ok1 r1 => by
    rw [List.append_nil]
    exact call_sp (hC _ _ c) hS (by have := G.x.le; omega) (F.grow g1 ok1) r1 h1 fun d v H' hd g ok r => q d v H' hd (g1.trans g) (ok_as ok) r
theorem se_callT {C' : V → Wd → Prop} {k : Nat} {S : V → List D → (D → Prop) → Prop} {E : XK} (tok : V) (h : SA (nx (C' tok)) c t am) (hS : Mono (S tok)) : SE (nx (C' tok)) (c + k) (tCall (spT C' k S) [] E t) (mCall am (S tok)) := fun G c n O env σ H Qd Q hL F hm q =>
  h G c n O env σ H _ _ (by omega) F hm fun ds vs H1 h1 g1 ok1 r1 => by
    rw [List.append_nil]
    exact ⟨tok, call_sp c hS (by have := G.x.le; omega) (F.grow g1 ok1) r1 h1 fun d v H' hd g ok r => q d v H' hd (g1.trans g) (ok_as ok) r⟩
/-- f(a, .., k = b): the arguments by a rearrangement -/
theorem se_callK {C' : Wd → Prop} {k : Nat} {S : List D → (D → Prop) → Prop} {E : XK} {gV : List V → List V → List V} (gD : List D → List D → List D) (hg : ∀ (A : At) vs zs ds es, RpL A vs ds → RpL A zs es → RpL A (gV vs zs) (gD ds es)) (h : SA C c1 t am) (h' : SA C c2 tr ar) (hS : Mono S) (hC : ∀ w x, C w x → C' w) :
    SE C (c1 + (c2 + k)) (tCallK (spP C' k S) gV E t tr) (fun env Q => am env fun ds => ar env fun es => S (gD ds es) Q) := fun G c n O env σ H Qd Q hL F hm q =>
  h G c n O env σ H _ _ (by omega) F hm fun ds vs H1 h1 g1 ok1 r1 => h' G c _ O env σ H1 _ _ (by omega) (F.grow g1 ok1) h1 fun es zs H2 h2 g2 ok2 r2 => 
    call_sp (hC _ _ c) hS (by have := G.x.le; omega) ((F.grow g1 ok1).grow g2 ok2) (hg _ vs zs ds es (r1.mono (sh_grow F.wl.zo g2)) r2) h2 fun d v H' hd g ok r => q d v H' hd (g1.trans (g2.trans g)) (by rw [show n + (c1 + (c2 + k)) = n + c1 + c2 + k by omega]; exact ok) r
/-! ### defs -/
def env0 (N : List Str) (ds : List D) : Ev := ds.map .dat ++ List.replicate (N.length - ds.length) .un
theorem RpL.at {A : At} {xs : List V} {ds : List D} (r : RpL A xs ds) (N : List Str) : ∀ (i : Nat) (c : Sv), (env0 N ds)[i]? = some c → c ≠ .un → ∃ v d, (L2.start N xs)[i]? = some (some v) ∧ c = .dat d ∧ Rp A v d := by
  intro i c h n
  unfold env0 at h
  unfold L2.start
  by_cases hi : i < ds.length
  · rw [List.getElem?_append_left (by rw [List.length_map]; exact hi), List.getElem?_map, List.getElem?_eq_getElem hi] at h
    cases h
    obtain ⟨v, hv, rv⟩ := r.get (List.getElem?_eq_getElem hi)
    refine ⟨v, _, ?_, rfl, rv⟩
    rw [List.getElem?_append_left (by rw [List.length_map, r.length]; exact hi), List.getElem?_map, hv]; rfl
  · rw [List.getElem?_append_right (by rw [List.length_map]; omega)] at h
    have := List.mem_of_getElem? h
    exact absurd (List.eq_of_mem_replicate this) n
theorem fr_start {w : Wd} {n : Nat} {Oc : Addr → Prop} {H : Hp} {vs : List V} {ds : List D} {N : List Str} (ok : w.ok n H) (zo : ∀ b, w.Z b → Oc b) (tr : ∀ b, Oc b → Trk (H b)) (r : RpL (Sh Oc H) vs ds) : Fr (Cfg.nx w H Oc tr) n Oc (env0 N ds) (L2.start N vs) H := by
  refine ⟨⟨ok, zo, fun _ z => z, tr, GrowM.refl _ _ _⟩, ?_, fun i c h n => ?_, fun i j a ⟨c, _, h, _, o⟩ _ => ?_⟩
  · unfold env0 L2.start
    rw [List.length_append, List.length_append, List.length_map, List.length_map, List.length_replicate, List.length_replicate, r.length]
  · obtain ⟨v, d, h1, rfl, h2⟩ := r.at N i c h n
    exact ⟨v, h1, .dat h2⟩
  · obtain ⟨v, d, h1, rfl, h2⟩ := r.at N i c h (by intro z; rw [z] at o; exact (show False from o).elim)
    exact (show False from o).elim
variable {P : Program} {w : World} {mg : Str → Option Value} {base : Heap}
theorem pl_body {C : Wd → Prop} {S : List D → (D → Prop) → Prop} {k c : Nat} {N : List Str} {ts : TS} {sm : SM} {vs : List V} {H : Hp} {Q : VK} {E : XK} (hs : SS (nx C) c ts sm) (hc : c ≤ k) (hb : ∀ ds Q, S ds Q → sm (env0 N ds) { nx := fun _ => Q .non, rt := Q }) (h : spP C k S vs H Q E) :
    ts { nx := fun _ H' => Q .non H', rt := Q } (L2.start N vs) H := by
  obtain ⟨wd, n, Oc, ds, g, hL, ok, zo, tr, r, h⟩ := h
  exact hs (Cfg.nx wd H Oc tr) g n Oc (env0 N ds) (L2.start N vs) H _ _ (by show n + c ≤ LIM; omega) (fr_start ok zo tr r) (hb ds _ h) ⟨fun O' env' σ' H' l F' q => q .non H' F'.wl.base.no (ok_le hc F'.wl.ok) .non, fun d v O' H' W rv q => q v H' W.base.no (ok_le hc W.ok) (rv.mono fun b u ⟨h1, h2⟩ => ⟨h1, fun z => h2 (W.co b z)⟩), fun _ _ _ _ _ _ q => q, fun _ _ _ _ _ _ q => q, fun _ _ _ _ _ _ _ _ _ q => q.elim⟩
theorem pl_ok {C : Wd → Prop} {S : List D → (D → Prop) → Prop} {x qual : Str} {st : Stmt} {f : Addr} {fd : FuncData} {N ps : List Str} {k kd : Nat} (F : Fun K x qual st f fd) (sc : FnScope N ps (defScope st)) (len : ∀ ds Q, S ds Q → ds.length = ps.length)
    (body : ∀ (cdv : Value) (A : Around) (outer : List Env) (s : Shared) (H : Hp) (E : XK), Room k (A.deeper (envOfC qual (defScope st) s.heap.objs.size f cdv)) →
      ∃ t m c, PSs (cxOf CX0 P w K mg base N qual (defScope st) f cdv A outer s H E).nox (defBody st) t ∧ SS (nx C) c t m ∧ c ≤ kd ∧ ∀ ds Q, S ds Q → m (env0 N ds) { nx := fun _ => Q .non, rt := Q }) :
    FnOk P w K mg base CX0 (k + 1) f fd ps (spP C kd S) := by
  refine F.ok sc (fun vs H Q E ⟨_, _, _, ds, _, _, _, _, _, r, h⟩ => by rw [r.length]; exact len ds _ h) fun cdv A outer s H vs Q E hr h => ?_
  obtain ⟨t, m, c, ht, hs, hc, hb⟩ := body cdv A outer s H E hr
  exact ⟨t, ht, pl_body hs hc hb h⟩
theorem pl_okT {CT : V → Wd → Prop} {S : V → List D → (D → Prop) → Prop} {x qual : Str} {st : Stmt} {f : Addr} {fd : FuncData} {N ps : List Str} {k kd : Nat} (F : Fun K x qual st f fd) (sc : FnScope N ps (defScope st)) (len : ∀ tok ds Q, S tok ds Q → ds.length = ps.length)
    (body : ∀ (cdv : Value) (A : Around) (outer : List Env) (s : Shared) (H : Hp) (E : XK), Room k (A.deeper (envOfC qual (defScope st) s.heap.objs.size f cdv)) →
      ∃ t, PSs (cxOf CX0 P w K mg base N qual (defScope st) f cdv A outer s H E).nox (defBody st) t ∧ ∀ tok, ∃ m c, SS (nx (CT tok)) c t m ∧ c ≤ kd ∧ ∀ ds Q, S tok ds Q → m (env0 N ds) { nx := fun _ => Q .non, rt := Q }) :
    FnOk P w K mg base CX0 (k + 1) f fd ps (spT CT kd S) := by
  refine F.ok sc (fun vs H Q E ⟨_, _, _, _, ds, _, _, _, _, _, r, h⟩ => by rw [r.length]; exact len _ ds _ h) fun cdv A outer s H vs Q E hr ⟨tok, h⟩ => ?_
  obtain ⟨t, ht, hb⟩ := body cdv A outer s H E hr
  obtain ⟨m, c, hs, hc, hb⟩ := hb tok
  exact ⟨t, ht, pl_body hs hc hb h⟩
/-- a def of the module that may be called -/
structure Pr (P : Program) (w : World) (K : PySem.W.Frag) (mg : Str → Option Value) (base : Heap) (x : Str) (k : Nat) (ps : List Str) (sp : Sp) : Prop where
  ex : ∃ f fd, FnOk P w K mg base CX0 k f fd ps sp ∧ mg x = some (.ref f) ∧ PySem.W.keepIn K (.ref f) = true ∧ Binds K fd ps []
theorem pe_callP {X : Cx} {x : Str} {k : Nat} {ps : List Str} {sp : Sp} {p pos : Pos} {e : Expr} {es : List Expr} {t : TA} (h : Pr X.prog X.w X.K X.mg X.base x k ps sp) (hr : Room k X.A) (hg : Gl X x) (ha : PA X (e :: es) t)
    (hdb : (x == ("__debug__" : Str)) = false := by decide) (he : starEach (e :: es) X.env = (false, eval e X.env) :: starEach es X.env := by rfl) (hpl : (backTo pos (starEach es X.env)).any (·.1) = false := by rfl) :
    PE X (.Call (.Name x p) (e :: es) [] pos) (tCall sp [] E0 t) := by
  obtain ⟨f, fd, h1, h2, h3, h4⟩ := h.ex
  exact pe_call h1 hr hg h2 h3 h4 .nil pass0 ha hdb he hpl
end
end PL

namespace L2
open PySem PySem.Spec PyProof.Rows
theorem tuple_mul1 (l : Addr) (items : Array Value) (n : Nat) (sl : Array (Option Value)) (dd : Option Addr) (u : Tok) :
    Meets (Builtin.«tuple.__mul__» ⟨[.ref l, .int 1 u], []⟩) (fun _ R s => s.heap.get? l = some { cls := .type "tuple", dict := dd, data := .seq items n, slots := sl } ∧
      R (.ok (.ret (Value.ref l))) s) :=
  .of_wp fun prog w A R s h => by
    obtain ⟨hp, g, d, tk, os⟩ := s
    obtain ⟨hl, h⟩ := h
    have f1 := AutoSeq1.idx_int
    have c0 : (decide ((1 : Int) < -(2 ^ 63)) || decide ((1 : Int) ≥ 2 ^ 63)) = false := by decide
    have c1 : (items.isEmpty || (1 : Int) == 1) = true := by simp
    wp_walk using wpAny_loadPart' hl
    repeat (first
      | (refine wpAny_ite_false (decide_eq_false (by rw [c0]; exact Bool.false_ne_true)) ?_; wp_walk using wpAny_loadPart' hl)
      | (refine wpAny_ite_true (decide_eq_true (by rw [c1])) ?_; wp_walk using wpAny_loadPart' hl))
    exact ⟨_, rfl, h⟩
section
variable {X : Cx}
/-- t * k -/
def rRepTA (K : PySem.W.Frag) : R2 := fun x y H Q => ∃ l k xs, x = .ref l ∧ y = .int k ∧ SqT K H l xs ∧ xs ≠ [] ∧ 1 ≤ k ∧ k ≤ 1000 ∧ xs.length ≤ 1000 ∧ (k = 1 → Q (.ref l) H) ∧ (k ≠ 1 → ∀ p, H p = none → Q (.ref p) (upd H p (.tup (List.replicate k.toNat xs).flatten)))
theorem op_repTA : OpR X (binaryOp .Mult) (rRepTA X.K) := by
  intro pins s σ H x y v u Q I rx ry h
  obtain ⟨l, k, xs, rfl, rfl, hT, hne, h1, h2, hz, q1, q2⟩ := h
  by_cases hk : k = 1
  · subst hk
    cases rx
    obtain ⟨t, rfl⟩ := ry
    obtain ⟨its, r, ⟨⟨cls, dd, data, sl⟩, ho, hc, n, hd⟩, hs⟩ := I.tuple hT
    simp only at hc hd
    subst hc hd
    refine wpAny_binaryOp_repeat_ref (T := "tuple") (U := "int") (by decide) ⟨_, ho, rfl⟩ (fun s' => typeIs_int s' 1 t) noFill_tuple_mul F.fills_int_mul F.slot_int_rmul repeat_tuple F.slot_int_index.lookup
      (call_meets F.slot_int_rmul (typeIs_int s 1 t) F.entry_int_rmul (F.args_int_rmul_2 _ _) (int_rmul_tuple 1 t l its.toArray n dd sl)
        ⟨ho, rfl, ⟨_, ho, rfl⟩, call_meets F.slot_tuple_mul ⟨_, ho, rfl⟩ F.entry_tuple_mul (F.args_tuple_mul_2 _ _) (tuple_mul1 l its.toArray n sl dd t) ⟨ho, ?_⟩⟩)
    exact ⟨.ref l, H, I, rfl, q1 rfl⟩
  · exact op_repT pins s σ H _ _ v u Q I rx ry ⟨l, k, xs, rfl, rfl, hT, hne, by omega, h2, hz, q2 hk⟩
/-- xs[i], for xs[i] += .. -/
theorem get_list : PGet X (rIxL X.K) := by
  intro pins s σ H x y v u Q I rx ry h
  obtain ⟨p, xs, i, z, rfl, rfl, hq, he, q⟩ := h
  cases rx
  obtain ⟨t, rfl⟩ := ry
  obtain ⟨its, r, pl, hz⟩ := I.list hq
  obtain ⟨j, h1, h2, h3, h4, h5⟩ := atI_get he
  obtain ⟨w, ew, rw'⟩ := r.get h2
  have hl := r.length
  have hn := line63
  have fin : EP X pins σ Q w s := ⟨z, H, I, rw', q⟩
  by_cases h0 : 0 ≤ i
  · have hj : i.toNat = j := by
      rw [seqIndex_of h0 h5] at h1
      exact Option.some.inj h1
    exact wpAny_getItem_list pl.isList h0 (by omega) (by rw [hj]; simpa using ew) fin
  · have hj : (i + (its.toArray.size : Int)).toNat = j := by
      rw [seqIndex_neg (by omega) h4] at h1
      rw [List.size_toArray, ← hl]
      exact Option.some.inj h1
    exact wpAny_getItem_list_neg pl.isList (by omega) (by rw [List.size_toArray] <;> omega) (by omega) (by rw [hj]; simpa using ew) fin
/-- f(k = b, ..): keywords alone -/
theorem pe_callK0 {CX : CXT} {k : Nat} {f : Addr} {fd : FuncData} {ps ks : List Str} {sp : Sp} {E : XK} {x : Str} {p pos : Pos} {kws : List Keyword} {tk : TA} {g : List Value → List Value → List Value} {gV : List V → List V → List V}
    (F : FnOk X.prog X.w X.K X.mg X.base CX k f fd ps sp) (hr : Room k X.A) (hg : Gl X x) (hm : X.mg x = some (.ref f)) (hk : PySem.W.keepIn X.K (.ref f) = true) (hb : KBinds X.K fd ps ks g gV) (hx : Passes CX X E)
    (hkw : PK X kws tk) (hall : (backToKw pos (keywordEach kws X.env)).all (·.1.isSome) = true := by rfl) (hks : (backToKw pos (keywordEach kws X.env)).filterMap (·.1) = ks := by rfl)
    (hdb : (x == ("__debug__" : Str)) = false := by decide) (hpl : ((backTo pos (starEach [] X.env)).any (·.1) || (backToKw pos (keywordEach kws X.env)).any (·.1.isNone)) = false := by rfl) :
    PE X (.Call (.Name x p) [] kws pos) (tCallK sp gV E tNil tk) := by
  refine ⟨fun pins s σ H Q I h => ?_⟩
  refine wpAny_Call_Name_kw (ld_glob I hg hm ?_ hdb)
  refine PySem.W.callWith_KW0 (h₀ := X.base) I.ok.mod.kin hk hall ?_ hpl
  refine thn (hkw.run pos pins s σ H _ I h) fun ws s2 ⟨zs, H2, I2, rz, q2⟩ => ⟨I2.kIn, ?_⟩
  rw [hks]
  exact run_fnk F hr hb hx I2 .nil rz q2
end
end L2

namespace Law
open PySem PySem.Spec PyProof.Rows L2 PL
def top (i : Nat) : Stmt := PySem.Challenge.pw_asifcopied_k06_errors_and_what_they_tell.main.body.getD i (.Pass ⟨0, 0, 0, 0⟩)
abbrev s_l_begun : Stmt := top 71
theorem sc_l_begun : FnScope ["script", "great", "cell"] ["script"] (defScope s_l_begun) := ⟨rfl, rfl, rfl, by decide +kernel, rfl, by decide +kernel, by decide +kernel⟩
abbrev s_l_blended : Stmt := top 72
theorem sc_l_blended : FnScope ["state", "prime", "turn", "found", "blend", "cell"] ["state"] (defScope s_l_blended) := ⟨rfl, rfl, rfl, by decide +kernel, rfl, by decide +kernel, by decide +kernel⟩
abbrev s_l_draw : Stmt := top 73
theorem sc_l_draw : FnScope ["state", "size_here", "found"] ["state", "size_here"] (defScope s_l_draw) := ⟨rfl, rfl, rfl, by decide +kernel, rfl, by decide +kernel, by decide +kernel⟩
abbrev s_l_pick : Stmt := top 74
theorem sc_l_pick : FnScope ["state", "several"] ["state", "several"] (defScope s_l_pick) := ⟨rfl, rfl, rfl, by decide +kernel, rfl, by decide +kernel, by decide +kernel⟩
abbrev s_l_er_made : Stmt := top 75
theorem sc_l_er_made : FnScope ["text", "one", "other", "found"] ["text", "one", "other"] (defScope s_l_er_made) := ⟨rfl, rfl, rfl, by decide +kernel, rfl, by decide +kernel, by decide +kernel⟩
abbrev s_l_er_first : Stmt := top 76
theorem sc_l_er_first : FnScope ["error", "found"] ["error"] (defScope s_l_er_first) := ⟨rfl, rfl, rfl, by decide +kernel, rfl, by decide +kernel, by decide +kernel⟩
abbrev s_l_er_kinds : Stmt := top 77
theorem sc_l_er_kinds : FnScope ["error", "found"] ["error"] (defScope s_l_er_kinds) := ⟨rfl, rfl, rfl, by decide +kernel, rfl, by decide +kernel, by decide +kernel⟩
abbrev s_l_er_told : Stmt := top 78
theorem sc_l_er_told : FnScope ["text", "one", "other", "some", "words"] ["text", "one", "other"] (defScope s_l_er_told) := ⟨rfl, rfl, rfl, by decide +kernel, rfl, by decide +kernel, by decide +kernel⟩
abbrev s_law : Stmt := top 79
theorem sc_law : FnScope ["script", "state", "lap", "several", "base", "text", "one", "other", "at", "error", "spot"] ["script"] (defScope s_law) := ⟨rfl, rfl, rfl, by decide +kernel, rfl, by decide +kernel, by decide +kernel⟩
end Law

namespace Law
open PySem PySem.Spec PyProof.Rows L2 PL
/-! ### the source of draws -/
def stKvs (zg zc : Addr) (l t : Int) : List (Key × V) := [(Sum.inr ("great" : Str), .ref zg), (Sum.inr ("cells" : Str), .ref zc), (Sum.inr ("left" : Str), .int l), (Sum.inr ("turn" : Str), .int t)]
def StOk (za zg zc : Addr) (n : Nat) (H : Hp) : Prop := ∃ (g c : List Int) (l t : Int), H za = some (.dK (stKvs zg zc l t)) ∧ H zg = some (.lst (g.map V.int)) ∧ H zc = some (.lst (c.map V.int)) ∧ 0 ≤ t ∧ t ≤ (n : Int)
def stW (za zg zc : Addr) : Wd where
  Z := fun b => b = za ∨ b = zg ∨ b = zc
  ok := StOk za zg zc
  up := fun n k H h ⟨g, c, l, t, h1, h2, h3, h4, h5⟩ => ⟨g, c, l, t, h1, h2, h3, h4, by omega⟩
  st := fun n H H' h _ ⟨g, c, l, t, h1, h2, h3, h4, h5⟩ => ⟨g, c, l, t, h _ _ (.inl rfl) h1, h _ _ (.inr (.inl rfl)) h2, h _ _ (.inr (.inr rfl)) h3, h4, h5⟩
  tr := fun n H b ⟨g, c, l, t, h1, h2, h3, _⟩ z => by
    rcases z with z | z | z
    · rw [z, h1]; exact ⟨_, rfl, fun _ q => nomatch q⟩
    · rw [z, h2]; exact ⟨_, rfl, fun _ q => nomatch q⟩
    · rw [z, h3]; exact ⟨_, rfl, fun _ q => nomatch q⟩
def StW (tok : V) (w : Wd) : Prop := ∃ za zg zc, tok = .ref za ∧ zg ≠ zc ∧ w = stW za zg zc
theorem kv_great (zg zc : Addr) (l t : Int) : valV (stKvs zg zc l t) (Sum.inr ("great" : Str) : Key) = some (.ref zg) := by rfl
theorem ne_keys : (("great" : Str) ≠ "cells") ∧ (("great" : Str) ≠ "left") ∧ (("great" : Str) ≠ "turn") ∧ (("cells" : Str) ≠ "left") ∧ (("cells" : Str) ≠ "turn") ∧ (("left" : Str) ≠ "turn") := by decide +kernel
theorem kv_cells (zg zc : Addr) (l t : Int) : valV (stKvs zg zc l t) (Sum.inr ("cells" : Str) : Key) = some (.ref zc) := by
  unfold stKvs valV
  simp [ne_keys.1]
theorem kv_left (zg zc : Addr) (l t : Int) : valV (stKvs zg zc l t) (Sum.inr ("left" : Str) : Key) = some (.int l) := by
  unfold stKvs valV
  simp [ne_keys.2.1, ne_keys.2.2.2.1]
theorem kv_turn (zg zc : Addr) (l t : Int) : valV (stKvs zg zc l t) (Sum.inr ("turn" : Str) : Key) = some (.int t) := by
  unfold stKvs valV
  simp [ne_keys.2.2.1, ne_keys.2.2.2.2.1, ne_keys.2.2.2.2.2]
theorem put_left (zg zc : Addr) (l t y : Int) : putK (stKvs zg zc l t) (Sum.inr ("left" : Str) : Key) (.int y) = stKvs zg zc y t := by
  unfold stKvs putK
  have h := ne_keys
  simp [h.2.1, h.2.2.2.1, Ne.symm h.2.2.2.2.2]
theorem put_turn (zg zc : Addr) (l t y : Int) : putK (stKvs zg zc l t) (Sum.inr ("turn" : Str) : Key) (.int y) = stKvs zg zc l y := by
  unfold stKvs putK
  have h := ne_keys
  simp [h.2.2.1, h.2.2.2.2.1, h.2.2.2.2.2]
end Law

namespace Law
open PySem PySem.Spec PyProof.Rows L2 PL
/-- the built-ins' names mean what they mean -/
structure Bt (mg : Str → Option Value) : Prop where
  int : mg "int" = none
  len : mg "len" = none
  abs : mg "abs" = none
  isi : mg "isinstance" = none
  tuple : mg "tuple" = none
  list : mg "list" = none
  range : mg "range" = none
  min : mg "min" = none
  all : mg "all" = none
  sorted : mg "sorted" = none
  bool : mg "bool" = none
  enum : mg "enumerate" = none
  rev : mg "reversed" = none
  zip : mg "zip" = none
  str : mg "str" = none
section
variable {P : Program} {w : World} {K : PySem.W.Frag} {mg : Str → Option Value} {base : Heap} {f : Addr} {fd : FuncData}
def SBl (tok : V) (ds : List D) (Q : D → Prop) : Prop := ds = [.opq tok] ∧ ∀ z : Int, Q (.int z)
theorem mono_bl (tok : V) : Mono (SBl tok) := fun ds P Q h ⟨e, k⟩ => ⟨e, fun z => h _ (k z)⟩
theorem one_opq {A : PL.At} {vs : List V} {v : V} (r : RpL A vs [.opq v]) : vs = [v] := by
  cases r with | cons a r => cases a; cases r; rfl
theorem mod_lt {b p : Int} (h : 0 < p) (h2 : p < 2147483648) : (b.fmod p).natAbs < 2 ^ 64 := by
  have h1 := Int.fmod_nonneg_of_pos b h
  have h3 := Int.fmod_lt_of_pos b h
  omega
theorem ok_blended (F : Fun K "_law_blended" "_law_blended" s_l_blended f fd) (T : Bt mg) : FnOk P w K mg base CX0 1 f fd ["state"] (spT StW 1 SBl) := by
  refine F.ok sc_l_blended (fun vs H Q E ⟨_, _, _, _, ds, _, _, _, _, _, r, e, _⟩ => by rw [r.length, e]; rfl) fun cdv A outer s H vs Q E hr ⟨tok, wd, n, Oc, ds, ⟨za, zg, zc, et, hne, ew⟩, hL, ok, zo, tr, r, e, k⟩ => ?_
  subst e
  have ev := one_opq r
  subst ev
  subst et
  subst ew
  have hu := hu_of hr
  refine ⟨_, pss_cons (ps_par (i := 2) (j := 3) rfl sc_l_blended.nd rfl rfl (by decide) rfl rfl (pa_cons (pe_op op_add (pe_dget hu (pv 0) pe_str (fun _ _ => rfl)) pe_int) (pa_cons pe_int pa_nil)) (by rfl))
    (pss_cons (ps_dput hu (pv 0) pe_str (pv 2) rfl)
    (pss_cons (ps_for PassesOwn.never rfl (pi_list (pe_lst (pa_cons pe_int (pa_cons pe_int (pa_cons pe_int pa_nil))))) (pg_name (i := 1) sc_l_blended.nd rfl (Or.inl rfl))
      (pss_cons (ps_set (i := 4) sc_l_blended.nd rfl (Or.inl rfl) (pe_op op_add (pe_op op_mul pe_int (pv 2)) (pe_op op_fdiv (pv 1) pe_int)))
      (pss_cons (ps_for PassesOwn.never rfl (pi_list (pe_dget hu (pv 0) pe_str (fun _ _ => rfl))) (pg_name (i := 5) sc_l_blended.nd rfl (Or.inl rfl))
        (pss_one (ps_set (i := 4) sc_l_blended.nd rfl (Or.inl rfl) (pe_op op_modN (pe_callTy call_int1 rfl T.int boot_int (pa_cons (pe_op op_add (pe_op op_add (pe_op op_mul (pv 4) pe_int) (pv 5)) (pv 2)) pa_nil)) (pv 1)))))
      (pss_one (ps_set (i := 3) sc_l_blended.nd rfl (Or.inl rfl) (pe_op op_add (pe_op op_mul (pv 3) pe_int) (pe_op op_modN (pe_callTy call_int1 rfl T.int boot_int (pa_cons (pe_op op_pow (pv 4) pe_int) pa_nil)) (pv 1))))))))
    (pss_one (ps_ret (pv 3))))), ?_⟩
  obtain ⟨g, c, l, t, h1, h2, h3, h4, h5⟩ := ok
  have hL' : (n : Int) + 1 ≤ 1099511627776 := by have : n + 1 ≤ 1099511627776 := hL; omega
  have hza : za ≠ zg := ne_of h1 h2 (by intro z; cases z)
  have hzc : za ≠ zc := ne_of h1 h3 (by intro z; cases z)
  refine ⟨_, rfl, za, _, rfl, by rw [← kv_turn zg zc l t]; exact DGet.k (k := Sum.inr "turn") h1, _, _, rfl, rfl, _, _, rfl, ?_⟩
  refine ⟨_, rfl, _, rfl, za, _, rfl, DPut.k (k := Sum.inr "turn") h1 (by show 4 < sizeLine; decide), ?_⟩
  rw [put_turn]
  refine ⟨by show 3 ≤ sizeLine; decide, fun p hp => ?_⟩
  have ne1 : ∀ b, b = za ∨ b = zg ∨ b = zc → b ≠ p := fun b hb z => by
    rw [← z] at hp
    rcases hb with e | e | e
    · rw [e, upd_same] at hp; cases hp
    · rw [e, upd_ne hza.symm, h2] at hp; cases hp
    · rw [e, upd_ne hzc.symm, h3] at hp; cases hp
  have okp : StOk za zg zc (n + 1) (upd (upd H za (.dK (stKvs zg zc l (t + 1)))) p (.lst [.int 2147483353, .int 2147483323, .int 2147483269])) := ⟨g, c, l, t + 1, by rw [upd_ne (ne1 _ (.inl rfl)), upd_same], by rw [upd_ne (ne1 _ (.inr (.inl rfl))), upd_ne hza.symm]; exact h2, by rw [upd_ne (ne1 _ (.inr (.inr rfl))), upd_ne hzc.symm]; exact h3, by omega, by omega⟩
  have gr : Grow (stW za zg zc) H (upd (upd H za (.dK (stKvs zg zc l (t + 1)))) p (.lst [.int 2147483353, .int 2147483323, .int 2147483269])) := fun b o hb z => by
    have hbz : b ≠ za := fun e => z (.inl e)
    have hbp : b ≠ p := fun e => by rw [e] at hb; rw [upd_ne (fun q => by rw [← q] at hbz; exact hbz e)] at hp; rw [hp] at hb; cases hb
    rw [upd_ne hbp, upd_ne hbz]; exact hb
  generalize hH2 : upd (upd H za (.dK (stKvs zg zc l (t + 1)))) p (.lst [.int 2147483353, .int 2147483323, .int 2147483269]) = H2 at okp gr
  have hS : H2 p = some (.lst [.int 2147483353, .int 2147483323, .int 2147483269]) := by rw [← hH2, upd_same]
  have hA : H2 za = some (.dK (stKvs zg zc l (t + 1))) := by rw [← hH2, upd_ne (ne1 _ (.inl rfl)), upd_same]
  have hC : H2 zc = some (.lst (c.map V.int)) := by rw [← hH2, upd_ne (ne1 _ (.inr (.inr rfl))), upd_ne hzc.symm]; exact h3
  have fin : ∀ z : Int, Q (.int z) H2 := fun z => k z _ _ gr okp (.int z)
  refine ⟨p, rfl, ⟨_, .inl (.inl hS)⟩, for_list (K := K) (a := p) (xs := [.int 2147483353, .int 2147483323, .int 2147483269]) (fun i σ H3 => H3 = H2 ∧ ∃ (x1 : Option V) (fo : Int) (x4 x5 : Option V), σ = [some (.ref za), x1, some (.int (t + 1)), some (.int fo), x4, x5])
    ⟨rfl, _, _, _, _, rfl⟩ (fun i σ H3 _ ⟨e, _⟩ => by rw [e]; exact .inl (.inl hS)) ?_ ?_⟩
  · rintro i y σ H3 hi ⟨rfl, x1, fo, x4, x5, rfl⟩
    obtain ⟨pr, rfl, hp0, hp1⟩ : ∃ pr : Int, y = .int pr ∧ 0 < pr ∧ pr < 2147483648 := by
      match i, hi with
      | 0, hi => cases hi; exact ⟨_, rfl, by decide, by decide⟩
      | 1, hi => cases hi; exact ⟨_, rfl, by decide, by decide⟩
      | 2, hi => cases hi; exact ⟨_, rfl, by decide, by decide⟩
      | j + 3, hi => simp at hi
    refine ⟨_, rfl, _, _, rfl, rfl, .inl ⟨by decide, by decide⟩, _, rfl, _, _, rfl, rfl, ⟨by decide, by decide⟩, _, _, rfl, rfl, ?_⟩
    have hb0 : (41358 * (t + 1) + pr / 71).natAbs < 2 ^ 64 := by omega
    refine ⟨_, rfl, za, _, rfl, by rw [← kv_cells zg zc l (t + 1)]; exact DGet.k (k := Sum.inr "cells") hA, zc, rfl, ⟨_, .inl (.inl hC)⟩, for_list (K := K) (a := zc) (xs := c.map V.int) (fun i σ H4 => H4 = H3 ∧ ∃ (b : Int) (x5 : Option V), b.natAbs < 2 ^ 64 ∧ σ = [some (.ref za), some (.int pr), some (.int (t + 1)), some (.int fo), some (.int b), x5])
      ⟨rfl, 41358 * (t + 1) + pr / 71, _, hb0, rfl⟩ (fun i σ H4 _ ⟨e, _⟩ => by rw [e]; exact .inl (.inl hC)) ?_ ?_⟩
    · rintro j z σ H4 hz ⟨rfl, b, x5, hb, rfl⟩
      obtain ⟨ce, rfl⟩ : ∃ ce : Int, z = .int ce := by
        rw [List.getElem?_map] at hz
        cases e : c[j]? with
        | none => rw [e] at hz; cases hz
        | some q => rw [e] at hz; exact ⟨q, (Option.some.inj hz).symm⟩
      refine ⟨_, rfl, _, _, rfl, rfl, .inr ⟨by decide, by decide⟩, _, rfl, _, _, rfl, rfl, _, rfl, _, _, rfl, rfl, .inl ⟨_, rfl, _, rfl, _, _, rfl, rfl, by omega, ?_⟩⟩
      exact ⟨rfl, _, _, mod_lt hp0 hp1, rfl⟩
    · rintro σ H4 ⟨rfl, b, x5, hb, rfl⟩
      refine ⟨_, rfl, _, _, rfl, rfl, .inr ⟨by decide, by decide⟩, _, rfl, _, _, rfl, rfl, ⟨by decide, by decide, hb⟩, .inl ⟨_, rfl, _, rfl, _, _, rfl, rfl, by omega, _, _, rfl, rfl, ?_⟩⟩
      exact ⟨rfl, _, _, _, _, rfl⟩
  · rintro σ H3 ⟨rfl, x1, fo, x4, x5, rfl⟩
    exact ⟨_, rfl, fin fo⟩
end
end Law

namespace Law
open PySem PySem.Spec PyProof.Rows L2 PL
section
variable {P : Program} {w : World} {K : PySem.W.Frag} {mg : Str → Option Value} {base : Heap} {f : Addr} {fd : FuncData}
def SDr (tok : V) (ds : List D) (Q : D → Prop) : Prop := ∃ n : Int, ds = [.opq tok, .int n] ∧ 0 < n ∧ n.natAbs < 2 ^ 64 ∧ ∀ k, 0 ≤ k → k < n → Q (.int k)
theorem mono_dr (tok : V) : Mono (SDr tok) := fun ds P Q h ⟨n, e, h1, h2, k⟩ => ⟨n, e, h1, h2, fun z a b => h _ (k z a b)⟩
theorem two_opq {A : PL.At} {vs : List V} {v : V} {i : Int} (r : RpL A vs [.opq v, .int i]) : vs = [v, .int i] := by
  cases r with | cons a r => cases a; cases r with | cons b r => cases b; cases r; rfl
theorem grow_z {za zg zc b : Addr} {H : Hp} {o : HO} (h : b = za ∨ b = zg ∨ b = zc) : Grow (stW za zg zc) H (upd H b o) := fun c u hc z => by
  rw [upd_ne (fun e => z (by rw [e]; exact h))]; exact hc
theorem seq_rest {t u : TS} {D : Ends} {σ : L2.St} {H : Hp} (R : Hp → Prop) (rest : ∀ H1, R H1 → u D σ H1) (main : (∀ H1, R H1 → u D σ H1) → t { D with nx := u D } σ H) : tSeq t u D σ H := main rest
theorem ok_draw (F : Fun K "_law_draw" "_law_draw" s_l_draw f fd) (T : Bt mg) (hB : Pr P w K mg base "_law_blended" 1 ["state"] (spT StW 1 SBl)) : FnOk P w K mg base CX0 2 f fd ["state", "size_here"] (spT StW 1 SDr) := by
  refine F.ok sc_l_draw (fun vs H Q E ⟨_, _, _, _, ds, _, _, _, _, _, r, nn, e, _⟩ => by rw [r.length, e]; rfl) fun cdv A outer s H vs Q E hr ⟨tok, wd, n, Oc, ds, ⟨za, zg, zc, et, hne, ew⟩, hL, ok, zo, tr, r, sz, e, hs0, hs1, k⟩ => ?_
  subst e
  have ev := two_opq r
  subst ev
  subst et
  subst ew
  have hu := hu_of hr
  refine ⟨_, pss_cons (ps_if (pt_cmpR op_eq (pe_dget hu (pv 0) pe_str (fun _ _ => rfl)) pe_int (nomark _))
      (pss_one (ps_dput hu (pv 0) pe_str (pe_ifExp (pt_cmpR (op_neD hr.units) (pe_dget hu (pv 0) pe_str (fun _ _ => rfl)) (pe_lst pa_nil) (nomark _))
        (pe_bm PySem.F.plainAttrs_list PySem.F.slot_list_pop PySem.F.type_list_pop mt_popAt (pe_dget hu (pv 0) pe_str (fun _ _ => rfl)) (pa_cons pe_int pa_nil))
        (pe_callP hB hr rfl (pa_cons (pv 0) pa_nil))) rfl)) pss_nil)
    (pss_cons (ps_set (i := 2) sc_l_draw.nd rfl (Or.inl rfl) (pe_op op_modN (pe_callTy call_int1 rfl T.int boot_int (pa_cons (pe_dget hu (pv 0) pe_str (fun _ _ => rfl)) pa_nil)) (pv 1)))
    (pss_cons (ps_dput hu (pv 0) pe_str (pe_op op_fdivW (pe_dget hu (pv 0) pe_str (fun _ _ => rfl)) (pv 1)) rfl)
    (pss_one (ps_ret (pv 2))))), ?_⟩
  refine seq_rest (fun H1 => Grow (stW za zg zc) H H1 ∧ StOk za zg zc (n + 1) H1) (fun H1 ⟨gr, ok1⟩ => ?_) (fun rest => ?_)
  · -- what comes behind the first statement
    obtain ⟨g, c, l, t, h1, h2, h3, h4, h5⟩ := ok1
    have hza : za ≠ zg := ne_of h1 h2 (by intro z; cases z)
    have hzc : za ≠ zc := ne_of h1 h3 (by intro z; cases z)
    refine ⟨_, rfl, za, _, rfl, by rw [← kv_left zg zc l t]; exact DGet.k (k := Sum.inr "left") h1, .inl ⟨_, rfl, _, rfl, _, _, rfl, rfl, by omega, ?_⟩⟩
    refine ⟨_, rfl, za, _, rfl, by rw [← kv_left zg zc l t]; exact DGet.k (k := Sum.inr "left") h1, _, rfl, _, _, rfl, rfl, ⟨hs0, Nat.lt_of_lt_of_le (PySem.Flt.log2_lt_of (by decide) hs1) (by decide)⟩, _, rfl, za, _, rfl, DPut.k (k := Sum.inr "left") h1 (by show 4 < sizeLine; decide), _, rfl, ?_⟩
    rw [put_left]
    refine k _ (Int.fmod_nonneg_of_pos _ hs0) (Int.fmod_lt_of_pos _ hs0) _ _ (gr.trans (grow_z (.inl rfl))) ⟨g, c, _, t, upd_same, by rw [upd_ne hza.symm]; exact h2, by rw [upd_ne hzc.symm]; exact h3, h4, h5⟩ (.int _)
  obtain ⟨g, c, l, t, h1, h2, h3, h4, h5⟩ := ok
  have hza : za ≠ zg := ne_of h1 h2 (by intro z; cases z)
  have hzc : za ≠ zc := ne_of h1 h3 (by intro z; cases z)
  refine ⟨_, rfl, za, _, rfl, by rw [← kv_left zg zc l t]; exact DGet.k (k := Sum.inr "left") h1, rfl, _, rfl, ?_⟩
  refine ite2 (fun hc => ?_) (fun hc => ?_)
  · -- the source of digits
    refine ⟨_, rfl, za, _, rfl, by rw [← kv_great zg zc l t]; exact DGet.k (k := Sum.inr "great") h1, by show 0 ≤ sizeLine; decide, fun p hp => ?_⟩
    have ne1 : ∀ b, b = za ∨ b = zg ∨ b = zc → b ≠ p := fun b hb z => by
      rw [← z] at hp
      rcases hb with e | e | e
      · rw [e, h1] at hp; cases hp
      · rw [e, h2] at hp; cases hp
      · rw [e, h3] at hp; cases hp
    have e1 := (upd_ne (H := H) (o := HO.lst []) (ne1 za (.inl rfl))).trans h1
    have e2 := (upd_ne (H := H) (o := HO.lst []) (ne1 zg (.inr (.inl rfl)))).trans h2
    have e3 := (upd_ne (H := H) (o := HO.lst []) (ne1 zc (.inr (.inr rfl)))).trans h3
    have gp : Grow (stW za zg zc) H (upd H p (.lst [])) := Grow.new _ hp
    have d1 : Dp K (upd H p (.lst [])) (.ref zg) (.list (g.map PyData.int)) := .lst (.inl (.inl e2)) (by
      clear h2 e2
      induction g with
      | nil => exact .nil
      | cons a g ih => exact .cons (.int a) ih)
    have d2 : Dp K (upd H p (.lst [])) (.ref p) (.list []) := .lst (.inl (.inl upd_same)) .nil
    have sh : ∀ g : List Int, PyData.canLayAll0 (g.map PyData.int) = true ∧ PyData.depthAll (g.map PyData.int) ≤ 1 := fun g => by
      induction g with
      | nil => exact ⟨rfl, by simp [PyData.depthAll]⟩
      | cons a g ih => exact ⟨by simpa [PyData.canLayAll0, PyData.canLay0] using ih.1, by have := ih.2; simp only [List.map_cons, PyData.depthAll, PyData.depth]; omega⟩
    have s1 : SeqAt.shaped (.list (g.map PyData.int)) = true := by
      show (PyData.canLay0 _ && decide (PyData.depth _ ≤ 64)) = true
      rw [Bool.and_eq_true]
      exact ⟨by simp only [PyData.canLay0]; exact (sh g).1, decide_eq_true (by have := (sh g).2; simp only [PyData.depth]; omega)⟩
    refine ⟨_, _, d1, d2, s1, by rfl, _, rfl, ?_⟩
    cases g with
    | nil =>
      refine iteF ?_
      refine ⟨_, rfl, .ref za, stW za zg zc, n, Oc, [.opq (.ref za)], ⟨za, zg, zc, rfl, hne, rfl⟩, hL, ⟨[], c, l, t, e1, e2, e3, h4, h5⟩, zo, fun b hb => ?_, .cons (.opq _) .nil, rfl, fun z v H' g1 ok1 rv => ?_⟩
      · by_cases hbp : b = p
        · rw [hbp, upd_same]; exact ⟨_, rfl, fun _ q => nomatch q⟩
        · rw [upd_ne hbp]; exact tr b hb
      · cases rv
        obtain ⟨g', c', l', t', k1, k2, k3, k4, k5⟩ := ok1
        refine ⟨_, rfl, za, _, rfl, DPut.k (k := Sum.inr "left") k1 (by show 4 < sizeLine; decide), ?_⟩
        rw [put_left]
        exact rest _ ⟨gp.trans (g1.trans (grow_z (.inl rfl))), g', c', z, t', upd_same, by rw [upd_ne hza.symm]; exact k2, by rw [upd_ne hzc.symm]; exact k3, k4, k5⟩
    | cons a g =>
      refine iteT ?_
      refine ⟨_, rfl, za, .ref zg, rfl, by rw [← kv_great zg zc l t]; exact DGet.k (k := Sum.inr "great") e1, .inl ⟨rfl, _, .inl (.inl e2)⟩, zg, _, _, 0, .int a, rfl, rfl, e2, by decide, by decide, by simp [seqIndex?], rfl, _, rfl, za, _, rfl, DPut.k (k := Sum.inr "left") (by rw [upd_ne hza]; exact e1) (by show 4 < sizeLine; decide), ?_⟩
      rw [put_left]
      refine rest _ ⟨gp.trans ((grow_z (.inr (.inl rfl))).trans (grow_z (.inl rfl))), g, c, a, t, upd_same, by rw [upd_ne hza.symm, upd_same]; rfl, by rw [upd_ne hzc.symm, upd_ne hne.symm]; exact e3, h4, by omega⟩
  · exact rest H ⟨Grow.refl _ _, g, c, l, t, h1, h2, h3, h4, by omega⟩
end
end Law

namespace Law
open PySem PySem.Spec PyProof.Rows L2 PL
section
variable {P : Program} {w : World} {K : PySem.W.Frag} {mg : Str → Option Value} {base : Heap} {f : Addr} {fd : FuncData}
def spBg (K : PySem.W.Frag) : Sp := fun vs H Q _ => ∃ (a : Addr) (ns : List Int), vs = [.ref a] ∧ SqL K H a (ns.map V.int) ∧ ns.length ≤ 63 ∧
  ∀ za zg zc H', zg ≠ zc → Same H H' → H za = none → H zg = none → H zc = none → StOk za zg zc 0 H' → Q (.ref za) H'
theorem same_up {H H1 : Hp} {p : Addr} {o : HO} (s : Same H H1) (h : H p = none) : Same H (upd H1 p o) := fun b u hb => by
  rw [upd_ne (ne_of_none hb h)]; exact s b u hb
theorem nth_int {ns : List Int} {i : Nat} {y : V} (h : (ns.map V.int)[i]? = some y) : ∃ z : Int, y = .int z ∧ i < ns.length := by
  rw [List.getElem?_map] at h
  cases e : ns[i]? with
  | none => rw [e] at h; cases h
  | some z => rw [e] at h; exact ⟨z, (Option.some.inj h).symm, (List.getElem?_eq_some_iff.mp e).1⟩
theorem merge_st (zg zc : Addr) : mergeK [] [(Sum.inr ("great" : Str), V.ref zg), (Sum.inr ("cells" : Str), V.ref zc), (Sum.inr ("left" : Str), V.int 0), (Sum.inr ("turn" : Str), V.int 0)] = stKvs zg zc 0 0 := by
  unfold mergeK stKvs putK
  have h := ne_keys
  simp [h.1, h.2.1, h.2.2.1, h.2.2.2.1, h.2.2.2.2.1, h.2.2.2.2.2, putK]
theorem ok_begun (F : Fun K "_law_begun" "_law_begun" s_l_begun f fd) (T : Bt mg) : FnOk P w K mg base CX0 1 f fd ["script"] (spBg K) := by
  refine F.ok sc_l_begun (fun vs H Q E ⟨_, _, e, _⟩ => by rw [e]; rfl) fun cdv A outer s H vs Q E hr ⟨a, ns, e, hS, h63, k⟩ => ?_
  subst e
  refine ⟨_, pss_cons (ps_setLc (i := 1) (own := [("cell", 2)]) (g := gName 2) rfl sc_l_begun.nd rfl rfl (sw_true rfl rfl rfl (by decide +kernel)) (pi_list (pv 0)) (blkOk_by (N := ["script", "great", "cell"]) (sc := defScope s_l_begun) (by decide +kernel))
      (fun _ _ _ _ _ => pg_name (i := 2) sc_l_begun.nd rfl (Or.inl rfl)) (fun _ _ _ _ _ => pts_one (pt_cmpR op_ge (pe_callB call_abs (by rfl) T.abs boot_abs (pa_cons (pv 2) pa_nil)) (pe_op op_pow pe_int pe_int) (nomark _)))
      (fun _ _ _ _ _ => pe_op op_sub (pe_callB call_abs (by rfl) T.abs boot_abs (pa_cons (pv 2) pa_nil)) (pe_op op_pow pe_int pe_int)))
    (pss_one (ps_ret (pe_disp (pps_cons pe_str (pv 1) (pps_cons pe_str (pe_lc (own := [("cell", 2)]) (g := gName 2) (tt := tYes) rfl sc_l_begun.nd (pi_list (pv 0)) (blkOk_by (N := ["script", "great", "cell"]) (sc := defScope s_l_begun) (by decide +kernel))
      (fun _ _ _ _ _ => pg_name (i := 2) sc_l_begun.nd rfl (Or.inl rfl)) (fun _ _ _ _ _ => pts_nil) (fun _ _ _ _ _ => pe_callB call_abs (by rfl) T.abs boot_abs (pa_cons (pv 2) pa_nil)))
      (pps_cons pe_str pe_int (pps_cons pe_str pe_int pps_nil)))) (by rfl) (by rfl) (fun z => by cases z) (by decide)))), ?_⟩
  refine ⟨_, rfl, a, rfl, ⟨_, hS⟩, fun g hg => ?_⟩
  have sg : Same H (upd H g (.lst [])) := same_up (Same.refl H) hg
  refine lc_list (K := K) (a := a) (xs := ns.map V.int) (fun i H1 => Same H H1 ∧ ∃ acc : List Int, H1 g = some (.lst (acc.map V.int)) ∧ acc.length ≤ i) ⟨sg, [], upd_same, Nat.le_refl _⟩ (fun i H1 _ ⟨s1, _⟩ => s1.seq hS) ?_ ?_
  · rintro i y H1 hy ⟨s1, acc, e1, l1⟩
    obtain ⟨z, rfl, hlt⟩ := nth_int hy
    have hacc : (acc.map V.int).length < sizeLine := by rw [List.length_map, sizeLine_eq]; omega
    refine ⟨rfl, _, rfl, _, rfl, _, _, rfl, rfl, ⟨by decide, by decide, by decide⟩, _, _, rfl, rfl, _, rfl, ?_⟩
    refine ite2 (fun _ => ?_) (fun _ => ?_)
    · refine ⟨_, rfl, _, rfl, _, _, rfl, rfl, ⟨by decide, by decide, by decide⟩, _, _, rfl, rfl, _, e1, hacc, same_up s1 hg, acc ++ [(if z < 0 then -z else z) - 10 ^ Int.toNat 18], ?_, ?_⟩
      · rw [upd_same, List.map_append]; rfl
      · rw [List.length_append, List.length_singleton]; omega
    · exact ⟨s1, acc, e1, by omega⟩
  · rintro H1 ⟨s1, acc, e1, l1⟩
    have n1 : ∀ {p : Addr}, H1 p = none → H p = none := fun h => s1.free h
    intro p hp
    refine ⟨_, rfl, _, rfl, a, rfl, ⟨_, (same_up s1 (n1 hp)).seq hS⟩, fun c hc => ?_⟩
    have hcp : c ≠ p := fun q => by rw [q, upd_same] at hc; cases hc
    have hc1 : H1 c = none := by rw [upd_ne hcp] at hc; exact hc
    have hgp : g ≠ p := ne_of_none e1 hp
    have hgc : g ≠ c := ne_of_none e1 hc1
    refine lc_list (K := K) (a := a) (xs := ns.map V.int) (fun i H2 => Same H H2 ∧ H2 g = some (.lst (acc.map V.int)) ∧ H2 p = some (.dK []) ∧ ∃ bcc : List Int, H2 c = some (.lst (bcc.map V.int)) ∧ bcc.length ≤ i) ⟨same_up (same_up s1 (n1 hp)) (n1 hc1), by rw [upd_ne hgc, upd_ne hgp]; exact e1, by rw [upd_ne hcp.symm, upd_same], [], upd_same, Nat.le_refl _⟩ (fun i H2 _ ⟨s2, _⟩ => s2.seq hS) ?_ ?_
    · rintro i y H2 hy ⟨s2, e2, e3, bcc, e4, l2⟩
      obtain ⟨z, rfl, hlt⟩ := nth_int hy
      have hacc : (bcc.map V.int).length < sizeLine := by rw [List.length_map, sizeLine_eq]; omega
      refine ⟨rfl, ?_⟩
      dsimp only [tYes]
      rw [if_pos rfl]
      refine ⟨_, rfl, _, rfl, _, e4, hacc, same_up s2 (n1 hc1), by rw [upd_ne hgc]; exact e2, by rw [upd_ne hcp.symm]; exact e3, bcc ++ [if z < 0 then -z else z], ?_, ?_⟩
      · rw [upd_same, List.map_append]; rfl
      · rw [List.length_append, List.length_singleton]; omega
    · rintro H2 ⟨s2, e2, e3, bcc, e4, l2⟩
      refine ⟨e3, [(Sum.inr ("great" : Str), V.ref g), (Sum.inr ("cells" : Str), V.ref c), (Sum.inr ("left" : Str), V.int 0), (Sum.inr ("turn" : Str), V.int 0)], rfl, by show 4 ≤ 15; decide, ?_⟩
      rw [merge_st]
      exact k p g c _ hgc (same_up s2 (n1 hp)) (n1 hp) hg (n1 hc1) ⟨acc, bcc, 0, 0, upd_same, by rw [upd_ne hgp]; exact e2, by rw [upd_ne hcp]; exact e4, Int.le_refl _, Int.le_refl _⟩
end
end Law

namespace PL
open PySem L2
/-! ### a dict is walked while it is locked -/
theorem nf_ftp (ob : Obj) (xs : List V) : ∀ od kvs, HO.frz ob (.tup xs) ≠ .frz od (.dK kvs) := fun _ _ z => by injection z with _ z; cases z
theorem nf_exc (c : Value) (d : Option Addr) (a : Addr) : ∀ od kvs, ExcK c d a ≠ .frz od (.dK kvs) := fun _ _ z => nomatch z
theorem nf_lam (F : Heap → Prop) : ∀ od kvs, (HO.ext F) ≠ .frz od (.dK kvs) := fun _ _ z => nomatch z
theorem nf_ins (C dx : Addr) (fs : List (Str × V)) : ∀ od kvs, HO.ins C dx fs ≠ .frz od (.dK kvs) := fun _ _ z => nomatch z
theorem nf_xd (fs : List (Str × V)) : ∀ od kvs, HO.xd fs ≠ .frz od (.dK kvs) := fun _ _ z => nomatch z
theorem nf_tup (xs : List V) : ∀ ob kvs, HO.tup xs ≠ .frz ob (.dK kvs) := fun _ _ z => nomatch z
theorem nf_lst (xs : List V) : ∀ ob kvs, HO.lst xs ≠ .frz ob (.dK kvs) := fun _ _ z => nomatch z
theorem nf_dT (xs : List (List Key × V)) : ∀ ob kvs, HO.dT xs ≠ .frz ob (.dK kvs) := fun _ _ z => nomatch z
theorem nf_dK (xs : List (Key × V)) : ∀ ob kvs, HO.dK xs ≠ .frz ob (.dK kvs) := fun _ _ z => nomatch z
mutual
theorem Rp.monoD {A B : At} (h : ∀ a o, (∀ ob kvs, o ≠ .frz ob (.dK kvs)) → A a o → B a o) : ∀ {v : V} {d : D}, Rp A v d → Rp B v d
  | _, _, .non => .non
  | _, _, .bl b => .bl b
  | _, _, .int i => .int i
  | _, _, .str s => .str s
  | _, _, .opq v => .opq v
  | _, _, .tup e r => .tup (h _ _ (nf_tup _) e) (RpL.monoD h r)
  | _, _, .lst e r => .lst (h _ _ (nf_lst _) e) (RpL.monoD h r)
  | _, _, .dic e r => .dic (h _ _ (nf_dK _) e) (RpD.monoD h r)
  | _, _, .ftp e d r => .ftp (h _ _ (nf_ftp _ _) e) d (RpL.monoD h r)
  | _, _, .exc0 e => .exc0 (h _ _ (nf_exc _ _ _) e)
  | _, _, .exc1 e d l r => .exc1 (h _ _ (nf_exc _ _ _) e) (h _ _ (nf_xd _) d) l (RpL.monoD h r)
  | _, _, .lam e u => .lam (h _ _ (nf_lam _) e) (h _ _ (nf_lam _) u)
  | _, _, .ins e l r => .ins (h _ _ (nf_ins _ _ _) e) l (RpL.monoD h r)
  | _, _, .dit e r => .dit (h _ _ (nf_dT _) e) (RpT.monoD h r)
theorem RpL.monoD {A B : At} (h : ∀ a o, (∀ ob kvs, o ≠ .frz ob (.dK kvs)) → A a o → B a o) : ∀ {v : List V} {d : List D}, RpL A v d → RpL B v d
  | _, _, .nil => .nil
  | _, _, .cons a r => .cons (Rp.monoD h a) (RpL.monoD h r)
theorem RpD.monoD {A B : At} (h : ∀ a o, (∀ ob kvs, o ≠ .frz ob (.dK kvs)) → A a o → B a o) : ∀ {v : List (Key × V)} {d : List (Key × D)}, RpD A v d → RpD B v d
  | _, _, .nil => .nil
  | _, _, .cons a r => .cons (Rp.monoD h a) (RpD.monoD h r)
theorem RpT.monoD {A B : At} (h : ∀ a o, (∀ ob kvs, o ≠ .frz ob (.dK kvs)) → A a o → B a o) : ∀ {v : List (List Key × V)} {d : List (List Key × D)}, RpT A v d → RpT B v d
  | _, _, .nil => .nil
  | _, _, .cons a r => .cons (Rp.monoD h a) (RpT.monoD h r)
end
/-- own things are not seen within -/
def unOwn (env : Ev) : Ev := env.map fun c => match c with
  | .dat d => .dat d
  | _ => .un
theorem unOwn_at {env : Ev} {i : Nat} {c : Sv} (h : (unOwn env)[i]? = some c) (n : c ≠ .un) : ∃ d, c = .dat d ∧ env[i]? = some (.dat d) := by
  unfold unOwn at h
  rw [List.getElem?_map] at h
  cases e : env[i]? with
  | none => rw [e] at h; cases h
  | some u =>
    rw [e] at h
    cases u with
    | dat d => cases h; exact ⟨d, rfl, rfl⟩
    | un => cases h; exact absurd rfl n
    | own d => cases h; exact absurd rfl n
    | owd d => cases h; exact absurd rfl n
    | tr _ _ => cases h; exact absurd rfl n
def keyD : Key → D
  | .inl i => .int i
  | .inr s => .str s
theorem keyD_rp {A : At} (k : Key) : Rp A (kV k) (keyD k) := by
  cases k with
  | inl i => exact .int i
  | inr s => exact .str s
theorem RpD.keyAt {A : At} : ∀ {xs : List (Key × V)} {ds : List (Key × D)} {i : Nat} {k : Key} {v : V}, RpD A xs ds → xs[i]? = some (k, v) → (ds.map fun kv => keyD kv.1)[i]? = some (keyD k)
  | _, _, _, _, _, .nil, h => by cases h
  | _, _, 0, _, _, .cons _ _, h => by cases h; rfl
  | _, _, i + 1, _, _, .cons _ r, h => RpD.keyAt (i := i) r h
theorem walks_keys {G : Cfg} {O : Addr → Prop} {H : Hp} {a : Addr} {od : Obj} {xs : List (Key × V)} {kvs : List (Key × D)} (e : H a = some (.frz od (.dK xs))) (n : ¬ O a) (r : RpD (Sh O H) xs kvs) : Walks G (Itk a od xs) O H (kvs.map fun kv => keyD kv.1) := fun n' O' H' l W i => by
  have e' : H' a = some (.frz od (.dK xs)) := by
    rcases (l a (.frz od (.dK xs)) ⟨.inl e, n⟩).1 with q | ⟨_, _, q, _⟩
    · exact q
    · rcases q with ⟨_, q⟩ | ⟨_, q⟩ <;> cases q
  have hl : (kvs.map fun kv => keyD kv.1).length = xs.length := by rw [List.length_map, r.length]
  rw [hl]
  refine ⟨fun hi => ⟨⟨e', hi⟩, fun x H'' ⟨eH, k, v, hk, ex⟩ => ?_⟩, fun hi => ⟨e', hi⟩⟩
  subst eH; subst ex
  exact ⟨Grow.refl _ _, W.ok, _, r.keyAt hk, keyD_rp k⟩
def tAlt (t u : TE) : TE := fun σ H Q => t σ H Q ∨ u σ H Q
theorem pe_alt {X : Cx} {e : Expr} {t u : TE} (h1 : PE X e t) (h2 : PE X e u) : PE X e (tAlt t u) := ⟨fun pins s σ H Q I h => h.elim (fun q => h1.run pins s σ H Q I q) fun q => h2.run pins s σ H Q I q⟩
theorem pe_lcK {X : Cx} {e : Expr} {t : TE} (h : PE X e t) : PE X e (tAlt (tLockE t) t) := pe_alt (pe_lock h) h
section
variable {C : Wd → Prop} {g : TG} {mg : GM} {tt : TT} {mt : TM} {te : TE} {m : EM} {vs : List Nat}
def mLcK (i : Nat) (g : GM) (t : TM) (m : EM) (vs : List Nat) : AM := fun env Q => match env[i]? with
  | some (.dat (.dic kvs)) => lcP g t m (wipeE (unOwn env) vs) (kvs.map fun kv => keyD kv.1) [] Q
  | _ => False
theorem sl_lcK {C' : Wd → XC → Prop} {i : Nat} (hg : SG (nx C) vs g mg) (ht : ST (nx C) 0 tt mt) (he : SE (nx C) 0 te m) (hC : ∀ w x, C' w x → C w) : SL C' 0 (tAlt (tLockE (tLc (iKeys (tVar i)) g tt te vs)) (tLc (iKeys (tVar i)) g tt te vs)) (mLcK i mg mt m vs) := fun G c' n O env σ H Qd Q hL F hm k => by
  have c : nx C G.w G.x := hC _ _ c'
  unfold mLcK at hm
  split at hm
  · rename_i kvs ei
    obtain ⟨v, es, s⟩ := F.sl i _ ei (by intro z; cases z)
    cases s with
    | dat r =>
      cases r with
      | @dic a xs _ ea r =>
        have nO : ¬ O a := ea.2
        have nZ : ¬ G.w.Z a := fun z => nO (F.wl.zo a z)
        have fu : ∀ {G' : Cfg} {H' : Hp}, G'.w = G.w → Wl G' n O H' → LeA (Sh O H) (Sh O H') → Fr G' n O (unOwn env) σ H' := fun {G' H'} hw W l => by
          refine ⟨W, ?_, fun j d ed nd => ?_, fun j l a ⟨d, _, ed, _, od⟩ _ => ?_⟩
          · unfold unOwn; rw [List.length_map]; exact F.len
          · obtain ⟨d, rfl, e⟩ := unOwn_at ed nd
            obtain ⟨u, h1, h2⟩ := F.sl j _ e (by intro z; cases z)
            cases h2 with
            | dat r => exact ⟨u, h1, .dat (r.mono l)⟩
          · obtain ⟨d', rfl, _⟩ := unOwn_at ed (by intro z; rw [z] at od; exact (show False from od).elim)
            exact (show False from od).elim
        rcases ea.1 with e | ⟨ob, _, _, e⟩
        · refine .inl ⟨a, _, e, trivial, fun od => ?_⟩
          have n1 : ∀ b, G.w.Z b → b ≠ a := fun b z q => nZ (by rw [← q]; exact z)
          have ok1 : G.w.ok n (upd H a (.frz od (.dK xs))) := st_upd nZ (fun φ z => by rw [e] at z; cases z) F.wl.ok
          have tr1 : ∀ b, O b → Trk (upd H a (.frz od (.dK xs)) b) := fun b z => by
            rw [upd_ne (fun q => nO (by rw [← q]; exact z))]; exact F.wl.tr b z
          have l1 : LeA (Sh O H) (Sh O (upd H a (.frz od (.dK xs)))) := fun b u ⟨h, nb⟩ => by
            by_cases hb : b = a
            · subst hb
              rcases h with h | ⟨_, _, _, h⟩
              · rw [e] at h; cases h
                exact ⟨.inr ⟨od, (), .inl ⟨xs, rfl⟩, upd_same⟩, nb⟩
              · rw [e] at h; cases h
            · exact ⟨rd_upd hb h, nb⟩
          have W1 : Wl (Cfg.nx G.w (upd H a (.frz od (.dK xs))) G.Oc fun b z => tr1 b (F.wl.co b z)) n O (upd H a (.frz od (.dK xs))) := ⟨ok1, F.wl.zo, F.wl.co, tr1, GrowM.refl _ _ _⟩
          refine lc_run (C := nx C) (c1 := 0) (c2 := 0) (c3 := 0) (T := 0) (am := fun env Q => Q (kvs.map fun kv => keyD kv.1)) (X := fun env ds Q => lcP mg mt m env ds [] Q) (fun _ _ _ h => ⟨by simp, h⟩) hg ht he (G := Cfg.nx G.w (upd H a (.frz od (.dK xs))) G.Oc fun b z => tr1 b (F.wl.co b z)) c Qd _ (Nat.le_trans hL G.x.le) (fu rfl W1 l1) (fun Qd' R h k' => ?_) hm fun ds p ys H' hd g1 ok2 hp ep rp => ?_
          · exact ⟨_, es, a, od, rfl, .inl ⟨xs, upd_same, k' _ _ _ h (Grow.refl _ _) ok1 (walks_g (walks_keys upd_same nO (r.mono l1)))⟩⟩
          · have ea' := g1 _ _ upd_same nZ
            have pa : p ≠ a := fun q => by rw [q, upd_same] at hp; cases hp
            refine ⟨ea', k ds p ys _ hd (fun b u hb z => ?_) (st_upd nZ (fun φ z => by rw [ea'] at z; cases z) ok2) (by rw [upd_ne pa] at hp; exact hp) (by rw [upd_ne pa]; exact ep) (rp.monoD fun b u nf ⟨h, nb⟩ => ?_)⟩
            · by_cases hb' : b = a
              · subst hb'; rw [upd_same, ← hb, e]
              · rw [upd_ne hb']; exact g1 b u (by rw [upd_ne hb']; exact hb) z
            · by_cases hb' : b = a
              · subst hb'
                rcases h with h | ⟨_, _, _, h⟩
                · rw [ea'] at h; cases h; exact absurd rfl (nf _ _)
                · rw [ea'] at h; cases h; exact ⟨.inl upd_same, nb⟩
              · exact ⟨rd_upd hb' h, nb⟩
        · refine .inr (lc_run (C := nx C) (c1 := 0) (c2 := 0) (c3 := 0) (T := 0) (am := fun env Q => Q (kvs.map fun kv => keyD kv.1)) (X := fun env ds Q => lcP mg mt m env ds [] Q) (fun _ _ _ h => ⟨by simp, h⟩) hg ht he c Qd _ hL (fu rfl F.wl (LeA.refl _)) (fun Qd' R h k' => ?_) hm k)
          exact ⟨_, es, a, ob, rfl, .inl ⟨xs, e, k' _ _ _ h (Grow.refl _ _) F.wl.ok (walks_g (walks_keys e nO r))⟩⟩
  · exact hm.elim
end
end PL

namespace L2
open PySem PySem.Spec PyProof.Rows
def rIsiTR (K : PySem.W.Frag) : List V → Hp → VK → Prop := fun xs H Q => ∃ (x : V) (tp : Addr) (cs : List V) (t : Value) (us : List Value) (b : Bool), xs = [x, .ref tp] ∧ Rd H tp (.tup cs) ∧ Paired ClsV cs us ∧ TyX K H x t ∧ PySem.W.kitAny K t us = some b ∧ Q (.bl b) H
theorem call_isiTR {X : Cx} : CallR X (.builtin "isinstance") (rIsiTR X.K) := by
  intro pins s σ H xs us Q I r h
  obtain ⟨x, tp, cs, t, ws, b, rfl, hT, k, ty, e, q⟩ := h
  obtain ⟨u1, u2, rfl, r1, r2⟩ := vals2 r
  cases (show u2 = Value.ref tp from r2)
  obtain ⟨P, Z, p, hx⟩ := kit_of I r1 ty
  obtain ⟨_, its, rv, o, h1, h2, n, h3⟩ := (show ObjOk X.prog X.w H s.heap tp (.tup cs) from hT.ok I.hok)
  have e3 := ClsV.all k rv
  subst e3
  obtain ⟨oc, od, dt, sl⟩ := o
  simp only at h2 h3
  subst h2 h3
  exact PySem.W.kia_tup Z I.kIn p h1 e hx fun tk => ⟨.bl b, H, I.tok tk, rfl, q⟩
end L2
namespace PL
open PySem L2
section
variable {C : Wd → XC → Prop} {K : PySem.W.Frag} {te ta tb tc tk ti to : TE} {t tr : TA} {m ma mb mc mk mi : EM} {am ar : AM} {i j c c1 c2 c3 : Nat}
/-! ### enumerate, reversed -/
def enumD : Nat → List D → List D
  | _, [] => []
  | i, d :: r => .tup [.int (i : Int), d] :: enumD (i + 1) r
theorem enumD_get : ∀ {l : List D} {s i : Nat} {d : D}, l[i]? = some d → (enumD s l)[i]? = some (.tup [.int ((s + i : Nat) : Int), d])
  | [], _, _, _, h => by cases h
  | x :: r, s, 0, d, h => by cases h; rfl
  | x :: r, s, i + 1, d, h => by
    have ih := enumD_get (l := r) (s := s + 1) (i := i) h
    rw [show s + 1 + i = s + (i + 1) by omega] at ih
    exact ih
theorem enumD_len : ∀ (l : List D) (s : Nat), (enumD s l).length = l.length
  | [], _ => rfl
  | x :: r, s => congrArg Nat.succ (enumD_len r (s + 1))
theorem walks_enum {G : Cfg} {O : Addr → Prop} {H : Hp} {a : Addr} {xs : List V} {ds : List D} (e : Sh O H a (.lst xs)) (r : RpL (Sh O H) xs ds) : Walks G (Ite K a) O H (enumD 0 ds) := fun n O' H' l W i => by
  have e' := rk_lst (l _ _ e).1
  have r' := r.mono l
  rw [enumD_len]
  refine ⟨fun hi => ?_, fun hi => ⟨xs, sqL e', by rw [r.length]; exact hi⟩⟩
  obtain ⟨v, hv, rv⟩ := r'.get (List.getElem?_eq_getElem hi)
  refine ⟨⟨xs, v, sqL e', hv⟩, fun x H'' ⟨T, y, ex, nT, eH, hx⟩ => ?_⟩
  subst eH; subst ex
  have := hx xs (sqL e')
  rw [hv] at this; cases this
  refine ⟨Grow.new _ nT, Wd.okNew nT W.ok, _, enumD_get (List.getElem?_eq_getElem hi), ?_⟩
  rw [Nat.zero_add]
  exact new_tup W nT (.cons (.int _) (.cons rv .nil))
def iE (a : AM) : AM := fun env Q => a env fun ds => match ds with | [.lst l] => Q (enumD 0 l) | _ => False
theorem si_enum (h : SA C c t am) : SI C c (iEnum K t) (iE am) := fun G c n O env σ H Qd R hL F hm k =>
  h G c n O env σ H _ _ hL F hm fun ds vs H1 q g ok r => by
    split at q
    · cases r with
      | cons a r =>
        cases r
        cases a with
        | lst e r => exact ⟨_, _, rfl, sqL (rk_lst e.1), k _ _ H1 q g ok (walks_enum e r)⟩
    · exact q.elim
theorem walks_rev {G : Cfg} {O : Addr → Prop} {H : Hp} {a : Addr} {xs : List V} {ds : List D} (e : Sh O H a (.lst xs)) (r : RpL (Sh O H) xs ds) : Walks G (Itv K a xs.length) O H ds.reverse := fun n O' H' l W i => by
  have e' := rk_lst (l _ _ e).1
  have r' := r.mono l
  have hl := r.length
  rw [List.length_reverse]
  refine ⟨fun hi => ?_, fun hi => by show xs.length ≤ i; omega⟩
  have hi2 : ds.length - 1 - i < ds.length := by omega
  obtain ⟨v, hv, rv⟩ := r'.get (List.getElem?_eq_getElem hi2)
  rw [← hl] at hv
  refine ⟨⟨by show i < xs.length; omega, xs, v, sqL e', hv⟩, fun x H'' ⟨eH, hx⟩ => ?_⟩
  subst eH
  have := hx xs (sqL e')
  rw [hv] at this; cases this
  exact ⟨Grow.refl _ _, W.ok, _, by rw [List.getElem?_reverse hi]; exact List.getElem?_eq_getElem hi2, rv⟩
theorem walks_revT {G : Cfg} {O : Addr → Prop} {H : Hp} {a : Addr} {xs : List V} {ds : List D} (e : Sh O H a (.tup xs)) (r : RpL (Sh O H) xs ds) : Walks G (RT.ItvT K a xs.length) O H ds.reverse := fun n O' H' l W i => by
  have e' := rk_tup (l _ _ e).1
  have r' := r.mono l
  have hl := r.length
  rw [List.length_reverse]
  refine ⟨fun hi => ?_, fun hi => by show xs.length ≤ i; omega⟩
  have hi2 : ds.length - 1 - i < ds.length := by omega
  obtain ⟨v, hv, rv⟩ := r'.get (List.getElem?_eq_getElem hi2)
  rw [← hl] at hv
  refine ⟨⟨by show i < xs.length; omega, xs, v, sqT e', hv⟩, fun x H'' ⟨eH, hx⟩ => ?_⟩
  subst eH
  have := hx xs (sqT e')
  rw [hv] at this; cases this
  exact ⟨Grow.refl _ _, W.ok, _, by rw [List.getElem?_reverse hi]; exact List.getElem?_eq_getElem hi2, rv⟩
def iRv (m : EM) : AM := fun env Q => m env fun d => match d with | .lst l => Q l.reverse | .tup l => Q l.reverse | _ => False
theorem si_rev (h : SE C c te m) : SI C c (RT.iRevA K te) (iRv m) := fun G c n O env σ H Qd R hL F hm k =>
  h G c n O env σ H _ _ hL F hm fun d v H1 q g ok r => by
    split at q
    · cases r with
      | lst e r => exact ⟨_, _, rfl, .inl ⟨sqL (rk_lst e.1), k _ _ H1 q g ok (walks_rev e r)⟩⟩
    · cases r with
      | tup e r => exact ⟨_, _, rfl, .inr ⟨sqT (rk_tup e.1), k _ _ H1 q g ok (walks_revT e r)⟩⟩
    · exact q.elim
/-! ### x.extend(l), x.remove(k) -/
def sExt (i : Nat) (m : EM) : SM := fun env P => match env[i]? with
  | some (.own ds) => m env fun d => (match d with | .lst es => ds.length + es.length ≤ sizeLine ∧ P.nx (env.set i (.own (ds ++ es))) | _ => False)
  | _ => False
theorem ss_ext (h : SE C c te m) : SS C c (tDrop (tBM K "list" rExtend (tVar i) (tCons te tNil))) (sExt i m) := fun G c n O env σ H P D hL F hm e => by
  unfold sExt at hm
  split at hm
  · rename_i ds ei
    obtain ⟨v, es, s⟩ := F.sl i _ ei (by intro z; cases z)
    cases s with
    | @own a xs _ eh oa r =>
      refine ⟨_, es, .inl ⟨rfl, xs, sqL eh⟩, ?_⟩
      refine h G c n O env σ H _ _ hL F hm fun d v H1 q1 g ok rv => ?_
      split at q1
      · cases rv with
        | @lst b zs _ eb rb =>
          have F1 := F.grow g ok
          have eh1 := g _ _ eh oa.z
          have r1 := r.mono (sh_grow F.wl.zo g)
          refine ⟨a, b, xs, zs, rfl, rfl, eh1, rk_lst eb.1, by rw [r1.length, rb.length]; exact q1.1, ?_⟩
          exact e.nx O _ _ _ ((sh_grow F.wl.zo g).trans (own_le oa)) (F1.mut ei es rfl rfl oa fun H' l e' => .own e' oa ((r1.append rb).mono l)) q1.2
      · exact q1.elim
  · exact hm.elim
/-- x.remove(k), x an own list of ints that holds k -/
def sRem (i : Nat) (m : EM) : SM := fun env P => match env[i]? with
  | some (.own ds) => m env fun d => ∃ (ns : List Int) (k : Int), ds = ns.map D.int ∧ d = .int k ∧ k ∈ ns ∧ P.nx (env.set i (.own ((ns.eraseIdx (ns.idxOf k)).map D.int)))
  | _ => False
theorem ss_rem (h : SE C c te m) : SS C c (tDrop (tBM K "list" rRemI (tVar i) (tCons te tNil))) (sRem i m) := fun G c n O env σ H P D hL F hm e => by
  unfold sRem at hm
  split at hm
  · rename_i ds ei
    obtain ⟨v, es, s⟩ := F.sl i _ ei (by intro z; cases z)
    cases s with
    | @own a xs _ eh oa r =>
      refine ⟨_, es, .inl ⟨rfl, xs, sqL eh⟩, ?_⟩
      refine h G c n O env σ H _ _ hL F hm fun d v H1 q1 g ok rv => ?_
      obtain ⟨ns, k, rfl, rfl, hk, q1⟩ := q1
      cases rv
      have F1 := F.grow g ok
      have eh1 := g _ _ eh oa.z
      have ex := r.ints
      subst ex
      have hlt := List.idxOf_lt_length_of_mem hk
      refine ⟨a, ns, k, ns.idxOf k, rfl, rfl, eh1, ?_, fun z hz hq => ?_, ?_⟩
      · rw [List.getElem?_eq_getElem hlt, List.getElem_idxOf hlt]
      · obtain ⟨hzl, ez⟩ := List.getElem?_eq_some_iff.mp hq
        have := List.not_of_lt_findIdx (p := (· == k)) (xs := ns) (i := z) hz
        rw [ez] at this
        simp at this
      · exact e.nx O _ _ _ ((sh_grow F.wl.zo g).trans (own_le oa)) (F1.mut ei es rfl rfl oa fun H' l e' => .own e' oa (.ofInts _)) q1
  · exact hm.elim
/-! ### list(range(n)) -/
def mLrg (m : EM) : AM := fun env Q => m env fun d => match d with | .int j => RgOk 0 j ∧ Q (rng 0 j.toNat) | _ => False
theorem sl_lrg (h : SE C c te m) : SL C c (tLstRg (tRg1 te)) (mLrg m) := fun G c n O env σ H Qd Q hL F hm k =>
  h G c n O env σ H _ _ hL F hm fun d v H1 q g ok r => by
    split at q
    · cases r
      rename_i j
      refine ⟨_, rfl, q.1, fun p hp => k _ p (rgV 0 j) _ q.2 (g.trans (Grow.new _ hp)) (Wd.okNew hp ok) (g.free ok hp) upd_same ?_⟩
      have e : rgV 0 j = ((List.range (j - 0).toNat).map fun i : Nat => (0 : Int) + (i : Int)).map V.int := by unfold rgV; rw [List.map_map]; rfl
      have e2 : rng 0 j.toNat = ((List.range (j - 0).toNat).map fun i : Nat => (0 : Int) + (i : Int)).map D.int := by unfold rng; rw [List.map_map, show (j - 0).toNat = j.toNat by omega]; rfl
      rw [e, e2]
      exact .ofInts _
    · exact q.elim
/-! ### a, b, c = x, y, z, through a tuple: names that a comprehension reads are cells -/
def sPar3 (i j l : Nat) (x y z : XM) : SM := fun env P => x env fun c => y env fun d => z env fun e => P.nx (((env.set i c).set j d).set l e)
theorem ss_parA3 {i j l : Nat} {mx my mz : XM} (h : SX C c1 ta mx) (h' : SX C c2 tb my) (h'' : SX C c3 tc mz) :
    SS C (c1 + (c2 + c3)) (tAsg (tTup (tCons ta (tCons tb (tCons tc tNil)))) (gTup K 3 (gCons (gName i) (gCons (gName j) (gCons (gName l) gNil))))) (sPar3 i j l mx my mz) := fun G c n O env σ H P D hL F hm e =>
  h G c n O env σ H _ _ (by omega) F hm fun x1 v O1 H1 q g W l1 mo s nn f => by
    have F1 : Fr G (n + c1) O1 env σ H1 := ⟨W, F.len, fun k d e n => let ⟨u, h1, h2⟩ := F.sl k d e n; ⟨u, h1, h2.le g l1 mo⟩, F.uq⟩
    refine h' G c _ O1 env σ H1 _ _ (by omega) F1 q fun x2 u O2 H2 q2 g2 W2 l2 mo2 s2 n2 f2 => ?_
    have F2 : Fr G (n + c1 + c2) O2 env σ H2 := ⟨W2, F.len, fun k d e n => let ⟨u, h1, h2⟩ := F1.sl k d e n; ⟨u, h1, h2.le g2 l2 mo2⟩, F.uq⟩
    refine h'' G c _ O2 env σ H2 _ _ (by omega) F2 q2 fun x3 w O3 H3 q3 g3 W3 l3 mo3 s3 n3 f3 => ?_
    have en : n + c1 + c2 + c3 = n + (c1 + (c2 + c3)) := by omega
    refine ⟨by show 3 ≤ sizeLine; decide, fun T hT => ⟨T, _, rfl, sqT (.inl upd_same), rfl, v, [u, w], rfl, u, [w], rfl, w, [], rfl, rfl, ?_⟩⟩
    have F3 := ((F.set (i := i) g W l1 mo s f).set (i := j) g2 W2 l2 mo2 s2 f2).set (i := l) g3 W3 l3 mo3 s3 f3
    rw [en] at F3
    have gT : Grow G.w H3 (upd H3 T (.tup [v, u, w])) := Grow.new _ hT
    exact e.nx O3 _ _ _ (l1.trans (l2.trans (l3.trans (sh_grow F3.wl.zo gT)))) (F3.grow gT (Wd.okNew hT F3.wl.ok)) q3
/-! ### isinstance(x, (list, tuple)) -/
theorem kitAny_two {K : PySem.W.Frag} {t a b : Value} {x y : Bool} (h1 : PySem.W.kitOne K t a = some x) (h2 : PySem.W.kitOne K t b = some y) : PySem.W.kitAny K t [a, b] = some (x || y) := by
  unfold PySem.W.kitAny
  rw [h1]
  cases x with
  | true => rfl
  | false =>
    show PySem.W.kitAny K t [b] = some y
    unfold PySem.W.kitAny
    rw [h2]
    cases y with
    | true => rfl
    | false => show PySem.W.kitAny K t [] = some false; unfold PySem.W.kitAny; rfl
def kIsi2 (S T : String) : List D → (D → Prop) → Prop := fun ds Q => match ds with
  | [d, .tup [.opq (.ty a), .opq (.ty b)]] => a = S ∧ b = T ∧ (match d.ty with | some t => Q (.bl (tyIs t S || tyIs t T)) | none => False)
  | _ => False
theorem kc_isi2 {S T : String} (hS : S ∈ ["bool", "int", "str", "tuple", "list", "dict"]) (hT : T ∈ ["bool", "int", "str", "tuple", "list", "dict"]) : KC C (rIsiTR K) (kIsi2 S T) := fun G _ n O H vs ds Qd Q W r h q => by
  unfold kIsi2 at h
  split at h
  · rename_i d a b
    obtain ⟨v, w, rfl, r1, r2⟩ := r.two
    obtain ⟨p, xs, rfl, ep, rp⟩ := r2.tuple
    cases rp with
    | cons p1 rp =>
      cases rp with
      | cons p2 rp =>
        cases rp
        cases p1
        cases p2
        obtain ⟨rfl, rfl, h⟩ := h
        split at h
        · rename_i t ht
          have hin : t ∈ ["NoneType", "bool", "int", "str", "tuple", "list", "dict"] := by
            cases d <;> cases ht <;> decide
          exact ⟨v, p, _, _, _, _, rfl, ep, .cons (.ty a) (.cons (.ty b) .nil), r1.tyOf ht, kitAny_two (kit_ty (kitB_int t hin a hS)) (kit_ty (kitB_int t hin b hT)), q _ _ H h (Grow.refl _ _) W.ok (.bl _)⟩
        · exact h.elim
  · exact h.elim
end
end PL

namespace PL
open PySem L2
section
variable {C : Wd → XC → Prop} {K : PySem.W.Frag} {t : TA} {am : AM} {c : Nat}
/-! ### zip of two lists, of two tuples -/
def zipD : List D → List D → List D
  | x :: xs, y :: ys => .tup [x, y] :: zipD xs ys
  | _, _ => []
theorem zipD_get : ∀ {xs ys : List D} {i : Nat} {x y : D}, xs[i]? = some x → ys[i]? = some y → (zipD xs ys)[i]? = some (.tup [x, y])
  | [], _, _, _, _, h, _ => by cases h
  | _ :: _, [], _, _, _, _, h => by cases h
  | a :: xs, b :: ys, 0, x, y, h1, h2 => by cases h1; cases h2; rfl
  | a :: xs, b :: ys, i + 1, x, y, h1, h2 => zipD_get (xs := xs) (ys := ys) (i := i) h1 h2
theorem zipD_len : ∀ (xs ys : List D), (zipD xs ys).length = min xs.length ys.length
  | [], ys => by cases ys <;> simp [zipD]
  | a :: xs, [] => by simp [zipD]
  | a :: xs, b :: ys => by
    show (zipD xs ys).length + 1 = _
    rw [zipD_len xs ys, List.length_cons, List.length_cons]; omega
theorem walks_zip {G : Cfg} {O : Addr → Prop} {H : Hp} {a b : Addr} {xs ys : List V} {ds es : List D} (ea : Sh O H a (.lst xs)) (eb : Sh O H b (.lst ys)) (r : RpL (Sh O H) xs ds) (q : RpL (Sh O H) ys es) : Walks G (Itz K a b) O H (zipD ds es) := fun n O' H' l W i => by
  have ea' := rk_lst (l _ _ ea).1
  have eb' := rk_lst (l _ _ eb).1
  have r' := r.mono l
  have q' := q.mono l
  have l1 := r.length
  have l2 := q.length
  rw [zipD_len]
  refine ⟨fun hi => ?_, fun hi => ⟨xs, ys, sqL ea', sqL eb', by omega⟩⟩
  have h1 : i < ds.length := by omega
  have h2 : i < es.length := by omega
  obtain ⟨v, hv, rv⟩ := r'.get (List.getElem?_eq_getElem h1)
  obtain ⟨u, hu, ru⟩ := q'.get (List.getElem?_eq_getElem h2)
  refine ⟨⟨xs, ys, v, u, sqL ea', sqL eb', hv, hu⟩, fun x H'' ⟨T, y, z, ex, nT, eH, hx, hy⟩ => ?_⟩
  subst eH; subst ex
  have e1 := hx xs (sqL ea')
  rw [hv] at e1; cases e1
  have e2 := hy ys (sqL eb')
  rw [hu] at e2; cases e2
  exact ⟨Grow.new _ nT, Wd.okNew nT W.ok, _, zipD_get (List.getElem?_eq_getElem h1) (List.getElem?_eq_getElem h2), new_tup W nT (.cons rv (.cons ru .nil))⟩
theorem walks_zipT {G : Cfg} {O : Addr → Prop} {H : Hp} {a b : Addr} {xs ys : List V} {ds es : List D} (ea : Sh O H a (.tup xs)) (eb : Sh O H b (.tup ys)) (r : RpL (Sh O H) xs ds) (q : RpL (Sh O H) ys es) : Walks G (RZ.ItzT K a b) O H (zipD ds es) := fun n O' H' l W i => by
  have ea' := rk_tup (l _ _ ea).1
  have eb' := rk_tup (l _ _ eb).1
  have r' := r.mono l
  have q' := q.mono l
  have l1 := r.length
  have l2 := q.length
  rw [zipD_len]
  refine ⟨fun hi => ?_, fun hi => ⟨xs, ys, sqT ea', sqT eb', by omega⟩⟩
  have h1 : i < ds.length := by omega
  have h2 : i < es.length := by omega
  obtain ⟨v, hv, rv⟩ := r'.get (List.getElem?_eq_getElem h1)
  obtain ⟨u, hu, ru⟩ := q'.get (List.getElem?_eq_getElem h2)
  refine ⟨⟨xs, ys, v, u, sqT ea', sqT eb', hv, hu⟩, fun x H'' ⟨T, y, z, ex, nT, eH, hx, hy⟩ => ?_⟩
  subst eH; subst ex
  have e1 := hx xs (sqT ea')
  rw [hv] at e1; cases e1
  have e2 := hy ys (sqT eb')
  rw [hu] at e2; cases e2
  exact ⟨Grow.new _ nT, Wd.okNew nT W.ok, _, zipD_get (List.getElem?_eq_getElem h1) (List.getElem?_eq_getElem h2), new_tup W nT (.cons rv (.cons ru .nil))⟩
def iZ (a : AM) : AM := fun env Q => a env fun ds => match ds with | [.lst l, .lst k] => Q (zipD l k) | [.tup l, .tup k] => Q (zipD l k) | _ => False
theorem si_zip (h : SA C c t am) : SI C c (RZ.iZipA K t) (iZ am) := fun G c n O env σ H Qd R hL F hm k =>
  h G c n O env σ H _ _ hL F hm fun ds vs H1 q g ok r => by
    split at q
    · cases r with
      | cons a r =>
        cases r with
        | cons b r =>
          cases r
          cases a with
          | lst e1 r1 =>
            cases b with
            | lst e2 r2 => exact ⟨_, _, _, _, rfl, .inl ⟨sqL (rk_lst e1.1), sqL (rk_lst e2.1), k _ _ H1 q g ok (walks_zip e1 e2 r1 r2)⟩⟩
    · cases r with
      | cons a r =>
        cases r with
        | cons b r =>
          cases r
          cases a with
          | tup e1 r1 =>
            cases b with
            | tup e2 r2 => exact ⟨_, _, _, _, rfl, .inr ⟨sqT (rk_tup e1.1), sqT (rk_tup e2.1), k _ _ H1 q g ok (walks_zipT e1 e2 r1 r2)⟩⟩
    · exact q.elim
end
end PL

namespace PL
open PySem PySem.Spec PyProof.Rows L2
section
variable {C : Wd → XC → Prop} {K : PySem.W.Frag}
/-- t * k -/
def kRepT : D → D → (D → Prop) → Prop := fun x y Q => match x, y with | .tup a, .int k => (a ≠ [] ∧ 1 ≤ k ∧ k ≤ 1000 ∧ a.length ≤ 1000) ∧ Q (.tup (List.replicate k.toNat a).flatten) | _, _ => False
theorem k2_repT : K2 C (rRepTA K) kRepT := fun G _ n O H x y d e Qd Q W rx ry hk q => by
  unfold kRepT at hk
  split at hk
  · have qx := rx.tup'
    obtain ⟨a, xs, rfl, e1, r1⟩ := rx.tuple
    cases ry.int
    obtain ⟨⟨h0, h1, h2, h3⟩, hq⟩ := hk
    refine ⟨a, _, xs, rfl, rfl, sqT e1, fun z => ?_, h1, h2, by rw [r1.length]; exact h3, fun z => ?_, fun _ p hp => q _ _ _ hq (Grow.new _ hp) (Wd.okNew hp W.ok) (new_tup W hp (r1.flat _))⟩
    · subst z; cases r1; exact h0 rfl
    · subst z
      refine q _ _ H ?_ (Grow.refl _ _) W.ok qx
      have e : ∀ l : List D, (List.replicate (Int.toNat 1) l).flatten = l := fun l => List.append_nil l
      rw [e] at hq
      exact hq
  · exact hk.elim
/-- sorted(d), few ints as keys -/
def kSortedD : List D → (List D → Prop) → Prop := fun ds Q => ∃ (kvs : List (Key × D)) (ns : List Int), ds = [.dic kvs] ∧ kvs.map (·.1) = ns.map Sum.inl ∧ ns.length < 64 ∧ ∀ ns' : List Int, ns'.Perm ns → ns'.Pairwise (· ≤ ·) → Q (ns'.map D.int)
theorem RpD.keys {A : At} : ∀ {xs : List (Key × V)} {ds : List (Key × D)}, RpD A xs ds → xs.map (·.1) = ds.map (·.1)
  | _, _, .nil => rfl
  | _, _, .cons _ r => by rw [List.map_cons, List.map_cons, RpD.keys r]
theorem kl_sortedD : KL C (fun xs H Q => ∃ (a : Addr) (kvs : List (Key × V)) (ks : List Int), xs = [.ref a] ∧ Rd H a (.dK kvs) ∧ kvs.map (·.1) = ks.map Sum.inl ∧ ks.length < 64 ∧
    ∀ (ys : List Int) (p : Addr), ys.Perm ks → ys.Pairwise (· ≤ ·) → H p = none → Q (.ref p) (upd H p (.lst (ys.map V.int)))) kSortedD := fun G _ n O H vs ds Qd Q W r h q => by
  obtain ⟨kvs, ns, rfl, hk, h64, h⟩ := h
  obtain ⟨v, rfl, r1⟩ := r.one
  obtain ⟨a, xs, rfl, e, r⟩ := r1.dict
  exact ⟨a, xs, ns, rfl, rk_rd e, r.keys.trans hk, h64, fun ns' p hp hs hn => q _ p _ _ (h ns' hp hs) (Grow.new _ hn) (Wd.okNew hn W.ok) hn upd_same (.ofInts ns')⟩
end
abbrev rTupleOf (K : PySem.W.Frag) : List V → Hp → VK → Prop := fun xs H Q => ∃ p ys, xs = [.ref p] ∧ ((SqL K H p ys ∧ ∀ l, H l = none → Q (.ref l) (upd H l (.tup ys))) ∨ (SqT K H p ys ∧ Q (.ref p) H))
abbrev rListOf (K : PySem.W.Frag) : List V → Hp → VK → Prop := fun xs H Q => ∃ p ys, xs = [.ref p] ∧ (SqL K H p ys ∨ SqT K H p ys) ∧ ∀ l, H l = none → Q (.ref l) (upd H l (.lst ys))
/-! ### loops and comprehensions, by words -/
theorem loop_inv {g : GM} {b : SM} {P : Pe} (I : Nat → Ev → Prop) : ∀ (ds : List D) (k : Nat) (env : Ev), (∀ i d env (N : Ev → Prop), ds[i]? = some d → I (k + i) env → (∀ e, I (k + i + 1) e → N e) → g env d fun e1 => b e1 { P with nx := N, ct := N, bk := P.nx }) → I k env → (∀ e, I (k + ds.length) e → P.nx e) → loopP g b ds env P
  | [], k, env, _, h0, hd => hd env h0
  | d :: r, k, env, hs, h0, hd => hs 0 d env _ rfl h0 fun e he => loop_inv I r (k + 1) e (fun i d' env' N hi hI hN => hs (i + 1) d' env' N hi (by rw [show k + (i + 1) = k + 1 + i by omega]; exact hI) fun e he => hN e (by rw [show k + 1 + i + 1 = k + (i + 1) + 1 by omega]; exact he)) he fun e he => hd e (by rw [List.length_cons, show k + (r.length + 1) = k + 1 + r.length by omega]; exact he)
theorem loop_by {g : GM} {b : SM} {P : Pe} {ds : List D} {env : Ev} (I : Nat → Ev → Prop) (h0 : I 0 env) (hs : ∀ i d env (N : Ev → Prop), ds[i]? = some d → I i env → (∀ e, I (i + 1) e → N e) → g env d fun e1 => b e1 { P with nx := N, ct := N, bk := P.nx }) (hd : ∀ e, I ds.length e → P.nx e) : loopP g b ds env P :=
  loop_inv I ds 0 env (fun i d env N hi hI hN => hs i d env N hi (by rw [Nat.zero_add] at hI; exact hI) (by rw [Nat.zero_add] at hN; exact hN)) h0 (by rw [Nat.zero_add]; exact hd)
theorem lcP_map {i : Nat} {m : EM} {env : Ev} (f : D → D) : ∀ (ds acc : List D) (Q : List D → Prop), (∀ d ∈ ds, ∀ R : D → Prop, R (f d) → m (env.set i (.dat d)) R) → acc.length + ds.length ≤ sizeLine → Q (acc ++ ds.map f) → lcP (gN i) tmYes m env ds acc Q
  | [], acc, Q, _, _, q => by rw [List.map_nil, List.append_nil] at q; exact q
  | d :: r, acc, Q, h, hl, q => by
    show if true = true then m (env.set i (.dat d)) (fun y => acc.length < sizeLine ∧ lcP (gN i) tmYes m env r (acc ++ [y]) Q) else lcP (gN i) tmYes m env r acc Q
    rw [if_pos rfl]
    rw [List.length_cons] at hl
    refine h d List.mem_cons_self _ ⟨by omega, lcP_map f r _ Q (fun d' hd' => h d' (List.mem_cons_of_mem _ hd')) (by rw [List.length_append, List.length_singleton]; omega) ?_⟩
    rw [List.append_assoc]; exact q
theorem lcP_all {i : Nat} {m : EM} {env : Ev} (p : D → Prop) : ∀ (ds acc : List D) (Q : List D → Prop), (∀ d ∈ ds, ∀ R : D → Prop, (∀ y, p y → R y) → m (env.set i (.dat d)) R) → acc.length + ds.length ≤ sizeLine → (∀ ys, ys.length = ds.length → (∀ y ∈ ys, p y) → Q (acc ++ ys)) → lcP (gN i) tmYes m env ds acc Q
  | [], acc, Q, _, _, q => by have := q [] rfl (fun _ h => nomatch h); rw [List.append_nil] at this; exact this
  | d :: r, acc, Q, h, hl, q => by
    show if true = true then m (env.set i (.dat d)) (fun y => acc.length < sizeLine ∧ lcP (gN i) tmYes m env r (acc ++ [y]) Q) else lcP (gN i) tmYes m env r acc Q
    rw [if_pos rfl]
    rw [List.length_cons] at hl
    refine h d List.mem_cons_self _ fun y hy => ⟨by omega, lcP_all p r _ Q (fun d' hd' => h d' (List.mem_cons_of_mem _ hd')) (by rw [List.length_append, List.length_singleton]; omega) fun ys h1 h2 => ?_⟩
    rw [List.append_assoc]
    exact q (y :: ys) (by rw [List.length_cons, List.length_cons, h1]) fun z hz => by
      rcases List.mem_cons.mp hz with e | e
      · rw [e]; exact hy
      · exact h2 z e
/-- a loop is a fold -/
theorem loop_fold {α β : Type} {g : GM} {b : SM} {P : Pe} (enc : α → D) (stp : β → α → β) (I : β → Ev → Prop) : ∀ (l : List α) (s : β) (env : Ev), I s env → (∀ x ∈ l, ∀ s env (N : Ev → Prop), I s env → (∀ e, I (stp s x) e → N e) → g env (enc x) fun e1 => b e1 { P with nx := N, ct := N, bk := P.nx }) → (∀ e, I (l.foldl stp s) e → P.nx e) → loopP g b (l.map enc) env P
  | [], s, env, h0, _, hd => hd env h0
  | x :: r, s, env, h0, hs, hd => hs x List.mem_cons_self s env _ h0 fun e he => loop_fold enc stp I r (stp s x) e he (fun y hy => hs y (List.mem_cons_of_mem _ hy)) hd
theorem lcP_enc {α : Type} {i : Nat} {m : EM} {env : Ev} (enc f : α → D) : ∀ (l : List α) (acc : List D) (Q : List D → Prop), (∀ x ∈ l, ∀ R : D → Prop, R (f x) → m (env.set i (.dat (enc x))) R) → acc.length + l.length ≤ sizeLine → Q (acc ++ l.map f) → lcP (gN i) tmYes m env (l.map enc) acc Q
  | [], acc, Q, _, _, q => by rw [List.map_nil, List.append_nil] at q; exact q
  | d :: r, acc, Q, h, hl, q => by
    show if true = true then m (env.set i (.dat (enc d))) (fun y => acc.length < sizeLine ∧ lcP (gN i) tmYes m env (r.map enc) (acc ++ [y]) Q) else lcP (gN i) tmYes m env (r.map enc) acc Q
    rw [if_pos rfl]
    rw [List.length_cons] at hl
    refine h d List.mem_cons_self _ ⟨by omega, lcP_enc enc f r _ Q (fun d' hd' => h d' (List.mem_cons_of_mem _ hd')) (by rw [List.length_append, List.length_singleton]; omega) ?_⟩
    rw [List.append_assoc]; exact q
/-- .. of those that pass -/
theorem lcP_flt {α : Type} {i : Nat} {t : TM} {m : EM} {env : Ev} (enc : α → D) (p : α → Bool) (f : α → D) : ∀ (l : List α) (acc : List D) (Q : List D → Prop), (∀ x ∈ l, ∀ R : Bool → Prop, R (p x) → t (env.set i (.dat (enc x))) R) → (∀ x ∈ l, p x = true → ∀ R : D → Prop, R (f x) → m (env.set i (.dat (enc x))) R) → acc.length + l.length ≤ sizeLine → Q (acc ++ (l.filter p).map f) → lcP (gN i) t m env (l.map enc) acc Q
  | [], acc, Q, _, _, _, q => by rw [List.filter_nil, List.map_nil, List.append_nil] at q; exact q
  | d :: r, acc, Q, ht, hm, hl, q => by
    rw [List.length_cons] at hl
    show t (env.set i (.dat (enc d))) fun b => if b = true then m (env.set i (.dat (enc d))) (fun y => acc.length < sizeLine ∧ lcP (gN i) t m env (r.map enc) (acc ++ [y]) Q) else lcP (gN i) t m env (r.map enc) acc Q
    refine ht d List.mem_cons_self _ ?_
    cases hp : p d with
    | true =>
      rw [if_pos rfl]
      refine hm d List.mem_cons_self hp _ ⟨by omega, lcP_flt enc p f r _ Q (fun x hx => ht x (List.mem_cons_of_mem _ hx)) (fun x hx => hm x (List.mem_cons_of_mem _ hx)) (by rw [List.length_append, List.length_singleton]; omega) ?_⟩
      rw [List.filter_cons, hp, if_pos rfl, List.map_cons] at q
      rw [List.append_assoc]; exact q
    | false =>
      rw [if_neg Bool.false_ne_true]
      rw [List.filter_cons, hp, if_neg Bool.false_ne_true] at q
      exact lcP_flt enc p f r _ Q (fun x hx => ht x (List.mem_cons_of_mem _ hx)) (fun x hx => hm x (List.mem_cons_of_mem _ hx)) (by omega) q
theorem ixN_nat {n i : Nat} (h : i < n) : ixN n (i : Int) = some i := by
  unfold ixN
  rw [if_pos (by omega), if_pos (by omega)]; simp
/-! ### the worlds -/
def CA : Wd → Prop := fun _ => True
theorem se_callA {C : Wd → XC → Prop} {c : Nat} {t : TA} {am : AM} {S : List D → (D → Prop) → Prop} {E : XK} (h : SA C c t am) (hS : Mono S) : SE C c (tCall (spP CA 0 S) [] E t) (mCall am S) := se_call (k := 0) h hS fun _ _ _ => trivial
/-! ### keywords alone -/
def g0 {α : Type} (us ws : List α) : List α := match us with
  | [] => ws
  | _ :: _ => []
structure PrK (P : Program) (w : World) (K : PySem.W.Frag) (mg : Str → Option Value) (base : Heap) (x : Str) (k : Nat) (ps : List Str) (sp : Sp) : Prop where
  ex : ∃ f fd, FnOk P w K mg base CX0 k f fd ps sp ∧ mg x = some (.ref f) ∧ PySem.W.keepIn K (.ref f) = true ∧ KBinds K fd ps ps g0 g0
theorem kb_mk {K : PySem.W.Frag} {x qual : Str} {st : Stmt} {f : Addr} {fd : FuncData} {ps : List Str} (F : Fun K x qual st f fd) (hps : ps ≠ [])
    (h : ∀ (kV doc pm : Value) (an : Option Addr) (cdv ct : Value) (ws : List Value), ws.length = ps.length → bindArgs (PySem.W.fnOf x qual (defArgs st) (defBody st) (defScope st) .none kV doc pm an cdv ct) ⟨[], ps.zip ws⟩ = pure (ps.zip ws)) : KBinds K fd ps ps g0 g0 := by
  obtain ⟨oc, od, kV, doc, pm, an, cdv, ct, osl, rfl, lk, hcd⟩ := F.ex
  refine ⟨fun s us ws _ hl => ?_, fun {vs us zs ws} r rz => ?_⟩
  · cases us with
    | nil => exact .of_eq (h kV doc pm an cdv ct ws hl)
    | cons u us => exact absurd (List.length_eq_zero_iff.mp hl.symm) hps
  · cases r with
    | nil => exact rz
    | cons a r => exact .nil
theorem pe_callKP {X : Cx} {x : Str} {k : Nat} {ps : List Str} {sp : Sp} {p pos : Pos} {kws : List Keyword} {t : TA} (h : PrK X.prog X.w X.K X.mg X.base x k ps sp) (hr : Room k X.A) (hg : Gl X x) (ha : PK X kws t)
    (hall : (backToKw pos (keywordEach kws X.env)).all (·.1.isSome) = true := by rfl) (hks : (backToKw pos (keywordEach kws X.env)).filterMap (·.1) = ps := by rfl)
    (hdb : (x == ("__debug__" : Str)) = false := by decide) (hpl : ((backTo pos (starEach [] X.env)).any (·.1) || (backToKw pos (keywordEach kws X.env)).any (·.1.isNone)) = false := by rfl) :
    PE X (.Call (.Name x p) [] kws pos) (tCallK sp g0 E0 tNil t) := by
  obtain ⟨f, fd, h1, h2, h3, h4⟩ := h.ex
  exact pe_callK0 h1 hr hg h2 h3 h4 pass0 ha hall hks hdb hpl
theorem g0_rp {A : PL.At} : ∀ (vs zs : List V) (ds es : List D), RpL A vs ds → RpL A zs es → RpL A (g0 vs zs) (g0 ds es)
  | _, _, _, _, .nil, r => r
  | _, _, _, _, .cons _ _, _ => .nil
theorem se_callKA {C : Wd → XC → Prop} {c : Nat} {t : TA} {am : AM} {S : List D → (D → Prop) → Prop} {E : XK} (h : SA C c t am) (hS : Mono S) : SE C (0 + (c + 0)) (tCallK (spP CA 0 S) g0 E tNil t) (mCall am S) := se_callK (k := 0) g0 (fun A vs zs ds es r1 r2 => g0_rp vs zs ds es r1 r2) sa_nil h hS fun _ _ _ => trivial
/-! ### numbers and texts that are judged -/
def big : Int := 1000000000000000000
def isNum : D → Bool
  | .int i => decide (-big < i) && decide (i < big)
  | _ => false
end PL

namespace GaT
open PySem PyProof.Rows Srt SrtO
section
variable {prog : Program} {w : World} {A : Around} {E : Value → Shared → Prop} {s : Shared}
/-- a tuple's items gathered -/
theorem gather_tup {l : Addr} {o : Obj} {n : Nat} {vs : List Value} {Q : List Value → Shared → Prop} (g1 : s.heap.get? l = some o) (g2 : o.cls = .type "tuple") (g3 : o.data = .seq vs.toArray n)
    (fin : Q vs { s with heap := (s.heap.push (seqObj "list" #[] 0)).update s.heap.objs.size (Obj.mapSeq (· ++ vs.toArray)) }) (few : vs.length ≤ sizeLine) :
    wpAny (model prog w) A (collect (.ref l)) Q E s := by
  unfold collect
  refine wpAny_bind (wpAny_runValue (codeAny_builtin entry_proto_collect' ?_))
  show wpAny _ _ (do again (.builtin "list.__iadd__" ⟨[← newList [], .ref l], []⟩)) _ _ s
  refine wpAny_bind (wpAny_newList (wpAny_pure ⟨Code.quiet_builtin _ (by decide +kernel), codeAny_builtin entry_list_iadd' ?_⟩))
  have g1' : (s.heap.push (seqObj "list" #[] 0)).get? l = some o := Heap.get?_push_of_some _ g1
  have new : (s.heap.push (seqObj "list" #[] 0)).get? s.heap.objs.size = some (seqObj "list" #[] 0) := Heap.get?_push_size _ rfl
  show wpAny _ _ (Builtin.List.listExtendWith (.ref s.heap.objs.size) (.ref l) (.ref s.heap.objs.size)) _ _ { s with heap := s.heap.push (seqObj "list" #[] 0) }
  unfold Builtin.List.listExtendWith
  refine wpAny_bind (wpAny_typeOf (T := "tuple") ⟨o, g1', g2⟩ ?_)
  have tt : (Value.type "tuple" == Value.type "tuple") = true := by rfl
  rw [if_pos (by rw [tt, Bool.or_true])]
  refine wpAny_bind (listItems_at g1' g3 (wpAny_bind (listItems_at (xs := #[]) (n := 0) new rfl ?_)))
  rw [if_neg (by simp)]
  refine wpAny_bind (listUpdate_at (xs := #[]) (n := 0) new rfl ?_ (Nat.zero_le _) (by simp only [Array.size_append, List.size_toArray, List.length_nil]; omega))
  refine wpAny_pure ?_
  show wpAny (model prog w) A (do
      let o ← load s.heap.objs.size
      match o.data with
      | .seq xs _ => pure xs.toList
      | _ => unsupported "internal:collect") Q E { s with heap := (s.heap.push (seqObj "list" #[] 0)).update s.heap.objs.size (Obj.mapSeq (· ++ vs.toArray)) }
  refine wpAny_bind (wpAny_load (get?_update_seq new _) ?_)
  have back : ((#[] : Array Value) ++ vs.toArray).toList = vs := by simp
  show wpAny _ _ (pure ((#[] : Array Value) ++ vs.toArray).toList) Q E _
  rw [back]
  exact wpAny_pure fin
/-- sorted(t), t a tuple -/
theorem sorted_tup {l : Addr} {o : Obj} {n : Nat} {vs : List Value} {lt : Value → Value → Bool} {Q : Value → Shared → Prop} (O : Swo lt) (g1 : s.heap.get? l = some o) (g2 : o.cls = .type "tuple") (g3 : o.data = .seq vs.toArray n) (few : vs.length ≤ sizeLine)
    (ask : 2 ≤ vs.length → ∀ (h₁ : Heap) (a : Addr), SortableO prog w A.in1.in1 { s with heap := h₁ } a vs lt)
    (fin : ∀ out : List Value, Srtd lt out → Stb lt out vs → Q (.ref (s.heap.objs.size + 1)) { s with heap := sortedAll s.heap vs out.toArray }) :
    wpAny (model prog w) A (call (.builtin "sorted") [.ref l]) Q E s := by
  refine Calls.call_function_entry kind_sorted plain_sorted entry_sorted (args_sorted1 _) ?_
  unfold Builtin.«sorted»
  refine wpAny_bind (m := checkCount "sorted" 1 1 _) (wpAny_pure (wpAny_bind (gather_tup g1 g2 g3 (wpAny_bind (wpAny_newList ?_ few)) few)))
  generalize hg : (s.heap.push (seqObj "list" #[] 0)).update s.heap.objs.size (Obj.mapSeq (· ++ vs.toArray)) = G
  have size : G.objs.size = s.heap.objs.size + 1 := by rw [← hg, Heap.size_update, size_push']
  have there : (G.push (seqObj "list" vs.toArray 0)).get? (s.heap.objs.size + 1) = some (seqObj "list" vs.toArray 0) := by rw [← size]; exact Heap.get?_push_size _ rfl
  show wpAny _ _ _ _ _ { s with heap := G.push (seqObj "list" vs.toArray 0) }
  rw [size]
  refine wpAny_bind (wpAny_holding (wpAny_call_entry slot_list_sort ⟨_, there, rfl⟩ entry_list_sort (list_sort_ord O there few (fun two => ask two _ _) fun out r1 r2 => ⟨_, rfl, ?_⟩) (args_list_sort _)))
  refine wpAny_pure ⟨_, rfl, ?_⟩
  have := fin out r1 r2
  unfold sortedAll at this
  rw [hg] at this
  exact this
end
end GaT
namespace L2
open PySem PySem.Spec PyProof.Rows
section
variable {X : Cx}
/-- sorted(t), t a tuple of ints -/
def rSortedTI (K : PySem.W.Frag) : List V → Hp → VK → Prop := fun vs H Q => ∃ (a : Addr) (ns : List Int), vs = [V.ref a] ∧ SqT K H a (ns.map V.int) ∧
  ∀ (ms : List Int) (p : Addr), ms.Perm ns → ms.Pairwise (· ≤ ·) → H p = none → Q (.ref p) (upd H p (.lst (ms.map V.int)))
theorem cr_sortedTI : CallR X (.builtin "sorted") (rSortedTI X.K) := by
  intro pins s σ H vs us Q I r h
  obtain ⟨a, ns, rfl, hs, q⟩ := h
  obtain ⟨its, rv, ⟨o, g1, g2, n, g3⟩, hz⟩ := I.tuple hs
  rw [Vals.ref1 r]
  have hi := rv.ints
  have lz : its.length ≤ sizeLine := by rw [← rv.length]; exact hz
  refine GaT.sorted_tup SrtO.swo_int g1 g2 g3 lz (fun two h₁ b => SrtO.ints_sortable hi two) fun out e1 e2 => ?_
  obtain ⟨k1, k2, k3⟩ := SrtO.ints_out hi e1 e2
  obtain ⟨ep, at'⟩ := PyProof.Rows.sortedAll_at s.heap its out.toArray
  have lo : ((out.map SrtO.iv).map V.int).length ≤ sizeLine := by
    rw [List.length_map, k2.length_eq]
    rw [List.length_map] at hz; exact hz
  exact ⟨.ref _, upd H (s.heap.objs.size + 1) (.lst ((out.map SrtO.iv).map V.int)), I.laid (t' := s.toks) (fun _ _ => PyProof.Rows.sortedAll_old) (Nat.le_succ _) ⟨lo, out, ep, vals_of_ints k1, at'⟩, rfl, q _ _ k2 k3 (I.hok.fresh (Nat.le_succ _))⟩
/-- t.index(i), t a tuple of ints, the first place -/
def rIndexTI (K : PySem.W.Frag) : V → List V → Hp → VK → Prop := fun x xs H Q => ∃ (p : Addr) (ns : List Int) (i : Int) (j : Nat), x = .ref p ∧ xs = [.int i] ∧ SqT K H p (ns.map V.int) ∧ ns[j]? = some i ∧ (∀ m, m < j → ns[m]? ≠ some i) ∧ Q (.int (j : Nat)) H
theorem flat_is (ns : List Int) : (ns.map V.int).all flatV = true := by induction ns with | nil => rfl | cons n ns ih => simp [flatV, ih]
theorem mt_tindex : MtR X "tuple.index" (rIndexTI X.K) := by
  intro pins s σ H x xs v us Q I rx rs h
  obtain ⟨p, ns, i, j, rfl, rfl, hq, hy, hno, q⟩ := h
  cases rx
  obtain ⟨u, rfl, t, rfl⟩ := vals1 rs
  obtain ⟨its, r, ⟨⟨cls, dd, dt, sl⟩, ho, hc, n, hd⟩, hz⟩ := I.tuple hq
  dsimp only at hc hd
  subst hc hd
  have sz : its.toArray.size = ns.length := by rw [List.size_toArray, ← r.length, List.length_map]
  have item : ∀ (m : Nat) (hm : m < its.toArray.size), ∃ k t', ns[m]? = some k ∧ its.toArray[m] = Value.int k t' := fun m hm => by
    have hm' : m < ns.length := by omega
    obtain ⟨w, hw, t', ew⟩ := r.get (i := m) (x := .int ns[m]) (by simp [hm'])
    refine ⟨ns[m], t', List.getElem?_eq_getElem hm', ?_⟩
    rw [← ew, ← (List.getElem?_eq_some_iff.mp hw).2]; simp
  have hj : j < its.toArray.size := by rw [sz]; exact (List.getElem?_eq_some_iff.mp hy).1
  refine call_meets PySem.F.slot_tuple_index ⟨_, ho, rfl⟩ PySem.F.entry_tuple_index (PySem.F.args_tuple_index_2 _ _) (TI.tuple_indexAt p its.toArray n dd sl (.int i t) (eqU (.int i)) j hj ?_ ?_)
    ⟨ho, fun w hw => mem_eqAt (x := .int i) ⟨t, rfl⟩ rfl r (flat_is ns) w (by simpa using hw), ⟨.int (j : Nat), H, I.tok _, ⟨_, rfl⟩, q⟩⟩
  · obtain ⟨k, t', e1, e2⟩ := item j hj
    rw [hy] at e1; cases e1
    rw [e2]; show (i == i) = true; exact beq_self_eq_true i
  · intro m hm hmj
    obtain ⟨k, t', e1, e2⟩ := item m hm
    rw [e2]; show (k == i) = false
    exact beq_eq_false_iff_ne.mpr fun e => hno m hmj (e ▸ e1)
end
end L2

namespace PL
open PySem PySem.Spec PyProof.Rows L2
section
variable {C : Wd → XC → Prop} {K : PySem.W.Frag} {te ta tb tc tk ti to : TE} {tt tu : TT} {t tr : TA} {m ma mb mc mk mi : EM} {mt mu : TM} {mx my : XM} {am ar : AM} {i j c c1 c2 c3 : Nat} {ts tz : TS} {sm sz : SM}
/-! ### is, is not of truth values -/
def kIsB (p : Bool → Bool) : D → D → (D → Prop) → Prop := fun x y Q => match x, y with | .bl a, .bl b => Q (.bl (p (decide (a = b)))) | _, _ => False
theorem k2_isB : K2 C rIsB (kIsB id) := fun G _ n O H x y d e Qd Q W rx ry hk q => by
  unfold kIsB at hk
  split at hk
  · exact ⟨_, _, rx.bl, ry.bl, q _ _ H hk (Grow.refl _ _) W.ok (.bl _)⟩
  · exact hk.elim
theorem k2_notB : K2 C rNotB (kIsB not) := fun G _ n O H x y d e Qd Q W rx ry hk q => by
  unfold kIsB at hk
  split at hk
  · exact ⟨_, _, rx.bl, ry.bl, q _ _ H hk (Grow.refl _ _) W.ok (.bl _)⟩
  · exact hk.elim
/-! ### sorted(t), t.index(i), xs[::-1] -/
def kSortedTI : List D → (List D → Prop) → Prop := fun ds Q => ∃ ns : List Int, ds = [.tup (ns.map D.int)] ∧ ∀ ns' : List Int, ns'.Perm ns → ns'.Pairwise (· ≤ ·) → Q (ns'.map D.int)
theorem kl_sortedTI : KL C (rSortedTI K) kSortedTI := fun G _ n O H vs ds Qd Q W r h q => by
  obtain ⟨ns, rfl, h⟩ := h
  obtain ⟨v, rfl, r1⟩ := r.one
  obtain ⟨a, xs, rfl, e, r⟩ := r1.tuple
  rw [r.ints] at e
  exact ⟨a, ns, rfl, sqT e, fun ns' p hp hs hn => q _ p _ _ (h ns' hp hs) (Grow.new _ hn) (Wd.okNew hn W.ok) hn upd_same (.ofInts ns')⟩
def mRevL (m : EM) : AM := fun env Q => m env fun d => match d with | .lst l => Q l.reverse | _ => False
theorem sl_revL (h : SR C c te m) : SL C c (tRevL K te) (mRevL m) := fun G c n O env σ H Qd Q hL F hm k =>
  h G c n O env σ H _ _ hL F hm fun d v H1 h1 g1 ok1 r1 => by
    split at h1
    · obtain ⟨a, xs, rfl, e, r⟩ := r1.list
      exact ⟨a, xs, rfl, sqL e, fun p hp => k _ p _ _ h1 (g1.trans (Grow.new _ hp)) (Wd.okNew hp ok1) (g1.free ok1 hp) upd_same (r.rev.mono (add_le (G := G) hp))⟩
    · exact h1.elim
end
end PL

namespace PL
open PySem PySem.Spec PyProof.Rows L2
section
variable {C : Wd → XC → Prop} {K : PySem.W.Frag} {te ta tb tc tk ti to : TE} {tt tu : TT} {t tr : TA} {m ma mb mc mk mi : EM} {mt mu : TM} {mx my : XM} {am ar : AM} {i j c c1 c2 c3 : Nat} {ts tz : TS} {sm sz : SM}
/-! ### == of truth values -/
def kEqB (p : Bool → Bool) : D → D → (D → Prop) → Prop := fun x y Q => match x, y with | .bl a, .bl b => Q (.bl (p (decide (a = b)))) | _, _ => False
theorem k2_eqB : K2 C rEq (kEqB id) := fun G _ n O H x y d e Qd Q W rx ry hk q => by
  unfold kEqB at hk
  split at hk
  · cases rx.bl; cases ry.bl
    refine ⟨rfl, q _ _ H hk (Grow.refl _ _) W.ok ?_⟩
    have e : ∀ i j : Bool, decide (V.bl i = V.bl j) = decide (i = j) := fun i j => by simp
    rw [e]; exact .bl _
  · exact hk.elim
theorem k2_neB : K2 C rNe (kEqB not) := fun G _ n O H x y d e Qd Q W rx ry hk q => by
  unfold kEqB at hk
  split at hk
  · cases rx.bl; cases ry.bl
    refine ⟨rfl, q _ _ H hk (Grow.refl _ _) W.ok ?_⟩
    have e : ∀ i j : Bool, decide (V.bl i = V.bl j) = decide (i = j) := fun i j => by simp
    rw [e]; exact .bl _
  · exact hk.elim
/-! ### x.append(y.pop(e)) -/
def sAppPop (i j : Nat) (m : EM) : SM := fun env P => match env[i]?, env[j]? with
  | some (.own xs), some (.own ys) => i ≠ j ∧ m env fun d => (match d with | .int k => (match ys[k.toNat]? with | some y => (0 ≤ k ∧ ys.length ≤ sizeLine ∧ xs.length < sizeLine) ∧ P.nx ((env.set j (.own (ys.eraseIdx k.toNat))).set i (.own (xs ++ [y]))) | none => False) | _ => False)
  | _, _ => False
theorem ss_appPop (h : SE C c te m) : SS C c (tDrop (tBM K "list" rAppend (tVar i) (tCons (tBM K "list" rPopAt (tVar j) (tCons te tNil)) tNil))) (sAppPop i j m) := fun G cg n O env σ H P D hL F hm e => by
  unfold sAppPop at hm
  split at hm
  · rename_i ds es ei ej
    obtain ⟨hij, hm⟩ := hm
    obtain ⟨v, esi, s⟩ := F.sl i _ ei (by intro z; cases z)
    obtain ⟨u, esj, s'⟩ := F.sl j _ ej (by intro z; cases z)
    cases s with
    | @own a xs _ eh oa r =>
      cases s' with
      | @own b ys _ eh' ob r' =>
        refine ⟨_, esi, .inl ⟨rfl, xs, sqL eh⟩, _, esj, .inl ⟨rfl, ys, sqL eh'⟩, ?_⟩
        refine h G cg n O env σ H _ _ hL F hm fun d w H1 q1 g ok rv => ?_
        split at q1
        · rename_i k
          split at q1
          · rename_i y hy
            obtain ⟨⟨h0, hl, hl2⟩, q⟩ := q1
            cases rv
            have F1 := F.grow g ok
            have eh1 := g _ _ eh oa.z
            have eh1' := g _ _ eh' ob.z
            have r1 := r.mono (sh_grow F.wl.zo g)
            have r1' := r'.mono (sh_grow F.wl.zo g)
            obtain ⟨z, hz, rz⟩ := r1'.get hy
            have hlt := (List.getElem?_eq_some_iff.mp hz).1
            have hk : k = (k.toNat : Int) := by omega
            have hsl := sizeLine_eq
            have hll := r1'.length
            have six : seqIndex? k ys.length = some k.toNat := by
              have h3 : k < (ys.length : Int) := by omega
              unfold seqIndex?
              simp only [if_neg (show ¬ k < 0 by omega)]
              rw [decide_eq_true h0, decide_eq_true h3]
              rfl
            refine ⟨b, ys, k, k.toNat, z, rfl, rfl, eh1', by omega, by omega, six, hz, ?_⟩
            have hab : a ≠ b := fun z => by
              subst z
              exact hij (F.uqo i j a ⟨_, ei, rfl⟩ ⟨_, ej, rfl⟩ esi esj)
            have le1 : LeA (Sh O H1) (Sh O (upd H1 b (.lst (ys.eraseIdx k.toNat)))) := own_le ob
            have F2 := F1.mut (c' := .own (es.eraseIdx k.toNat)) (o := .lst (ys.eraseIdx k.toNat)) ej esj rfl rfl ob fun H' l e' => .own e' ob ((r1'.eraseIdx k.toNat).mono l)
            have ei2 : (env.set j (.own (es.eraseIdx k.toNat)))[i]? = some (.own ds) := by rw [List.getElem?_set_ne hij.symm]; exact ei
            refine ⟨a, xs, z, rfl, rfl, by rw [upd_ne hab]; exact eh1, by rw [r.length]; exact hl2, ?_⟩
            have F3 := F2.mut (c' := .own (ds ++ [y])) (o := .lst (xs ++ [z])) ei2 esi rfl rfl oa fun H' l e' => .own e' oa (((r1.mono le1).append (.cons (rz.mono le1) .nil)).mono l)
            exact e.nx O _ _ _ ((sh_grow F.wl.zo g).trans (le1.trans (own_le oa))) F3 q
          · exact q1.elim
        · exact q1.elim
  · exact hm.elim
end
end PL

namespace PL
open PySem PySem.Spec PyProof.Rows L2
section
variable {C : Wd → XC → Prop} {K : PySem.W.Frag} {te ta tb tc tk tl ti to : TE} {tt tu : TT} {t tr : TA} {m ma mb mc mk ml mi : EM} {mt mu : TM} {mx my : XM} {am ar : AM} {i j c c1 c2 c3 c4 : Nat} {ts tz : TS} {sm sz : SM}
/-- d.get(k, x) -/
def mGet2 (md mk mx : EM) : EM := fun env Q => md env fun x => match x with
  | .dic kvs => mk env fun y => mx env fun z => (match y.key with | some k => Q ((getD kvs k).getD z) | none => False)
  | _ => False
theorem se_get2 (hd : SR C c1 ta m) (hk : SE C c2 tk mk) (hx : SE C c3 tb mb) : SE C (c1 + (c2 + c3)) (tDGet2 ta tk tb) (mGet2 m mk mb) := fun G c n O env σ H Qd Q hL F hm q =>
  hd G c n O env σ H _ _ (by omega) F hm fun x v H1 h1 g1 ok1 r1 => by
    have F1 := F.grow g1 ok1
    split at h1
    · rename_i kvs
      obtain ⟨a, xs, ev, e, r⟩ := r1.dict
      refine ⟨a, ev, .inl ⟨xs, rk_rd e⟩, hk G c _ O env σ H1 _ _ (by omega) F1 h1 fun y u H2 h2 g2 ok2 r2 => hx G c _ O env σ H2 _ _ (by omega) (F1.grow g2 ok2) h2 fun z w H3 h3 g3 ok3 r3 => ?_⟩
      have W2 := F1.wl.grow g2 ok2
      subst ev
      obtain ⟨a', xs', ea, e', r'⟩ := ((r1.grow F1.wl g2).grow W2 g3).dict
      cases ea
      split at h3
      · rename_i k hk'
        have eu := (Rr.dat (G := G) r2).key hk'
        subst eu
        have this := r'.get (k := k)
        refine ⟨valV xs' k, dgetK e', ?_⟩
        have fin := q _ ((valV xs' k).getD w) H3 h3 (g1.trans (g2.trans g3)) (by rw [show n + (c1 + (c2 + c3)) = n + c1 + c2 + c3 by omega]; exact ok3)
        cases hg : getD kvs k with
        | none =>
          rw [hg] at this fin
          rw [this] at fin ⊢
          exact fin r3
        | some d =>
          rw [hg] at this fin
          obtain ⟨w', hw, rw'⟩ := this
          rw [hw] at fin ⊢
          exact fin rw'
      · exact h3.elim
    · exact h1.elim
/-- x[k], y[l] = (a, b): two own dicts -/
def sPut2 (N i j : Nat) (mk ml ma mb : EM) : SM := fun env P => match env[i]?, env[j]? with
  | some (.owd kx), some (.owd ky) => (i ≠ j ∧ 2 = N) ∧ ma env fun a => mb env fun b => mk env fun u => (match u.key with
    | some k => (2 ≤ sizeLine ∧ kx.length < sizeLine ∧ ky.length < sizeLine) ∧ ml (env.set i (.owd (putD kx k a))) fun v => (match v.key with
      | some l => P.nx ((env.set i (.owd (putD kx k a))).set j (.owd (putD ky l b)))
      | none => False)
    | none => False)
  | _, _ => False
theorem ss_put2 {N : Nat} (hk : SE C c3 tk mk) (hl : SE C c4 tl ml) (ha : SE C c1 ta ma) (hb : SE C c2 tb mb) : SS C (c1 + (c2 + (c3 + c4))) (tAsg (tTup (tCons ta (tCons tb tNil))) (gTup K N (gCons (gSub (tVar i) tk rSetD) (gCons (gSub (tVar j) tl rSetD) gNil)))) (sPut2 N i j mk ml ma mb) := fun G c n O env σ H P D hL F hm e => by
  unfold sPut2 at hm
  split at hm
  · rename_i kx ky ei ej
    obtain ⟨⟨hij, hN⟩, hm⟩ := hm
    subst hN
    refine ha G c n O env σ H _ _ (by omega) F hm fun d v H1 q1 g1 ok1 r1 => hb G c _ O env σ H1 _ _ (by omega) (F.grow g1 ok1) q1 fun d' u H2 q2 g2 ok2 r2 => ?_
    refine ⟨(by show 2 ≤ sizeLine; rw [sizeLine_eq]; omega), fun p hp => ?_⟩
    have F2 := (F.grow g1 ok1).grow g2 ok2
    have g3 : Grow G.w H2 (upd H2 p (.tup [v, u])) := Grow.new _ hp
    have ok3 := Wd.okNew (o := HO.tup [v, u]) hp ok2
    have F3 := F2.grow g3 ok3
    have rv := r1.mono (sh_grow F.wl.zo (g2.trans g3))
    have ru := r2.mono (sh_grow F.wl.zo g3)
    refine ⟨p, [v, u], rfl, sqT (.inl upd_same), rfl, v, [u], rfl, ?_⟩
    obtain ⟨vi, esi, si⟩ := F3.sl i _ ei (by intro z; cases z)
    obtain ⟨vj, esj, sj⟩ := F3.sl j _ ej (by intro z; cases z)
    cases si with
    | @owd a xs _ eh oa r =>
      cases sj with
      | @owd b ys _ eh' ob r' =>
        have hab : a ≠ b := fun z => by subst z; exact hij (F3.uqo i j a ⟨_, ei, rfl⟩ ⟨_, ej, rfl⟩ esi esj)
        refine ⟨_, esi, hk G c _ O env σ _ _ _ (by omega) F3 q2 fun y w H4 q4 g4 ok4 r4 => ?_⟩
        split at q4
        · rename_i k hk'
          obtain ⟨⟨_, l1, l2⟩, q4⟩ := q4
          have eu := (Rr.dat (G := G) r4).key hk'
          subst eu
          have F4 := F3.grow g4 ok4
          have eh4 := g4 _ _ eh oa.z
          have r5 := r.mono (sh_grow F3.wl.zo g4)
          refine ⟨a, _, rfl, DPut.k eh4 (by rw [r5.length]; exact l1), ?_⟩
          have M1 := F4.mut (c' := .owd (putD kx k d)) (o := .dK (putK xs k v)) ei esi rfl rfl oa fun H' l e' => .owd e' oa ((r5.put (rv.mono (sh_grow F3.wl.zo g4))).mono l)
          have le1 : LeA (Sh O H4) (Sh O (upd H4 a (.dK (putK xs k v)))) := own_le oa
          refine ⟨u, [], rfl, _, esj, hl G c _ O _ σ _ _ _ (by omega) M1 q4 fun y2 w2 H5 q5 g5 ok5 rk5 => ?_⟩
          split at q5
          · rename_i l hl'
            have eu := (Rr.dat (G := G) rk5).key hl'
            subst eu
            have M2 := M1.grow g5 ok5
            have eh5 : H5 b = some (.dK ys) := g5 _ _ (by rw [upd_ne hab.symm]; exact g4 _ _ eh' ob.z) ob.z
            have r6 := ((r'.mono (sh_grow F3.wl.zo g4)).mono le1).mono (sh_grow M1.wl.zo g5)
            have ru6 := ((ru.mono (sh_grow F3.wl.zo g4)).mono le1).mono (sh_grow M1.wl.zo g5)
            refine ⟨b, _, rfl, DPut.k eh5 (by rw [r6.length]; exact l2), rfl, ?_⟩
            have ej2 : (env.set i (.owd (putD kx k d)))[j]? = some (.owd ky) := by rw [List.getElem?_set_ne hij]; exact ej
            have M3 := M2.mut (c' := .owd (putD ky l d')) (o := .dK (putK ys l u)) ej2 esj rfl rfl ob fun H' l e' => .owd e' ob ((r6.put ru6).mono l)
            have en : n + c1 + c2 + c3 + c4 = n + (c1 + (c2 + (c3 + c4))) := by omega
            rw [en] at M3
            exact e.nx O _ _ _ ((sh_grow F.wl.zo (g1.trans (g2.trans (g3.trans g4)))).trans (le1.trans ((sh_grow M1.wl.zo g5).trans (own_le ob)))) M3 q5
          · exact q5.elim
        · exact q4.elim
  · exact hm.elim
end
end PL

/-! enumerate(tuple) -/
namespace PySem
open Sem (wp)
theorem meets_enumerate_newB1 {v : Value} {o : Obj} {H : Heap → Prop} (B : Begins v o H) :
    Meets (Builtin.«enumerate.__new__» ⟨[.type "enumerate", v], []⟩) (fun _ R s => H s.heap ∧
      R (.ok (.ret (.ref (s.heap.push o).objs.size))) { s with heap := (s.heap.push o).push { cls := .type "enumerate", data := .fields #[.none, .bool false, .ref s.heap.objs.size, rawInt 0, .none, .none] } }) :=
  .of_wp fun prog w A R s h => by
    obtain ⟨hp, g, d, tk, os⟩ := s; obtain ⟨h1, h⟩ := h
    have hsub := sub_enumerate
    have q1 : ∀ {A' : Around} {E : Value → Shared → Prop} {Q : Value → Shared → Prop}, Q (.ref hp.objs.size) ⟨hp.push o, g, d, tk, os⟩ → wpAny (model prog w) A' (pyIter v) Q E ⟨hp, g, d, tk, os⟩ :=
      fun q => B.iter prog w _ _ ⟨hp, g, d, tk, os⟩ _ h1 q
    wp_walk using q1
    refine wpAny_stack_any fun st => wpAny_pure ?_
    split
    · rename_i c _ _ _ _ _
      cases (c == Value.type "enumerate")
      · wp_walk using q1
        exact ⟨_, rfl, h⟩
      · wp_walk using q1
        exact ⟨_, rfl, h⟩
    · wp_walk using q1
      exact ⟨_, rfl, h⟩
section
variable {prog : Program} {w : World} {A : Around} {E : Value → Shared → Prop} {s : Shared}
theorem enum_begins1 {v : Value} {o : Obj} {H : Heap → Prop} {Q : Value → Shared → Prop} (B : Begins v o H) (h1 : H s.heap)
    (h : ∀ h', IsEnum h' (s.heap.objs.size + 1) s.heap.objs.size 0 .none → h'.get? s.heap.objs.size = some o → h'.objs.size = s.heap.objs.size + 2 →
      (∀ b o, s.heap.get? b = some o → h'.get? b = some o) → Q (.ref (s.heap.objs.size + 1)) { s with heap := h' }) :
    wpAny (model prog w) A (call (.type "enumerate") [v]) Q E s := by
  refine callType_new F.called_enumerate (by decide) (F.typeCall_enumerate_1 _) (F.newCall_enumerate_1 _) (fun obj => F.args_object_init_2 obj _) F.entry_enumerate_new
    (meets_enumerate_newB1 B) ⟨h1, ?_⟩
  have hz : (s.heap.push o).objs.size = s.heap.objs.size + 1 := Heap.size_push ..
  show _ ∧ _
  rw [hz]
  have he : IsEnum ((s.heap.push o).push { cls := .type "enumerate", data := .fields #[.none, .bool false, .ref s.heap.objs.size, rawInt 0, .none, .none] }) (s.heap.objs.size + 1) s.heap.objs.size 0 .none := by
    have := Heap.get?_push_size (s.heap.push o) (o := { cls := .type "enumerate", data := .fields #[.none, .bool false, .ref s.heap.objs.size, rawInt 0, .none, .none] }) rfl
    rw [hz] at this; exact this
  refine ⟨⟨_, he, rfl⟩, h _ he (Heap.get?_push_of_some _ (Heap.get?_push_size _ B.free)) (by rw [Heap.size_push, hz]) fun b o x => Heap.get?_push_of_some _ (Heap.get?_push_of_some _ x)⟩
end
end PySem
namespace L2
open PySem PySem.Spec PyProof.Rows
def IteT (K : PySem.W.Frag) (a : Addr) : It :=
  ⟨fun i H => ∃ (xs : List V) (x : V), SqT K H a xs ∧ xs[i]? = some x, fun i H v H' => ∃ T x, v = .ref T ∧ H T = none ∧ H' = upd H T (.tup [.int (i : Nat), x]) ∧ ∀ xs, SqT K H a xs → xs[i]? = some x, fun i H => ∃ xs : List V, SqT K H a xs ∧ xs.length ≤ i⟩
theorem turn_enumT {P : Program} {w : World} {K : PySem.W.Frag} {elts : List Expr} {kk : Nat} {tpos : Pos} (a e it : Addr) :
    Turn P w K (.Tuple elts kk tpos) (IteT K a) [e, it] e (fun i h => (∃ old, IsEnum h e it ((i : Nat) : Int) old) ∧ h.IsTupleIter it a i ∧ e ≠ it ∧ a ≠ it ∧ e ≠ a) where
  mem := by simp
  obj := fun i h st b hb => by
    obtain ⟨⟨old, he⟩, ⟨o, ho, hc, hd⟩, _⟩ := st
    have e' : b = e ∨ b = it := by simpa using hb
    rcases e' with z | z
    · rw [z]; exact ⟨_, he, fun v q => nomatch q⟩
    · rw [z]; exact ⟨o, ho, fun v q => by rw [hd] at q; cases q⟩
  keep := fun i h h' st k => let ⟨⟨old, he⟩, hi, hne⟩ := st; ⟨⟨old, k e (by simp) _ he⟩, hi.at fun o q => k it (by simp) o q, hne⟩
  item := by
    intro X hP hw hK hc i pins s σ H E I hf st hg
    subst hP hw hK
    obtain ⟨⟨old, he⟩, hit, hne, hai, hea⟩ := st
    obtain ⟨xs, x, hq, hx⟩ := hg
    obtain ⟨its, rv, p, hz⟩ := I.tuple hq
    obtain ⟨u, hu, ru⟩ := rv.get hx
    have hel : e < s.heap.objs.size := Heap.lt_size he
    have hil : it < s.heap.objs.size := by obtain ⟨_, q, _⟩ := hit; exact Heap.lt_size q
    have hlt : i < its.toArray.size := by
      have := (List.getElem?_eq_some_iff.mp hu).1
      simpa using this
    have DD : Draws X.prog X.w X.A.in1 it [it, a] its.toArray.size (fun i v => its.toArray[i]? = some v) (fun i h => h.IsTupleIter it a i ∧ h.IsTuple a its.toArray) := Draws.tuple (A := X.A.in1) (show X.A.in1.handled = none from I.ok.hd hc) it a hai its.toArray
    refine wpAny_pyNext_enum_itemD DD he ⟨hit, p⟩ hlt hne (by simp [hne, hea]) fun y h' tk hy ho hit' hT hsz hk => ?_
    have ey : y = u := by
      have h2 : its.toArray[i]? = some u := by simpa using hu
      rw [h2] at hy; cases hy; rfl
    subst ey
    refine ⟨_, rfl, wpAny_letOwnedTupleGo_enum (s := { s with heap := h', toks := tk + 1 }) ho fun h'' he' sb => ?_⟩
    have hT2 : h''.get? s.heap.objs.size = some { cls := .type "tuple", data := .seq #[.int i tk, y] } := (sb.2 _ (Nat.ne_of_gt hel)).trans hT
    have new : ObjOk X.prog X.w (upd H s.heap.objs.size (.tup [.int (i : Nat), x])) h'' s.heap.objs.size (.tup [.int (i : Nat), x]) :=
      ⟨by show 2 ≤ sizeLine; decide, [.int i tk, y], .cons ⟨_, rfl⟩ (.cons ru .nil), ⟨_, hT2, rfl, _, rfl⟩⟩
    have I1 : Inv X pins σ (upd H s.heap.objs.size (.tup [.int (i : Nat), x])) { s with heap := h'', toks := tk + 1 } :=
      I.turnedNew (ch := [e, it]) (fun b ob hb q => (sb.2 b (fun z => hb (by simp [z]))).trans (hk b ob (fun z => hb (by simp [z])) (fun z => hb (by simp [z])) q)) hf (Nat.le_refl _) new
    refine ⟨.ref s.heap.objs.size, _, I1, rfl, ⟨_, x, rfl, I.hok.fresh (Nat.le_refl _), rfl, fun ys hy => by rw [I.tuple_inj hy hq]; exact hx⟩, ⟨⟨y, ?_⟩, hit'.1.at fun o q => (sb.2 it (Ne.symm hne)).trans q, hne, hai, hea⟩, fun b hb => ?_⟩
    · have e1 : ((i + 1 : Nat) : Int) = (i : Int) + 1 := by omega
      rw [e1]; exact he'
    · have hb' : b < s.heap.objs.size := by
        have e' : b = e ∨ b = it := by simpa using hb
        rcases e' with z | z
        · rw [z]; exact hel
        · rw [z]; exact hil
      rw [upd_ne (Nat.ne_of_lt hb')]
      exact (hf b hb).1
  done := by
    intro X hP hw hK hc i pins s σ H E I hf st hg
    subst hP hw hK
    obtain ⟨⟨old, he⟩, hit, hne, hai, hea⟩ := st
    obtain ⟨xs, hq, hx⟩ := hg
    obtain ⟨its, rv, p, hz⟩ := I.tuple hq
    obtain ⟨f0, f1, f2, f3, f4, f5⟩ := hf it (by simp)
    have hl := rv.length
    have hT : s.TypeIs (.ref e) "enumerate" := ⟨_, he, rfl⟩
    unfold pyNext
    refine wpAny_bind (wpAny_attempt (wpAny_callSpecial?_slot (name := Str.ofString "__next__") hT F.slot_enumerate_next
      (wpAny_call_entry F.slot_enumerate_next hT F.entry_enumerate_next ?_ (F.args_enumerate_next_1 _))))
    show wpAny _ _ (field (.ref e) 2 >>= _) _ _ _
    refine wpAny_bind (wpAny_field he rfl (x := .ref it) rfl ?_)
    refine wpAny_bind (wpAny_nextOf_tuple_end (I.ok.hd hc) hit p (by simp; omega) fun h' x he' hx' => ?_)
    obtain ⟨o, ho, hc'⟩ := hx'
    refine wpAny_bind (wpAny_isInstance (T := "StopIteration") (b := true) ⟨o, ho, hc'⟩ isSubtype_stop ?_)
    exact wpAny_pure ⟨rfl, I.turned (t' := s.toks) (fun b o hb q => he' b o hb q) f0 f1 f3 f4 f5⟩
  self := fun A i s Q E st h => let ⟨⟨_, he⟩, _⟩ := st; wpAny_pyIter_enum he h
def iEnumT (K : PySem.W.Frag) (ta : TA) : TI := fun σ H R => ta σ H fun vs H1 => ∃ a xs, vs = [.ref a] ∧ SqT K H1 a xs ∧ R (IteT K a) H1
theorem pi_enumT {X : Cx} {e : Expr} {ta : TA} {p pos tpos : Pos} {elts : List Expr} {kk : Nat} (hg : Gl X "enumerate") (hm : X.mg "enumerate" = none) (ha : PA X [e] ta) (hs : starEach [e] X.env = [(false, eval e X.env)] := by rfl) :
    PI X (.Tuple elts kk tpos) (.Call (.Name "enumerate" p) [e] [] pos) (iEnumT X.K ta) := by
  refine ⟨fun pins s σ H R I h => ?_⟩
  refine Call_ (ld_blt I hg hm boot_enumerate (PyProof.Rows.callWith_type1 (thn (ha.run pos pins s σ H _ I h) fun us s1 ⟨vs, H1, I1, r1, q1⟩ => ?_) hs rfl))
  obtain ⟨a, xs, ex, hq, q⟩ := q1
  subst ex
  cases r1 with
  | cons r rr =>
    cases rr
    cases r
    obtain ⟨its, rv, p', hz⟩ := I1.tuple hq
    have hal : a < s1.heap.objs.size := by obtain ⟨_, q, _⟩ := p'; exact Heap.lt_size q
    refine enum_begins1 (begins_tuple a its.toArray) p' fun h' he hit hsz hk => wpAny_pyIter_enum he ?_
    have I2 : Inv X pins σ H1 { s1 with heap := h' } := I1.kept (t' := s1.toks) hk
    refine ⟨s1.heap.objs.size + 1, [s1.heap.objs.size + 1, s1.heap.objs.size], _, _, H1, rfl, I2, turn_enumT a (s1.heap.objs.size + 1) s1.heap.objs.size, ⟨⟨.none, he⟩, ⟨_, hit, rfl, rfl⟩, Nat.succ_ne_self _, Nat.ne_of_lt hal, Nat.ne_of_gt (Nat.lt_succ_of_lt hal)⟩, fun b hb => ?_, q⟩
    have e' : b = s1.heap.objs.size + 1 ∨ b = s1.heap.objs.size := by simpa using hb
    have hle : s1.heap.objs.size ≤ b := by
      rcases e' with z | z
      · rw [z]; exact Nat.le_add_right _ _
      · rw [z]; exact Nat.le_refl _
    exact I1.fpOk hle (I1.hok.fresh hle)
end L2

namespace PL
open PySem PySem.Spec PyProof.Rows L2
section
variable {C : Wd → XC → Prop} {K : PySem.W.Frag} {te ta tb tc tk tl ti to : TE} {tt tu : TT} {t tr : TA} {m ma mb mc mk ml mi : EM} {mt mu : TM} {mx my mz : XM} {am ar : AM} {i j l c c1 c2 c3 c4 : Nat} {ts tz : TS} {sm sz : SM}
/-! ### a, b, c = x, y, z: plain names -/
theorem ss_par3 (h : SX C c1 ta mx) (h' : SX C c2 tb my) (h'' : SX C c3 tc mz) :
    SS C (c1 + (c2 + c3)) (tPar3 i j l (tCons ta (tCons tb (tCons tc tNil)))) (sPar3 i j l mx my mz) := fun G c n O env σ H P D hL F hm e =>
  h G c n O env σ H _ _ (by omega) F hm fun x1 v O1 H1 q g W l1 mo s nn f => by
    have F1 : Fr G (n + c1) O1 env σ H1 := ⟨W, F.len, fun k d e n => let ⟨u, h1, h2⟩ := F.sl k d e n; ⟨u, h1, h2.le g l1 mo⟩, F.uq⟩
    refine h' G c _ O1 env σ H1 _ _ (by omega) F1 q fun x2 u O2 H2 q2 g2 W2 l2 mo2 s2 n2 f2 => ?_
    have F2 : Fr G (n + c1 + c2) O2 env σ H2 := ⟨W2, F.len, fun k d e n => let ⟨u, h1, h2⟩ := F1.sl k d e n; ⟨u, h1, h2.le g2 l2 mo2⟩, F.uq⟩
    refine h'' G c _ O2 env σ H2 _ _ (by omega) F2 q2 fun x3 w O3 H3 q3 g3 W3 l3 mo3 s3 n3 f3 => ?_
    have en : n + c1 + c2 + c3 = n + (c1 + (c2 + c3)) := by omega
    have F3 := ((F.set (i := i) g W l1 mo s f).set (i := j) g2 W2 l2 mo2 s2 f2).set (i := l) g3 W3 l3 mo3 s3 f3
    rw [en] at F3
    exact ⟨v, u, w, rfl, e.nx O3 _ _ _ (l1.trans (l2.trans l3)) F3 q3⟩
/-! ### enumerate(tuple) -/
theorem walks_enumT {G : Cfg} {O : Addr → Prop} {H : Hp} {a : Addr} {xs : List V} {ds : List D} (e : Sh O H a (.tup xs)) (r : RpL (Sh O H) xs ds) : Walks G (IteT K a) O H (enumD 0 ds) := fun n O' H' l W i => by
  have e' := rk_tup (l _ _ e).1
  have r' := r.mono l
  rw [enumD_len]
  refine ⟨fun hi => ?_, fun hi => ⟨xs, sqT e', by rw [r.length]; exact hi⟩⟩
  obtain ⟨v, hv, rv⟩ := r'.get (List.getElem?_eq_getElem hi)
  refine ⟨⟨xs, v, sqT e', hv⟩, fun x H'' ⟨T, y, ex, nT, eH, hx⟩ => ?_⟩
  subst eH; subst ex
  have := hx xs (sqT e')
  rw [hv] at this; cases this
  refine ⟨Grow.new _ nT, Wd.okNew nT W.ok, _, enumD_get (List.getElem?_eq_getElem hi), ?_⟩
  rw [Nat.zero_add]
  exact new_tup W nT (.cons (.int _) (.cons rv .nil))
def iET (a : AM) : AM := fun env Q => a env fun ds => match ds with | [.tup l] => Q (enumD 0 l) | _ => False
theorem si_enumT (h : SA C c t am) : SI C c (iEnumT K t) (iET am) := fun G c n O env σ H Qd R hL F hm k =>
  h G c n O env σ H _ _ hL F hm fun ds vs H1 q g ok r => by
    split at q
    · cases r with
      | cons a r =>
        cases r
        cases a with
        | tup e r => exact ⟨_, _, rfl, sqT (rk_tup e.1), k _ _ H1 q g ok (walks_enumT e r)⟩
    · exact q.elim
end
end PL

namespace L2
open PySem PySem.Spec PyProof.Rows
section
variable {X : Cx}
/-- tuple(xs), the new object known -/
theorem call_tuple_ofF : CallR X (.type "tuple") (fun xs H Q => ∃ p ys, xs = [.ref p] ∧ SqL X.K H p ys ∧ ∀ l ob, H l = none → ob.dict = none → Q (.ref l) (upd H l (.frz ob (.tup ys)))) := by
  intro pins s σ H xs us Q I r h
  obtain ⟨p, ys, rfl, hq, q⟩ := h
  obtain ⟨u, rfl, rx⟩ := vals1 r
  cases rx
  obtain ⟨its, r', pl, hz⟩ := I.list hq
  have hlen := r'.length
  refine call_tuple_list pl.isList (fun h' kp => ?_) (by simp only [List.size_toArray] <;> omega)
  have I1 : Inv X pins σ H { s with heap := h' } := I.kept (t' := s.toks) kp
  have I2 : Inv X pins σ (upd H h'.objs.size (.frz { cls := .type "tuple", data := .seq its.toArray } (.tup ys))) { s with heap := h'.push { cls := .type "tuple", data := .seq its.toArray } } :=
    I1.laid (t' := s.toks) (fun b o e => Heap.get?_push_of_some _ e) (Nat.le_refl _) (show ObjOk X.prog X.w _ _ _ (.frz _ (.tup ys)) from ⟨Heap.get?_push_size _ rfl, hz, its, r', IsTup.new _ _⟩)
  exact ⟨.ref h'.objs.size, _, I2, rfl, q _ _ (I1.hok.fresh (Nat.le_refl _)) rfl⟩
/-- a method of such a tuple -/
def tBMF (r : V → List V → Hp → VK → Prop) (to : TE) (t : TA) : TE := fun σ H Q => to σ H fun x H1 => (∃ p ob ys, x = .ref p ∧ H1 p = some (.frz ob (.tup ys)) ∧ ob.dict = none) ∧ t σ H1 fun xs H2 => r x xs H2 Q
variable {o e : Expr} {es : List Expr} {to : TE} {t : TA} {name : Str} {apos cpos : Pos} {id : String} {r : V → List V → Hp → VK → Prop}
theorem pe_bmF (pa : PlainAttrs "tuple") (slot : Slot "tuple" name id) (hty : typeOf (.builtin id) = pure (.type "method_descriptor")) (hm : MtR X id r) (ho : PE X o to) (ha : PA X (e :: es) t)
    (hbase : attributeBase o name X.env (eval o X.env) = eval o X.env := by rfl)
    (hfew : ((backTo cpos (starEach (e :: es) X.env)).all (fun x => !x.1) && (backToKw cpos (keywordEach [] X.env)).all (fun x => x.1.isSome)
      && decide ((e :: es).length + ([] : List Keyword).length + (if ([] : List Keyword).isEmpty then 0 else 1) < 30)) = true := by rfl)
    (hline : (apos.endLine == cpos.line) = true := by rfl) (hs : starEach (e :: es) X.env = (false, eval e X.env) :: starEach es X.env := by rfl) (hplain : (backTo cpos (starEach es X.env)).any (·.1) = false := by rfl) :
    PE X (.Call (.Attribute o name apos) (e :: es) [] cpos) (tBMF r to t) := by
  refine ⟨fun pins s σ H Q I h => ?_⟩
  refine wpAny_Call_method_late hbase hfew hline rfl (thn (ho.run pins s σ H _ I h) fun v s1 ⟨x, H1, I1, r1, ⟨p, ob, ys, ex, hp, hd⟩, q1⟩ => ?_)
  subst ex
  cases r1
  obtain ⟨g1, _, its, _, o', g2, hc, _⟩ := (show ObjOk X.prog X.w H1 s1.heap p (.frz ob (.tup ys)) from I1.hok p _ hp)
  refine ⟨"tuple", id, pa, slot, hty, ⟨o', g2, hc⟩, fun a e => ?_, ?_⟩
  · cases e
    exact ⟨ob, g1, hd⟩
  have hA := ha.run cpos pins s1 σ H1 _ I1 q1
  rw [hs] at hA ⊢
  refine Calls.callWith_builtin (by show (false || (backTo cpos (starEach es X.env)).any (·.1)) = false; rw [hplain] <;> rfl) (Calls.evalArgs_plain ?_)
  exact thn hA fun us s2 ⟨vs, H2, I2, r2, q2⟩ => hm pins s2 σ H2 (.ref p) vs _ us Q I2 rfl r2 q2
end
end L2
namespace PL
open PySem PySem.Spec PyProof.Rows L2
section
variable {C : Wd → XC → Prop} {K : PySem.W.Frag} {te ta tb tc tk tl ti to : TE} {tt tu : TT} {t tr : TA} {m ma mb mc mk ml mi : EM} {mt mu : TM} {mx my mz : XM} {am ar : AM} {i j l c c1 c2 c3 c4 : Nat} {ts tz : TS} {sm sz : SM}
/-- such a tuple read as any -/
def mWk (i : Nat) : EM := fun env Q => match env[i]? with
  | some (.dat (.ftp l)) => Q (.tup l)
  | _ => False
theorem Rp.wk {O : Addr → Prop} {H : Hp} {v : V} {l : List D} (r : Rp (Sh O H) v (.ftp l)) : Rp (Sh O H) v (.tup l) := by
  cases r with
  | ftp e d r => exact .tup ⟨.inr ⟨_, (), .inr ⟨_, rfl⟩, rk_frz e.1⟩, e.2⟩ r
theorem se_wk {i : Nat} : SE C 0 (tVar i) (mWk i) := fun G _ n O env σ H Qd Q hl F hm k => by
  unfold mWk at hm
  split at hm
  · rename_i l ei
    obtain ⟨v, es, s⟩ := F.sl i _ ei (by intro z; cases z)
    cases s with
    | dat r => exact ⟨v, es, k _ _ H hm (Grow.refl _ _) F.wl.ok r.wk⟩
  · exact hm.elim
def kTupleF : List D → (D → Prop) → Prop := fun ds Q => match ds with | [.lst l] => Q (.ftp l) | _ => False
theorem kc_tupleF : KC C (fun xs H Q => ∃ p ys, xs = [.ref p] ∧ SqL K H p ys ∧ ∀ l ob, H l = none → ob.dict = none → Q (.ref l) (upd H l (.frz ob (.tup ys)))) kTupleF := fun G _ n O H vs ds Qd Q W r h q => by
  unfold kTupleF at h
  split at h
  · obtain ⟨v, rfl, r1⟩ := r.one
    obtain ⟨a, xs, rfl, e, r⟩ := r1.list
    exact ⟨a, xs, rfl, sqL e, fun p ob hp hd => q _ _ _ h (Grow.new _ hp) (Wd.okNew hp W.ok) (.ftp ⟨.inl upd_same, W.free hp⟩ hd (r.mono (sh_grow W.zo (Grow.new _ hp))))⟩
  · exact h.elim
def mTIx (i : Nat) (m : EM) : EM := fun env Q => match env[i]? with
  | some (.dat (.ftp l)) => m env fun d => ∃ (ns : List Int) (k : Int), l = ns.map D.int ∧ d = .int k ∧ k ∈ ns ∧ Q (.int (ns.idxOf k))
  | _ => False
theorem se_tindex {i : Nat} (h : SE C c te m) : SE C c (tBMF (rIndexTI K) (tVar i) (tCons te tNil)) (mTIx i m) := fun G cg n O env σ H Qd Q hL F hm k => by
  unfold mTIx at hm
  split at hm
  · rename_i l ei
    obtain ⟨v, es, s⟩ := F.sl i _ ei (by intro z; cases z)
    cases s with
    | dat r =>
      cases r with
      | @ftp a ob xs _ e d r =>
        have ea := rk_frz e.1
        refine ⟨_, es, ⟨a, ob, xs, rfl, ea, d⟩, h G cg n O env σ H _ _ hL F hm fun dd w H1 ⟨ns, j, h1, h2, h3, q⟩ g ok rw' => ?_⟩
        subst h1; subst h2
        cases rw'
        have nz : ¬ G.w.Z a := fun z => e.2 (F.wl.zo a z)
        have ex := r.ints
        subst ex
        have hlt : ns.idxOf j < ns.length := List.idxOf_lt_length_iff.mpr h3
        refine ⟨a, ns, j, ns.idxOf j, rfl, rfl, .inl (.inr ⟨ob, g _ _ ea nz⟩), by rw [List.getElem?_eq_getElem hlt, List.getElem_idxOf hlt], fun k hk hz => ?_, k _ _ H1 q g ok (.int _)⟩
        have hkl : k < ns.length := by omega
        rw [List.getElem?_eq_getElem hkl] at hz
        injection hz with hz
        have hm : j ∈ ns.take (ns.idxOf j) := by
          rw [List.mem_take_iff_getElem]
          exact ⟨k, by omega, hz⟩
        exact idx_take j ns hm
  · exact hm.elim
end
end PL

namespace L2
open PySem PySem.Spec PyProof.Rows
/-- a op1 b op2 c op3 d, as a test -/
def tChain3 (r r' r'' : R2) (ta tb tc td : TE) : TT := fun σ H Q => ta σ H fun x H1 => tb σ H1 fun y H2 => r x y H2 fun z H3 => ∃ k, z = .bl k ∧
  (if k = true then tc σ H3 fun z' H4 => r' y z' H4 fun w H5 => ∃ k', w = .bl k' ∧ (if k' = true then td σ H5 fun u H6 => r'' z' u H6 fun w2 H7 => ∃ k2, w2 = .bl k2 ∧ Q k2 H7 else Q false H5) else Q false H3)
section
variable {X : Cx} {a b c d : Expr} {ta tb tc td : TE} {pos : Pos}
theorem pt_chain3 {op op' op'' : CmpOp} {r r' r'' : R2} (ho : OpR X (compareOp op) r) (ho' : OpR X (compareOp op') r') (ho'' : OpR X (compareOp op'') r'') (ha : PE X a ta) (hb : PE X b tb) (hc : PE X c tc) (hd : PE X d td)
    (hm : lastMarks [op, op', op''] [b, c, d] = false := by with_unfolding_all rfl) : PT X (.Compare a [op, op', op''] [b, c, d] pos) (tChain3 r r' r'' ta tb tc td) := by
  refine ⟨fun pins s σ H Q I h => ?_⟩
  refine isTrue_chain (thn (ha.run pins s σ H _ I h) fun v s1 ⟨x, H1, I1, r1, q1⟩ => test_link (thn (hb.run pins s1 σ H1 _ I1 q1) fun u s2 ⟨y, H2, I2, r2, q2⟩ =>
    thn (ho pins s2 σ H2 x y v u _ I2 r1 r2 q2) fun d s3 ⟨z, H3, I3, r3, k, e, q3⟩ => ?_)) hm
  subst e
  cases r3
  refine wpAny_truthy_bool ?_
  cases k with
  | false => exact ite_ff ⟨H3, I3, q3⟩
  | true =>
    refine ite_tt (test_link (thn (hc.run pins s3 σ H3 _ I3 q3) fun w' s4 ⟨z', H4, I4, r4, q4⟩ => thn (ho' pins s4 σ H4 y z' u w' _ I4 r2 r4 q4) fun d' s5 ⟨z2, H5, I5, r5, k2, e2, q5⟩ => ?_))
    subst e2
    cases r5
    refine wpAny_truthy_bool ?_
    cases k2 with
    | false => exact ite_ff ⟨H5, I5, q5⟩
    | true =>
      refine ite_tt (test_last (thn (hd.run pins s5 σ H5 _ I5 q5) fun w2 s6 ⟨z3, H6, I6, r6, q6⟩ => thn (ho'' pins s6 σ H6 z' z3 w' w2 _ I6 r4 r6 q6) fun d'' s7 ⟨z4, H7, I7, r7, k3, e3, q7⟩ => ?_))
      subst e3
      cases r7
      exact wpAny_truthy_bool ⟨H7, I7, q7⟩
end
end L2
namespace PL
open PySem PySem.Spec PyProof.Rows L2
section
variable {C : Wd → XC → Prop} {K : PySem.W.Frag} {te ta tb tc td tk tl ti to : TE} {m ma mb mc md : EM} {c c1 c2 c3 c4 : Nat}
/-- .. of ints -/
def mChain3 (ma mb mc md : EM) (p q r : Int → Int → Bool) : TM := fun env Q => ma env fun x => mb env fun y => match x, y with
  | .int a, .int b => if p a b = true then mc env fun z => (match z with | .int c => if q b c = true then md env fun u => (match u with | .int d => Q (r c d) | _ => False) else Q false | _ => False) else Q false
  | _, _ => False
theorem st_chain3 {p q r : Int → Int → Bool} (ha : SE C c1 ta ma) (hb : SE C c2 tb mb) (hc : SE C c3 tc mc) (hd : SE C c4 td md) : ST C (c1 + (c2 + (c3 + c4))) (tChain3 (rI0 fun i j => .bl (p i j)) (rI0 fun i j => .bl (q i j)) (rI0 fun i j => .bl (r i j)) ta tb tc td) (mChain3 ma mb mc md p q r) := fun G cg n O env σ H Qd Q hL F hm k =>
  ha G cg n O env σ H _ _ (by omega) F hm fun x v H1 h1 g1 ok1 r1 => hb G cg _ O env σ H1 _ _ (by omega) (F.grow g1 ok1) h1 fun y u H2 h2 g2 ok2 r2 => by
    have F2 := (F.grow g1 ok1).grow g2 ok2
    split at h2
    · rename_i a b
      cases r1; cases r2
      refine ⟨_, _, rfl, rfl, p a b, rfl, ?_⟩
      by_cases hp : p a b = true
      · rw [hp]
        rw [if_pos hp] at h2
        refine iteT (hc G cg _ O env σ H2 _ _ (by omega) F2 h2 fun z w H3 h3 g3 ok3 r3 => ?_)
        split at h3
        · rename_i cc
          cases r3
          refine ⟨_, _, rfl, rfl, q b cc, rfl, ?_⟩
          by_cases hq : q b cc = true
          · rw [hq]
            rw [if_pos hq] at h3
            refine iteT (hd G cg _ O env σ H3 _ _ (by omega) (F2.grow g3 ok3) h3 fun z2 w2 H4 h4 g4 ok4 r4 => ?_)
            split at h4
            · cases r4
              exact ⟨_, _, rfl, rfl, _, rfl, k _ H4 h4 (g1.trans (g2.trans (g3.trans g4))) (by rw [show n + (c1 + (c2 + (c3 + c4))) = n + c1 + c2 + c3 + c4 by omega]; exact ok4)⟩
            · exact h4.elim
          · rw [if_neg hq] at h3
            rw [Bool.eq_false_iff.mpr hq]
            exact iteF (k _ H3 h3 (g1.trans (g2.trans g3)) (G.w.up _ _ _ (by omega) ok3))
        · exact h3.elim
      · rw [if_neg hp] at h2
        rw [Bool.eq_false_iff.mpr hp]
        exact iteF (k _ H2 h2 (g1.trans g2) (G.w.up _ _ _ (by omega) ok2))
    · exact h2.elim
end
end PL

namespace Law
open PySem PySem.Spec PyProof.Rows L2 PL
def Gc (mg : Str → Option Value) (x : Str) (v : Int) : Prop := ∃ t, mg x = some (.int v t)
/-! ### the data -/
/-- what a field holds -/
inductive Va where
  | non | num (i : Int) | ptr (r : Nat)
  deriving DecidableEq
def Va.enc : Va → D
  | .non => .non
  | .num i => .int i
  | .ptr r => .tup [.str "to", .int r]
abbrev Row := List Va
abbrev Hea := List Row
def encR (r : Row) : D := .tup (r.map Va.enc)
def encH (h : Hea) : D := .tup (h.map encR)
/-- a value in a heap of m records -/
def VaOk (m : Nat) : Va → Prop
  | .non => True
  | .num i => -1000000000000000000 < i ∧ i < 1000000000000000000
  | .ptr r => r < m
structure HeaOk (wide : Nat) (h : Hea) : Prop where
  w1 : 1 ≤ wide
  w6 : wide ≤ 6
  ne : h ≠ []
  few : h.length < 64
  row : ∀ r ∈ h, r.length = wide ∧ ∀ v ∈ r, VaOk h.length v
/-! ### what the small defs promise -/
def S_is_number (ds : List D) (Q : D → Prop) : Prop := ∃ d, ds = [d] ∧ d.ty ≠ none ∧ Q (.bl (isNum d))
def S_is_from (ds : List D) (Q : D → Prop) : Prop := ∃ i l : Int, ds = [.int i, .int l] ∧ Q (.bl (isNum (.int i) && decide (l ≤ i)))
def S_is_between (ds : List D) (Q : D → Prop) : Prop := ∃ i l m : Int, ds = [.int i, .int l, .int m] ∧ Q (.bl (isNum (.int i) && (decide (l ≤ i) && decide (i ≤ m))))
def Va.isP : Va → Bool
  | .ptr _ => true
  | _ => false
def pairB : D → Option Bool
  | .non => some false
  | .int _ => some false
  | .tup l => some (decide (l.length = 2))
  | _ => none
theorem pairB_va (v : Va) : pairB v.enc = some v.isP := by cases v <;> rfl
def S_is_pair (ds : List D) (Q : D → Prop) : Prop := ∃ d b, ds = [d] ∧ pairB d = some b ∧ Q (.bl b)
def S_is_pointer (ds : List D) (Q : D → Prop) : Prop := ∃ v : Va, ds = [v.enc] ∧ VaOk 1000000 v ∧ Q (.bl v.isP)
def S_is_value (ds : List D) (Q : D → Prop) : Prop := ∃ (v : Va) (m : Nat), ds = [v.enc, .int m] ∧ m ≤ 1000000 ∧ VaOk m v ∧ Q (.bl true)
def S_is_row (ds : List D) (Q : D → Prop) : Prop := ∃ (r : Row) (m : Nat), ds = [encR r, .int r.length, .int m] ∧ r.length ≤ 1000 ∧ m ≤ 1000000 ∧ (∀ v ∈ r, VaOk m v) ∧ Q (.bl true)
def S_check_wide (ds : List D) (Q : D → Prop) : Prop := ∃ w : Nat, ds = [.int w] ∧ 1 ≤ w ∧ w ≤ 6 ∧ Q .non
def S_is_heap (ds : List D) (Q : D → Prop) : Prop := ∃ (h : Hea) (w : Nat), ds = [encH h, .int w] ∧ HeaOk w h ∧ Q (.bl true)
def S_check_heap (ds : List D) (Q : D → Prop) : Prop := ∃ (h : Hea) (w : Nat), ds = [encH h, .int w] ∧ HeaOk w h ∧ Q .non
def S_is_lead (ds : List D) (Q : D → Prop) : Prop := ∃ v : Va, ds = [v.enc] ∧ Q (.bl v.isP)
theorem isNum_int (i : Int) : isNum (.int i) = (decide (-1000000000000000000 < i) && decide (i < 1000000000000000000)) := rfl
theorem iteT' {c A B : Prop} [Decidable c] (h : c) (a : A) : if c then A else B := by rw [if_pos h]; exact a
theorem iteF' {c A B : Prop} [Decidable c] (h : ¬ c) (b : B) : if c then A else B := by rw [if_neg h]; exact b
local macro_rules | `(tactic| walk_at "pl") => `(tactic| simp only [sRet, sRetN, sSeq, sNext, sNever, sSet, sPar, sIf, sDrop, sFor, mAndV, mOrV, mNotV, mAnd, mOr, mNot, mB, mIf, mTru, mCB, mCall, mC, mVar, mRd, aCons, aNil, mTup, mLst, mOwn, mDat, m2, ml2, mNeg, mChain, kIsi, kIx, kI, kIc, kIsN, kEqS, kLen, kTuple, kList, kInt1, env0, List.length_cons, List.length_nil, List.map_cons, List.map_nil, List.replicate, List.cons_append, List.nil_append, List.append_nil, List.getElem?_cons_zero, List.getElem?_cons_succ, Nat.sub_self, Nat.reduceAdd, Nat.reduceSub, D.ty, D.isN, if_true, if_false, Bool.false_eq_true, List.set, id])
theorem len_is_number {ds : List D} {Q : D → Prop} (h : S_is_number ds Q) : ds.length = 1 := by obtain ⟨_, e, _⟩ := h; rw [e]; rfl
theorem len_is_from {ds : List D} {Q : D → Prop} (h : S_is_from ds Q) : ds.length = 2 := by obtain ⟨_, _, e, _⟩ := h; rw [e]; rfl
theorem len_is_between {ds : List D} {Q : D → Prop} (h : S_is_between ds Q) : ds.length = 3 := by obtain ⟨_, _, _, e, _⟩ := h; rw [e]; rfl
theorem len_is_pair {ds : List D} {Q : D → Prop} (h : S_is_pair ds Q) : ds.length = 1 := by obtain ⟨_, _, e, _⟩ := h; rw [e]; rfl
theorem len_is_pointer {ds : List D} {Q : D → Prop} (h : S_is_pointer ds Q) : ds.length = 1 := by obtain ⟨_, e, _⟩ := h; rw [e]; rfl
theorem len_is_value {ds : List D} {Q : D → Prop} (h : S_is_value ds Q) : ds.length = 2 := by obtain ⟨_, _, e, _⟩ := h; rw [e]; rfl
theorem len_is_row {ds : List D} {Q : D → Prop} (h : S_is_row ds Q) : ds.length = 3 := by obtain ⟨_, _, e, _⟩ := h; rw [e]; rfl
theorem len_check_wide {ds : List D} {Q : D → Prop} (h : S_check_wide ds Q) : ds.length = 1 := by obtain ⟨_, e, _⟩ := h; rw [e]; rfl
theorem len_is_heap {ds : List D} {Q : D → Prop} (h : S_is_heap ds Q) : ds.length = 2 := by obtain ⟨_, _, e, _⟩ := h; rw [e]; rfl
theorem len_check_heap {ds : List D} {Q : D → Prop} (h : S_check_heap ds Q) : ds.length = 2 := by obtain ⟨_, _, e, _⟩ := h; rw [e]; rfl
theorem len_is_lead {ds : List D} {Q : D → Prop} (h : S_is_lead ds Q) : ds.length = 1 := by obtain ⟨_, e, _⟩ := h; rw [e]; rfl
theorem mono_is_number : Mono S_is_number := fun ds P Q h ⟨d, e, n, k⟩ => ⟨d, e, n, h _ k⟩
theorem mono_is_from : Mono S_is_from := fun ds P Q h ⟨d, l, e, k⟩ => ⟨d, l, e, h _ k⟩
theorem mono_is_between : Mono S_is_between := fun ds P Q h ⟨d, l, m, e, k⟩ => ⟨d, l, m, e, h _ k⟩
theorem mono_is_pair : Mono S_is_pair := fun ds P Q h ⟨d, b, e, n, k⟩ => ⟨d, b, e, n, h _ k⟩
theorem mono_is_pointer : Mono S_is_pointer := fun ds P Q h ⟨d, e, n, k⟩ => ⟨d, e, n, h _ k⟩
theorem mono_is_value : Mono S_is_value := fun ds P Q h ⟨d, m, e, n, l, k⟩ => ⟨d, m, e, n, l, h _ k⟩
theorem mono_is_row : Mono S_is_row := fun ds P Q h ⟨d, m, e, n, l, p, k⟩ => ⟨d, m, e, n, l, p, h _ k⟩
theorem mono_check_wide : Mono S_check_wide := fun ds P Q h ⟨d, e, n, l, k⟩ => ⟨d, e, n, l, h _ k⟩
theorem mono_is_heap : Mono S_is_heap := fun ds P Q h ⟨d, m, e, n, k⟩ => ⟨d, m, e, n, h _ k⟩
theorem mono_check_heap : Mono S_check_heap := fun ds P Q h ⟨d, m, e, n, k⟩ => ⟨d, m, e, n, h _ k⟩
theorem mono_is_lead : Mono S_is_lead := fun ds P Q h ⟨d, e, k⟩ => ⟨d, e, h _ k⟩
section
variable {P : Program} {w : World} {K : PySem.W.Frag} {mg : Str → Option Value} {base : Heap} {f : Addr} {fd : FuncData}
end
end Law

namespace Law
open PL
/-! ### what is reached, and how it is seen -/
def meetV (o : List Nat) : Va → List Nat
  | .ptr k => if k ∈ o then o else o ++ [k]
  | _ => o
def meetRow (o : List Nat) (r : Row) : List Nat := r.foldl meetV o
def stepB (h : Hea) (t : Nat) (o : List Nat) : List Nat := match o[t]? with
  | some k => (match h[k]? with | some r => meetRow o r | none => o)
  | none => o
def bf (h : Hea) : Nat → List Nat
  | 0 => [0]
  | t + 1 => stepB h t (bf h t)
def ren (o : List Nat) : Va → Va
  | .ptr k => .ptr (o.idxOf k)
  | v => v
def rowAt (h : Hea) (k : Nat) : Row := (h[k]?).getD []
def met (h : Hea) : List Nat := bf h h.length
def seenH (h : Hea) : Hea := (met h).map fun k => (rowAt h k).map (ren (met h))
/-- pointers of a row lie in s -/
def Into (s : Nat → Prop) (r : Row) : Prop := ∀ k, Va.ptr k ∈ r → s k
theorem meetV_pre (o : List Nat) (v : Va) : ∃ e, meetV o v = o ++ e := by
  cases v with
  | ptr k =>
    show ∃ e, (if k ∈ o then o else o ++ [k]) = o ++ e
    split
    · exact ⟨[], (List.append_nil _).symm⟩
    · exact ⟨_, rfl⟩
  | non => exact ⟨[], (List.append_nil _).symm⟩
  | num i => exact ⟨[], (List.append_nil _).symm⟩
theorem meetRow_pre : ∀ (r : Row) (o : List Nat), ∃ e, meetRow o r = o ++ e
  | [], o => ⟨[], (List.append_nil _).symm⟩
  | v :: r, o => by
    obtain ⟨e, h⟩ := meetV_pre o v
    obtain ⟨f, g⟩ := meetRow_pre r (meetV o v)
    exact ⟨e ++ f, by rw [show meetRow o (v :: r) = meetRow (meetV o v) r from rfl, g, h, List.append_assoc]⟩
theorem stepB_pre (h : Hea) (t : Nat) (o : List Nat) : ∃ e, stepB h t o = o ++ e := by
  unfold stepB
  split
  · split
    · exact meetRow_pre _ _
    · exact ⟨[], (List.append_nil _).symm⟩
  · exact ⟨[], (List.append_nil _).symm⟩
theorem bf_pre (h : Hea) (t : Nat) : ∀ k, ∃ e, bf h (t + k) = bf h t ++ e
  | 0 => ⟨[], (List.append_nil _).symm⟩
  | k + 1 => by
    obtain ⟨e, he⟩ := bf_pre h t k
    obtain ⟨f, hf⟩ := stepB_pre h (t + k) (bf h (t + k))
    exact ⟨e ++ f, by rw [show bf h (t + (k + 1)) = stepB h (t + k) (bf h (t + k)) from rfl, hf, he, List.append_assoc]⟩
theorem meetV_ok {m : Nat} {o : List Nat} {v : Va} (nd : o.Nodup) (lt : ∀ k ∈ o, k < m) (hv : VaOk m v) : (meetV o v).Nodup ∧ ∀ k ∈ meetV o v, k < m := by
  cases v with
  | ptr k =>
    show (if k ∈ o then o else o ++ [k]).Nodup ∧ ∀ j ∈ (if k ∈ o then o else o ++ [k]), j < m
    split
    · exact ⟨nd, lt⟩
    · rename_i hk
      refine ⟨?_, fun j hj => ?_⟩
      · rw [List.nodup_append]
        exact ⟨nd, by simp, fun a ha b hb => by rw [List.mem_singleton] at hb; rw [hb]; intro e; exact hk (e ▸ ha)⟩
      · rcases List.mem_append.mp hj with e | e
        · exact lt j e
        · rw [List.mem_singleton] at e; rw [e]; exact hv
  | non => exact ⟨nd, lt⟩
  | num i => exact ⟨nd, lt⟩
theorem meetRow_ok {m : Nat} : ∀ {r : Row} {o : List Nat}, o.Nodup → (∀ k ∈ o, k < m) → (∀ v ∈ r, VaOk m v) → (meetRow o r).Nodup ∧ ∀ k ∈ meetRow o r, k < m
  | [], o, nd, lt, _ => ⟨nd, lt⟩
  | v :: r, o, nd, lt, h => by
    have h1 := meetV_ok nd lt (h v List.mem_cons_self)
    exact meetRow_ok (r := r) (o := meetV o v) h1.1 h1.2 fun u hu => h u (List.mem_cons_of_mem _ hu)
theorem bf_ok {h : Hea} (ne : h ≠ []) (ok : ∀ r ∈ h, ∀ v ∈ r, VaOk h.length v) : ∀ t, (bf h t).Nodup ∧ ∀ k ∈ bf h t, k < h.length
  | 0 => ⟨by simp [bf], fun k hk => by rw [show bf h 0 = [0] from rfl, List.mem_singleton] at hk; rw [hk]; exact List.length_pos_iff.mpr ne⟩
  | t + 1 => by
    have ih := bf_ok ne ok t
    show (stepB h t (bf h t)).Nodup ∧ ∀ k ∈ stepB h t (bf h t), k < h.length
    unfold stepB
    split
    · split
      · rename_i r hr
        exact meetRow_ok ih.1 ih.2 (ok r (List.mem_of_getElem? hr))
      · exact ih
    · exact ih
theorem nodup_le : ∀ {m : Nat} {l : List Nat}, l.Nodup → (∀ k ∈ l, k < m) → l.length ≤ m
  | 0, l, _, h => by
    cases l with
    | nil => exact Nat.le_refl _
    | cons a r => exact absurd (h a List.mem_cons_self) (Nat.not_lt_zero a)
  | m + 1, l, nd, h => by
    have h1 := nodup_le (m := m) (nd.erase m) fun k hk => by
      have h2 := (nd.mem_erase_iff).mp hk
      have := h k h2.2
      omega
    have h2 := List.length_erase (a := m) (l := l)
    split at h2 <;> omega
theorem bf_le {h : Hea} (ne : h ≠ []) (ok : ∀ r ∈ h, ∀ v ∈ r, VaOk h.length v) (t : Nat) : (bf h t).length ≤ h.length := nodup_le (bf_ok ne ok t).1 (bf_ok ne ok t).2
/-- at rest -/
theorem bf_rest {h : Hea} {t : Nat} (ht : (bf h t).length ≤ t) : ∀ k, bf h (t + k) = bf h t
  | 0 => rfl
  | k + 1 => by
    have ih := bf_rest ht k
    show stepB h (t + k) (bf h (t + k)) = bf h t
    rw [ih]; unfold stepB
    rw [List.getElem?_eq_none (by omega)]
theorem bf_met {h : Hea} (ne : h ≠ []) (ok : ∀ r ∈ h, ∀ v ∈ r, VaOk h.length v) {t : Nat} (ht : (bf h t).length ≤ t) : bf h t = met h := by
  unfold met
  rcases Nat.le_total t h.length with e | e
  · rw [show h.length = t + (h.length - t) by omega, bf_rest ht]
  · have := bf_rest (h := h) (t := h.length) (bf_le ne ok _) (t - h.length)
    rw [show h.length + (t - h.length) = t by omega] at this
    exact this
/-- a step at which the row ends -/
theorem meetRow_all : ∀ {r : Row} {o : List Nat} {k : Nat}, Va.ptr k ∈ r → k ∈ meetRow o r
  | v :: r, o, k, hk => by
    rcases List.mem_cons.mp hk with e | e
    · obtain ⟨f, g⟩ := meetRow_pre r (meetV o v)
      rw [show meetRow o (v :: r) = meetRow (meetV o v) r from rfl, g, ← e]
      refine List.mem_append_left _ ?_
      show k ∈ if k ∈ o then o else o ++ [k]
      split
      · assumption
      · exact List.mem_append_right _ List.mem_cons_self
    · exact meetRow_all (r := r) (o := meetV o v) e
theorem met_len {h : Hea} (ne : h ≠ []) (ok : ∀ r ∈ h, ∀ v ∈ r, VaOk h.length v) : bf h (met h).length = met h := by
  refine bf_met ne ok ?_
  have hl := bf_le ne ok h.length
  obtain ⟨e, he⟩ := bf_pre h (met h).length (h.length - (met h).length)
  rw [show (met h).length + (h.length - (met h).length) = h.length by unfold met; omega] at he
  have := congrArg List.length he
  rw [List.length_append] at this
  show _ ≤ (bf h h.length).length
  omega
theorem met_closed {h : Hea} (ne : h ≠ []) (ok : ∀ r ∈ h, ∀ v ∈ r, VaOk h.length v) {k : Nat} (hk : k ∈ met h) : Into (· ∈ met h) (rowAt h k) := by
  intro j hj
  obtain ⟨t, ht, e⟩ := List.getElem_of_mem hk
  have hl := bf_le ne ok h.length
  have h1 : t < (bf h t).length := by
    refine Nat.lt_of_not_le fun q => ?_
    rw [bf_met ne ok q] at q; omega
  obtain ⟨e1, he1⟩ := bf_pre h t (h.length - t)
  obtain ⟨e2, he2⟩ := bf_pre h (t + 1) (h.length - (t + 1))
  have htl : t < h.length := by unfold met at ht; omega
  rw [show t + (h.length - t) = h.length by omega] at he1
  rw [show t + 1 + (h.length - (t + 1)) = h.length by omega] at he2
  have h2 : (bf h t)[t]? = some k := by
    have : (met h)[t]? = some k := by rw [List.getElem?_eq_getElem ht, e]
    unfold met at this
    rw [he1, List.getElem?_append_left h1] at this; exact this
  show j ∈ bf h h.length
  rw [he2]
  refine List.mem_append_left _ ?_
  show j ∈ stepB h t (bf h t)
  unfold stepB rowAt at *
  rw [h2]
  cases hr : h[k]? with
  | none => rw [hr] at hj; cases hj
  | some r =>
    rw [hr] at hj
    show j ∈ match h[k]? with | some r => meetRow (bf h t) r | none => bf h t
    rw [hr]
    exact meetRow_all (r := r) hj
theorem idx_inj {o : List Nat} {a b : Nat} (ha : a ∈ o) (hb : b ∈ o) (e : o.idxOf a = o.idxOf b) : a = b := by
  have h1 := List.getElem_idxOf (List.idxOf_lt_length_of_mem ha)
  have h2 := List.getElem_idxOf (List.idxOf_lt_length_of_mem hb)
  rw [← h1, ← h2]; simp [e]
theorem mem_map_idx {o p : List Nat} (hp : ∀ k ∈ p, k ∈ o) {k : Nat} (hk : k ∈ o) : o.idxOf k ∈ p.map (o.idxOf ·) ↔ k ∈ p := by
  rw [List.mem_map]
  refine ⟨fun ⟨a, ha, e⟩ => by rw [← idx_inj (hp a ha) hk e]; exact ha, fun h => ⟨k, h, rfl⟩⟩
theorem meetV_map {o p : List Nat} (hp : ∀ k ∈ p, k ∈ o) {v : Va} (hv : ∀ k, v = .ptr k → k ∈ o) : meetV (p.map (o.idxOf ·)) (ren o v) = (meetV p v).map (o.idxOf ·) ∧ ∀ k ∈ meetV p v, k ∈ o := by
  cases v with
  | ptr k =>
    have hk := hv k rfl
    show (if o.idxOf k ∈ p.map (o.idxOf ·) then p.map (o.idxOf ·) else p.map (o.idxOf ·) ++ [o.idxOf k]) = (if k ∈ p then p else p ++ [k]).map (o.idxOf ·) ∧ ∀ j ∈ (if k ∈ p then p else p ++ [k]), j ∈ o
    by_cases c : k ∈ p
    · rw [if_pos c, if_pos ((mem_map_idx hp hk).mpr c)]; exact ⟨rfl, hp⟩
    · rw [if_neg c, if_neg (fun z => c ((mem_map_idx hp hk).mp z)), List.map_append]
      refine ⟨rfl, fun j hj => ?_⟩
      rcases List.mem_append.mp hj with e | e
      · exact hp j e
      · rw [List.mem_singleton] at e; rw [e]; exact hk
  | non => exact ⟨rfl, hp⟩
  | num i => exact ⟨rfl, hp⟩
theorem meetRow_map {o : List Nat} : ∀ {r : Row} {p : List Nat}, (∀ k ∈ p, k ∈ o) → Into (· ∈ o) r → meetRow (p.map (o.idxOf ·)) (r.map (ren o)) = (meetRow p r).map (o.idxOf ·) ∧ ∀ k ∈ meetRow p r, k ∈ o
  | [], p, hp, _ => ⟨rfl, hp⟩
  | v :: r, p, hp, hr => by
    have h1 := meetV_map (v := v) hp fun k e => hr k (by rw [e]; exact List.mem_cons_self)
    have h2 := meetRow_map (r := r) (p := meetV p v) h1.2 fun k hk => hr k (List.mem_cons_of_mem _ hk)
    refine ⟨?_, h2.2⟩
    rw [List.map_cons, show meetRow (p.map (o.idxOf ·)) (ren o v :: r.map (ren o)) = meetRow (meetV (p.map (o.idxOf ·)) (ren o v)) (r.map (ren o)) from rfl, h1.1]
    exact h2.1
theorem zero_met (h : Hea) : ∃ e, met h = 0 :: e := by
  obtain ⟨e, he⟩ := bf_pre h 0 h.length
  rw [Nat.zero_add] at he
  exact ⟨e, he⟩
theorem map_idx_self : ∀ {o : List Nat}, o.Nodup → o.map (o.idxOf ·) = List.range o.length := by
  intro o nd
  refine List.ext_getElem (by simp) fun i h1 h2 => ?_
  rw [List.getElem_map, List.getElem_range]
  rw [List.length_map] at h1
  exact nd.idxOf_getElem i h1
theorem seenH_row {h : Hea} {k : Nat} (hk : k ∈ met h) : (seenH h)[(met h).idxOf k]? = some ((rowAt h k).map (ren (met h))) := by
  unfold seenH
  have hl := List.idxOf_lt_length_of_mem hk
  rw [List.getElem?_map, List.getElem?_eq_getElem hl]
  show some _ = _
  rw [List.getElem_idxOf hl]
theorem bf_seen {h : Hea} (ne : h ≠ []) (ok : ∀ r ∈ h, ∀ v ∈ r, VaOk h.length v) : ∀ t, bf (seenH h) t = (bf h t).map ((met h).idxOf ·) ∧ ∀ k ∈ bf h t, k ∈ met h
  | 0 => by
    obtain ⟨e, he⟩ := zero_met h
    refine ⟨?_, fun k hk => ?_⟩
    · show [0] = [(met h).idxOf 0]
      rw [he]; simp
    · rw [show bf h 0 = [0] from rfl, List.mem_singleton] at hk
      rw [hk, he]; exact List.mem_cons_self
  | t + 1 => by
    obtain ⟨i1, i2⟩ := bf_seen ne ok t
    show stepB (seenH h) t (bf (seenH h) t) = (stepB h t (bf h t)).map _ ∧ ∀ k ∈ stepB h t (bf h t), k ∈ met h
    rw [i1]
    unfold stepB
    rw [List.getElem?_map]
    cases hk : (bf h t)[t]? with
    | none => exact ⟨rfl, i2⟩
    | some k =>
      have hm := i2 k (List.mem_of_getElem? hk)
      have hlt := (bf_ok ne ok t).2 k (List.mem_of_getElem? hk)
      have hr : h[k]? = some (rowAt h k) := by unfold rowAt; rw [List.getElem?_eq_getElem hlt]; rfl
      show (match (seenH h)[(met h).idxOf k]? with | some r => meetRow _ r | none => _) = (match h[k]? with | some r => meetRow (bf h t) r | none => bf h t).map _ ∧ ∀ j ∈ (match h[k]? with | some r => meetRow (bf h t) r | none => bf h t), j ∈ met h
      rw [seenH_row hm, hr]
      exact meetRow_map i2 (met_closed ne ok hm)
theorem seenH_len (h : Hea) : (seenH h).length = (met h).length := by unfold seenH; rw [List.length_map]
theorem seenH_ne (h : Hea) : seenH h ≠ [] := by
  obtain ⟨e, he⟩ := zero_met h
  intro q
  have := congrArg List.length q
  rw [seenH_len, he] at this; cases this
theorem seenH_ok {h : Hea} (ne : h ≠ []) (ok : ∀ r ∈ h, ∀ v ∈ r, VaOk h.length v) : ∀ r ∈ seenH h, ∀ v ∈ r, VaOk (seenH h).length v := by
  intro r hr v hv
  unfold seenH at hr
  obtain ⟨k, hk, rfl⟩ := List.mem_map.mp hr
  obtain ⟨u, hu, rfl⟩ := List.mem_map.mp hv
  have hlt := (bf_ok ne ok h.length).2 k hk
  cases u with
  | ptr j =>
    show (met h).idxOf j < (seenH h).length
    rw [seenH_len]
    exact List.idxOf_lt_length_of_mem (met_closed ne ok hk j hu)
  | non => trivial
  | num i =>
    have : h[k]? = some (rowAt h k) := by unfold rowAt; rw [List.getElem?_eq_getElem hlt]; rfl
    exact ok _ (List.mem_of_getElem? this) _ hu
theorem met_seen {h : Hea} (ne : h ≠ []) (ok : ∀ r ∈ h, ∀ v ∈ r, VaOk h.length v) : met (seenH h) = List.range (met h).length := by
  show bf (seenH h) (seenH h).length = _
  rw [seenH_len, (bf_seen ne ok _).1, met_len ne ok]
  exact map_idx_self (o := met h) (bf_ok ne ok h.length).1
/-- what is seen is seen as it is -/
theorem seen_seen {h : Hea} (ne : h ≠ []) (ok : ∀ r ∈ h, ∀ v ∈ r, VaOk h.length v) : seenH (seenH h) = seenH h := by
  have ok' := seenH_ok ne ok
  have hm := met_seen ne ok
  show (met (seenH h)).map (fun k => (rowAt (seenH h) k).map (ren (met (seenH h)))) = seenH h
  rw [hm]
  refine List.ext_getElem (by rw [List.length_map, List.length_range, seenH_len]) fun i h1 h2 => ?_
  rw [List.getElem_map, List.getElem_range]
  have hr : rowAt (seenH h) i = (seenH h)[i] := by unfold rowAt; rw [List.getElem?_eq_getElem h2]; rfl
  rw [hr]
  refine (List.map_congr_left fun v hv => ?_).trans (List.map_id _)
  have hv' := ok' _ (List.getElem_mem h2) v hv
  cases v with
  | ptr j =>
    have hj : j < (met h).length := by rw [seenH_len] at hv'; exact hv'
    show Va.ptr ((List.range (met h).length).idxOf j) = .ptr j
    congr 1
    have := (List.nodup_range (n := (met h).length)).idxOf_getElem j (by rw [List.length_range]; exact hj)
    rw [List.getElem_range] at this; exact this
  | non => rfl
  | num i => rfl
end Law

namespace Law
open PySem PySem.Spec PyProof.Rows L2 PL
local macro_rules | `(tactic| walk_at "pl") => `(tactic| simp only [sRet, sRetN, sSeq, sNext, sNever, sSet, sPar, sIf, sDrop, sFor, sApp, sAug, sAugIx, sPutD, mAndV, mOrV, mNotV, mAnd, mOr, mNot, mB, mIf, mTru, mCB, mCL, mCall, mC, mVar, mRd, aCons, aNil, mTup, mLst, mLc, mLcK, mOwn, mDat, m2, ml2, mNeg, mChain, iT, iL, kIsi, kIx, kI, kIc, kIsN, kEqS, kLen, kTuple, kList, kInt1, kRepL, env0, wipeE, frz, unOwn, gN, List.length_cons, List.length_nil, List.map_cons, List.map_nil, List.replicate, List.cons_append, List.nil_append, List.append_nil, List.getElem?_cons_zero, List.getElem?_cons_succ, Nat.sub_self, Nat.reduceAdd, Nat.reduceSub, D.ty, D.isN, D.tru, if_true, if_false, Bool.false_eq_true, List.set, id])
theorem Hea.pos {w : Nat} {h : Hea} (H : HeaOk w h) : 0 < h.length := List.length_pos_iff.mpr H.ne
theorem Hea.get {h : Hea} {k : Nat} (hk : k < h.length) : h[k]? = some (rowAt h k) := by unfold rowAt; rw [List.getElem?_eq_getElem hk]; rfl
theorem Hea.mem {h : Hea} {k : Nat} (hk : k < h.length) : rowAt h k ∈ h := List.mem_of_getElem? (Hea.get hk)
theorem HeaOk.va {w : Nat} {h : Hea} (H : HeaOk w h) : ∀ r ∈ h, ∀ v ∈ r, VaOk h.length v := fun r hr => (H.row r hr).2
theorem lineLe {n : Nat} (h : n ≤ 1000000) : n ≤ sizeLine := by rw [sizeLine_eq]; omega
theorem allT (n : Nat) : (List.replicate n true).all id = true := by induction n with | zero => rfl | succ n ih => rw [List.replicate_succ, List.all_cons, ih]; rfl
theorem mapT {α : Type} (l : List α) : l.map (fun _ => D.bl true) = (List.replicate l.length true).map D.bl := by induction l with | nil => rfl | cons a l ih => rw [List.map_cons, ih]; rfl
/-! ### the rest -/
/-- how often is each pointed at -/
def cntV (c : List Int) : Va → List Int
  | .ptr r => c.set r ((c[r]?).getD 0 + 1)
  | _ => c
def cntR (c : List Int) (r : Row) : List Int := r.foldl cntV c
def cnts (h : Hea) : List Int := h.foldl cntR (List.replicate h.length 0)
def encI (l : List Int) : List D := l.map D.int
theorem cntV_len (c : List Int) (v : Va) : (cntV c v).length = c.length := by
  cases v with
  | ptr r => exact List.length_set
  | non => rfl
  | num i => rfl
/-- the numbers that a row of records is given -/
def numFrom : Nat → List Nat → List (Key × D)
  | _, [] => []
  | s, k :: r => (Sum.inl (k : Int), D.int (s : Int)) :: numFrom (s + 1) r
def numD (o : List Nat) : List (Key × D) := numFrom 0 o
def encN (l : List Nat) : List D := l.map fun k : Nat => D.int (k : Int)
theorem numFrom_get : ∀ (o : List Nat) (s k : Nat), getD (numFrom s o) (.inl (k : Int)) = if k ∈ o then some (D.int ((s + o.idxOf k : Nat) : Int)) else none
  | [], s, k => rfl
  | j :: r, s, k => by
    unfold getD numFrom
    rw [List.find?_cons, List.idxOf_cons]
    by_cases e : j = k
    · subst e
      rw [decide_eq_true rfl, if_pos List.mem_cons_self]; simp
    · have ne : ¬ ((Sum.inl (j : Int) : Key) = .inl (k : Int)) := fun z => e (by injection z with z; omega)
      rw [decide_eq_false ne]
      have ih := numFrom_get r (s + 1) k
      unfold getD at ih
      rw [show (j == k) = false from beq_false_of_ne e]
      show ((numFrom (s + 1) r).find? _).map _ = _
      rw [ih]
      by_cases m : k ∈ r
      · rw [if_pos m, if_pos (List.mem_cons_of_mem _ m)]
        congr 2
        show ((s + 1 + r.idxOf k : Nat) : Int) = ((s + (r.idxOf k + 1) : Nat) : Int)
        omega
      · rw [if_neg m, if_neg (fun z => (List.mem_cons.mp z).elim (fun q => e q.symm) m)]
theorem numFrom_app : ∀ (o : List Nat) (s k : Nat), numFrom s (o ++ [k]) = numFrom s o ++ [(Sum.inl (k : Int), D.int ((s + o.length : Nat) : Int))]
  | [], s, k => rfl
  | j :: r, s, k => by
    show _ :: numFrom (s + 1) (r ++ [k]) = _ :: (numFrom (s + 1) r ++ _)
    rw [numFrom_app r (s + 1) k, List.length_cons, show s + 1 + r.length = s + (r.length + 1) by omega]
theorem numFrom_any : ∀ (o : List Nat) (s k : Nat), ((numFrom s o).any fun kv => decide (kv.1 = (.inl (k : Int) : Key))) = decide (k ∈ o)
  | [], s, k => rfl
  | j :: r, s, k => by
    show (decide ((.inl (j : Int) : Key) = .inl (k : Int)) || (numFrom (s + 1) r).any _) = _
    rw [numFrom_any r (s + 1) k]
    by_cases e : j = k
    · subst e; simp
    · have ne : ¬ ((Sum.inl (j : Int) : Key) = .inl (k : Int)) := fun z => e (by injection z with z; omega)
      rw [decide_eq_false ne, Bool.false_or]
      have : (k ∈ j :: r) ↔ k ∈ r := by
        rw [List.mem_cons]
        exact ⟨fun z => z.elim (fun q => absurd q.symm e) id, .inr⟩
      exact (decide_eq_decide.mpr this).symm
theorem numD_put {o : List Nat} {k : Nat} (h : k ∉ o) : putD (numD o) (.inl (k : Int)) (.int (o.length : Int)) = numD (o ++ [k]) := by
  unfold putD numD
  rw [numFrom_any, decide_eq_false h, if_neg Bool.false_ne_true, numFrom_app, Nat.zero_add]
theorem numFrom_keys : ∀ (o : List Nat) (s : Nat), ((numFrom s o).map fun kv => keyD kv.1) = encN o
  | [], _ => rfl
  | k :: r, s => congrArg (D.int (k : Int) :: ·) (numFrom_keys r (s + 1))
theorem numFrom_fst : ∀ (o : List Nat) (s : Nat), ((numFrom s o).map fun kv => kv.1) = (o.map fun k : Nat => (k : Int)).map Sum.inl
  | [], _ => rfl
  | k :: r, s => congrArg ((Sum.inl (k : Int) : Key) :: ·) (numFrom_fst r (s + 1))
theorem numFrom_len : ∀ (o : List Nat) (s : Nat), (numFrom s o).length = o.length
  | [], _ => rfl
  | k :: r, s => congrArg Nat.succ (numFrom_len r (s + 1))
theorem encN_at {o : List Nat} {t k : Nat} (h : o[t]? = some k) : atI (encN o) (t : Int) = some (.int (k : Int)) := by
  unfold atI encN
  obtain ⟨hl, e⟩ := List.getElem?_eq_some_iff.mp h
  rw [List.length_map, ixN_nat hl]
  show (o.map _)[t]? = _
  rw [List.getElem?_map, h]; rfl
theorem encH_at {h : Hea} {k : Nat} (hk : k < h.length) : atI (h.map encR) (k : Int) = some (encR (rowAt h k)) := by
  unfold atI
  rw [List.length_map, ixN_nat hk]
  show (h.map _)[k]? = _
  rw [List.getElem?_map, Hea.get hk]; rfl
def S_count_pointed (ds : List D) (Q : D → Prop) : Prop := ∃ (h : Hea) (w : Nat), ds = [encH h] ∧ HeaOk w h ∧ Q (.lst (encI (cnts h)))
def S_meet_all (ds : List D) (Q : D → Prop) : Prop := ∃ (h : Hea) (w : Nat), ds = [encH h] ∧ HeaOk w h ∧ Q (.dic (numD (met h)))
def S_led_anew (ds : List D) (Q : D → Prop) : Prop := ∃ (r : Row) (o : List Nat), ds = [encR r, .dic (numD o)] ∧ r.length ≤ 1000 ∧ o.Nodup ∧ Into (· ∈ o) r ∧ Q (encR (r.map (ren o)))
def S_seen_from_root (ds : List D) (Q : D → Prop) : Prop := ∃ (h : Hea) (w : Nat), ds = [encH h] ∧ HeaOk w h ∧ Q (encH (seenH h))
def S_pointed (ds : List D) (Q : D → Prop) : Prop := ∃ (h : Hea) (w : Nat), ds = [encH h, .int w] ∧ HeaOk w h ∧ Q (.tup (encI (cnts h)))
def S_reached (ds : List D) (Q : D → Prop) : Prop := ∃ (h : Hea) (w : Nat), ds = [encH h, .int w] ∧ HeaOk w h ∧ ∀ ns : List Int, ns.Perm ((met h).map fun k : Nat => (k : Int)) → ns.Pairwise (· ≤ ·) → Q (.tup (encI ns))
def S_seen (ds : List D) (Q : D → Prop) : Prop := ∃ (h : Hea) (w : Nat), ds = [encH h, .int w] ∧ HeaOk w h ∧ Q (encH (seenH h))
theorem len_count_pointed {ds : List D} {Q : D → Prop} (h : S_count_pointed ds Q) : ds.length = 1 := by obtain ⟨_, _, e, _⟩ := h; rw [e]; rfl
theorem len_meet_all {ds : List D} {Q : D → Prop} (h : S_meet_all ds Q) : ds.length = 1 := by obtain ⟨_, _, e, _⟩ := h; rw [e]; rfl
theorem len_led_anew {ds : List D} {Q : D → Prop} (h : S_led_anew ds Q) : ds.length = 2 := by obtain ⟨_, _, e, _⟩ := h; rw [e]; rfl
theorem len_seen_from_root {ds : List D} {Q : D → Prop} (h : S_seen_from_root ds Q) : ds.length = 1 := by obtain ⟨_, _, e, _⟩ := h; rw [e]; rfl
theorem len_pointed {ds : List D} {Q : D → Prop} (h : S_pointed ds Q) : ds.length = 2 := by obtain ⟨_, _, e, _⟩ := h; rw [e]; rfl
theorem len_reached {ds : List D} {Q : D → Prop} (h : S_reached ds Q) : ds.length = 2 := by obtain ⟨_, _, e, _⟩ := h; rw [e]; rfl
theorem len_seen {ds : List D} {Q : D → Prop} (h : S_seen ds Q) : ds.length = 2 := by obtain ⟨_, _, e, _⟩ := h; rw [e]; rfl
theorem mono_count_pointed : Mono S_count_pointed := fun ds P Q h ⟨d, m, e, n, k⟩ => ⟨d, m, e, n, h _ k⟩
theorem mono_meet_all : Mono S_meet_all := fun ds P Q h ⟨d, m, e, n, k⟩ => ⟨d, m, e, n, h _ k⟩
theorem mono_led_anew : Mono S_led_anew := fun ds P Q h ⟨d, m, e, n, l, p, k⟩ => ⟨d, m, e, n, l, p, h _ k⟩
theorem mono_seen_from_root : Mono S_seen_from_root := fun ds P Q h ⟨d, m, e, n, k⟩ => ⟨d, m, e, n, h _ k⟩
theorem mono_pointed : Mono S_pointed := fun ds P Q h ⟨d, m, e, n, k⟩ => ⟨d, m, e, n, h _ k⟩
theorem mono_reached : Mono S_reached := fun ds P Q h ⟨d, m, e, n, k⟩ => ⟨d, m, e, n, fun ns h1 h2 => h _ (k ns h1 h2)⟩
theorem mono_seen : Mono S_seen := fun ds P Q h ⟨d, m, e, n, k⟩ => ⟨d, m, e, n, h _ k⟩
section
variable {P : Program} {w : World} {K : PySem.W.Frag} {mg : Str → Option Value} {base : Heap} {f : Addr} {fd : FuncData}
end
end Law

namespace Law
open PySem PySem.Spec PyProof.Rows L2 PL
/-! ### what a deed does -/
inductive Ch where
  | make (r : Row) | set (a b : Nat) (v : Va)
def Ch.enc : Ch → D
  | .make r => .tup [.str "make", encR r]
  | .set a b v => .tup [.str "set", .int a, .int b, v.enc]
def chH (h : Hea) : Ch → Hea
  | .make r => h ++ [r]
  | .set a b v => h.set a ((rowAt h a).set b v)
def doneH (h : Hea) (d : List Ch) : Hea := d.foldl chH h
/-- a change that may be made on m records -/
def ChOk (wide m : Nat) : Ch → Prop
  | .make r => r.length = wide ∧ ∀ v ∈ r, VaOk (m + 1) v
  | .set a b v => a < m ∧ b < wide ∧ VaOk m v
def chN (m : Nat) : Ch → Nat
  | .make _ => m + 1
  | .set _ _ _ => m
def DeedOk (wide : Nat) : Nat → List Ch → Prop
  | _, [] => True
  | m, c :: d => ChOk wide m c ∧ DeedOk wide (chN m c) d
theorem VaOk.mono {m n : Nat} (h : m ≤ n) {v : Va} (hv : VaOk m v) : VaOk n v := by
  cases v with
  | ptr k => exact Nat.lt_of_lt_of_le hv h
  | non => exact hv
  | num i => exact hv
theorem chH_len {h : Hea} {c : Ch} : (chH h c).length = chN h.length c := by
  cases c with
  | make r => exact List.length_append
  | set a b v => exact List.length_set
/-- all but the count of records -/
structure HeaW (wide : Nat) (h : Hea) : Prop where
  ne : h ≠ []
  row : ∀ r ∈ h, r.length = wide ∧ ∀ v ∈ r, VaOk h.length v
theorem chH_ok {wide : Nat} {h : Hea} {c : Ch} (H : HeaW wide h) (hc : ChOk wide h.length c) : HeaW wide (chH h c) := by
  cases c with
  | make r =>
    refine ⟨by simp [chH], fun x hx => ?_⟩
    show x.length = wide ∧ ∀ v ∈ x, VaOk (h ++ [r]).length v
    rw [List.length_append, List.length_singleton]
    rcases List.mem_append.mp hx with e | e
    · exact ⟨(H.row x e).1, fun v hv => ((H.row x e).2 v hv).mono (Nat.le_succ _)⟩
    · rw [List.mem_singleton] at e; subst e; exact hc
  | set a b v =>
    obtain ⟨ha, hb, hv⟩ := hc
    refine ⟨fun z => H.ne (by have := congrArg List.length z; rw [chH_len] at this; exact List.eq_nil_of_length_eq_zero this), fun x hx => ?_⟩
    show x.length = wide ∧ ∀ u ∈ x, VaOk (h.set a ((rowAt h a).set b v)).length u
    rw [List.length_set]
    have hr := H.row _ (Hea.mem ha)
    rcases List.mem_or_eq_of_mem_set hx with e | e
    · exact H.row x e
    · subst e
      refine ⟨by rw [List.length_set]; exact hr.1, fun u hu => ?_⟩
      rcases List.mem_or_eq_of_mem_set hu with e | e
      · exact hr.2 u e
      · rw [e]; exact hv
theorem doneH_ok {wide : Nat} : ∀ {d : List Ch} {h : Hea}, HeaW wide h → DeedOk wide h.length d → HeaW wide (doneH h d)
  | [], _, H, _ => H
  | c :: d, h, H, hd => doneH_ok (d := d) (chH_ok H hd.1) (by rw [chH_len]; exact hd.2)
def S_l_as_done (ds : List D) (Q : D → Prop) : Prop := ∃ (h : Hea) (w : Nat) (d : List Ch), ds = [encH h, .lst (d.map Ch.enc)] ∧ HeaW w h ∧ w ≤ 6 ∧ DeedOk w h.length d ∧ h.length + d.length ≤ 100 ∧ Q (encH (doneH h d))
theorem len_l_as_done {ds : List D} {Q : D → Prop} (h : S_l_as_done ds Q) : ds.length = 2 := by obtain ⟨_, _, _, e, _⟩ := h; rw [e]; rfl
theorem mono_l_as_done : Mono S_l_as_done := fun ds P Q h ⟨d, m, e, n, l, x, p, q, k⟩ => ⟨d, m, e, n, l, x, p, q, h _ k⟩
/-! ### lists in a list -/
/-- the lists at `as` hold what `rows` tell, in a list at R; all of them are new -/
structure Nst (A : At) (H0 H : Hp) (R : Addr) (as : List Addr) (rows : List (List D)) : Prop where
  sm : Same H0 H
  rt : H R = some (.lst (as.map V.ref))
  r0 : H0 R = none
  ln : as.length = rows.length
  nd : as.Nodup
  nr : R ∉ as
  el : ∀ (i : Nat) (a : Addr), as[i]? = some a → H0 a = none ∧ ∃ xs ds, rows[i]? = some ds ∧ H a = some (.lst xs) ∧ RpL A xs ds
theorem Nst.add {A : At} {H0 H : Hp} {R : Addr} {as : List Addr} {rows : List (List D)} (N : Nst A H0 H R as rows) {a : Addr} {xs : List V} {ds : List D} (ha : H a = none) (r : RpL A xs ds) : Nst A H0 (upd (upd H a (.lst xs)) R (.lst (as.map V.ref ++ [.ref a]))) R (as ++ [a]) (rows ++ [ds]) := by
  have na : a ≠ R := fun z => by rw [z, N.rt] at ha; cases ha
  have nas : a ∉ as := fun z => by
    obtain ⟨i, hi, e⟩ := List.getElem_of_mem z
    obtain ⟨_, ys, _, _, h2, _⟩ := N.el i a (by rw [List.getElem?_eq_getElem hi, e])
    rw [h2] at ha; cases ha
  have h0a : H0 a = none := N.sm.free ha
  refine ⟨fun b o e => ?_, by rw [upd_same, List.map_append]; rfl, N.r0, by rw [List.length_append, List.length_append, N.ln]; rfl, ?_, ?_, fun i b hb => ?_⟩
  · rw [upd_ne (fun z => by rw [z, N.r0] at e; cases e), upd_ne (fun z => by rw [z, h0a] at e; cases e)]; exact N.sm b o e
  · rw [List.nodup_append]
    exact ⟨N.nd, by simp, fun x hx y hy => by rw [List.mem_singleton] at hy; rw [hy]; intro e; exact nas (e ▸ hx)⟩
  · intro z
    rcases List.mem_append.mp z with e | e
    · exact N.nr e
    · rw [List.mem_singleton] at e; exact na e.symm
  · by_cases hi : i < as.length
    · rw [List.getElem?_append_left hi] at hb
      obtain ⟨h1, ys, es, h2, h3, h4⟩ := N.el i b hb
      refine ⟨h1, ys, es, by rw [List.getElem?_append_left (by rw [← N.ln]; exact hi)]; exact h2, ?_, h4⟩
      rw [upd_ne (fun z => N.nr (by rw [← z]; exact List.mem_of_getElem? hb)), upd_ne (fun z => nas (by rw [← z]; exact List.mem_of_getElem? hb))]; exact h3
    · have h1 : i = as.length := by
        have := (List.getElem?_eq_some_iff.mp hb).1
        rw [List.length_append, List.length_singleton] at this; omega
      subst h1
      rw [List.getElem?_append_right (Nat.le_refl _), Nat.sub_self] at hb
      cases hb
      refine ⟨h0a, xs, ds, by rw [N.ln, List.getElem?_append_right (Nat.le_refl _), Nat.sub_self]; rfl, by rw [upd_ne na, upd_same], r⟩
theorem Nst.put {A : At} {H0 H : Hp} {R : Addr} {as : List Addr} {rows : List (List D)} (N : Nst A H0 H R as rows) {i : Nat} {a : Addr} {xs : List V} {ds : List D} (ha : as[i]? = some a) (r : RpL A xs ds) : Nst A H0 (upd H a (.lst xs)) R as (rows.set i ds) := by
  have ma := List.mem_of_getElem? ha
  have na : R ≠ a := fun z => N.nr (by rw [z]; exact ma)
  have h0 := (N.el i a ha).1
  refine ⟨fun b o e => by rw [upd_ne (fun z => by rw [z, h0] at e; cases e)]; exact N.sm b o e, by rw [upd_ne na]; exact N.rt, N.r0, by rw [List.length_set]; exact N.ln, N.nd, N.nr, fun j b hb => ?_⟩
  obtain ⟨h1, ys, es, h2, h3, h4⟩ := N.el j b hb
  by_cases hij : i = j
  · subst hij
    rw [ha] at hb; cases hb
    exact ⟨h1, xs, ds, by rw [List.getElem?_set_self (List.getElem?_eq_some_iff.mp h2).1], upd_same, r⟩
  · refine ⟨h1, ys, es, by rw [List.getElem?_set_ne hij]; exact h2, ?_, h4⟩
    rw [upd_ne (fun z => ?_)]; exact h3
    subst z
    exact hij ((List.getElem?_inj (List.getElem?_eq_some_iff.mp ha).1 N.nd).mp (ha.trans hb.symm))
theorem Nst.other {A : At} {H0 H : Hp} {R : Addr} {as : List Addr} {rows : List (List D)} (N : Nst A H0 H R as rows) {p : Addr} {o : HO} (h1 : p ≠ R) (h2 : p ∉ as) (h0 : H0 p = none) : Nst A H0 (upd H p o) R as rows :=
  ⟨fun b u e => by rw [upd_ne (ne_of_none e h0)]; exact N.sm b u e, by rw [upd_ne h1.symm]; exact N.rt, N.r0, N.ln, N.nd, N.nr, fun i a h => let ⟨g1, xs, ds, g2, g3, g4⟩ := N.el i a h; ⟨g1, xs, ds, g2, by rw [upd_ne (fun z => h2 (by rw [← z]; exact List.mem_of_getElem? h))]; exact g3, g4⟩⟩
theorem Nst.grow {A : At} {H0 H : Hp} {R : Addr} {as : List Addr} {rows : List (List D)} (N : Nst A H0 H R as rows) {p : Addr} {o : HO} (hp : H p = none) : Nst A H0 (upd H p o) R as rows := by
  have n1 : ∀ {b u}, H b = some u → b ≠ p := fun e z => by rw [z, hp] at e; cases e
  exact ⟨fun b u e => by rw [upd_ne (n1 (N.sm b u e))]; exact N.sm b u e, by rw [upd_ne (n1 N.rt)]; exact N.rt, N.r0, N.ln, N.nd, N.nr, fun i a h => let ⟨h1, xs, ds, h2, h3, h4⟩ := N.el i a h; ⟨h1, xs, ds, h2, by rw [upd_ne (n1 h3)]; exact h3, h4⟩⟩
def rowsD (h : Hea) : List (List D) := h.map fun r => r.map Va.enc
def doneTS (K : PySem.W.Frag) : TS :=
  tSeq (tAsg (tLc (iTup K (tVar 0)) (gName 4) tYes (tCB (rListOf K) (tCons (tVar 4) tNil)) [4]) (gName 2))
  (tSeq (tFor (iList K (tVar 1)) (gName 3)
    (tIfS (tTest (tOp rEq (tOp (rIx K) (tVar 3) (tC (V.int 0))) (tC (V.str "make"))))
      (tDrop (tBM K "list" rAppend (tVar 2) (tCons (tCB (rListOf K) (tCons (tOp (rIx K) (tVar 3) (tC (V.int 1))) tNil)) tNil)))
      (tAsg (tOp (rIx K) (tVar 3) (tC (V.int 3))) (gSub (tOp (rIx K) (tVar 2) (tOp (rIx K) (tVar 3) (tC (V.int 1)))) (tOp (rIx K) (tVar 3) (tC (V.int 2))) rSetL))))
   (tRet (tCB (rTupleOf K) (tCons (tLc (iList K (tVar 2)) (gName 4) tYes (tCB (rTupleOf K) (tCons (tVar 4) tNil)) [4]) tNil))))
theorem Rp.tupAt {O : Addr → Prop} {H : Hp} {v : V} {ds : List D} (r : Rp (Sh O H) v (.tup ds)) : ∃ b xs, v = .ref b ∧ Rd H b (.tup xs) ∧ RpL (Sh O H) xs ds := by
  cases r with
  | tup e r => exact ⟨_, _, rfl, rk_tup e.1, r⟩
theorem rd_ix {K : PySem.W.Frag} {H : Hp} {b : Addr} {xs : List V} {i : Nat} {v : V} {Q : VK} (e : Rd H b (.tup xs)) (h : xs[i]? = some v) (q : Q v H) : rIx K (.ref b) (.int (i : Int)) H Q := by
  refine .inr (.inl ⟨b, xs, _, v, rfl, rfl, sqT e, ?_, q⟩)
  unfold atI
  rw [ixN_nat (List.getElem?_eq_some_iff.mp h).1]; exact h
theorem done_app (h : Hea) (d : List Ch) (c : Ch) : doneH h (d ++ [c]) = chH (doneH h d) c := by unfold doneH; rw [List.foldl_append]; rfl
theorem take_one {α : Type} {l : List α} {i : Nat} {x : α} (h : l[i]? = some x) : l.take (i + 1) = l.take i ++ [x] := by rw [List.take_succ, h]; rfl
theorem drop_one {α : Type} {l : List α} {i : Nat} {x : α} (h : l[i]? = some x) : l.drop i = x :: l.drop (i + 1) := by
  obtain ⟨hi, e⟩ := List.getElem?_eq_some_iff.mp h
  rw [List.drop_eq_getElem_cons hi, e]
theorem chN_le (m : Nat) (c : Ch) : chN m c ≤ m + 1 := by cases c <;> simp [chN]
/-- the def, over what its arguments tell -/
theorem done_wp {K : PySem.W.Frag} {Oc : Addr → Prop} {H : Hp} {a0 a1 : Addr} {xs0 xs1 : List V} {h : Hea} {d : List Ch} {wide : Nat} {nx : L2.St → Hp → Prop} {Q : VK}
    (e0 : Rd H a0 (.tup xs0)) (q0 : RpL (Sh Oc H) xs0 (h.map encR)) (e1 : H a1 = some (.lst xs1)) (q1 : RpL (Sh Oc H) xs1 (d.map Ch.enc)) (HW : HeaW wide h) (h6 : wide ≤ 6) (hd : DeedOk wide h.length d) (hn : h.length + d.length ≤ 100)
    (tr : ∀ b, Oc b → H b ≠ none) (fin : ∀ v H', Same H H' → Rp (Sh Oc H') v (encH (doneH h d)) → Q v H') :
    doneTS K { nx := nx, rt := Q } [some (.ref a0), some (.ref a1), none, none, none] H := by
  refine ⟨_, rfl, a0, rfl, ⟨xs0, sqT e0⟩, fun R hR => ?_⟩
  refine lc_tup (K := K) (a := a0) (xs := xs0) (fun i H1 => ∃ as, Nst (Sh Oc H) H H1 R as (rowsD (h.take i)) ∧ i ≤ h.length) ⟨[], ⟨fun b o e => by rw [upd_ne (ne_of_none e hR)]; exact e, upd_same, hR, rfl, List.nodup_nil, (fun z => nomatch z), (fun i a z => nomatch z)⟩, Nat.zero_le _⟩ (fun i H1 _ ⟨as, N, _⟩ => sqT (rdS N.sm e0)) ?_ ?_
  · rintro i x H1 hx ⟨as, N, _⟩
    obtain ⟨dd, hdd, rx⟩ := q0.getV hx
    rw [List.getElem?_map] at hdd
    cases hr : h[i]? with
    | none => rw [hr] at hdd; cases hdd
    | some r =>
      rw [hr] at hdd
      cases hdd
      obtain ⟨b, ys, rfl, eb, rb⟩ := Rp.tupAt rx
      refine ⟨rfl, ?_⟩
      dsimp only [tYes]
      rw [if_pos rfl]
      refine ⟨_, rfl, b, ys, rfl, .inr (sqT (rdS N.sm eb)), fun l hl => ?_⟩
      have nl : R ≠ l := fun z => by rw [← z, N.rt] at hl; cases hl
      have hi := (List.getElem?_eq_some_iff.mp hr).1
      have hlen : as.length = i := by rw [N.ln]; unfold rowsD; rw [List.length_map, List.length_take]; omega
      refine ⟨as.map V.ref, by rw [upd_ne nl]; exact N.rt, by rw [List.length_map, hlen, sizeLine_eq]; omega, as ++ [l], ?_, hi⟩
      rw [take_one hr]
      unfold rowsD
      rw [List.map_append]
      exact N.add hl rb
  · rintro H1 ⟨as, N, _⟩
    have hl0 : xs0.length = h.length := by rw [q0.length, List.length_map]
    rw [hl0, List.take_length] at N
    refine ⟨_, rfl, a1, rfl, ⟨xs1, sqL (N.sm _ _ e1)⟩, ?_⟩
    refine for_list (K := K) (a := a1) (xs := xs1) (fun i σ' H' => ∃ as c3 c4, σ' = [some (.ref a0), some (.ref a1), some (.ref R), c3, c4] ∧ Nst (Sh Oc H) H H' R as (rowsD (doneH h (d.take i))) ∧ HeaW wide (doneH h (d.take i)) ∧ DeedOk wide (doneH h (d.take i)).length (d.drop i) ∧ (doneH h (d.take i)).length ≤ h.length + i ∧ i ≤ d.length) ⟨as, none, none, rfl, N, HW, hd, Nat.le_refl _, Nat.zero_le _⟩ (fun i σ' H' _ ⟨as, c3, c4, _, N, _⟩ => sqL (N.sm _ _ e1)) ?_ ?_
    · rintro i x σ' H' hx ⟨as, c3, c4, rfl, N, HW', hd', hl, _⟩
      obtain ⟨dd, hdd, rx⟩ := q1.getV hx
      rw [List.getElem?_map] at hdd
      cases hc : d[i]? with
      | none => rw [hc] at hdd; cases hdd
      | some c =>
        rw [hc] at hdd
        cases hdd
        have hi := (List.getElem?_eq_some_iff.mp hc).1
        rw [drop_one hc] at hd'
        have hk := chH_ok HW' hd'.1
        have hcl := chN_le (doneH h (d.take i)).length c
        have hal : as.length = (doneH h (d.take i)).length := by rw [N.ln]; unfold rowsD; rw [List.length_map]
        have rest : HeaW wide (doneH h (d.take (i + 1))) ∧ DeedOk wide (doneH h (d.take (i + 1))).length (d.drop (i + 1)) ∧ (doneH h (d.take (i + 1))).length ≤ h.length + (i + 1) ∧ i + 1 ≤ d.length := by
          rw [take_one hc, done_app]
          exact ⟨hk, by rw [chH_len]; exact hd'.2, by rw [chH_len]; omega, hi⟩
        cases c with
        | make r =>
          obtain ⟨b, ys, rfl, eb, rb⟩ := Rp.tupAt rx
          cases rb with
          | cons r0 rb =>
            cases r0
            cases rb with
            | @cons v1 _ _ _ r1 rb =>
              cases rb
              obtain ⟨b1, zs, rfl, eb1, rb1⟩ := Rp.tupAt r1
              refine ⟨_, rfl, rd_ix (i := 0) (rdS N.sm eb) rfl ⟨rfl, _, rfl, iteT' (decide_eq_true rfl) ?_⟩⟩
              refine ⟨_, rfl, .inl ⟨rfl, _, sqL N.rt⟩, ⟨_, rfl, rd_ix (i := 1) (rdS N.sm eb) rfl ⟨b1, zs, rfl, .inr (sqT (rdS N.sm eb1)), fun l hl => ?_⟩⟩⟩
              have nl : R ≠ l := fun z => by rw [← z, N.rt] at hl; cases hl
              refine ⟨R, as.map V.ref, _, rfl, rfl, by rw [upd_ne nl]; exact N.rt, by rw [List.length_map, sizeLine_eq]; omega, as ++ [l], _, _, rfl, ?_, rest⟩
              rw [take_one hc, done_app]
              unfold rowsD
              show Nst _ _ _ _ _ (((doneH h (d.take i)) ++ [r]).map fun r => r.map Va.enc)
              rw [List.map_append]
              exact N.add hl rb1
        | set p q v =>
          obtain ⟨b, ys, rfl, eb, rb⟩ := Rp.tupAt rx
          cases rb with
          | cons r0 rb =>
            cases r0
            cases rb with
            | cons r1 rb =>
              cases r1
              cases rb with
              | cons r2 rb =>
                cases r2
                cases rb with
                | @cons v3 _ _ _ r3 rb =>
                  cases rb
                  obtain ⟨⟨hp, hq, hv⟩, _⟩ := hd'
                  have ha : as[p]? = some (as[p]'(by omega)) := List.getElem?_eq_getElem (by omega)
                  generalize as[p]'(by omega) = aa at ha
                  obtain ⟨_, zs, ds, hds, eaa, raa⟩ := N.el p aa ha
                  have hrow : ds = (rowAt (doneH h (d.take i)) p).map Va.enc := by
                    unfold rowsD at hds
                    rw [List.getElem?_map, Hea.get hp] at hds
                    exact (Option.some.inj hds).symm
                  subst hrow
                  have hzl : zs.length = wide := by rw [raa.length, List.length_map]; exact (HW'.row _ (Hea.mem hp)).1
                  refine ⟨_, rfl, rd_ix (i := 0) (rdS N.sm eb) rfl ⟨rfl, _, rfl, iteF' (by decide) ?_⟩⟩
                  refine ⟨_, rfl, rd_ix (i := 3) (rdS N.sm eb) rfl ?_⟩
                  refine ⟨_, rfl, _, rfl, rd_ix (i := 1) (rdS N.sm eb) rfl (.inl ⟨R, as.map V.ref, _, .ref aa, rfl, rfl, sqL N.rt, ?_, ?_⟩)⟩
                  · unfold atI
                    rw [List.length_map, ixN_nat (by omega)]
                    show (as.map V.ref)[p]? = _
                    rw [List.getElem?_map, ha]; rfl
                  · refine ⟨_, rfl, rd_ix (i := 2) (rdS N.sm eb) rfl ⟨aa, zs, _, q, rfl, rfl, eaa, ixN_nat (by omega), as, _, _, rfl, ?_, rest⟩⟩
                    rw [take_one hc, done_app]
                    unfold rowsD
                    show Nst _ _ _ _ _ (((doneH h (d.take i)).set p ((rowAt (doneH h (d.take i)) p).set q v)).map fun r => r.map Va.enc)
                    rw [List.map_set, List.map_set]
                    exact N.put ha (raa.set q r3)
    · rintro σ' H' ⟨as, c3, c4, rfl, N, HW', _, hl, _⟩
      have hl1 : xs1.length = d.length := by rw [q1.length, List.length_map]
      rw [hl1, List.take_length] at N hl
      have hal : as.length = (doneH h d).length := by rw [N.ln]; unfold rowsD; rw [List.length_map]
      refine ⟨_, rfl, R, rfl, ⟨_, sqL N.rt⟩, fun E hE => ?_⟩
      have nER : E ≠ R := fun z => by rw [z, N.rt] at hE; cases hE
      have nEas : E ∉ as := fun z => by
        obtain ⟨i, hi, e⟩ := List.getElem_of_mem z
        obtain ⟨_, ys, _, _, h2, _⟩ := N.el i E (by rw [List.getElem?_eq_getElem hi, e])
        rw [h2] at hE; cases hE
      have h0E : H E = none := N.sm.free hE
      have nOE : ¬ Oc E := fun z => tr E z h0E
      refine lc_list (K := K) (a := R) (xs := as.map V.ref) (fun i H2 => Nst (Sh Oc H) H H2 R as (rowsD (doneH h d)) ∧ i ≤ as.length ∧ ∃ acc, H2 E = some (.lst acc) ∧ acc.length = i ∧ RpL (Sh (fun b => Oc b ∨ b = E) H2) acc (((doneH h d).take i).map encR)) ⟨N.other nER nEas h0E, Nat.zero_le _, [], upd_same, rfl, .nil⟩ (fun i H2 _ ⟨N2, _⟩ => sqL N2.rt) ?_ ?_
      · rintro i x H2 hx ⟨N2, _, acc, eE, la, ra⟩
        rw [List.getElem?_map] at hx
        cases ha : as[i]? with
        | none => rw [ha] at hx; cases hx
        | some aa =>
          rw [ha] at hx
          cases hx
          have hi := (List.getElem?_eq_some_iff.mp ha).1
          obtain ⟨_, zs, ds, hds, eaa, raa⟩ := N2.el i aa ha
          have hrow : ds = (rowAt (doneH h d) i).map Va.enc := by
            unfold rowsD at hds
            rw [List.getElem?_map, Hea.get (by omega)] at hds
            exact (Option.some.inj hds).symm
          subst hrow
          refine ⟨rfl, ?_⟩
          dsimp only [tYes]
          rw [if_pos rfl]
          refine ⟨_, rfl, aa, zs, rfl, .inl ⟨sqL eaa, fun l hl' => ?_⟩⟩
          have nlE : E ≠ l := fun z => by rw [← z, eE] at hl'; cases hl'
          have h0l : H l = none := N2.sm.free hl'
          have nlR : l ≠ R := fun z => by rw [z, N2.rt] at hl'; cases hl'
          have nlas : l ∉ as := fun z => by
            obtain ⟨j, hj, e⟩ := List.getElem_of_mem z
            obtain ⟨_, ys, _, _, h2, _⟩ := N2.el j l (by rw [List.getElem?_eq_getElem hj, e])
            rw [h2] at hl'; cases hl'
          have le : LeA (Sh (fun b => Oc b ∨ b = E) H2) (Sh (fun b => Oc b ∨ b = E) (upd (upd H2 l (.tup zs)) E (.lst (acc ++ [.ref l])))) := fun b u ⟨hb, nb⟩ => ⟨rd_upd (fun z => nb (.inr z)) (rd_upd (rd_ne hb hl') hb), nb⟩
          refine ⟨acc, by rw [upd_ne nlE]; exact eE, by rw [la, sizeLine_eq]; omega, (N2.other nlR nlas h0l).other nER nEas h0E, hi, acc ++ [.ref l], upd_same, by rw [List.length_append, la]; rfl, ?_⟩
          have hrow : (doneH h d)[i]? = some (rowAt (doneH h d) i) := Hea.get (by omega)
          rw [take_one hrow, List.map_append]
          refine (ra.mono le).append (.cons (.tup ⟨.inl (by rw [upd_ne nlE.symm, upd_same]), fun z => z.elim (fun z => tr l z h0l) nlE.symm⟩ (raa.mono fun b u ⟨hb, nb⟩ => ⟨?_, fun z => z.elim nb fun z => ?_⟩)) .nil)
          · exact rd_upd (fun z => rd_ne hb h0E z) (rd_upd (rd_ne hb h0l) (rd_mv (fun o e => N2.sm b o e) hb))
          · exact rd_ne hb h0E z
      · rintro H2 ⟨N2, _, acc, eE, la, ra⟩
        have hl3 : (as.map V.ref).length = (doneH h d).length := by rw [List.length_map, hal]
        rw [hl3, List.take_length] at ra
        refine ⟨E, acc, rfl, .inl ⟨sqL eE, fun l hl' => fin _ _ (fun b o e => by rw [upd_ne (ne_of_none (N2.sm b o e) hl')]; exact N2.sm b o e) ?_⟩⟩
        exact .tup ⟨.inl upd_same, fun z => tr l z (N2.sm.free hl')⟩ (ra.mono fun b u ⟨hb, nb⟩ => ⟨rd_upd (rd_ne hb hl') hb, fun z => nb (.inl z)⟩)
section
variable {P : Program} {w : World} {K : PySem.W.Frag} {mg : Str → Option Value} {base : Heap} {f : Addr} {fd : FuncData}
end
end Law

namespace Law
open PySem PySem.Spec PyProof.Rows L2 PL
local macro_rules | `(tactic| walk_at "pl") => `(tactic| simp only [sRet, sRetN, sSeq, sNext, sNever, sSet, sPar, sIf, sDrop, sFor, sApp, sAug, sAugIx, sPutD, mAndV, mOrV, mNotV, mAnd, mOr, mNot, mB, mIf, mTru, mCB, mCL, mCall, mC, mVar, mRd, aCons, aNil, mTup, mLst, mLc, mLcK, mOwn, mDat, m2, ml2, mNeg, mChain, iT, iL, kIsi, kIx, kI, kIc, kIsN, kEqS, kLen, kTuple, kList, kInt1, kRepL, sForL, mLcL, iR1, kMin2,  env0, wipeE, frz, unOwn, gN, List.length_cons, List.length_nil, List.map_cons, List.map_nil, List.replicate, List.cons_append, List.nil_append, List.append_nil, List.getElem?_cons_zero, List.getElem?_cons_succ, Nat.sub_self, Nat.reduceAdd, Nat.reduceSub, D.ty, D.isN, D.tru, if_true, if_false, Bool.false_eq_true, List.set, id])
def S_l_draw := SDr
theorem mono_l_draw (tok : V) : Mono (S_l_draw tok) := mono_dr tok
def S_l_pick (tok : V) (ds : List D) (Q : D → Prop) : Prop := ∃ l : List D, ds = [.opq tok, .lst l] ∧ l ≠ [] ∧ l.length < 1000000 ∧ ∀ d ∈ l, Q d
def S_l_as_value (tok : V) (ds : List D) (Q : D → Prop) : Prop := ∃ m : Nat, ds = [.opq tok, .int m] ∧ 0 < m ∧ m < 1000000 ∧ ∀ v : Va, VaOk m v → Q v.enc
/-- made records -/
def mks : List Ch → Nat
  | [] => 0
  | .make _ :: d => mks d + 1
  | .set _ _ _ :: d => mks d
def S_l_as_deed (tok : V) (ds : List D) (Q : D → Prop) : Prop := ∃ w m t : Nat, ds = [.opq tok, .int w, .int m, .int t] ∧ 1 ≤ w ∧ w ≤ 4 ∧ 0 < m ∧ m ≤ 1000 ∧ t ≤ 7 ∧ ∀ d : List Ch, d.length ≤ t → DeedOk w m d → Q (.lst (d.map Ch.enc))
/-- a version: its parent, its deed -/
abbrev Ver := Nat × List Ch
def Ver.enc (v : Ver) : D := .tup [.int v.1, .lst (v.2.map Ch.enc)]
/-- a story, its sizes known -/
def StoryOk (w t : Nat) : List Nat → List Ver → Prop
  | _, [] => True
  | s, (p, d) :: r => p < s.length ∧ d.length ≤ t ∧ DeedOk w (s[p]?.getD 0) d ∧ StoryOk w t (s ++ [s[p]?.getD 0 + mks d]) r
def S_l_as_story (tok : V) (ds : List D) (Q : D → Prop) : Prop := ∃ w n t : Nat, ds = [.opq tok, .int w, .int n, .int t] ∧ 1 ≤ w ∧ w ≤ 4 ∧ 0 ≤ n ∧ n ≤ 9 ∧ t ≤ 6 ∧ ∀ s : List Ver, s.length = n → StoryOk w t [1] s → Q (.lst (s.map Ver.enc))
def rootH (w : Nat) : Hea := [List.replicate w .non]
def heapsFrom (hs : List Hea) (s : List Ver) : List Hea := s.foldl (fun hs v => hs ++ [doneH (hs[v.1]?.getD []) v.2]) hs
def S_l_as_heaps (ds : List D) (Q : D → Prop) : Prop := ∃ (w t : Nat) (s : List Ver), ds = [.int w, .lst (s.map Ver.enc)] ∧ 1 ≤ w ∧ w ≤ 4 ∧ t ≤ 6 ∧ s.length ≤ 9 ∧ StoryOk w t [1] s ∧ Q (.lst ((heapsFrom [rootH w] s).map encH))
def S_l_as_is_to (ds : List D) (Q : D → Prop) : Prop := ∃ v : Va, ds = [v.enc] ∧ Q (.bl v.isP)
def S_l_as_met (ds : List D) (Q : D → Prop) : Prop := ∃ (h : Hea) (w : Nat), ds = [encH h] ∧ HeaOk w h ∧ Q (.lst (encN (met h)))
def S_l_as_seen (ds : List D) (Q : D → Prop) : Prop := ∃ (h : Hea) (w : Nat), ds = [encH h] ∧ HeaOk w h ∧ Q (encH (seenH h))
theorem atI_nat {α : Type} {l : List α} {i : Nat} {d : α} (h : l[i]? = some d) : atI l (i : Int) = some d := by
  unfold atI
  rw [ixN_nat (List.getElem?_eq_some_iff.mp h).1]; exact h
theorem draw_any {tok : V} {z : Int} {n : Nat} {Q : D → Prop} (e : z = (n : Int)) (h0 : 0 < n) (h1 : n < 10000000) (q : ∀ k : Nat, k < n → Q (.int (k : Int))) : S_l_draw tok [.opq tok, .int z] Q := by
  subst e
  refine ⟨n, rfl, by omega, by rw [Int.natAbs_natCast]; omega, fun k a b => ?_⟩
  obtain ⟨j, rfl⟩ := Int.eq_ofNat_of_zero_le a
  exact q j (by omega)
theorem rows_of {p : Va → Prop} : ∀ {ys : List D}, (∀ y ∈ ys, ∃ v, p v ∧ y = Va.enc v) → ∃ r : Row, ys = r.map Va.enc ∧ ∀ v ∈ r, p v
  | [], _ => ⟨[], rfl, fun _ z => nomatch z⟩
  | y :: ys, h => by
    obtain ⟨v, hv, e⟩ := h y List.mem_cons_self
    obtain ⟨r, e2, h2⟩ := rows_of (ys := ys) fun z hz => h z (List.mem_cons_of_mem _ hz)
    exact ⟨v :: r, by rw [e, e2]; rfl, fun u hu => (List.mem_cons.mp hu).elim (fun q => by rw [q]; exact hv) (h2 u)⟩
theorem mks_app : ∀ (d : List Ch) (c : Ch), mks (d ++ [c]) = mks d + mks [c]
  | [], c => (Nat.zero_add _).symm
  | .make r :: d, c => by show mks (d ++ [c]) + 1 = mks d + 1 + mks [c]; rw [mks_app d c]; omega
  | .set a b v :: d, c => mks_app d c
theorem deed_app {w : Nat} : ∀ {d : List Ch} {m : Nat} {c : Ch}, DeedOk w m d → ChOk w (m + mks d) c → DeedOk w m (d ++ [c])
  | [], m, c, _, hc => ⟨hc, trivial⟩
  | .make r :: d, m, c, h, hc => ⟨h.1, deed_app (d := d) h.2 (by show ChOk w (m + 1 + mks d) c; rw [show m + 1 + mks d = m + (mks d + 1) by omega]; exact hc)⟩
  | .set a b v :: d, m, c, h, hc => ⟨h.1, deed_app (d := d) h.2 hc⟩
theorem mks_le : ∀ d : List Ch, mks d ≤ d.length
  | [] => Nat.le_refl _
  | .make r :: d => Nat.succ_le_succ (mks_le d)
  | .set a b v :: d => Nat.le_succ_of_le (mks_le d)
theorem done_len : ∀ (d : List Ch) (h : Hea), (doneH h d).length = h.length + mks d
  | [], h => rfl
  | .make r :: d, h => by show (doneH (h ++ [r]) d).length = h.length + (mks d + 1); rw [done_len d, List.length_append, List.length_singleton]; omega
  | .set a b v :: d, h => by show (doneH (h.set a _) d).length = h.length + mks d; rw [done_len d, List.length_set]
def szs (s0 : List Nat) (s : List Ver) : List Nat := s.foldl (fun s v => s ++ [s[v.1]?.getD 0 + mks v.2]) s0
theorem szs_len : ∀ (s : List Ver) (s0 : List Nat), (szs s0 s).length = s0.length + s.length
  | [], s0 => rfl
  | v :: s, s0 => by show (szs (s0 ++ [_]) s).length = _; rw [szs_len s, List.length_append, List.length_singleton, List.length_cons]; omega
theorem szs_app (s : List Ver) (s0 : List Nat) (v : Ver) : szs s0 (s ++ [v]) = szs s0 s ++ [(szs s0 s)[v.1]?.getD 0 + mks v.2] := by unfold szs; rw [List.foldl_append]; rfl
theorem story_app {w t : Nat} : ∀ {s : List Ver} {s0 : List Nat} {p : Nat} {d : List Ch}, StoryOk w t s0 s → p < (szs s0 s).length → d.length ≤ t → DeedOk w ((szs s0 s)[p]?.getD 0) d → StoryOk w t s0 (s ++ [(p, d)])
  | [], s0, p, d, _, h1, h2, h3 => ⟨h1, h2, h3, trivial⟩
  | (q, e) :: s, s0, p, d, h, h1, h2, h3 => ⟨h.1, h.2.1, h.2.2.1, story_app (s := s) h.2.2.2 h1 h2 h3⟩
theorem foldl_map {α β : Type} (f : α → β) : ∀ (l : List α) (a : List β), l.foldl (fun acc x => acc ++ [f x]) a = a ++ l.map f
  | [], a => (List.append_nil a).symm
  | x :: l, a => by rw [List.foldl_cons, foldl_map f l, List.map_cons, List.append_assoc]; rfl
theorem encN_int (o : List Nat) : encN o = (o.map fun k : Nat => (k : Int)).map D.int := by unfold encN; rw [List.map_map]; rfl
theorem mem_cast {o : List Nat} {j : Nat} : ((j : Int) ∈ o.map fun k : Nat => (k : Int)) ↔ j ∈ o := by
  rw [List.mem_map]
  exact ⟨fun ⟨a, h, e⟩ => by rw [show j = a by omega]; exact h, fun h => ⟨j, h, rfl⟩⟩
theorem idx_cast : ∀ (o : List Nat) (j : Nat), (o.map fun k : Nat => (k : Int)).idxOf (j : Int) = o.idxOf j
  | [], _ => rfl
  | k :: o, j => by
    rw [List.map_cons, List.idxOf_cons, List.idxOf_cons, idx_cast o j]
    by_cases e : k = j
    · subst e; simp
    · rw [show (k == j) = false from beq_false_of_ne e, show ((k : Int) == (j : Int)) = false from beq_false_of_ne (by omega)]
theorem heaps_app (hs : List Hea) (s : List Ver) (v : Ver) : heapsFrom hs (s ++ [v]) = heapsFrom hs s ++ [doneH ((heapsFrom hs s)[v.1]?.getD []) v.2] := by unfold heapsFrom; rw [List.foldl_append]; rfl
theorem root_ok {w : Nat} : HeaW w (rootH w) := ⟨fun z => (nomatch z), fun r hr => by
  rw [show rootH w = [List.replicate w .non] from rfl, List.mem_singleton] at hr
  subst hr
  exact ⟨List.length_replicate, fun v hv => by rw [List.eq_of_mem_replicate hv]; trivial⟩⟩
/-- what is known of the heaps of a story -/
structure HsOk (w t i : Nat) (hs : List Hea) (rest : List Ver) : Prop where
  st : StoryOk w t (hs.map List.length) rest
  hw : ∀ h ∈ hs, HeaW w h ∧ h.length ≤ 1 + 6 * i
  ln : hs.length = i + 1
theorem HsOk.step {w t i p : Nat} {hs : List Hea} {rest : List Ver} {d : List Ch} (H : HsOk w t i hs ((p, d) :: rest)) (ht : t ≤ 6) : p < hs.length ∧ DeedOk w (hs[p]?.getD []).length d ∧ d.length ≤ 6 ∧ HeaW w (hs[p]?.getD []) ∧ (hs[p]?.getD []).length ≤ 1 + 6 * i ∧ HsOk w t (i + 1) (hs ++ [doneH (hs[p]?.getD []) d]) rest := by
  obtain ⟨h1, h2, h3, h4⟩ := H.st
  rw [List.length_map] at h1
  have hg : hs[p]? = some (hs[p]) := List.getElem?_eq_getElem h1
  have hm := H.hw _ (List.getElem_mem h1)
  generalize hs[p] = g at hg hm
  rw [List.getElem?_map, hg] at h3 h4
  rw [hg]
  have hk := mks_le d
  have hl := done_len d g
  refine ⟨h1, h3, by omega, hm.1, hm.2, ⟨?_, fun h hh => ?_, by rw [List.length_append, H.ln]; rfl⟩⟩
  · rw [List.map_append]
    show StoryOk w t (hs.map List.length ++ [(doneH g d).length]) rest
    rw [hl]; exact h4
  · rcases List.mem_append.mp hh with e | e
    · have := H.hw h e
      exact ⟨this.1, by omega⟩
    · rw [List.mem_singleton] at e
      subst e
      exact ⟨doneH_ok hm.1 h3, by show (doneH g d).length ≤ _; omega⟩
theorem hs_all {w t : Nat} {s : List Ver} (ok : StoryOk w t [1] s) (ht : t ≤ 6) : ∀ i, i ≤ s.length → HsOk w t i (heapsFrom [rootH w] (s.take i)) (s.drop i)
  | 0, _ => ⟨ok, fun h hh => by rw [show heapsFrom [rootH w] (s.take 0) = [rootH w] from rfl, List.mem_singleton] at hh; subst hh; exact ⟨root_ok, Nat.le_refl _⟩, rfl⟩
  | i + 1, hi => by
    have ih := hs_all ok ht i (by omega)
    have hg : s[i]? = some (s[i]) := List.getElem?_eq_getElem (by omega)
    generalize s[i] = v at hg
    rw [drop_one hg] at ih
    rw [take_one hg, heaps_app]
    exact (HsOk.step (p := v.1) (d := v.2) ih ht).2.2.2.2.2
theorem len_l_pick {tok : V} {ds : List D} {Q : D → Prop} (h : S_l_pick tok ds Q) : ds.length = 2 := by obtain ⟨_, e, _⟩ := h; rw [e]; rfl
theorem len_l_as_value {tok : V} {ds : List D} {Q : D → Prop} (h : S_l_as_value tok ds Q) : ds.length = 2 := by obtain ⟨_, e, _⟩ := h; rw [e]; rfl
theorem len_l_as_deed {tok : V} {ds : List D} {Q : D → Prop} (h : S_l_as_deed tok ds Q) : ds.length = 4 := by obtain ⟨_, _, _, e, _⟩ := h; rw [e]; rfl
theorem len_l_as_story {tok : V} {ds : List D} {Q : D → Prop} (h : S_l_as_story tok ds Q) : ds.length = 4 := by obtain ⟨_, _, _, e, _⟩ := h; rw [e]; rfl
theorem len_l_as_heaps {ds : List D} {Q : D → Prop} (h : S_l_as_heaps ds Q) : ds.length = 2 := by obtain ⟨_, _, _, e, _⟩ := h; rw [e]; rfl
theorem len_l_as_is_to {ds : List D} {Q : D → Prop} (h : S_l_as_is_to ds Q) : ds.length = 1 := by obtain ⟨_, e, _⟩ := h; rw [e]; rfl
theorem len_l_as_met {ds : List D} {Q : D → Prop} (h : S_l_as_met ds Q) : ds.length = 1 := by obtain ⟨_, _, e, _⟩ := h; rw [e]; rfl
theorem len_l_as_seen {ds : List D} {Q : D → Prop} (h : S_l_as_seen ds Q) : ds.length = 1 := by obtain ⟨_, _, e, _⟩ := h; rw [e]; rfl
theorem mono_l_pick (tok : V) : Mono (S_l_pick tok) := fun ds P Q h ⟨d, e, n, l, k⟩ => ⟨d, e, n, l, fun x hx => h _ (k x hx)⟩
theorem mono_l_as_value (tok : V) : Mono (S_l_as_value tok) := fun ds P Q h ⟨d, e, n, l, k⟩ => ⟨d, e, n, l, fun x hx => h _ (k x hx)⟩
theorem mono_l_as_deed (tok : V) : Mono (S_l_as_deed tok) := fun ds P Q h ⟨d, e, n, a1, a2, a3, a4, a5, a6, k⟩ => ⟨d, e, n, a1, a2, a3, a4, a5, a6, fun x h1 h2 => h _ (k x h1 h2)⟩
theorem mono_l_as_story (tok : V) : Mono (S_l_as_story tok) := fun ds P Q h ⟨d, e, n, a1, a2, a3, a4, a5, a6, k⟩ => ⟨d, e, n, a1, a2, a3, a4, a5, a6, fun x h1 h2 => h _ (k x h1 h2)⟩
theorem mono_l_as_heaps : Mono S_l_as_heaps := fun ds P Q h ⟨a, b, c, d, e, f, g, i, j, k⟩ => ⟨a, b, c, d, e, f, g, i, j, h _ k⟩
theorem mono_l_as_is_to : Mono S_l_as_is_to := fun ds P Q h ⟨d, e, k⟩ => ⟨d, e, h _ k⟩
theorem mono_l_as_met : Mono S_l_as_met := fun ds P Q h ⟨d, m, e, n, k⟩ => ⟨d, m, e, n, h _ k⟩
theorem mono_l_as_seen : Mono S_l_as_seen := fun ds P Q h ⟨d, m, e, n, k⟩ => ⟨d, m, e, n, h _ k⟩
section
variable {P : Program} {w : World} {K : PySem.W.Frag} {mg : Str → Option Value} {base : Heap} {f : Addr} {fd : FuncData}
theorem ok_l_pick {k : Nat} (F : Fun K "_law_pick" "_law_pick" s_l_pick f fd) (T : Bt mg) (P_l_draw : Pr P w K mg base "_law_draw" k ["state", "size_here"] (spT StW 1 S_l_draw)) : FnOk P w K mg base CX0 (k + 1) f fd ["state", "several"] (spT StW 1 S_l_pick) := by
  refine pl_okT F sc_l_pick (fun tok ds Q h => ?_) fun cdv A outer s H E hr => ?_
  · exact len_l_pick h
  have hu := hu_of hr
  refine ⟨_, (pss_one (ps_ret (pe_ix (show IxR _ (rIx K) from ix_seq) (pv 1) (pe_callP P_l_draw hr rfl (pa_cons (pv 0) (pa_cons (pe_callB (r := fun xs H Q => ∃ x n, xs = [x] ∧ LenV K x H n ∧ Q (.int n) H) call_len (by rfl) T.len PySem.boot_len (pa_cons (pv 1) pa_nil)) pa_nil))) (fun _ _ => rfl)))), fun tok => ⟨_, _, (ss_ret (se_op sr_var (SE.r (se_callT tok (sa_cons se_var (sa_cons (se_cb (sar_cons sr_var sar_nil) kc_len) sa_nil)) (mono_l_draw tok))) k2_ix)), by decide, fun ds Q h => ?_⟩⟩
  obtain ⟨l, rfl, hne, hl, q⟩ := h
  walk_at "pl"
  refine draw_any (n := l.length) rfl (List.length_pos_iff.mpr hne) (by omega) fun k hk => ?_
  show match atI l (k : Int) with | some d => Q d | none => False
  rw [atI_nat (List.getElem?_eq_getElem hk)]
  exact q _ (List.getElem_mem hk)

end
end Law

/-! XA: what leaves a def by raise; raise; calls that may raise. -/
namespace PL
open PySem PySem.Spec PyProof.Rows L2
/-- worlds in which what leaves is taken by Er, and wanted by X0 -/
def exC (C : Wd → Prop) (Er : XK) (X0 : Exn → Prop) : Wd → XC → Prop := fun w x => C w ∧ x.E = Er ∧ x.X = X0
abbrev XS := List D → (D → Prop) → (Exn → Prop) → Prop
def MonoX (S : XS) : Prop := ∀ ds P Q Y Z, (∀ d, P d → Q d) → (∀ e, Y e → Z e) → S ds P Y → S ds Q Z
/-- a def's promise that may end by an exception -/
def spX (C : Wd → Prop) (k : Nat) (S : XS) : Sp := fun vs H Q E => ∃ (w : Wd) (n : Nat) (Oc : Addr → Prop) (ds : List D), C w ∧ n + k ≤ LIM ∧ w.ok n H ∧ (∀ b, w.Z b → Oc b) ∧ (∀ b, Oc b → Trk (H b)) ∧ RpL (Sh Oc H) vs ds ∧
  S ds (fun d => ∀ v H', Grow w H H' → w.ok (n + k) H' → Rp (Sh Oc H') v d → Q v H') (fun e => ∀ c d H', Grow w H H' → w.ok (n + k) H' → ExnAt (Sh Oc H') c d e → E c d H')
section
variable {C : Wd → XC → Prop} {C0 : Wd → Prop} {K : PySem.W.Frag} {te : TE} {ta : TA} {m : EM} {am : AM} {c k : Nat} {S : XS} {Er : XK} {X0 : Exn → Prop}
/-- out of a body -/
theorem go_out {G : Cfg} {n : Nat} {O : Addr → Prop} {H : Hp} {cv : Value} {d : Option Addr} {e : Exn} (hn : n ≤ G.x.lim) (W : Wl G n O H) (a : ExnAt (Sh O H) cv d e) (q : G.x.X e) : G.x.E cv d H :=
  G.door n H cv d e hn W.ok (G.hb.trans W.base) (fun b z => W.tr b (W.co b z)) (a.mono fun b u ⟨h1, h2⟩ => ⟨h1, fun z => h2 (W.co b z)⟩) q
theorem se_callX (h : SA (exC C0 Er X0) c ta am) (hS : MonoX S) : SE (exC C0 Er X0) (c + k) (tCall (spX CA k S) [] Er ta) (fun env Q => am env fun ds => S ds Q X0) := fun G g n O env σ H Qd Q hL F hm q =>
  h G g n O env σ H _ _ (by omega) F hm fun ds vs H1 h1 g1 ok1 r1 => by
    have F1 := F.grow g1 ok1
    obtain ⟨_, eE, eX⟩ := g
    rw [List.append_nil]
    refine ⟨G.w, n + c, O, ds, trivial, by have := G.x.le; omega, ok1, F1.wl.zo, F1.wl.tr, r1, hS ds _ _ _ _ (fun d hd v H' g' ok r => q d v H' hd (g1.trans g') (ok_as ok) r) (fun e he cv dd H' g' ok a => ?_) h1⟩
    rw [← eE]
    exact go_out (by omega) (F1.wl.grow g' ok) a (by rw [eX]; exact he)
/-- where nothing is raised -/
theorem se_callN {C' : Wd → Prop} {E : XK} (h : SA C c ta am) (hS : MonoX S) (hC : ∀ w x, C w x → C' w) : SE C (c + k) (tCall (spX C' k S) [] E ta) (fun env Q => am env fun ds => S ds Q fun _ => False) := fun G g n O env σ H Qd Q hL F hm q =>
  h G g n O env σ H _ _ (by omega) F hm fun ds vs H1 h1 g1 ok1 r1 => by
    have F1 := F.grow g1 ok1
    rw [List.append_nil]
    exact ⟨G.w, n + c, O, ds, hC _ _ g, by have := G.x.le; omega, ok1, F1.wl.zo, F1.wl.tr, r1, hS ds _ _ _ _ (fun d hd v H' g' ok r => q d v H' hd (g1.trans g') (ok_as ok) r) (fun e he => he.elim) h1⟩
theorem se_callNA {E : XK} (h : SA C c ta am) (hS : MonoX S) : SE C c (tCall (spX CA 0 S) [] E ta) (fun env Q => am env fun ds => S ds Q fun _ => False) := se_callN (k := 0) h hS fun _ _ _ => trivial
theorem se_callXA (h : SA (exC C0 Er X0) c ta am) (hS : MonoX S) : SE (exC C0 Er X0) c (tCall (spX CA 0 S) [] Er ta) (fun env Q => am env fun ds => S ds Q X0) := se_callX (k := 0) h hS
/-- by keywords alone -/
theorem se_callNK {E : XK} (h : SA C c ta am) (hS : MonoX S) : SE C (0 + (c + 0)) (tCallK (spX CA 0 S) g0 E tNil ta) (fun env Q => am env fun ds => S ds Q fun _ => False) := fun G g n O env σ H Qd Q hL F hm q =>
  show ta σ H _ from h G g n O env σ H _ _ (by omega) F hm fun ds vs H1 h1 g1 ok1 r1 =>
    have F1 := F.grow g1 ok1
    ⟨G.w, n + c, O, ds, trivial, by have := G.x.le; omega, ok1, F1.wl.zo, F1.wl.tr, r1, hS ds _ _ _ _ (fun d hd v H' g' ok r => q d v H' hd (g1.trans g') (ok_le (by omega) (ok_as ok)) r) (fun e he => he.elim) h1⟩
theorem se_callXKA (h : SA (exC C0 Er X0) c ta am) (hS : MonoX S) : SE (exC C0 Er X0) c (tCallK (spX CA 0 S) g0 Er tNil ta) (fun env Q => am env fun ds => S ds Q X0) := fun G g n O env σ H Qd Q hL F hm q =>
  show ta σ H _ from h G g n O env σ H _ _ (by omega) F hm fun ds vs H1 h1 g1 ok1 r1 =>
    have F1 := F.grow g1 ok1
    ⟨G.w, n + c, O, ds, trivial, by have := G.x.le; omega, ok1, F1.wl.zo, F1.wl.tr, r1, hS ds _ _ _ _ (fun d hd v H' g' ok r => q d v H' hd (g1.trans g') ok r) (fun e he cv dd H' g' ok a => by
      obtain ⟨_, eE, eX⟩ := g
      rw [← eE]
      exact go_out (by omega) (F1.wl.grow g' ok) a (by rw [eX]; exact he)) h1⟩
/-! ### raise -/
/-- raise X('..') -/
theorem ss_raise0 {c0 : Value} : SS (exC C0 Er X0) 0 (fun _ _ H => Er c0 none H) (fun _ _ => X0 (c0, [], [])) := fun G g n O env σ H P D hL F hm e => by
  obtain ⟨_, eE, eX⟩ := g
  rw [← eE]
  exact go_out (e := (c0, [], [])) (by omega) F.wl ⟨rfl, .inl ⟨rfl, rfl, rfl⟩⟩ (by rw [eX]; exact hm)
/-- the init of a class of exceptions with one attribute -/
def spI (K : PySem.W.Frag) (f : Str) : Sp := fun vs H Q _ => ∃ (a C : Addr) (y : V), vs = [.ref a, y] ∧ H a = some (exo a C none) ∧ OexC K C ∧ PySem.W.findIn K (.ref C) f = some none ∧ ∀ dx, H dx = none → dx ≠ a → Q .non (upd (upd H dx (exd dx [(f, y)])) a (exo a C (some dx)))
theorem del_upd {H : Hp} {a dx : Addr} {o1 o2 o3 o4 : HO} (hn : H a = none) (ne : dx ≠ a) : upd (del (upd (upd (upd H a o1) dx o2) a o3) a) dx o4 = upd H dx o4 := by
  funext b
  by_cases h1 : b = dx
  · rw [h1, upd_same, upd_same]
  · rw [upd_ne h1, upd_ne h1]
    by_cases h2 : b = a
    · rw [h2, del_same, hn]
    · rw [del_ne h2, upd_ne h2, upd_ne h1, upd_ne h2]
/-- raise X(e) -/
theorem ss_raise1 {C1 : Addr} {f : Str} (T : OexC K C1) (hno : PySem.W.findIn K (.ref C1) f = some none) (h : SA (exC C0 Er X0) c ta am) : SS (exC C0 Er X0) c (fun _ σ H => tMkO C1 (spI K f) [] ta σ H fun cls d H' => Er cls d H') (fun env _ => am env fun ds => ∃ y, ds = [y] ∧ X0 (.ref C1, [f], [y])) := fun G g n O env σ H P D hL F hm e =>
  h G g n O env σ H _ _ (by omega) F hm fun ds vs H1 ⟨y, ey, hx⟩ g1 ok1 r1 => by
    subst ey
    cases r1 with
    | cons ry rn =>
      rename_i v us
      cases rn
      have W1 := F.wl.grow g1 ok1
      refine ⟨by show 1 ≤ 1000; decide, fun a ha => ⟨a, C1, v, rfl, upd_same, T, hno, fun dx hdx ne => ⟨rfl, dx, [(f, v)], upd_same, by rw [upd_ne ne, upd_same], ?_, ?_⟩⟩⟩
      · rw [upd_ne ne] at hdx; exact hdx
      · rw [upd_ne ne] at hdx
        rw [del_upd ha ne]
        obtain ⟨_, eE, eX⟩ := g
        rw [← eE]
        have W2 : Wl G (n + c) O (upd H1 dx (.xd [(f, v)])) := W1.grow (Grow.new _ hdx) (Wd.okNew hdx ok1)
        exact go_out (e := (.ref C1, [f], [y])) (by omega) W2 ⟨rfl, .inr ⟨dx, [v], rfl, ⟨.inl upd_same, W1.free hdx⟩, rfl, .cons (ry.mono (sh_grow W1.zo (Grow.new _ hdx))) .nil⟩⟩ (by rw [eX]; exact hx)
end
/-! ### defs that may raise -/
section
variable {P : Program} {w : World} {K : PySem.W.Frag} {mg : Str → Option Value} {base : Heap}
theorem pl_bodyX {C : Wd → Prop} {S : XS} {k c : Nat} {N : List Str} {ts : TS} {vs : List V} {H : Hp} {Q : VK} {E : XK} (hs : ∀ X0, ∃ sm : SM, SS (exC C E X0) c ts sm ∧ ∀ ds Q, S ds Q X0 → sm (env0 N ds) { nx := fun _ => Q .non, rt := Q }) (hc : c ≤ k) (h : spX C k S vs H Q E) :
    ts { nx := fun _ H' => Q .non H', rt := Q } (L2.start N vs) H := by
  obtain ⟨wd, n, Oc, ds, g, hL, ok, zo, tr, r, h⟩ := h
  obtain ⟨sm, hs, hb⟩ := hs (fun e => ∀ c d H', Grow wd H H' → wd.ok (n + k) H' → ExnAt (Sh Oc H') c d e → E c d H')
  have F0 : Fr (Cfg.nx wd H Oc tr) n Oc (env0 N ds) (L2.start N vs) H := fr_start ok zo tr r
  refine hs (⟨wd, H, Oc, tr, ⟨n + k, hL, H, E, fun e => ∀ c d H', Grow wd H H' → wd.ok (n + k) H' → ExnAt (Sh Oc H') c d e → E c d H', fun _ => False⟩, GrowM.refl _ _ _, fun _ z => z.elim, fun n' H' cv d e hn ok' gr _ a q => q cv d H' gr.no (wd.up _ _ _ hn ok') a⟩ : Cfg) ⟨g, rfl, rfl⟩ n Oc (env0 N ds) (L2.start N vs) H _ _ (by show n + c ≤ n + k; omega) ⟨⟨ok, zo, fun _ z => z, tr, GrowM.refl _ _ _⟩, F0.len, fun i c e ne => ?_, F0.uq⟩ (hb ds _ h) ⟨fun O' env' σ' H' l F' q => q .non H' F'.wl.base.no (ok_le hc F'.wl.ok) .non, fun d v O' H' W rv q => q v H' W.base.no (ok_le hc W.ok) (rv.mono fun b u ⟨h1, h2⟩ => ⟨h1, fun z => h2 (W.co b z)⟩), fun _ _ _ _ _ _ q => q, fun _ _ _ _ _ _ q => q, fun _ _ _ _ _ _ _ _ _ q => q.elim⟩
  obtain ⟨v, d, h1, rfl, h2⟩ := r.at N i c e ne
  exact ⟨v, h1, .dat h2⟩
theorem pl_okX {C : Wd → Prop} {S : XS} {x qual : Str} {st : Stmt} {f : Addr} {fd : FuncData} {N ps : List Str} {k kd : Nat} (F : Fun K x qual st f fd) (sc : FnScope N ps (defScope st)) (len : ∀ ds Q Y, S ds Q Y → ds.length = ps.length)
    (body : ∀ (cdv : Value) (A : Around) (outer : List Env) (s : Shared) (H : Hp) (E : XK), Room k (A.deeper (envOfC qual (defScope st) s.heap.objs.size f cdv)) →
      PassesOwn (model P w) (cxOf (L2.CX P w) P w K mg base N qual (defScope st) f cdv A outer s H E).A (cxOf (L2.CX P w) P w K mg base N qual (defScope st) f cdv A outer s H E).env (cxOf (L2.CX P w) P w K mg base N qual (defScope st) f cdv A outer s H E).xe →
      Takes (cxOf (L2.CX P w) P w K mg base N qual (defScope st) f cdv A outer s H E) (fun cls d _ H => E cls d H) →
      ∃ t c, PSs (cxOf (L2.CX P w) P w K mg base N qual (defScope st) f cdv A outer s H E) (defBody st) t ∧ c ≤ kd ∧ ∀ X0, ∃ m : SM, SS (exC C E X0) c t m ∧ ∀ ds Q, S ds Q X0 → m (env0 N ds) { nx := fun _ => Q .non, rt := Q }) :
    FnOk P w K mg base (L2.CX P w) (k + 1) f fd ps (spX C kd S) := by
  refine F.okX sc (fun vs H Q E ⟨_, _, _, ds, _, _, _, _, _, r, h⟩ => by rw [r.length]; exact len ds _ _ h) fun cdv A outer s H vs Q E hr h => ?_
  obtain ⟨t, c, ht, hc, hs⟩ := body cdv A outer s H E hr (passes_of rfl) (takes_of rfl rfl rfl rfl)
  exact ⟨t, ht, pl_bodyX hs hc h⟩
/-- a def of the module that may raise -/
structure PrX (P : Program) (w : World) (K : PySem.W.Frag) (mg : Str → Option Value) (base : Heap) (x : Str) (k : Nat) (ps : List Str) (sp : Sp) : Prop where
  ex : ∃ f fd, FnOk P w K mg base (L2.CX P w) k f fd ps sp ∧ mg x = some (.ref f) ∧ PySem.W.keepIn K (.ref f) = true ∧ Binds K fd ps [] ∧ KBinds K fd ps ps g0 g0
variable {X : Cx} {x : Str} {k : Nat} {ps : List Str} {sp : Sp} {p pos : Pos} {e : Expr} {es : List Expr} {t : TA} {E : XK}
theorem pe_callX (h : PrX X.prog X.w X.K X.mg X.base x k ps sp) (hr : Room k X.A) (tk : Takes X (fun cls d _ H => E cls d H)) (hg : Gl X x) (ha : PA X (e :: es) t)
    (hdb : (x == ("__debug__" : Str)) = false := by decide) (he : starEach (e :: es) X.env = (false, eval e X.env) :: starEach es X.env := by rfl) (hpl : (backTo pos (starEach es X.env)).any (·.1) = false := by rfl) :
    PE X (.Call (.Name x p) (e :: es) [] pos) (tCall sp [] E t) := by
  obtain ⟨f, fd, h1, h2, h3, h4, _⟩ := h.ex
  exact pe_call h1 hr hg h2 h3 h4 .nil (passes_call tk fun _ _ _ _ z => z) ha hdb he hpl
/-- .. where nothing is raised -/
theorem pe_callNK {kws : List Keyword} (h : PrX X.prog X.w X.K X.mg X.base x k ps sp) (hr : Room k X.A) (hg : Gl X x) (ha : PK X kws t)
    (hall : (backToKw pos (keywordEach kws X.env)).all (·.1.isSome) = true := by rfl) (hks : (backToKw pos (keywordEach kws X.env)).filterMap (·.1) = ps := by rfl)
    (hdb : (x == ("__debug__" : Str)) = false := by decide) (hpl : ((backTo pos (starEach [] X.env)).any (·.1) || (backToKw pos (keywordEach kws X.env)).any (·.1.isNone)) = false := by rfl) :
    PE X (.Call (.Name x p) [] kws pos) (tCallK sp g0 E0 tNil t) := by
  obtain ⟨f, fd, h1, h2, h3, _, h4⟩ := h.ex
  exact pe_callK0 h1 hr hg h2 h3 h4 passL ha hall hks hdb hpl
theorem pe_callXK {kws : List Keyword} (h : PrX X.prog X.w X.K X.mg X.base x k ps sp) (hr : Room k X.A) (tk : Takes X (fun cls d _ H => E cls d H)) (hg : Gl X x) (ha : PK X kws t)
    (hall : (backToKw pos (keywordEach kws X.env)).all (·.1.isSome) = true := by rfl) (hks : (backToKw pos (keywordEach kws X.env)).filterMap (·.1) = ps := by rfl)
    (hdb : (x == ("__debug__" : Str)) = false := by decide) (hpl : ((backTo pos (starEach [] X.env)).any (·.1) || (backToKw pos (keywordEach kws X.env)).any (·.1.isNone)) = false := by rfl) :
    PE X (.Call (.Name x p) [] kws pos) (tCallK sp g0 E tNil t) := by
  obtain ⟨f, fd, h1, h2, h3, _, h4⟩ := h.ex
  exact pe_callK0 h1 hr hg h2 h3 h4 (passes_call tk fun _ _ _ _ z => z) ha hall hks hdb hpl
theorem pe_callN (h : PrX X.prog X.w X.K X.mg X.base x k ps sp) (hr : Room k X.A) (hg : Gl X x) (ha : PA X (e :: es) t)
    (hdb : (x == ("__debug__" : Str)) = false := by decide) (he : starEach (e :: es) X.env = (false, eval e X.env) :: starEach es X.env := by rfl) (hpl : (backTo pos (starEach es X.env)).any (·.1) = false := by rfl) :
    PE X (.Call (.Name x p) (e :: es) [] pos) (tCall sp [] E0 t) := by
  obtain ⟨f, fd, h1, h2, h3, h4, _⟩ := h.ex
  exact pe_call h1 hr hg h2 h3 h4 .nil passL ha hdb he hpl
end
end PL

/-! XB: a caught exception stays known. -/
namespace PL
open PySem PySem.Spec PyProof.Rows L2
theorem excK_ok {P : Program} {w : World} {H : Hp} {h : Heap} {a : Addr} {c : Value} {d : Option Addr} {o : Obj} {vs : Array Value} (e : h.get? a = some o) (z : Zc c d o) (f : o.data = .fields vs) : ObjOk P w H h a (ExcK c d a) := ⟨⟨o, vs, e, z, f⟩, ⟨o, e⟩, fun _ _ ⟨u, us, h1, h2, h3⟩ k => ⟨u, us, k u h1, h2, h3⟩⟩
section
variable {X : Cx} {pins : List (Addr × Obj)} {σ : L2.St} {H : Hp} {s : Shared}
/-- an object of a caught exception is known from now on -/
theorem inv_track {a : Addr} {c : Value} {d : Option Addr} {o : Obj} {vs : Array Value} (I : Inv X pins σ H s) (hx : X.ex = []) (e : s.heap.get? a = some o) (z : Zc c d o) (f : o.data = .fields vs) (na : H a = none) (nL : a ≠ X.env.locals) (n0 : X.s_0.heap.get? a = none)
    (np : ∀ p ∈ X.pn ++ pins, p.1 ≠ a) : Inv X pins σ (upd H a (ExcK c d a)) s := by
  have sm : ∀ {b u}, H b = some u → upd H a (ExcK c d a) b = some u := fun {b u} q => (upd_ne (ne_of_none q na)).trans q
  have nn : ∀ {b}, b ≠ a → H b = none → upd H a (ExcK c d a) b = none := fun {b} q r => (upd_ne q).trans r
  refine ⟨I.ok, I.os, I.bare, ⟨I.base.keep, I.base.slot, fun b u q n x => nn (fun y => ?_) (I.base.free b u q n x), I.base.there, fun b xs q => sm (I.base.tups b xs q), fun b u w q => sm (I.base.frzs b u w q), fun b ps q => (I.base.tbls b ps q).imp fun more r => sm r⟩, I.loc, I.cell, nn nL.symm I.free, fun x k q => nn (fun y => ?_) (I.freeC x k q), fun p hp => ?_, fun b u q => ?_, I.len⟩
  · rw [y, n0] at q; cases q
  · obtain ⟨v, u, h1, h2⟩ := I.cell x k q
    rw [y, e] at h1; cases h1
    rw [f] at h2; cases h2
  · obtain ⟨h1, h2, h3⟩ := I.pin p hp
    exact ⟨h1, nn (np p hp) h2, h3⟩
  · by_cases hb : b = a
    · rw [hb, upd_same] at q
      cases q
      rw [hb]
      exact excK_ok e z f
    · rw [upd_ne hb] at q
      exact (I.hok b u q).stay (fun _ _ _ r => r) (fun _ r => sm r) fun _ _ r => sm r
end
/-- what 'except x as n' wishes, where the caught object is known behind the try -/
def wKp (K : PySem.W.Frag) (cx : Value) (i : Nat) (ts : Addr → Value → Option Addr → TS) (D : Ends) : WX := fun c d σ H => PySem.W.exmOne K c cx = some true ∧ ∀ a, H a = none → ts a c d { nx := fun σ' H' => D.nx (σ'.set i none) (upd H' a (ExcK c d a)), rt := fun _ _ => False } (σ.set i (some (.ref a))) H
section
variable {X : Cx} {x n : Str} {cx : Value} {i : Nat} {body suite : List Stmt} {b1 : Stmt} {np pos pos' : Pos} {tb : WX → TS} {ts : Addr → Value → Option Addr → TS}
theorem ps_try_kept (hs : X.stack = X.env :: X.outer) (hf : X.env.frame = some X.env.locals) (hex : X.ex = []) (hN : X.N.Nodup) (hi : X.N[i]? = some n) (hln : X.env.kindOf n = some .local) (hc : Names X x cx)
    (hb : ∀ (W : WX) (pn : List (Addr × Obj)) (xe : Value → Shared → Prop), Takes (X.tr pn xe) W → PSs (X.tr pn xe) body (tb W))
    (hsu : ∀ (a : Addr) (o : Obj) (c : Value) (d : Option Addr) (pn : List (Addr × Obj)), Zc c d o → (∃ vs, o.data = .fields vs) → PSs (X.suite a ((a, o) :: pn)) (b1 :: suite) (ts a c d)) :
    PS X (.Try body [.ExceptHandler (some (.Name x np)) (some n) (b1 :: suite) pos'] [] [] pos) (fun D σ H => tb (wKp X.K cx i ts D) D σ H) := by
  constructor
  intro pins s σ H D I h
  have ok := I.ok
  have hfr : X.A.frames = some (X.env :: X.outer) := ok.frames.trans (congrArg some hs)
  apply wpAny_Try_except
  let xe' : Value → Shared → Prop := fun u t1 => wpAny (model X.prog X.w) X.A (noteFrame u X.env) (fun _ t2 => wpAny (model X.prog X.w) X.A (setFlight u none)
      (fun _ t3 => wpAny (model X.prog X.w) X.A (handleBy u X.env [.ExceptHandler (some (.Name x np)) (some n) (b1 :: suite) pos']) (SP X pins D) X.xe t3) X.xe t2) X.xe t1
  have tk : Takes (X.tr (X.pn ++ pins) xe') (wKp X.K cx i ts D) := by
    intro u s1 ex
    obtain ⟨a, B, sI, pins', σ', H', c, d, rfl, J0, nb, up, sky, na, os, ag, hm, hyes⟩ := ex
    have J : Inv X pins σ' H' sI := Inv.ofTry J0 ok
    have sky2 : Sky B (X.env :: X.outer) a (Zc c d) X.env.locals s1.heap := hs ▸ sky
    show wpAny (model X.prog X.w) X.A (noteFrame (.ref a) X.env) _ _ _
    refine Sky.land Zc.steady hfr hf sky2 fun h3 fl3 up3 => ?_
    have J3 := J.landed (s' := { s1 with heap := h3 }) nb fl3.1 (up.trans up3) os ag
    obtain ⟨o3, vs3, he3, hz3, hd3⟩ := fl3.there
    have out : a ∉ frs (X.env :: X.outer) := fun hm => by
      obtain ⟨_, o', e', hnf⟩ := Heap.FunFrames.mem fl3.2.2.1 hm
      rw [he3] at e'; cases e'
      exact hnf _ hd3
    have nL : a ≠ X.env.locals := fun z => out (List.mem_filterMap.mpr ⟨X.env, List.mem_cons_self, hf.trans (congrArg some z.symm)⟩)
    have nF : a ∉ X.fs := fun hm => let ⟨e, he, q⟩ := List.mem_filterMap.mp hm; out (List.mem_filterMap.mpr ⟨e, List.mem_cons_of_mem _ he, q⟩)
    have gI : sI.heap.get? a = none := by
      cases q : sI.heap.get? a with
      | none => rfl
      | some o =>
        have := nb a o q (by rw [hs]; exact out)
        rw [fl3.2.1] at this; cases this
    have g0 : X.s_0.heap.get? a = none := by
      cases q : X.s_0.heap.get? a with
      | none => rfl
      | some o =>
        obtain ⟨o', q'⟩ := J.base.there a o q (by rw [hex]; exact fun z => nomatch z)
        rw [gI] at q'; cases q'
    have npn : ∀ p ∈ X.pn ++ pins, p.1 ≠ a := fun p hp z => by
      have := (J.pin p hp).1
      rw [z, gI] at this; cases this
    have S3 := J3.suite he3 hd3 na nL nF
    refine wpAny_handleBy_cons (codeAny_handlers_test ?_) (fun q => nomatch q)
    have LT : PySem.W.Looks (model X.prog X.w) h3 (typeOf (.ref a)) c := fun A Q E s k q => wpAny_typeOf_ref (k _ _ he3) (hz3.1.symm ▸ q)
    have test : ∀ {Q E : Value → Shared → Prop}, Q cx { s1 with heap := h3 } → wpAny (model X.prog X.w) (X.A.mark (some (.ref a))) (eval (.Name x np) X.env) Q E { s1 with heap := h3 } := fun {Q E} q => by
      rcases hc with ⟨hg, hdb, hm | ⟨hm, hv, hnn⟩⟩
      · exact ld_glob (X := X.suite a ((a, o3) :: (X.pn ++ pins))) S3 hg hm q hdb
      · exact ld_blt (X := X.suite a ((a, o3) :: (X.pn ++ pins))) S3 hg hm hv q hnn hdb
    refine test ((PySem.W.exm_one (M := model X.prog X.w) J3.kIn LT hm).here (codeAny_handlers_suite_as (HandSPX.lands_againZ fl3 fun h4 fl4 up4 => ?_)))
    have J4 := J.landed (s' := { s1 with heap := h4 }) nb fl4.1 (up.trans (up3.trans up4)) os ag
    obtain ⟨o4, vs4, he4, hz4, hd4⟩ := fl4.there
    refine store_ok (X := X.suite a ((a, o4) :: (X.pn ++ pins))) (v := .ref a) (J4.suite he4 hd4 na nL nF) hN hi (.inl hln) rfl (fun s5 S5 => ?_) (.inr hln)
    refine wpAny_mono ((hsu a o4 c d (X.pn ++ pins) hz4 ⟨_, hd4⟩).run [] s5 _ H' _ S5 (hyes a na)) (fun f s6 q => ?_) fun _ _ z => z.elim
    cases f with
    | next =>
      obtain ⟨σ6, H6, S6, q6⟩ := q
      refine gone_ok (X := X.suite a ((a, o4) :: (X.pn ++ pins))) S6 hN hi hln fun s7 S7 => ?_
      obtain ⟨e7, n7, _⟩ := S7.pin (a, o4) (List.mem_append_left _ List.mem_cons_self)
      exact ⟨_, _, inv_track (S7.unsuite ok) hex e7 hz4 hd4 n7 nL g0 npn, q6⟩
    | brk => obtain ⟨_, _, _, q⟩ := q; exact q.elim
    | cont => obtain ⟨_, _, _, q⟩ := q; exact q.elim
    | ret u => obtain ⟨_, _, _, _, _, q⟩ := q; exact q.elim
  refine wpAny_mono ((hb _ _ _ tk).run [] s σ H D (I.toTry _) h) (fun f s1 q => ?_) fun _ _ z => z
  cases f with
  | next =>
    obtain ⟨τ, L, J, q⟩ := q
    exact wpAny_execs_nil ⟨τ, L, J.ofTry ok, q⟩
  | brk =>
    obtain ⟨τ, L, J, q⟩ := q
    exact ⟨τ, L, J.ofTry ok, q⟩
  | cont =>
    obtain ⟨τ, L, J, q⟩ := q
    exact ⟨τ, L, J.ofTry ok, q⟩
  | ret u =>
    obtain ⟨v, τ, L, J, r, q⟩ := q
    exact ⟨v, τ, L, J.ofTry ok, r, q⟩
end
end PL

/-! XL: a lambda without parameters, handed to the def that catches. -/
namespace PL
open PySem PySem.Spec PyProof.Rows L2 LamX
/-- all but the table at P stays -/
def ExtP (P : Addr) (H H1 : Hp) : Prop := ∀ b o, H b = some o → b ≠ P → H1 b = some o
section
variable {X : Cx} {pins : List (Addr × Obj)} {σ : L2.St} {H : Hp} {s : Shared}
theorem lam_made {T : List (Addr × Str)} {c P : Addr} {pa : Arguments} {body : Expr} {sc : Scope} {pos : Pos} {E Q : Value → Shared → Prop} (I : Inv X pins σ H s) (TB : TabB X.base X.mg c P) (hcode : X.env.code = .ref c) (hm : (P, X.env.qual ++ "<lambda>") ∈ T)
    (hu : ∀ p ∈ T, p.1 = P → p.2 = X.env.qual ++ "<lambda>") (hT : Tabs T H) (hdef : defaultsOf pa X.env = ([], [])) (hfree : ∀ y ∈ sc.names, y.2 = .free → ∃ c, X.env.cells.lookup y.1 = some c)
    (h : ∀ (f c' : Addr) (pm ctv : Value) (H1 : Hp) (s' : Shared), Inv X pins σ H1 s' → ExtP P H H1 → Tabs T H1 → s'.heap.get? f = some (PySem.W.kla_obj "<lambda>" (X.env.qual ++ "<lambda>") pa body sc (cloFrom X.env.cells sc.names []) pm c' ctv) → H1 f = none → f ∉ frs X.stack →
      H1 c' = some (CodeO c' (X.env.qual ++ "<lambda>")) → Q (.ref f) s') : wpAny (model X.prog X.w) X.A (eval (.Lambda pa body sc pos) X.env) Q E s := by
  obtain ⟨ps, hP, ht, ha⟩ := hT _ hm
  apply PySem.W.kla_eval hdef
  have hP2 : s.heap.get? P = some { cls := .none, data := .fields ps } := I.hok P _ hP
  have nofr : ∀ {f}, s.heap.objs.size ≤ f → f ∉ frs X.stack := fun {f} hf z => (List.mem_cons.mp (I.stkSub _ z)).elim (fun e => Nat.lt_irrefl _ (Nat.lt_of_lt_of_le (e ▸ I.lt) hf)) (I.nofs hf)
  generalize hw : codeAmong pos ps.toList = found
  cases found with
  | none =>
    refine PySem.W.kla_makeFunction (mg := X.mg) (c := c) (P := P) (ps := ps) (closure_ok hfree) I.ok.glob (I.mod.glob.keeps I.bk) hcode (TB.code.keeps I.bk) hP2 ht hw TB.gP (TB.bm.keeps I.bk) fun c' ctv h' tk hx hge hlt hrec htb => ?_
    obtain ⟨_, oc, vs, t, e2, hoc, hd, hv⟩ := hrec
    cases e2
    have hsz := Nat.le_trans hge (Nat.le_of_lt hlt)
    have nC : H c' = none := I.hok.fresh hge
    have nPC := ne_of_none hP nC
    generalize hmore : ps ++ #[rawInt pos.line, rawInt pos.col, .ref c'] = ps2 at htb
    have eL : ps2.toList = ps.toList ++ [rawInt pos.line, rawInt pos.col, .ref c'] := by rw [← hmore]; simp
    generalize hob : PySem.W.kla_obj "<lambda>" (X.env.qual ++ "<lambda>") pa body sc (cloFrom X.env.cells sc.names []) ((X.mg "__name__").getD .none) c' ctv = ob
    have I1 := inv_table (t' := tk) (h' := h'.push ob) I hP (fun b o hb e => Heap.get?_push_of_some _ (hx b o hb e)) (by rw [hmore]; exact Heap.get?_push_of_some _ htb) hge ⟨oc, vs, t, Heap.get?_push_of_some _ hoc, hd, hv⟩
    rw [hmore] at I1
    have hE : ExtP P H (upd (upd H P (.tbl ps2)) c' (CodeO c' (X.env.qual ++ "<lambda>"))) := fun b o e n => by rw [upd_ne (ne_of_none e nC), upd_ne n]; exact e
    have nco : ∀ {b q}, H b = some (CodeO b q) → b ≠ P := fun {b q} e z => by
      rw [z, hP] at e
      exact codeO_ne ps (Option.some.inj e).symm
    refine h h'.objs.size c' _ ctv _ _ I1 hE (fun p hp => ?_) (by rw [hob]; exact Heap.get?_push_size _ (by rw [← hob]; rfl)) ?_ (nofr hsz) upd_same
    · by_cases hb : p.1 = P
      · refine ⟨ps2, by rw [hb, upd_ne nPC, upd_same], by rw [eL]; exact PySem.TriplesOk_snoc _ _ _ _ ht, fun p' cv hcv => ?_⟩
        rw [hu p hp hb]
        rcases among_app _ ht (eL ▸ hcv) with z | z
        · obtain ⟨c0, e1, e2⟩ := ha p' cv z
          exact ⟨c0, e1, hE _ _ e2 (nco e2)⟩
        · exact ⟨c', z, upd_same⟩
      · obtain ⟨qs, a1, a2, a3⟩ := hT p hp
        exact ⟨qs, hE _ _ a1 hb, a2, fun p' cv hcv => let ⟨c0, e1, e2⟩ := a3 p' cv hcv; ⟨c0, e1, hE _ _ e2 (nco e2)⟩⟩
    · rw [upd_ne (Nat.ne_of_gt hlt), upd_ne (Nat.ne_of_gt (Nat.lt_of_lt_of_le (Heap.lt_size hP2) hsz))]
      exact I.hok.fresh hsz
  | some cv =>
    obtain ⟨c', rfl, hco⟩ := ha pos cv hw
    refine PySem.W.kla_makeFunctionHit (mg := X.mg) (c := c) (P := P) (ps := ps) (closure_ok hfree) I.ok.glob (I.mod.glob.keeps I.bk) hcode (TB.code.keeps I.bk) hP2 ht hw (TB.bm.keeps I.bk) fun ctv h' tk hx hsz => ?_
    exact h _ c' _ ctv H _ (I.kept (t' := tk) fun b o e => Heap.get?_push_of_some _ (hx b o e)) (fun _ _ e _ => e) hT (Heap.get?_push_size _ rfl) (I.hok.fresh hsz) (nofr hsz) hco
/-- f(lambda: ..) -/
def tLamP (P : Addr) (T : List (Addr × Str)) (TT : (XK → Hp → VK → Prop) → Hp → VK → Prop) (t : XK → TE) : TE := fun σ H Q => Tabs T H ∧ ∀ H1, ExtP P H H1 → Tabs T H1 → TT (fun E H' Q' => t E σ H' Q') H1 Q
theorem pe_lamP {T : List (Addr × Str)} {TT : (XK → Hp → VK → Prop) → Hp → VK → Prop} {x a : Str} {g c P : Addr} {k : Nat} {pg pa : Arguments} {bg : List Stmt} {sg sc : Scope} {dV kV doc pm cdv ct oc : Value} {an od : Option Addr} {osl : Array (Option Value)} {Ng : List Str} {body : Expr} {t : XK → TE} {p lp pos : Pos}
    (hg : Gl X x) (hm : X.mg x = some (.ref g)) (hk : PySem.W.keepIn X.K (.ref g) = true) (lk : X.K.lookup g = some ⟨oc, od, .func (PySem.W.fnOf x x pg bg sg dV kV doc pm an cdv ct), osl⟩) (hcg : PySem.W.codeIn X.K cdv x = true)
    (hb : L2.Binds X.K (PySem.W.fnOf x x pg bg sg dV kV doc pm an cdv ct) [a] []) (Sg : FnScope Ng [a] sg) (hNg : Ng[0]? = some a) (hva : Vis sg a) (hG : GivesTo X Ng x sg g cdv bg a (X.env.qual ++ "<lambda>") TT) (TB : TabB X.base X.mg c P) (hcode : X.env.code = .ref c)
    (hmT : (P, X.env.qual ++ "<lambda>") ∈ T) (hu : ∀ p ∈ T, p.1 = P → p.2 = X.env.qual ++ "<lambda>") (hr : Room (k + 2) X.A) (L : LamS X.env.scope sc) (hdef : defaultsOf pa X.env = ([], []))
    (hbind : ∀ (q : Str) (cl : List (Str × Addr)) (pm cv ctv : Value), bindArgs (PySem.W.kla_fn "<lambda>" q pa body sc cl pm cv ctv) ⟨[], []⟩ = pure [])
    (hbody : ∀ (A : Around) (outer : List Env) (s : Shared) (H : Hp) (E : XK) (f c' : Addr), Room k (A.deeper (lamEnv X sc s.heap.objs.size f c')) → PE (lamCx X A outer s H E sc f c') body (t E))
    (hdb : (x == ("__debug__" : Str)) = false := by decide) (hd : (a == ("__debug__" : Str)) = false := by decide) (hcd : (a == ("__classdict__" : Str)) = false := by decide) : PE X (.Call (.Name x p) [.Lambda pa body sc lp] [] pos) (tLamP P T TT t) := by
  constructor
  intro pins s σ H Q I ⟨hT, h⟩
  apply wpAny_Call_Name_kw
  refine ld_glob I hg hm (PySem.W.callWith_K (h₀ := X.base) I.ok.mod.kin hk ?_ (by rfl) (by rfl)) hdb
  show wpAny _ _ (spliced ((false, eval (.Lambda pa body sc lp) X.env) :: backTo pos (starEach [] X.env))) _ _ s
  apply Calls.spliced_cons
  refine lam_made I TB hcode hmT hu hT hdef (L.has I.ok) fun f c' pm' ctv H1 s' I1 eN T1 hf hfn hfr hco => Calls.spliced_nil ⟨I1.kIn, ?_⟩
  have run : codeAny (model X.prog X.w) X.A (.call (.ref g) ⟨[.ref f], []⟩) (CR C8.CX0 X.stack X.prog X.w H1 s' Q C8.E0) s' := run_ofS (N := Ng) (ps := [a]) (us := [.ref f]) (vs := [.ref f]) lk hcg Sg hr I1.env0 (hb s' [.ref f] I1.kIn rfl) (.cons rfl .nil) rfl fun hr2 => by
    obtain ⟨t2, ht2, hq2⟩ := hG f c' s' H1 Q (fun E H' Q' => t E σ H' Q') (fun W pn xe E p1 p2 tk hW => pe_act (i := 0) I1 L hf hfn hfr (hbind _ _ _ _ _) tk hW hr2 (fun A outer s H r3 => hbody A outer s H E f c' r3) hNg hva hd hcd) hco (h H1 eN T1)
    exact ⟨t2, ht2.nox, hq2⟩
  refine wpAny_call (codeAny_mono run fun r s2 hq => ?_)
  match r, hq with
  | .error e, hq => exact (show False from hq).elim
  | .ok (.ret u), hq => exact I1.after hq
  | .ok .next, hq => exact hq.elim
  | .ok .brk, hq => exact hq.elim
  | .ok .cont, hq => exact hq.elim
end
end PL

/-! XG: the def that catches. -/
namespace PL
open PySem PySem.Spec PyProof.Rows L2 LamX
/-- caught = None / try: work() / except CopyError as error: caught = error / return caught -/
def TCaught (K : PySem.W.Frag) (CE : Addr) : (XK → Hp → VK → Prop) → Hp → VK → Prop := fun tl H Q => tl (fun c d H' => PySem.W.exmOne K c (.ref CE) = some true ∧ ∀ a, H' a = none → Q (.ref a) (upd H' a (ExcK c d a))) H fun _ H' => Q .non H'
def cNames : List Str := ["work", "caught", "error"]
def cBody (p1 p2 p3 q1 q2 q3 q4 q5 q6 q7 q8 q9 r1 r2 : Pos) (j : Nat) : List Stmt := [.Assign [.Name "caught" p1] (.Constant .none j p2) p3,
  .Try [.Expr (.Call (.Name "work" q1) [] [] q2) q3] [.ExceptHandler (some (.Name "CopyError" q4)) (some "error") [.Assign [.Name "caught" q5] (.Name "error" q6) q7] q8] [] [] q9, .Return (some (.Name "caught" r1)) r2]
theorem takes_len {X : Cx} {W : WX} (tk : Takes X W) : Takes X (fun c d σ H => σ.length = X.N.length → W c d σ H) := fun u s' ⟨a, B, sI, pins, σ, H, cls, d, e, I, nb, up, sky, na, os, ag, w⟩ => tk u s' ⟨a, B, sI, pins, σ, H, cls, d, e, I, nb, up, sky, na, os, ag, w I.len⟩
section
variable {X : Cx}
theorem caught_gives {x q : Str} {sg : Scope} {g CE : Addr} {cdg : Value} {p1 p2 p3 q1 q2 q3 q4 q5 q6 q7 q8 q9 r1 r2 : Pos} {j : Nat} (S : FnScope cNames ["work"] sg) (hk : ∀ y ∈ cNames, sg.names.lookup y = some .local) (hge : sg.names.lookup ("CopyError" : Str) = some .globalImplicit) (hme : X.mg "CopyError" = some (.ref CE)) :
    GivesTo X cNames x sg g cdg (cBody p1 p2 p3 q1 q2 q3 q4 q5 q6 q7 q8 q9 r1 r2 j) "work" q (TCaught X.K CE) := by
  intro f c' s H Q tl act hc h
  have hgl : Gl (cxOf C8.CX0 X.prog X.w X.K X.mg X.base cNames x sg g cdg X.A X.stack s H C8.E0).nox "CopyError" := hge
  have k0 := hk "work" (by simp [cNames])
  have k1 := hk "caught" (by simp [cNames])
  have k2 := hk "error" (by simp [cNames])
  refine ⟨_, pss_cons (ps_set (i := 1) S.nd rfl (.inl k1) pe_non) (pss_cons (ps_try_kept (X := (cxOf C8.CX0 X.prog X.w X.K X.mg X.base cNames x sg g cdg X.A X.stack s H C8.E0).nox) (cx := .ref CE) (i := 2)
      (tb := fun W D σ H => ∃ Ech : XK, (∀ cls d σ' H', Ech cls d H' → σ'.length = 3 → W cls d σ' H') ∧ σ[0]? = some (some (.ref f)) ∧ H c' = some (CodeO c' q) ∧ tl Ech H fun _ H' => D.nx σ H')
      rfl rfl rfl S.nd rfl k2 ⟨hgl, by decide, .inl hme⟩ (fun W pn xe tk => ?_) (fun a o c d pn _ _ => pss_one (ps_set (i := 1) S.nd rfl (.inl k1) (pv 2 (hv := .inl k2))))) (pss_one (ps_ret (pv 1 (hv := .inl k1))))), ?_⟩
  · constructor
    rintro pins s' σ H' D I ⟨Ech, hW, h1, h2, h3⟩
    have hp := act _ pn xe Ech q1 q2 (takes_len tk) (fun cls d σ' H' z l => hW cls d σ' H' z l)
    exact (pss_one (ps_expr hp)).run pins s' σ H' D I ⟨h1, h2, h3⟩
  · refine ⟨fun c d H' => PySem.W.exmOne X.K c (.ref CE) = some true ∧ ∀ a, H' a = none → Q (.ref a) (upd H' a (ExcK c d a)), ?_, rfl, hc, ?_⟩
    · rintro c d σ' H' ⟨h1, h2⟩ hl
      match σ', hl with
      | [x0, x1, x2], _ => exact ⟨h1, fun a na => ⟨_, rfl, ⟨_, rfl, h2 a na⟩⟩⟩
    · have e : (fun (_ : V) (H' : Hp) => tRet (tVar 1) { nx := fun _ H' => Q .non H', rt := Q } ((L2.start cNames [V.ref f]).set 1 (some .non)) H') = fun _ H' => Q .non H' := by
        funext v H'
        exact propext ⟨fun ⟨u, hu, q⟩ => by cases hu; exact q, fun q => ⟨_, rfl, q⟩⟩
      show tl _ H (fun (_ : V) (H' : Hp) => tRet (tVar 1) { nx := fun _ H' => Q .non H', rt := Q } ((L2.start cNames [V.ref f]).set 1 (some .non)) H')
      rw [e]
      exact h
end
end PL

/-! XE: what is caught, as data; isinstance and attributes of it. -/
namespace PL
open PySem PySem.Spec PyProof.Rows L2 LamX
theorem Fr.unOwn {G G' : Cfg} {n n' : Nat} {O O' : Addr → Prop} {env : Ev} {σ : L2.St} {H H' : Hp} (F : Fr G n O env σ H) (W : Wl G' n' O' H') (l : LeA (Sh O H) (Sh O' H')) : Fr G' n' O' (unOwn env) σ H' := by
  refine ⟨W, by unfold PL.unOwn; rw [List.length_map]; exact F.len, fun j d ed nd => ?_, fun j q a ⟨d, _, ed, _, od⟩ _ => ?_⟩
  · obtain ⟨d, rfl, e⟩ := unOwn_at ed nd
    obtain ⟨u, h1, h2⟩ := F.sl j _ e fun z => nomatch z
    cases h2 with
    | dat r => exact ⟨u, h1, .dat (r.mono l)⟩
  · obtain ⟨d', rfl, _⟩ := unOwn_at ed (by intro z; rw [z] at od; exact (show False from od).elim)
    exact (show False from od).elim
/-- the tables of code objects are the world's own -/
structure TbW (P : Addr) (T : List (Addr × Str)) (w : Wd) : Prop where
  z : w.Z P
  t : ∀ n H, w.ok n H → Tabs T H
  x : ∀ n H H1, w.ok n H → ExtP P H H1 → Tabs T H1 → w.ok n H1
theorem exn_rp {A B : At} {c : Value} {d : Option Addr} {e : Exn} {a : Addr} (h : ExnAt A c d e) (l : LeA A B) (hb : B a (ExcK c d a)) : Rp B (.ref a) (.exc e.1 e.2.1 e.2.2) := by
  obtain ⟨h1, ⟨h2, h3, h4⟩ | ⟨dd, xs, h2, h3, h4, h5⟩⟩ := h
  · rw [h3, h4, ← h1]
    rw [h2] at hb
    exact .exc0 hb
  · rw [← h1]
    rw [h2] at hb
    exact .exc1 hb (l _ _ h3) h4 (h5.mono l)
section
variable {C : Wd → XC → Prop} {C0 : Wd → Prop} {K : PySem.W.Frag} {te : TE} {ta : TA} {m : EM} {am : AM} {c k : Nat}
/-- _law_caught(lambda: ..) -/
def mCaught (K : PySem.W.Frag) (CE : Addr) (mx : (Exn → Prop) → EM) : EM := fun env Q => mx (fun e => PySem.W.exmOne K e.1 (.ref CE) = some true ∧ Q (.exc e.1 e.2.1 e.2.2)) (unOwn env) fun _ => Q .non
theorem se_caught {P CE : Addr} {T : List (Addr × Str)} (hW : ∀ w x, C w x → TbW P T w ∧ C0 w) {t : XK → TE} {mx : (Exn → Prop) → EM} (ht : ∀ E X0, SE (exC C0 E X0) 0 (t E) (mx X0)) : SE C 0 (tLamP P T (TCaught K CE) t) (mCaught K CE mx) := fun G g n O env σ H Qd Q hL F hm q => by
  obtain ⟨B, c0⟩ := hW _ _ g
  refine ⟨B.t n H F.wl.ok, fun H1 ex T1 => ?_⟩
  have gr : Grow G.w H H1 := fun b o e z => ex b o e fun y => z (y ▸ B.z)
  have ok1 := B.x n H H1 F.wl.ok ex T1
  have F1 := F.grow gr ok1
  show t _ σ H1 _
  refine ht _ (fun e => PySem.W.exmOne K e.1 (.ref CE) = some true ∧ Qd (.exc e.1 e.2.1 e.2.2)) (⟨G.w, H1, O, F1.wl.tr, ⟨n, Nat.le_trans (Nat.le_trans (Nat.le_add_right _ _) hL) G.x.le, H1, fun c d H' => PySem.W.exmOne K c (.ref CE) = some true ∧ ∀ a, H' a = none → Q (.ref a) (upd H' a (ExcK c d a)), fun e => PySem.W.exmOne K e.1 (.ref CE) = some true ∧ Qd (.exc e.1 e.2.1 e.2.2), fun _ => False⟩, GrowM.refl _ _ _, fun _ z => z.elim, fun n' H' cv d e hn ok' gm _ a z => ?_⟩ : Cfg) ⟨c0, rfl, rfl⟩ n O (unOwn env) σ H1 (fun _ => Qd .non) (fun _ H' => Q .non H') (Nat.le_refl _) (F1.unOwn ⟨ok1, F1.wl.zo, fun _ y => y, F1.wl.tr, GrowM.refl _ _ _⟩ (LeA.refl _)) hm (fun d v H' hd g' ok' r => q .non .non H' hd (gr.trans g') ok' .non)
  have g' : Grow G.w H1 H' := gm.no
  refine ⟨by rw [a.1]; exact z.1, fun ad hn2 => ?_⟩
  have ok2 := G.w.up _ _ _ hn ok'
  have W2 := F1.wl.grow g' ok2
  have g2 : Grow G.w H' (upd H' ad (ExcK cv d ad)) := Grow.new _ hn2
  exact q _ _ _ z.2 (gr.trans (g'.trans g2)) (Wd.okNew hn2 ok2) (exn_rp a (sh_grow W2.zo g2) ⟨.inl upd_same, W2.free hn2⟩)
/-! ### isinstance -/
structure IsX (K : PySem.W.Frag) (C : Addr) : Prop where
  cl : (PySem.W.clsIn K C).isSome = true
  ga : PySem.W.findIn K (.ref C) "__getattribute__" = some (some (.builtin "BaseException.__getattribute__"))
  gg : PySem.W.findIn K (.ref C) "__getattr__" = some none
  sb : PySem.W.subIn K (.ref C) (.type "BaseException") = some true
  ca : PySem.W.findIn K (.ref C) "__class__" = some (some (.builtin "object.__class__"))
  cn : PySem.W.specialIn K (.builtin "object.__class__") "__get__" = some (some (.builtin "getset_descriptor.__get__"))
  ct : PySem.W.takesIn K (.builtin "object.__class__") = some true
  cm : PySem.W.mroIn K C (.type "object") = some true
theorem inst_of {P : Program} {w : World} {H : Hp} {h : Heap} {a C1 : Addr} {d : Option Addr} (hok : HOk P w H h) (e : H a = some (ExcK (.ref C1) d a)) (hd : ∀ dd, d = some dd → ∃ fs, H dd = some (.xd fs)) : ∃ (o : Obj) (od : Option Obj), PySem.W.InstAt h a o C1 od := by
  obtain ⟨⟨o, vs, h1, ⟨h2, h3⟩, h4⟩, _, _⟩ := hok a _ e
  have no : PySem.W.notCls o = true := by unfold PySem.W.notCls; rw [h4] <;> rfl
  cases d with
  | none => exact ⟨o, none, h1, h2, no, by rw [h3]; trivial⟩
  | some dd =>
    obtain ⟨fs, ed⟩ := hd dd rfl
    have hx : ObjOk P w H h dd (.xd fs) := hok dd _ ed
    obtain ⟨mA, hns, _⟩ := hx
    obtain ⟨od, ho, _⟩ := lookIn_ns hns
    exact ⟨o, some od, h1, h2, no, by rw [h3]; exact ho⟩
def rIsX (K : PySem.W.Frag) : List V → Hp → VK → Prop := fun xs H Q => ∃ (a C1 : Addr) (d : Option Addr), xs = [.ref a, .ref C1] ∧ H a = some (ExcK (.ref C1) d a) ∧ (∀ dd, d = some dd → ∃ fs, H dd = some (.xd fs)) ∧ IsX K C1 ∧ Q (.bl true) H
theorem call_isX {X : Cx} : CallR X (.builtin "isinstance") (rIsX X.K) := by
  rintro pins s σ H xs us Q I r ⟨a, C1, d, rfl, e, hd, T, q⟩
  cases r with
  | cons rx rr =>
    cases rr with
    | cons rt rr =>
      cases rr; cases rx; cases rt
      obtain ⟨o, od, J⟩ := inst_of I.hok e hd
      exact PySem.W.kia_one (b := true) (PySem.W.kitx_exc T.cl T.ga T.gg T.sb T.ca T.cn T.ct T.cm) I.kIn J (by unfold PySem.W.kitOne; rw [if_pos (beq_self_eq_true _)]) (fun z => nomatch z) fun tk => ⟨.bl true, H, I.kept (t' := tk) fun _ _ z => z, rfl, q⟩
/-- isinstance(e, its class) -/
def kIsX (C1 : Addr) : List D → (D → Prop) → Prop := fun ds Q => ∃ ns l, ds = [.exc (.ref C1) ns l, .opq (.ref C1)] ∧ Q (.bl true)
theorem exc_at {A : At} {v : V} {c : Value} {ns : List Str} {l : List D} (r : Rp A v (.exc c ns l)) : ∃ a d, v = .ref a ∧ A a (ExcK c d a) ∧ ((d = none ∧ l = []) ∨ ∃ dd xs, d = some dd ∧ A dd (.xd (ns.zip xs)) ∧ ns.length = xs.length ∧ RpL A xs l) := by
  cases r with
  | exc0 h => exact ⟨_, _, rfl, h, .inl ⟨rfl, rfl⟩⟩
  | exc1 h1 h2 h3 h4 => exact ⟨_, _, rfl, h1, .inr ⟨_, _, rfl, h2, h3, h4⟩⟩
theorem rk_ext {H : Hp} {a : Addr} {φ : Heap → Prop} (h : Rk H a (.ext φ)) : H a = some (.ext φ) := h.elim id fun ⟨_, _, e, _⟩ => e.elim (fun ⟨_, e⟩ => nomatch e) fun ⟨_, e⟩ => nomatch e
theorem rk_xd {H : Hp} {a : Addr} {fs : List (Str × V)} (h : Rk H a (.xd fs)) : H a = some (.xd fs) := h.elim id fun ⟨_, _, e, _⟩ => e.elim (fun ⟨_, e⟩ => nomatch e) fun ⟨_, e⟩ => nomatch e
theorem Rr.exc {G : Cfg} {O : Addr → Prop} {H : Hp} {v : V} {c : Value} {ns : List Str} {l : List D} (r : Rr G O H v (.exc c ns l)) : Rp (Sh O H) v (.exc c ns l) := by
  cases r with | dat r => exact r
theorem kc_isX {C1 : Addr} (T : IsX K C1) : KC C (rIsX K) (kIsX C1) := fun G _ n O H vs ds Qd Q W r h q => by
  obtain ⟨ns, l, rfl, h⟩ := h
  obtain ⟨v, w, rfl, r1, r2⟩ := r.two
  have ew : w = .ref C1 := by
    cases r2 with | dat r => cases r; rfl
  subst ew
  obtain ⟨a, d, rfl, e, hd⟩ := exc_at r1.exc
  refine ⟨a, C1, d, rfl, rk_ext e.1, fun dd ed => ?_, T, q _ _ H h (Grow.refl _ _) W.ok (.bl _)⟩
  rcases hd with ⟨z, _⟩ | ⟨d2, xs, z, hx, _⟩
  · rw [z] at ed; cases ed
  · rw [z] at ed; cases ed
    exact ⟨_, rk_xd hx.1⟩
/-! ### e.f -/
def tXg (K : PySem.W.Frag) (f : Str) (te : TE) : TE := fun σ H Q => te σ H fun x H1 => ∃ (a C1 dd : Addr) (fs : List (Str × V)) (v : V), x = .ref a ∧ H1 a = some (ExcK (.ref C1) (some dd) a) ∧ H1 dd = some (.xd fs) ∧ fs.lookup f = some v ∧ XfC K C1 ∧ PySem.W.findIn K (.ref C1) f = some none ∧ Q v H1
theorem pe_xg {X : Cx} {e : Expr} {pos : Pos} {f : Str} (he : PE X e te) (hb : attributeBase e f X.env (eval e X.env) = eval e X.env := by rfl) : PE X (.Attribute e f pos) (tXg X.K f te) := by
  constructor
  intro pins s σ H Q I h
  refine attr_of hb (thn (he.run pins s σ H _ I h) fun u s1 ⟨x, H1, I1, rx, a, C1, dd, fs, v, ex, e1, e2, e3, T, hno, q⟩ => ?_)
  subst ex
  obtain rfl : u = Value.ref a := rx
  obtain ⟨⟨o, vs, h1, h2, h4⟩, _, _⟩ := I1.hok a _ e1
  have hx : ObjOk X.prog X.w H1 s1.heap dd (.xd fs) := I1.hok dd _ e2
  obtain ⟨mA, hns, hr⟩ := hx
  obtain ⟨od, ho, hl⟩ := lookIn_ns hns
  obtain ⟨u, hu, ru⟩ := RelO.some_of (v := v) (o := mA f) (e3 ▸ hr f)
  have J : PySem.W.InstAt s1.heap a o C1 (some od) := ⟨h1, h2.1, by unfold PySem.W.notCls; rw [h4] <;> rfl, by rw [h2.2]; exact ho⟩
  exact HandSPX.exc_get I1.kIn J T.ga T.gg T.exC (PySem.W.findObj_own T.hdC hno rfl (by rw [hl, hu])) (handed_of ru) ⟨v, H1, I1.tok _, ru, q⟩
theorem zip_look {A : At} {f : Str} {d : D} : ∀ {ns : List Str} {xs : List V} {l : List D}, RpL A xs l → (ns.zip l).lookup f = some d → ∃ v, (ns.zip xs).lookup f = some v ∧ Rp A v d
  | [], _, _, _, h => by simp at h
  | n :: ns, _, _, .nil, h => by simp at h
  | n :: ns, _, _, .cons (v := v) a r, h => by
    rw [List.zip_cons_cons, List.lookup_cons] at h ⊢
    by_cases e : f == n
    · rw [e] at h ⊢
      cases h
      exact ⟨v, rfl, a⟩
    · rw [Bool.eq_false_iff.mpr e] at h ⊢
      exact zip_look r h
def mXg (C1 : Addr) (f : Str) (m : EM) : EM := fun env Q => m env fun x => ∃ ns l d, x = .exc (.ref C1) ns l ∧ (ns.zip l).lookup f = some d ∧ Q d
theorem se_xg {C1 : Addr} {f : Str} (T : XfC K C1) (hno : PySem.W.findIn K (.ref C1) f = some none) (h : SE C c te m) : SE C c (tXg K f te) (mXg C1 f m) := fun G g n O env σ H Qd Q hL F hm q =>
  h G g n O env σ H _ _ hL F hm fun x v H1 ⟨ns, l, d, ex, hl, qd⟩ gr ok r => by
    subst ex
    obtain ⟨a, dd, rfl, e, hd⟩ := exc_at r
    rcases hd with ⟨_, z⟩ | ⟨d2, xs, z, hx, _, rl⟩
    · rw [z] at hl; cases ns <;> simp at hl
    · subst z
      obtain ⟨u, hu, ru⟩ := zip_look rl hl
      exact ⟨a, C1, d2, _, u, rfl, rk_ext e.1, rk_xd hx.1, hu, T, hno, q d u H1 qd gr ok ru⟩
end
end PL

/-! XR: the program's own classes of exceptions. -/
namespace PL
open PySem PySem.Spec PyProof.Rows L2
/-- where the class under the name stands -/
def er (mg : Str → Option Value) (x : Str) : Addr := match mg x with
  | some (.ref C) => C
  | _ => 0
theorem er_of {mg : Str → Option Value} {x : Str} {C : Addr} (g : mg x = some (.ref C)) : er mg x = C := by unfold er; rw [g]
/-- a class without an init of its own -/
structure Ex0 (K : PySem.W.Frag) (mg : Str → Option Value) (x : Str) : Prop where
  g : mg x = some (.ref (er mg x))
  k : PySem.W.keepIn K (.ref (er mg x)) = true
  xi : PySem.W.excIn K (er mg x) [.type "ValueError", .type "Exception", .type "BaseException", .type "object"] "ValueError.__new__" = true
  t : PySem.W.typeIn K (.ref (er mg x)) = some (.type "type")
  i : IsX K (er mg x)
  m : PySem.W.exmOne K (.ref (er mg x)) (.ref (er mg "CopyError")) = some true
/-- one with an init that sets one attribute -/
structure Ex1 (P : Program) (w : World) (K : PySem.W.Frag) (mg : Str → Option Value) (base : Heap) (x f : Str) : Prop where
  g : mg x = some (.ref (er mg x))
  o : OexC K (er mg x)
  i : IsX K (er mg x)
  m : PySem.W.exmOne K (.ref (er mg x)) (.ref (er mg "CopyError")) = some true
  xf : XfC K (er mg x)
  no : PySem.W.findIn K (.ref (er mg x)) f = some none
  iC : ∃ fI fd, PySem.W.findIn K (.ref (er mg x)) "__init__" = some (some (.ref fI)) ∧ PySem.W.typeIn K (.ref fI) = some (.type "function") ∧ FnOk P w K mg base CX0 1 fI fd ["self", f] (spI K f) ∧ Binds K fd ["self", f] []
section
variable {X : Cx}
theorem pmk_x0 {x m : Str} {j : Nat} {p p2 pos : Pos} (T : Ex0 X.K X.mg x) (hg : Gl X x) (hdb : (x == ("__debug__" : Str)) = false := by decide) : PMk X (.Call (.Name x p) [.Constant (.str m) j p2] [] pos) (fun _ H Q => Q (.ref (er X.mg x)) none H) :=
  pmk_own PySem.F.excBase_ValueError T.xi T.g T.k (raises_own T.i.sb T.t) hg hdb
theorem pmk_x1 {x f : Str} {k : Nat} {e : Expr} {ta : TA} {p pos : Pos} (T : Ex1 X.prog X.w X.K X.mg X.base x f) (hr : Room k X.A) (hk : 2 ≤ k) (hg : Gl X x) (ha : PA X [e] ta) (hdb : (x == ("__debug__" : Str)) = false := by decide)
    (he : starEach [e] X.env = (false, eval e X.env) :: starEach [] X.env := by rfl) (hpl : (backTo pos (starEach [] X.env)).any (·.1) = false := by rfl) : PMk X (.Call (.Name x p) [e] [] pos) (tMkO (er X.mg x) (spI X.K f) [] ta) := by
  obtain ⟨fI, fd, h1, h2, h3, h4⟩ := T.iC
  exact pmk_oex T.o h1 h2 h3 (hr.mono hk) h4 .nil pass0 hg T.g ha hdb he hpl
end
section
variable {P : Program} {w : World} {K : PySem.W.Frag} {mg : Str → Option Value} {base : Heap} {x f : Str}
theorem isx_mk {C : Addr} (h1 : (PySem.W.clsIn K C).isSome = true) (h2 : PySem.W.findIn K (.ref C) "__getattribute__" = some (some (.builtin "BaseException.__getattribute__"))) (h3 : PySem.W.findIn K (.ref C) "__getattr__" = some none) (h4 : PySem.W.subIn K (.ref C) (.type "BaseException") = some true)
    (h5 : PySem.W.findIn K (.ref C) "__class__" = some (some (.builtin "object.__class__"))) (h6 : PySem.W.specialIn K (.builtin "object.__class__") "__get__" = some (some (.builtin "getset_descriptor.__get__"))) (h7 : PySem.W.takesIn K (.builtin "object.__class__") = some true) (h8 : PySem.W.mroIn K C (.type "object") = some true) : IsX K C := ⟨h1, h2, h3, h4, h5, h6, h7, h8⟩
theorem ex0_mk {C CE : Addr} (g : mg x = some (.ref C)) (ge : mg "CopyError" = some (.ref CE)) (k : PySem.W.keepIn K (.ref C) = true) (h : PySem.W.excIn K C [.type "ValueError", .type "Exception", .type "BaseException", .type "object"] "ValueError.__new__" = true) (t : PySem.W.typeIn K (.ref C) = some (.type "type")) (i : IsX K C)
    (m : PySem.W.exmOne K (.ref C) (.ref CE) = some true) : Ex0 K mg x := by
  have e := er_of g
  have e2 := er_of ge
  exact ⟨by rw [e]; exact g, by rw [e]; exact k, by rw [e]; exact h, by rw [e]; exact t, by rw [e]; exact i, by rw [e, e2]; exact m⟩
theorem ex1_mk {C CE fI : Addr} {fd : FuncData} (g : mg x = some (.ref C)) (ge : mg "CopyError" = some (.ref CE)) (o : OexC K C) (i : IsX K C) (m : PySem.W.exmOne K (.ref C) (.ref CE) = some true) (hd : PySem.W.hasDictIn K C = true) (no : PySem.W.findIn K (.ref C) f = some none)
    (h1 : PySem.W.findIn K (.ref C) "__init__" = some (some (.ref fI))) (h2 : PySem.W.typeIn K (.ref fI) = some (.type "function")) (h3 : FnOk P w K mg base CX0 1 fI fd ["self", f] (spI K f)) (h4 : Binds K fd ["self", f] []) : Ex1 P w K mg base x f := by
  have e := er_of g
  have e2 := er_of ge
  exact ⟨by rw [e]; exact g, by rw [e]; exact o, by rw [e]; exact i, by rw [e, e2]; exact m, by rw [e]; exact ⟨i.ga, i.gg, i.sb, hd⟩, by rw [e]; exact no, by rw [e]; exact ⟨fI, fd, h1, h2, h3, h4⟩⟩
/-- self.f = f -/
def iBody (f : Str) (p1 p2 p3 p4 : Pos) : List Stmt := [.Assign [.Attribute (.Name "self" p1) f p2] (.Name f p3) p4]
theorem ok_init {qual : Str} {st : Stmt} {fI : Addr} {fd : FuncData} {p1 p2 p3 p4 : Pos} (F : Fun K "__init__" qual st fI fd) (sc : FnScope ["self", f] ["self", f] (defScope st)) (hb : defBody st = iBody f p1 p2 p3 p4) (h0 : (defScope st).names.lookup ("self" : Str) = some .local) (h1 : (defScope st).names.lookup f = some .local)
    (hd : (f == ("__debug__" : Str)) = false) (hc : (f == ("__classdict__" : Str)) = false) : FnOk P w K mg base CX0 1 fI fd ["self", f] (spI K f) := by
  refine F.ok sc (fun vs H Q E ⟨_, _, _, e, _⟩ => by rw [e]; rfl) fun cdv A outer s H vs Q E hr ⟨a, C, y, e, h2, h3, h4, h5⟩ => ?_
  subst e
  rw [hb]
  exact ⟨_, pss_one (ps_ost (pv 0 (hv := .inl h0)) (pv 1 (hv := .inl h1) (hd := hd) (hcd := hc))), y, rfl, _, rfl, a, C, rfl, h3, h4, .inl ⟨h2, fun dx n1 n2 => h5 dx n1 n2⟩⟩
end
end PL

/-! XI: a list or a tuple is walked. -/
namespace PL
open PySem PySem.Spec PyProof.Rows L2
def wAlt (a b : TI) : TI := fun σ H R => a σ H R ∨ b σ H R
theorem pi_alt {X : Cx} {tg e : Expr} {a b : TI} (h1 : PI X tg e a) (h2 : PI X tg e b) : PI X tg e (wAlt a b) := ⟨fun pins s σ H R I h => h.elim (fun q => h1.run pins s σ H R I q) fun q => h2.run pins s σ H R I q⟩
def iAlt (m1 m2 : AM) : AM := fun env Q => m1 env Q ∨ m2 env Q
theorem si_alt {C : Wd → XC → Prop} {c : Nat} {a b : TI} {m1 m2 : AM} (h1 : SI C c a m1) (h2 : SI C c b m2) : SI C c (wAlt a b) (iAlt m1 m2) := fun G g n O env σ H Qd R hL F hm k => hm.elim (fun q => .inl (h1 G g n O env σ H Qd R hL F q k)) fun q => .inr (h2 G g n O env σ H Qd R hL F q k)
end PL

/-! XY: try within a def, whose handler returns a constant; constants of the module that are not numbers. -/
namespace PL
open PySem PySem.Spec PyProof.Rows L2
/-- try: .. except X: return v -/
def tTryC (K : PySem.W.Frag) (cx : Value) (tz : TS) (tb : XK → TS) : TS := fun D σ H => ∃ Er : XK, (∀ c d σ' H', Er c d H' → PySem.W.exmOne K c cx = some true ∧ tz D σ' H') ∧ tb Er D σ H
theorem takes_never {X : Cx} : Takes X (fun _ _ _ _ => False) := fun u s' ⟨a, B, sI, pins, σ, H, cls, d, e, I, nb, up, sky, na, os, ag, w⟩ => w.elim
theorem ps_tryC {X : Cx} {x : Str} {cx : Value} {body suite : List Stmt} {b0 : Stmt} {np pos pos' : Pos} {tb : XK → TS} {tz : TS} (hs : X.stack = X.env :: X.outer) (hf : X.env.frame = some X.env.locals) (hc : Names X x cx)
    (hb : ∀ (Er : XK) (pn : List (Addr × Obj)) (xe : Value → Shared → Prop), Takes (X.tr pn xe) (fun cls d _ H => Er cls d H) → PassesOwn (model X.prog X.w) X.A X.env xe → PSs (X.tr pn xe) body (tb Er))
    (hsu : ∀ (a : Addr) (oe : Obj) (pn : List (Addr × Obj)), PSs (X.suite a ((a, oe) :: pn)) (b0 :: suite) tz) :
    PS X (.Try body [.ExceptHandler (some (.Name x np)) none (b0 :: suite) pos'] [] [] pos) (tTryC X.K cx tz tb) := by
  constructor
  rintro pins s σ H D I ⟨Er, h1, h2⟩
  refine (ps_try_only (tb := fun W D σ H => ∃ Er : XK, (∀ c d σ' H', Er c d H' → W c d σ' H') ∧ tb Er D σ H) (ts := fun _ _ _ => tz) hs hf hc takes_never (fun W pn xe tk hp => ?_) (fun a oe cls d pn _ _ => hsu a oe pn)).run pins s σ H D I ⟨Er, fun c d σ' H' e => ⟨true, (h1 c d σ' H' e).1, fun _ a _ => (h1 c d σ' H' e).2, fun z => nomatch z⟩, h2⟩
  constructor
  rintro pins' s' σ' H' D' I' ⟨Ech, hW, h3⟩
  exact (hb Ech pn xe (fun u s1 ⟨a, B, sI, ps, τ, L, cls, d, e, J, nb, up, sky, na, os, ag, w⟩ => tk u s1 ⟨a, B, sI, ps, τ, L, cls, d, e, J, nb, up, sky, na, os, ag, hW _ _ _ _ w⟩) hp).run pins' s' σ' H' D' I' h3
theorem pe_callXt {X : Cx} {pn : List (Addr × Obj)} {xe : Value → Shared → Prop} {x : Str} {k : Nat} {ps : List Str} {sp : Sp} {p pos : Pos} {e : Expr} {es : List Expr} {t : TA} {E : XK} (h : PrX X.prog X.w X.K X.mg X.base x k ps sp) (hr : Room k X.A) (tk : Takes (X.tr pn xe) (fun cls d _ H => E cls d H)) (hg : Gl X x) (ha : PA (X.tr pn xe) (e :: es) t)
    (hdb : (x == ("__debug__" : Str)) = false := by decide) (he : starEach (e :: es) X.env = (false, eval e X.env) :: starEach es X.env := by rfl) (hpl : (backTo pos (starEach es X.env)).any (·.1) = false := by rfl) :
    PE (X.tr pn xe) (.Call (.Name x p) (e :: es) [] pos) (tCall sp [] E t) := pe_callX (X := X.tr pn xe) h hr tk hg ha hdb he hpl
section
variable {C : Wd → XC → Prop} {C0 : Wd → Prop} {K : PySem.W.Frag} {c : Nat}
theorem Slv.sw {w : Wd} {H0 : Hp} {Oc : Addr → Prop} {ct ct' : ∀ b, Oc b → Trk (H0 b)} {x x' : XC} {hb : GrowM w x.My x.xb H0} {hb' : GrowM w x'.My x'.xb H0} {my : ∀ b, x.My b → Oc b} {my' : ∀ b, x'.My b → Oc b} {dr dr' O H v e} (em : x.My = x'.My) (h : Slv ⟨w, H0, Oc, ct, x, hb, my, dr⟩ O H v e) : Slv ⟨w, H0, Oc, ct', x', hb', my', dr'⟩ O H v e := by
  cases h with
  | dat r => exact .dat r
  | own e o r => exact .own e ⟨o.o, o.z, o.n⟩ r
  | owd e o r => exact .owd e ⟨o.o, o.z, o.n⟩ r
  | tr r nd u o m => exact .tr r nd u o fun e a ha => (m e a ha).imp id fun z => by rw [← em]; exact z
theorem Wl.sw {w : Wd} {H0 : Hp} {Oc : Addr → Prop} {ct ct' : ∀ b, Oc b → Trk (H0 b)} {x x' : XC} {hb : GrowM w x.My x.xb H0} {hb' : GrowM w x'.My x'.xb H0} {my : ∀ b, x.My b → Oc b} {my' : ∀ b, x'.My b → Oc b} {dr dr' n O H} (em : x.My = x'.My) (h : Wl ⟨w, H0, Oc, ct, x, hb, my, dr⟩ n O H) : Wl ⟨w, H0, Oc, ct', x', hb', my', dr'⟩ n O H := ⟨h.ok, h.zo, h.co, h.tr, by have := h.base; exact (show GrowM w x'.My H0 H from em ▸ this)⟩
theorem Fr.sw {w : Wd} {H0 : Hp} {Oc : Addr → Prop} {ct ct' : ∀ b, Oc b → Trk (H0 b)} {x x' : XC} {hb : GrowM w x.My x.xb H0} {hb' : GrowM w x'.My x'.xb H0} {my : ∀ b, x.My b → Oc b} {my' : ∀ b, x'.My b → Oc b} {dr dr' n O env σ H} (em : x.My = x'.My) (h : Fr ⟨w, H0, Oc, ct, x, hb, my, dr⟩ n O env σ H) : Fr ⟨w, H0, Oc, ct', x', hb', my', dr'⟩ n O env σ H :=
  ⟨h.wl.sw em, h.len, fun i e a b => let ⟨v, p, q⟩ := h.sl i e a b; ⟨v, p, q.sw em⟩, h.uq⟩
/-- try: .. except X: return v -/
theorem ss_tryC {sm : (Exn → Prop) → SM} {tb : XK → TS} {te : TE} {v : V} {dv : D} {cx : Value} (hC : ∀ w x, C w x → C0 w) (hv : ∀ A, Rp A v dv) (hte : ∀ σ H Q, Q v H → te σ H Q) (hb : ∀ Er X0, SS (exC C0 Er X0) c (tb Er) (sm X0)) :
    SS C c (tTryC K cx (tRet te) tb) (fun env P => sm (fun e => PySem.W.exmOne K e.1 cx = some true ∧ P.rt dv) env P) := fun G g n O env σ H P D hL F hm e => by
  obtain ⟨w, H0, Oc, ct, x, hbx, my, door⟩ := G
  have hle := x.le
  refine ⟨fun cv d H' => ∃ n' ex, n' ≤ n + c ∧ w.ok n' H' ∧ GrowM w x.My H0 H' ∧ (∀ b, Oc b → Trk (H' b)) ∧ ExnAt (Sh Oc H') cv d ex ∧ PySem.W.exmOne K ex.1 cx = some true ∧ P.rt dv, ?_, ?_⟩
  · rintro cv d σ' H' ⟨n', ex, h1, h2, h3, ht, h4, h5, h6⟩
    refine ⟨by rw [h4.1]; exact h5, hte _ _ _ (e.rt dv v (fun b => Oc b ∨ w.Z b) H' ⟨w.up _ _ _ h1 h2, fun b z => .inr z, fun b z => .inl z, fun b z => ?_, h3⟩ (hv _) h6)⟩
    by_cases hz : w.Z b
    · exact w.tr _ H' b h2 hz
    · rcases z with z | z
      · exact ht b z
      · exact absurd z hz
  · refine hb _ _ ⟨w, H0, Oc, ct, ⟨n + c, Nat.le_trans hL hle, H0, _, _, x.My⟩, GrowM.refl _ _ _, my, fun n' H' cv d ex a1 a2 a3 at' a4 a5 => ⟨n', ex, a1, a2, a3, at', a4, a5⟩⟩ ⟨hC _ _ g, rfl, rfl⟩ n O env σ H P D (Nat.le_refl _) (F.sw (by rfl)) hm ⟨fun O' env' σ' H' l f q => e.nx O' env' σ' H' l (f.sw (by rfl)) q, fun d v O' H' W r q => e.rt d v O' H' (W.sw (by rfl)) r q, fun O' env' σ' H' l f q => e.bk O' env' σ' H' l (f.sw (by rfl)) q, fun O' env' σ' H' l f q => e.ct O' env' σ' H' l (f.sw (by rfl)) q, fun d v O' e' s' H' l f => e.rm d v O' e' s' H' l (f.sw (by rfl))⟩
/-! ### a tuple of one text that stands in the module -/
/-- the object of a constant tuple of one text -/
def KT1 (K : PySem.W.Frag) (a : Addr) (s : Str) : Prop := ∀ H : Hp, SqT K H a [.str s]
theorem KT1.of {K : PySem.W.Frag} {a : Addr} {s : Str} {o : Obj} {its : Array Value} {n : Nat} (h1 : K.lookup a = some o) (h2 : o.cls = .type "tuple") (h3 : o.data = .seq its n) (h4 : its.size ≤ sizeLine) (h5 : Vals [.str s] its.toList) : KT1 K a s := fun _ => .inr ⟨o, its, n, h1, h2, h3, h4, h5⟩
/-- a constant of the module -/
structure KCt (K : PySem.W.Frag) (mg : Str → Option Value) (x s : Str) : Prop where
  g : mg x = some (.ref (er mg x))
  k : KT1 K (er mg x) s
/-- what an opaque constant is as data -/
def unO (s : Str) : D → D
  | .opq _ => .tup [.str s]
  | d => d
def kEqO (a : Addr) (s : Str) : D → D → (D → Prop) → Prop := fun x y Q => (x = .opq (.ref a) ∨ x.pl 60 = true) ∧ (y = .opq (.ref a) ∨ y.pl 60 = true) ∧ (unO s x = unO s y → Q (.bl true)) ∧ (unO s x ≠ unO s y → Q (.bl false))
theorem unO_pl {s : Str} {d : D} (h : d.pl 60 = true) : unO s d = d := by
  cases d with
  | opq v => simp [D.pl] at h
  | _ => rfl
theorem dpO {G : Cfg} {O : Addr → Prop} {H : Hp} {v : V} {d : D} {a : Addr} {s : Str} (kt : KT1 K a s) (hs : (D.tup [.str s]).pl 60 = true) (h : d = .opq (.ref a) ∨ d.pl 60 = true) (r : Rr G O H v d) : (unO s d).pl 60 = true ∧ Dp K H v (toPy (unO s d)) := by
  rcases h with h | h
  · subst h
    cases r with
    | dat r =>
      cases r
      exact ⟨hs, .tup (kt H) (.cons (.str s) .nil)⟩
  · rw [unO_pl h]
    exact ⟨h, r.dp h⟩
theorem k2_eqO {a : Addr} {s : Str} (kt : KT1 K a s) (hs : (D.tup [.str s]).pl 60 = true) : K2 C (rEqD K) (kEqO a s) := fun G _ n O H x y d e Qd Q W rx ry ⟨h1, h2, h3, h4⟩ q => by
  obtain ⟨p1, d1⟩ := dpO kt hs h1 rx
  obtain ⟨p2, d2⟩ := dpO kt hs h2 ry
  refine ⟨_, _, d1, d2, shaped_pl p1, shaped_pl p2, ?_⟩
  by_cases e' : unO s d = unO s e
  · rw [(eqv_pl 60 60 _ _ p1 p2).mpr e']
    exact q _ _ H (h3 e') (Grow.refl _ _) W.ok (.bl true)
  · have : PyData.eqv (toPy (unO s d)) (toPy (unO s e)) = false := by
      cases q : PyData.eqv (toPy (unO s d)) (toPy (unO s e)) with
      | false => rfl
      | true => exact absurd ((eqv_pl 60 60 _ _ p1 p2).mp q) e'
    rw [this]
    exact q _ _ H (h4 e') (Grow.refl _ _) W.ok (.bl false)
end
end PL

/-! XZ: a call by keywords alone, in another sequence than the params. -/
namespace PL
open PySem PySem.Spec PyProof.Rows L2
def gP {α : Type} (ix : List Nat) (us ws : List α) : List α := match us with
  | [] => ix.filterMap fun i => ws[i]?
  | _ :: _ => []
theorem vals_get : ∀ {zs : List V} {ws : List Value} (i : Nat), Vals zs ws → (zs[i]? = none ∧ ws[i]? = none) ∨ ∃ v u, zs[i]? = some v ∧ ws[i]? = some u ∧ RelV v u
  | _, _, _, .nil => .inl ⟨rfl, rfl⟩
  | _, _, 0, .cons a r => .inr ⟨_, _, rfl, rfl, a⟩
  | _, _, i + 1, .cons a r => vals_get i r
theorem gP_vals {zs : List V} {ws : List Value} (h : Vals zs ws) : ∀ ix : List Nat, Vals (ix.filterMap fun i => zs[i]?) (ix.filterMap fun i => ws[i]?)
  | [] => .nil
  | i :: ix => by
    rcases vals_get i h with ⟨h1, h2⟩ | ⟨v, u, h1, h2, r⟩
    · rw [List.filterMap_cons_none h1, List.filterMap_cons_none h2]; exact gP_vals h ix
    · rw [List.filterMap_cons_some h1, List.filterMap_cons_some h2]; exact .cons r (gP_vals h ix)
theorem gP_rp {A : At} {zs : List V} {ds : List D} (h : RpL A zs ds) : ∀ ix : List Nat, RpL A (ix.filterMap fun i => zs[i]?) (ix.filterMap fun i => ds[i]?)
  | [] => .nil
  | i :: ix => by
    cases e : ds[i]? with
    | none =>
      have e2 : zs[i]? = none := by
        rw [List.getElem?_eq_none_iff] at e ⊢
        rw [h.length]; exact e
      rw [List.filterMap_cons_none e, List.filterMap_cons_none e2]; exact gP_rp h ix
    | some d =>
      obtain ⟨v, hv, r⟩ := h.get e
      rw [List.filterMap_cons_some e, List.filterMap_cons_some hv]; exact .cons r (gP_rp h ix)
/-- a def that may raise, called by keywords in the sequence ks -/
structure PrXP (P : Program) (w : World) (K : PySem.W.Frag) (mg : Str → Option Value) (base : Heap) (x : Str) (k : Nat) (ps ks : List Str) (ix : List Nat) (sp : Sp) : Prop where
  ex : ∃ f fd, FnOk P w K mg base (L2.CX P w) k f fd ps sp ∧ mg x = some (.ref f) ∧ PySem.W.keepIn K (.ref f) = true ∧ KBinds K fd ps ks (gP ix) (gP ix)
theorem PrXP.up {P : Program} {w : World} {K : PySem.W.Frag} {mg : Str → Option Value} {base : Heap} {x : Str} {j k : Nat} {ps ks : List Str} {ix : List Nat} {sp : Sp} (h : PrXP P w K mg base x j ps ks ix sp) (hk : j ≤ k) : PrXP P w K mg base x k ps ks ix sp := by
  obtain ⟨f, fd, h1, h2, h3, h4⟩ := h.ex
  exact ⟨⟨f, fd, h1.mono hk, h2, h3, h4⟩⟩
theorem kbP_mk {K : PySem.W.Frag} {x qual : Str} {st : Stmt} {f : Addr} {fd : FuncData} {ps ks : List Str} {ix : List Nat} (F : Fun K x qual st f fd) (hps : ps ≠ [])
    (h : ∀ (kV doc pm : Value) (an : Option Addr) (cdv ct : Value) (ws : List Value), (gP ix [] ws).length = ps.length → bindArgs (PySem.W.fnOf x qual (defArgs st) (defBody st) (defScope st) .none kV doc pm an cdv ct) ⟨[], ks.zip ws⟩ = pure (ps.zip (gP ix [] ws))) : KBinds K fd ps ks (gP ix) (gP ix) := by
  obtain ⟨oc, od, kV, doc, pm, an, cdv, ct, osl, rfl, lk, hcd⟩ := F.ex
  refine ⟨fun s us ws _ hl => ?_, fun {vs us zs ws} r rz => ?_⟩
  · cases us with
    | nil => exact .of_eq (h kV doc pm an cdv ct ws hl)
    | cons u us => exact absurd (List.length_eq_zero_iff.mp hl.symm) hps
  · cases r with
    | nil => exact gP_vals rz ix
    | cons a r => exact .nil
theorem pe_callXKP {X : Cx} {x : Str} {k : Nat} {ps ks : List Str} {ix : List Nat} {sp : Sp} {p pos : Pos} {kws : List Keyword} {t : TA} {E : XK} (h : PrXP X.prog X.w X.K X.mg X.base x k ps ks ix sp) (hr : Room k X.A) (tk : Takes X (fun cls d _ H => E cls d H)) (hg : Gl X x) (ha : PK X kws t)
    (hall : (backToKw pos (keywordEach kws X.env)).all (·.1.isSome) = true := by rfl) (hks : (backToKw pos (keywordEach kws X.env)).filterMap (·.1) = ks := by rfl)
    (hdb : (x == ("__debug__" : Str)) = false := by decide) (hpl : ((backTo pos (starEach [] X.env)).any (·.1) || (backToKw pos (keywordEach kws X.env)).any (·.1.isNone)) = false := by rfl) :
    PE X (.Call (.Name x p) [] kws pos) (tCallK sp (gP ix) E tNil t) := by
  obtain ⟨f, fd, h1, h2, h3, h4⟩ := h.ex
  exact pe_callK0 h1 hr hg h2 h3 h4 (passes_call tk fun _ _ _ _ z => z) ha hall hks hdb hpl
theorem se_callXKP {C0 : Wd → Prop} {ta : TA} {am : AM} {c : Nat} {S : XS} {Er : XK} {X0 : Exn → Prop} {ix : List Nat} (h : SA (exC C0 Er X0) c ta am) (hS : MonoX S) : SE (exC C0 Er X0) c (tCallK (spX CA 0 S) (gP ix) Er tNil ta) (fun env Q => am env fun ds => S (ix.filterMap fun i => ds[i]?) Q X0) := fun G g n O env σ H Qd Q hL F hm q =>
  show ta σ H _ from h G g n O env σ H _ _ (by omega) F hm fun ds vs H1 h1 g1 ok1 r1 => by
    have F1 := F.grow g1 ok1
    refine ⟨G.w, n + c, O, _, trivial, by have := G.x.le; omega, ok1, F1.wl.zo, F1.wl.tr, gP_rp r1 ix, hS _ _ _ _ _ (fun d hd v H' g' ok r => q d v H' hd (g1.trans g') (ok_as ok) r) (fun e he cv dd H' g' ok a => ?_) h1⟩
    obtain ⟨_, eE, eX⟩ := g
    rw [← eE]
    exact go_out (by omega) (F1.wl.grow g' ok) a (by rw [eX]; exact he)
end PL

/-! XW: x = y.pop(), y an own list. -/
namespace PL
open PySem PySem.Spec PyProof.Rows L2
section
variable {C : Wd → XC → Prop} {K : PySem.W.Frag} {i j : Nat}
def sSetPop (i j : Nat) : SM := fun env P => match env[j]? with
  | some (.own ys) => ∃ A y, ys = A ++ [y] ∧ P.nx ((env.set j (.own A)).set i (.dat y))
  | _ => False
theorem ss_setPop : SS C 0 (tAsg (tBM0 K "list" rPop (tVar j)) (gName i)) (sSetPop i j) := fun G cg n O env σ H P D hL F hm e => by
  unfold sSetPop at hm
  split at hm
  · rename_i es ej
    obtain ⟨A, y, rfl, q⟩ := hm
    obtain ⟨u, esj, s'⟩ := F.sl j _ ej (by intro z; cases z)
    cases s' with
    | @own b ys _ eh' ob r' =>
      have hll := r'.length
      rw [List.length_append, List.length_singleton] at hll
      obtain ⟨z, hz, rz⟩ := r'.get (i := A.length) (d := y) (by rw [List.getElem?_append_right (Nat.le_refl _), Nat.sub_self]; rfl)
      have r2 := r'.dropLast
      rw [List.dropLast_concat] at r2
      refine ⟨_, esj, .inl ⟨rfl, ys, sqL eh'⟩, b, ys, z, rfl, rfl, eh', by rw [show ys.length - 1 = A.length by omega]; exact hz, ?_⟩
      have le1 : LeA (Sh O H) (Sh O (upd H b (.lst ys.dropLast))) := own_le ob
      have F2 := F.mut (c' := .own A) (o := .lst ys.dropLast) ej esj rfl rfl ob fun H' l e' => .own e' ob (r2.mono l)
      have F3 := F2.set (i := i) (v := z) (c := .dat y) (Grow.refl _ _) F2.wl (fun _ _ h => h) (fun _ h => h) (.dat (rz.mono le1)) (fun _ z => (show False from z).elim)
      exact e.nx O _ _ _ le1 F3 q
  · exact hm.elim
end
/-! ### a def that may raise, called by keywords in another sequence where nothing is raised -/
theorem pe_callNKP {X : Cx} {x : Str} {k : Nat} {ps ks : List Str} {ix : List Nat} {sp : Sp} {p pos : Pos} {kws : List Keyword} {t : TA} (h : PrXP X.prog X.w X.K X.mg X.base x k ps ks ix sp) (hr : Room k X.A) (hg : Gl X x) (ha : PK X kws t)
    (hall : (backToKw pos (keywordEach kws X.env)).all (·.1.isSome) = true := by rfl) (hks : (backToKw pos (keywordEach kws X.env)).filterMap (·.1) = ks := by rfl)
    (hdb : (x == ("__debug__" : Str)) = false := by decide) (hpl : ((backTo pos (starEach [] X.env)).any (·.1) || (backToKw pos (keywordEach kws X.env)).any (·.1.isNone)) = false := by rfl) :
    PE X (.Call (.Name x p) [] kws pos) (tCallK sp (gP ix) E0 tNil t) := by
  obtain ⟨f, fd, h1, h2, h3, h4⟩ := h.ex
  exact pe_callK0 h1 hr hg h2 h3 h4 passL ha hall hks hdb hpl
theorem se_callNKP {C : Wd → XC → Prop} {ta : TA} {am : AM} {c : Nat} {S : XS} {E : XK} {ix : List Nat} (h : SA C c ta am) (hS : MonoX S) : SE C (0 + (c + 0)) (tCallK (spX CA 0 S) (gP ix) E tNil ta) (fun env Q => am env fun ds => S (ix.filterMap fun i => ds[i]?) Q fun _ => False) := fun G g n O env σ H Qd Q hL F hm q =>
  show ta σ H _ from h G g n O env σ H _ _ (by omega) F hm fun ds vs H1 h1 g1 ok1 r1 =>
    have F1 := F.grow g1 ok1
    ⟨G.w, n + c, O, _, trivial, by have := G.x.le; omega, ok1, F1.wl.zo, F1.wl.tr, gP_rp r1 ix, hS _ _ _ _ _ (fun d hd v H' g' ok r => q d v H' hd (g1.trans g') (ok_le (by omega) (ok_as ok)) r) (fun e he => he.elim) h1⟩
end PL

/-! XU: more rules for comprehensions; sizes. -/
namespace PL
open PySem PySem.Spec PyProof.Rows L2
theorem sl_le {n : Nat} (h : n ≤ 16777215) : n ≤ sizeLine := by rw [sizeLine_eq]; omega
theorem sl_lt {n : Nat} (h : n ≤ 16777215) : n < sizeLine := by rw [sizeLine_eq]; omega
theorem lcP_fmU {g : GM} {t : TM} {m : EM} {env : Ev} (h : D → Option D) : ∀ (ds acc : List D) (Q : List D → Prop), (∀ d ∈ ds, ∀ R : Option D → Prop, R (h d) → g env d fun e1 => t e1 fun b => if b = true then m e1 fun y => R (some y) else R none) → acc.length + ds.length ≤ sizeLine → Q (acc ++ ds.filterMap h) → lcP g t m env ds acc Q
  | [], acc, Q, _, _, q => by rw [List.filterMap_nil, List.append_nil] at q; exact q
  | d :: ds, acc, Q, hp, hl, q => by
    have ih := fun acc' hl' q' => lcP_fmU (g := g) (t := t) (m := m) (env := env) h ds acc' Q (fun d' hd' => hp d' (List.mem_cons_of_mem _ hd')) hl' q'
    rw [List.length_cons] at hl
    unfold lcP
    refine hp d List.mem_cons_self (fun o => match o with | some y => acc.length < sizeLine ∧ lcP g t m env ds (acc ++ [y]) Q | none => lcP g t m env ds acc Q) ?_
    cases e : h d with
    | none =>
      rw [List.filterMap_cons_none e] at q
      exact ih acc (by omega) q
    | some y =>
      rw [List.filterMap_cons_some e] at q
      exact ⟨by omega, ih (acc ++ [y]) (by rw [List.length_append, List.length_singleton]; omega) (by rw [List.append_assoc]; exact q)⟩
theorem enumD_map {α : Type} (enc : α → D) : ∀ (l : List α) (s : Nat), enumD s (l.map enc) = (l.zipIdx s).map fun p => .tup [.int ((p.2 : Nat) : Int), enc p.1]
  | [], _ => rfl
  | x :: l, s => by
    rw [List.zipIdx_cons, List.map_cons, List.map_cons, ← enumD_map enc l (s + 1)]
    rfl
theorem zip_range {α β : Type} (d : α) (f : Nat → α → Option β) (l : List α) : (l.zipIdx).filterMap (fun p => f p.2 p.1) = (List.range l.length).filterMap fun i => f i ((l[i]?).getD d) := by
  have : l.zipIdx = (List.range l.length).map fun i => ((l[i]?).getD d, i) := by
    refine List.ext_getElem (by simp) fun i h1 h2 => ?_
    simp at h1
    simp [h1]
  rw [this, List.filterMap_map]; rfl
theorem fm_congr {α β : Type} {f g : α → Option β} : ∀ {l : List α}, (∀ x ∈ l, f x = g x) → l.filterMap f = l.filterMap g
  | [], _ => rfl
  | x :: l, h => by rw [List.filterMap_cons, List.filterMap_cons, h x List.mem_cons_self, fm_congr fun y hy => h y (List.mem_cons_of_mem _ hy)]
/-- [e for i, x in enumerate(xs) if t] -/
theorem lcP_enumF {α : Type} {g : GM} {t : TM} {m : EM} {env : Ev} (enc : α → D) (dft : α) (h : Nat → α → Option D) (l : List α) (acc : List D) (Q : List D → Prop)
    (hs : ∀ i x, l[i]? = some x → ∀ R : Option D → Prop, R (h i x) → g env (.tup [.int (i : Int), enc x]) fun e1 => t e1 fun b => if b = true then m e1 fun y => R (some y) else R none)
    (hl : acc.length + l.length ≤ sizeLine) (q : Q (acc ++ (List.range l.length).filterMap fun i => h i ((l[i]?).getD dft))) : lcP g t m env (enumD 0 (l.map enc)) acc Q := by
  rw [← zip_range dft h] at q
  refine lcP_fmU (fun d => match d with | .tup [.int i, _] => (l[i.toNat]?).bind (h i.toNat) | _ => none) _ _ _ (fun d hd R hR => ?_) (by rw [enumD_len, List.length_map]; exact hl) ?_
  · rw [enumD_map] at hd
    obtain ⟨p, hp, rfl⟩ := List.mem_map.mp hd
    obtain ⟨x, i⟩ := p
    have hx := List.mem_zipIdx hp
    have hi : l[i]? = some x := by
      obtain ⟨_, h2, h3⟩ := hx
      rw [List.getElem?_eq_getElem (by omega), h3]; simp
    refine hs i x hi R ?_
    have hR : R ((l[((i : Nat) : Int).toNat]?).bind (h ((i : Nat) : Int).toNat)) := hR
    rw [Int.toNat_natCast, hi] at hR
    exact hR
  · rw [enumD_map, List.filterMap_map]
    have : (l.zipIdx).filterMap ((fun d => match d with | D.tup [.int i, _] => (l[i.toNat]?).bind (h i.toNat) | _ => none) ∘ fun p : α × Nat => D.tup [.int ((p.2 : Nat) : Int), enc p.1]) = (l.zipIdx).filterMap fun p => h p.2 p.1 := by
      refine fm_congr fun p hp => ?_
      obtain ⟨x, i⟩ := p
      have hx := List.mem_zipIdx hp
      have hi : l[i]? = some x := by
        obtain ⟨_, h2, h3⟩ := hx
        rw [List.getElem?_eq_getElem (by omega), h3]; simp
      show (l[((i : Nat) : Int).toNat]?).bind (h ((i : Nat) : Int).toNat) = h i x
      rw [Int.toNat_natCast, hi]; rfl
    rw [this]; exact q
/-- [e for i in range(n) if t] -/
theorem lcP_rngF {g : GM} {t : TM} {m : EM} {env : Ev} (h : Nat → Option D) (n : Nat) (acc : List D) (Q : List D → Prop)
    (hs : ∀ i, i < n → ∀ R : Option D → Prop, R (h i) → g env (.int (i : Int)) fun e1 => t e1 fun b => if b = true then m e1 fun y => R (some y) else R none)
    (hl : acc.length + n ≤ sizeLine) (q : Q (acc ++ (List.range n).filterMap h)) : lcP g t m env (rng 0 n) acc Q := by
  have e : rng 0 n = (List.range n).map fun i : Nat => D.int (i : Int) := by
    unfold rng
    refine List.map_congr_left fun i _ => ?_
    rw [Int.zero_add]
  refine lcP_fmU (fun d => match d with | .int i => h i.toNat | _ => none) _ _ _ (fun d hd R hR => ?_) (by rw [rng_length]; exact hl) ?_
  · rw [e] at hd
    obtain ⟨i, hi, rfl⟩ := List.mem_map.mp hd
    refine hs i (List.mem_range.mp hi) R ?_
    have hR : R (h ((i : Nat) : Int).toNat) := hR
    rw [Int.toNat_natCast] at hR; exact hR
  · rw [e, List.filterMap_map]
    exact q
theorem of_all {α : Type} {enc : α → D} {p : α → Prop} : ∀ {ys : List D}, (∀ y ∈ ys, ∃ v, p v ∧ y = enc v) → ∃ l : List α, ys = l.map enc ∧ ∀ v ∈ l, p v
  | [], _ => ⟨[], rfl, fun _ z => nomatch z⟩
  | y :: ys, h => by
    obtain ⟨v, hv, rfl⟩ := h y List.mem_cons_self
    obtain ⟨l, rfl, hl⟩ := of_all (ys := ys) fun y hy => h y (List.mem_cons_of_mem _ hy)
    refine ⟨v :: l, rfl, fun u hu => ?_⟩
    rcases List.mem_cons.mp hu with e | e
    · rw [e]; exact hv
    · exact hl u e
theorem plL_mem' {n : Nat} : ∀ {l : List D}, (∀ d ∈ l, D.pl n d = true) → D.plL n l = true
  | [], _ => by unfold D.plL; rfl
  | d :: l, h => by
    unfold D.plL
    rw [h d List.mem_cons_self, plL_mem' (l := l) fun x hx => h x (List.mem_cons_of_mem _ hx)]; rfl
theorem plL_of {n : Nat} : ∀ {l : List D}, D.plL n l = true → ∀ d ∈ l, D.pl n d = true
  | d :: l, h, x, hx => by
    unfold D.plL at h
    rw [Bool.and_eq_true] at h
    rcases List.mem_cons.mp hx with e | e
    · rw [e]; exact h.1
    · exact plL_of h.2 x e
theorem pl_lst' {n : Nat} {l : List D} (h : ∀ d ∈ l, D.pl n d = true) : D.pl (n + 1) (.lst l) = true := by unfold D.pl; exact plL_mem' h
theorem pl_tup' {n : Nat} {l : List D} (h : ∀ d ∈ l, D.pl n d = true) : D.pl (n + 1) (.tup l) = true := by unfold D.pl; exact plL_mem' h
/-! ### in, not in: plain data of any depth in a list -/
def kInD (p : Bool → Bool) : D → D → (D → Prop) → Prop := fun x y Q => ∃ ys, (y = .lst ys ∨ y = .tup ys) ∧ x.pl 60 = true ∧ y.pl 60 = true ∧ (x ∈ ys → Q (.bl (p true))) ∧ (x ∉ ys → Q (.bl (p false)))
theorem toPyL_map : ∀ l : List D, toPyL l = l.map toPy
  | [] => rfl
  | d :: l => congrArg _ (toPyL_map l)
theorem any_pl {x : D} {ys : List D} {n : Nat} (hx : x.pl 60 = true) (h : ∀ d ∈ ys, d.pl n = true) : ((toPyL ys).any fun z => PyData.eqv z (toPy x)) = true ↔ x ∈ ys := by
  rw [toPyL_map, List.any_map, List.any_eq_true]
  constructor
  · rintro ⟨d, hd, e⟩
    rw [← (eqv_pl n 60 d x (h d hd) hx).mp e]; exact hd
  · intro hm
    exact ⟨x, hm, (eqv_pl n 60 x x (h x hm) hx).mpr rfl⟩
/-- x in y, y a list or a tuple of data of any depth -/
def rInS (K : PySem.W.Frag) (b : Bool) : R2 := fun x y H Q => ∃ d ds, Dp K H x d ∧ (Dp K H y (.list ds) ∨ Dp K H y (.tuple ds)) ∧ d.canLay0 = true ∧ PyData.canLayAll0 ds = true ∧ d.depth ≤ 60 ∧ Q (.bl (b ^^ ds.any fun z => PyData.eqv z d)) H
theorem roomS {u : Nat} {ds : List PyData} {d : PyData} (hu : u + 64 < cLine) (h : d.depth ≤ 60) : u + 1 + min (PyData.depthAll ds) d.depth < cLine := by
  have h2 : min (PyData.depthAll ds) d.depth ≤ d.depth := Nat.min_le_right _ _
  omega
section
variable {X : Cx}
theorem op_inS (hu : X.A.units + 64 < cLine) : OpR X (compareOp .In) (rInS X.K false) := by
  intro pins s σ H x y v u Q I rx ry h
  obtain ⟨d, ds, hd, he, sd, se, dp, q⟩ := h
  obtain ⟨as, r1⟩ := Dp.reads I d x v hd rx
  rw [Bool.false_xor] at q
  rcases he with he | he
  · obtain ⟨bs, r2⟩ := Dp.reads I (.list ds) y u he ry
    exact SeqAt.in_list_reads r2 r1 se sd (roomS hu dp) ⟨.bl _, H, I, rfl, q⟩
  · obtain ⟨bs, r2⟩ := Dp.reads I (.tuple ds) y u he ry
    exact SeqAt.in_tuple_reads r2 r1 se sd (roomS hu dp) ⟨.bl _, H, I, rfl, q⟩
theorem op_notInS (hu : X.A.units + 64 < cLine) : OpR X (compareOp .NotIn) (rInS X.K true) := by
  intro pins s σ H x y v u Q I rx ry h
  obtain ⟨d, ds, hd, he, sd, se, dp, q⟩ := h
  obtain ⟨as, r1⟩ := Dp.reads I d x v hd rx
  rw [Bool.true_xor] at q
  rcases he with he | he
  · obtain ⟨bs, r2⟩ := Dp.reads I (.list ds) y u he ry
    exact SeqAt.notIn_list_reads r2 r1 se sd (roomS hu dp) ⟨.bl _, H, I, rfl, q⟩
  · obtain ⟨bs, r2⟩ := Dp.reads I (.tuple ds) y u he ry
    exact SeqAt.notIn_tuple_reads r2 r1 se sd (roomS hu dp) ⟨.bl _, H, I, rfl, q⟩
end
section
variable {C : Wd → XC → Prop} {K : PySem.W.Frag}
theorem k2_inS {b : Bool} {p : Bool → Bool} (hp : ∀ c, p c = (b ^^ c)) : K2 C (rInS K b) (kInD p) := fun G _ n O H x y d e Qd Q W rx ry ⟨ys, ey, h1, h2, h3, h4⟩ q => by
  have hl : ∀ z ∈ ys, z.pl 59 = true := plL_of (by rcases ey with rfl | rfl <;> (unfold D.pl at h2; exact h2))
  have hc : PyData.canLayAll0 (toPyL ys) = true := by
    have := (pl_shaped 60 e h2).1
    rcases ey with rfl | rfl <;> exact this
  have hd : Dp K H y (.list (toPyL ys)) ∨ Dp K H y (.tuple (toPyL ys)) := by
    have := ry.dp (K := K) h2
    rcases ey with rfl | rfl
    · exact .inl this
    · exact .inr this
  refine ⟨toPy d, toPyL ys, rx.dp h1, hd, (pl_shaped 60 d h1).1, hc, (pl_shaped 60 d h1).2, ?_⟩
  rw [← hp]
  by_cases e' : d ∈ ys
  · rw [(any_pl h1 hl).mpr e']
    exact q _ _ H (h3 e') (Grow.refl _ _) W.ok (.bl _)
  · rw [Bool.eq_false_iff.mpr fun z => e' ((any_pl h1 hl).mp z)]
    exact q _ _ H (h4 e') (Grow.refl _ _) W.ok (.bl _)
theorem k2_inD : K2 C (rInS K false) (kInD id) := k2_inS fun c => by cases c <;> rfl
theorem k2_notInD : K2 C (rInS K true) (kInD not) := k2_inS fun c => by cases c <;> rfl
end
theorem atI_c {l : List D} {i : Nat} {d : D} (h : l[i]? = some d) : atI l (i : Int) = some d := by
  unfold atI
  rw [ixN_nat (List.getElem?_eq_some_iff.mp h).1]; exact h
theorem atI_c0 {a : D} {l : List D} : atI (a :: l) 0 = some a := atI_c (i := 0) rfl
theorem atI_c1 {a b : D} {l : List D} : atI (a :: b :: l) 1 = some b := atI_c (i := 1) rfl
theorem atI_c2 {a b c : D} {l : List D} : atI (a :: b :: c :: l) 2 = some c := atI_c (i := 2) rfl
theorem atI_c3 {a b c d : D} {l : List D} : atI (a :: b :: c :: d :: l) 3 = some d := atI_c (i := 3) rfl
/-- int(x) of an int or a bool -/
def kIntB : List D → (D → Prop) → Prop := fun ds Q => match ds with | [.int i] => Q (.int i) | [.bl b] => Q (.int (b.toNat : Int)) | _ => False
theorem kc_intB {C : Wd → XC → Prop} : KC C (fun xs H Q => (∃ i, xs = [.int i] ∧ Q (.int i) H) ∨ ∃ k, xs = [.bl k] ∧ Q (.int (if k then 1 else 0)) H) kIntB := fun G _ n O H vs ds Qd Q W r h q => by
  unfold kIntB at h
  split at h
  · obtain ⟨v, rfl, r1⟩ := r.one
    cases r1.int
    exact .inl ⟨_, rfl, q _ _ H h (Grow.refl _ _) W.ok (.int _)⟩
  · rename_i b
    obtain ⟨v, rfl, r1⟩ := r.one
    cases r1.bl
    refine .inr ⟨_, rfl, ?_⟩
    have e : (b.toNat : Int) = if b = true then 1 else 0 := by cases b <;> rfl
    rw [e] at h
    exact q _ _ H h (Grow.refl _ _) W.ok (.int _)
  · exact h.elim
theorem filter_no {α : Type} : ∀ (l : List α), l.filter (fun _ => false) = []
  | [] => rfl
  | _ :: l => by rw [List.filter_cons_of_neg (by decide)]; exact filter_no l
end PL

/-! XN: list(enumerate(tuple)): the tuples that were handed out stay alive. -/
namespace PySem
open Sem (wp)
namespace F
theorem enum_no_len : typeLookup (.type "enumerate") "__len__" = pure none := by rw [typeLookup_type, builtinLookup_eq_fast]; kernel_rfl
theorem enum_no_hint : typeLookup (.type "enumerate") "__length_hint__" = pure none := by rw [typeLookup_type, builtinLookup_eq_fast]; kernel_rfl
end F
/-- an enumerate whose tuple a is out; f: it is known to be held elsewhere -/
abbrev IsEnO (h : Heap) (e it : Addr) (i : Int) (item : Value) (a : Addr) (f : Bool) : Prop :=
  h.get? e = some { cls := .type "enumerate", dict := none, data := .fields #[rawInt a, .bool f, .ref it, rawInt i, .none, item], slots := #[] }
section
variable {prog : Program} {w : World} {A : Around} {E : Value → Shared → Prop} {s : Shared}
theorem enumerate_next_outD {e it a : Addr} {fp : List Addr} {n i : Nat} {P : Nat → Value → Prop} {St : Nat → Heap → Prop} {old : Value} {f : Bool} {oa : Obj} {Q : Value → Shared → Prop}
    (D : Draws prog w A it fp n P St) (he : IsEnO s.heap e it i old a f) (ha : s.heap.get? a = some oa) (hae : a ≠ e) (hai : a ≠ it) (hst : St i s.heap) (hlt : i < n) (hne : e ≠ it) (hef : e ∉ fp)
    (hQ : ∀ x h' tk, P i x → IsEnO h' e it ((i : Int) + 1) old a true → St (i + 1) h' →
      h'.get? s.heap.objs.size = some { cls := .type "tuple", data := .seq #[.int i tk, x] } → h'.objs.size = s.heap.objs.size + 1 →
      (∀ b o, b ≠ e → b ≠ it → s.heap.get? b = some o → h'.get? b = some o) → Q (.ref s.heap.objs.size) { s with heap := h', toks := tk + 1 }) :
    wpAny (model prog w) A (Builtin.«enumerate.__next__» ⟨[.ref e], []⟩) (fun fin s' => ∃ v, fin = .done (.ret v) ∧ Q v s') E s := by
  obtain ⟨hp, g, d, tk₀, os⟩ := s
  show wpAny _ _ (field (.ref e) 2 >>= _) _ _ _
  refine wpAny_bind (wpAny_field he rfl (x := .ref it) rfl ?_)
  refine wpAny_bind (D.item i _ _ _ hlt hst fun x h₁ tk hPx hit₁ hs₁ => ?_)
  replace hs₁ : Heap.SameBut it hp h₁ := hs₁
  have he₁ : IsEnO h₁ e it i old a f := (hs₁.2 e hne).trans he
  show wpAny _ _ (field (.ref e) 3 >>= _) _ _ ⟨h₁, g, d, tk, os⟩
  refine wpAny_bind (wpAny_field he₁ rfl (x := rawInt i) rfl ?_)
  show wpAny _ _ (field (.ref e) 4 >>= _) _ _ ⟨h₁, g, d, tk, os⟩
  refine wpAny_bind (wpAny_field he₁ rfl (x := .none) rfl ?_)
  show wpAny _ _ (mkInt i >>= _) _ _ ⟨h₁, g, d, tk, os⟩
  refine wpAny_bind (wpAny_mkInt ?_)
  show wpAny _ _ (setField (.ref e) 3 (rawInt ((i : Int) + 1)) >>= _) _ _ ⟨h₁, g, d, tk + 1, os⟩
  refine wpAny_bind (wpAny_setField_rec he₁ (by simp) fun h₂ he₂ hs₂ => ?_)
  replace hs₂ : Heap.SameBut e h₁ h₂ := hs₂
  replace he₂ : IsEnO h₂ e it ((i : Int) + 1) old a f := he₂
  show wpAny _ _ (setField (.ref e) 4 .none >>= _) _ _ ⟨h₂, g, d, tk + 1, os⟩
  refine wpAny_bind (wpAny_setField_rec he₂ (by simp) fun h₃ he₃ hs₃ => ?_)
  replace hs₃ : Heap.SameBut e h₂ h₃ := hs₃
  replace he₃ : IsEnO h₃ e it ((i : Int) + 1) old a f := he₃
  show wpAny _ _ (newTuple [.int i tk, x] >>= _) _ _ ⟨h₃, g, d, tk + 1, os⟩
  refine wpAny_bind (wpAny_newTuple ?_)
  have he₄ : IsEnO (h₃.push { cls := .type "tuple", data := .seq #[.int i tk, x] }) e it ((i : Int) + 1) old a f := Heap.get?_push_of_some _ he₃
  generalize hh₄ : h₃.push { cls := .type "tuple", data := .seq #[.int i tk, x] } = h₄ at he₄
  have hsz : h₃.objs.size = hp.objs.size := by rw [hs₃.1, hs₂.1, hs₁.1]
  have hel : e < hp.objs.size := Heap.lt_size he
  have ht₄ : h₄.get? hp.objs.size = some { cls := .type "tuple", data := .seq #[.int i tk, x] } := by rw [← hh₄, ← hsz]; exact Heap.get?_push_size _ rfl
  have hz₄ : h₄.objs.size = hp.objs.size + 1 := by rw [← hh₄, Heap.size_push, hsz]
  have hk₄ : ∀ b o, b ≠ e → b ≠ it → hp.get? b = some o → h₄.get? b = some o := fun b o hbe hbi hb => by
    rw [← hh₄]; exact Heap.get?_push_of_some _ (hs₃.extBut b o hbe (hs₂.extBut b o hbe (hs₁.extBut b o hbi hb)))
  have hit₄ : St (i + 1) h₄ := D.frame _ _ _ hit₁ fun b hb o y => by
    have hbe : b ≠ e := fun q => hef (q ▸ hb)
    rw [← hh₄]; exact Heap.get?_push_of_some _ (hs₃.extBut b o hbe (hs₂.extBut b o hbe y))
  show wpAny _ _ (Builtin.SmallTypes.ownedTupleIsFree (.ref e) >>= _) _ _ ⟨h₄, g, d, tk + 1, os⟩
  rw [hsz]
  clear hh₄ he₃ hs₃ he₂ hs₂ he₁ hs₁ hit₁ hsz h₃ h₂ h₁
  have ha₄ : h₄.get? a = some oa := hk₄ a oa hae hai ha
  refine wpAny_bind ?_
  unfold Builtin.SmallTypes.ownedTupleIsFree
  refine wpAny_bind (wpAny_field he₄ rfl (x := rawInt a) rfl ?_)
  show wpAny _ _ (loadIfAlive ((a : Int).toNat) >>= _) _ _ _
  rw [Int.toNat_natCast]
  refine wpAny_bind (PySem.W.kdx_alive ha₄ ?_)
  simp only [Option.isNone_some, Bool.false_eq_true, if_false]
  refine wpAny_bind (wpAny_field he₄ rfl (x := .bool f) rfl ?_)
  have fin : ∀ h₅ : Heap, IsEnO h₅ e it ((i : Int) + 1) old a true → Heap.SameBut e h₄ h₅ → Q (.ref hp.objs.size) ⟨h₅, g, d, tk + 1, os⟩ := fun h₅ he₅ hs₅ =>
    hQ x h₅ tk hPx he₅ (D.frame _ _ _ hit₄ fun b hb o y => hs₅.extBut b o (fun q => hef (q ▸ hb)) y) (by exact hs₅.extBut _ _ (Nat.ne_of_gt hel) ht₄) (by show h₅.objs.size = hp.objs.size + 1; rw [hs₅.1, hz₄]) fun b o hbe hbi hb => hs₅.extBut b o hbe (hk₄ b o hbe hbi hb)
  cases f with
  | true =>
    rw [if_neg (show ¬ ((Value.bool true != Value.bool true) = true) from Bool.false_ne_true)]
    refine wpAny_pure ?_
    simp only [Bool.false_eq_true, if_false]
    exact wpAny_pure ⟨_, rfl, fin h₄ he₄ (Heap.SameBut.refl _ _)⟩
  | false =>
    rw [if_pos (show (Value.bool false != Value.bool true) = true from rfl)]
    refine wpAny_bind (wpAny_setField_rec he₄ (by simp) fun h₅ he₅ hs₅ => ?_)
    replace hs₅ : Heap.SameBut e h₄ h₅ := hs₅
    replace he₅ : IsEnO h₅ e it ((i : Int) + 1) old a true := he₅
    refine wpAny_pure ?_
    simp only [Bool.false_eq_true, if_false]
    exact wpAny_pure ⟨_, rfl, fin h₅ he₅ hs₅⟩
theorem pyNext_enum_outD {e it a : Addr} {fp : List Addr} {n i : Nat} {P : Nat → Value → Prop} {St : Nat → Heap → Prop} {old : Value} {f : Bool} {oa : Obj} {Q : Option Value → Shared → Prop}
    (D : Draws prog w A.in1 it fp n P St) (he : IsEnO s.heap e it i old a f) (ha : s.heap.get? a = some oa) (hae : a ≠ e) (hai : a ≠ it) (hst : St i s.heap) (hlt : i < n) (hne : e ≠ it) (hef : e ∉ fp)
    (hQ : ∀ x h' tk, P i x → IsEnO h' e it ((i : Int) + 1) old a true → St (i + 1) h' →
      h'.get? s.heap.objs.size = some { cls := .type "tuple", data := .seq #[.int i tk, x] } → h'.objs.size = s.heap.objs.size + 1 →
      (∀ b o, b ≠ e → b ≠ it → s.heap.get? b = some o → h'.get? b = some o) → Q (some (.ref s.heap.objs.size)) { s with heap := h', toks := tk + 1 }) :
    wpAny (model prog w) A (pyNext (.ref e)) Q E s := by
  have hT : s.TypeIs (.ref e) "enumerate" := ⟨_, he, rfl⟩
  unfold pyNext
  exact wpAny_bind (wpAny_attempt (wpAny_callSpecial?_slot (name := Str.ofString "__next__") hT F.slot_enumerate_next
    (wpAny_call_entry F.slot_enumerate_next hT F.entry_enumerate_next
      (enumerate_next_outD D he ha hae hai hst hlt hne hef fun x h' tk a b c d k q => wpAny_pure (hQ x h' tk a b c d k q)) (F.args_enumerate_next_1 _))))
theorem pyNext_enum_endO {e it a : Addr} {fp : List Addr} {n : Nat} {P : Nat → Value → Prop} {St : Nat → Heap → Prop} {i : Int} {old : Value} {f : Bool} {Q : Option Value → Shared → Prop}
    (D : Draws prog w A.in1 it fp n P St) (he : IsEnO s.heap e it i old a f) (hst : St n s.heap)
    (hQ : ∀ h', Heap.ExtBut it s.heap h' → Q none { s with heap := h' }) : wpAny (model prog w) A (pyNext (.ref e)) Q E s := by
  have hT : s.TypeIs (.ref e) "enumerate" := ⟨_, he, rfl⟩
  unfold pyNext
  refine wpAny_bind (wpAny_attempt (wpAny_callSpecial?_slot (name := Str.ofString "__next__") hT F.slot_enumerate_next
    (wpAny_call_entry F.slot_enumerate_next hT F.entry_enumerate_next ?_ (F.args_enumerate_next_1 _))))
  show wpAny _ _ (field (.ref e) 2 >>= _) _ _ _
  refine wpAny_bind (wpAny_field he rfl (x := .ref it) rfl ?_)
  refine wpAny_bind (D.done _ _ _ hst fun h' x he' hx' => ?_)
  obtain ⟨o, ho, hc⟩ := hx'
  refine wpAny_bind (wpAny_isInstance (T := "StopIteration") (b := true) ⟨o, ho, hc⟩ isSubtype_stop ?_)
  exact wpAny_pure (hQ _ he')
theorem enum_hint {r : Addr} {Q : Bool → Shared → Prop} (hT : s.TypeIs (.ref r) "enumerate") (h : Q true s) : wpAny (model prog w) A (Builtin.List.listLengthHint (.ref r)) Q E s := by
  unfold Builtin.List.listLengthHint
  refine wpAny_bind (wpAny_specialOf hT F.enum_no_len ?_)
  refine wpAny_ite_split (fun hab => absurd hab (by decide)) (fun _ => ?_)
  refine wpAny_ite_split (fun hab => absurd hab (by decide)) (fun _ => ?_)
  refine wpAny_bind (wpAny_specialOf hT F.enum_no_hint ?_)
  exact wpAny_pure h
end
end PySem

namespace L2
open PySem PySem.Spec PyProof.Rows
/-- an enumerate, its tuple kept or out -/
def EnSt (h : Heap) (e it S : Addr) (i : Nat) : Prop := (∃ old, IsEnum h e it ((i : Nat) : Int) old) ∨ ∃ old a f oa, IsEnO h e it ((i : Nat) : Int) old a f ∧ h.get? a = some oa ∧ a ≠ e ∧ a ≠ it ∧ a ≠ S
theorem EnSt.ty {h : Heap} {e it S : Addr} {i : Nat} (E : EnSt h e it S i) : ∃ o, h.get? e = some o ∧ o.cls = .type "enumerate" := by
  rcases E with ⟨old, he⟩ | ⟨old, a, f, oa, he, _⟩
  · exact ⟨_, he, rfl⟩
  · exact ⟨_, he, rfl⟩
theorem EnSt.keep {h h' : Heap} {e it S : Addr} {i : Nat} (hS : e ≠ S) (k : ∀ b o, b ≠ S → h.get? b = some o → h'.get? b = some o) (E : EnSt h e it S i) : EnSt h' e it S i := by
  rcases E with ⟨old, he⟩ | ⟨old, a, f, oa, he, ha, h1, h2, h3⟩
  · exact .inl ⟨old, k _ _ hS he⟩
  · exact .inr ⟨old, a, f, oa, k _ _ hS he, k _ _ h3 ha, h1, h2, h3⟩
theorem sqT_up {K : PySem.W.Frag} {H1 H : Hp} {a : Addr} {xs : List V} (up : ∀ b o, H1 b = some o → H b = some o) (h : SqT K H1 a xs) : SqT K H a xs := h.imp (fun r => r.elim (fun e => .inl (up _ _ e)) fun ⟨ob, e⟩ => .inr ⟨ob, up _ _ e⟩) id
/-- what the list holds: pairs of a place and an item -/
structure Enl (H1 H : Hp) (S : Addr) (xs : List V) (acc : List Addr) : Prop where
  up : ∀ b o, H1 b = some o → H b = some o
  lst : H S = some (.lst (acc.map V.ref))
  at_ : ∀ (j : Nat) (t : Addr), acc[j]? = some t → ∃ x, xs[j]? = some x ∧ H t = some (.tup [.int (j : Nat), x])
  new : ∀ t ∈ acc, H1 t = none ∧ t ≠ S
section
variable {X : Cx} {pins : List (Addr × Obj)} {σ : L2.St} {H1 : Hp} {A1 : Around} {Rs : Result → Shared → Prop} {e it S a : Addr} {xs : List V}
theorem en_loop (hh : A1.handled = none) (hne : e ≠ it) (hai : a ≠ it) (hea : e ≠ a) (heS : e ≠ S) (hiS : it ≠ S) (hS1 : H1 S = none) (hq : SqT X.K H1 a xs) (hz : xs.length ≤ sizeLine)
    (hdone : ∀ acc H s, Inv X pins σ H s → Enl H1 H S xs acc → acc.length = xs.length → Rs (.ok (.ret .none)) s) :
    ∀ (m i : Nat) (acc : List Addr) (H : Hp) (s : Shared), xs.length - i = m → i ≤ xs.length → Inv X pins σ H s → Enl H1 H S xs acc → acc.length = i → (∀ b ∈ [e, it], FpOk X pins H b) → EnSt s.heap e it S i → s.heap.IsTupleIter it a i →
      codeAny (model X.prog X.w) A1 (.builtin "list.extend.loop" ⟨[.ref S, .ref e, .none], []⟩) Rs s := by
  intro m
  induction m with
  | zero =>
    intro i acc H s hm hi I L hl hf st hit
    have hix : i = xs.length := by omega
    refine codeAny_builtin PySem.F.entry_extend_loop ?_
    rw [Around.under_plainId PySem.F.plain_extend_loop _]
    show wpAny _ A1.in1 (pyNext (.ref e) >>= _) _ _ s
    have hq2 : SqT X.K H a xs := sqT_up L.up hq
    obtain ⟨its, rv, p, _⟩ := I.tuple hq2
    have hlv := rv.length
    have DD : Draws X.prog X.w A1.in1.in1 it [it, a] its.toArray.size (fun i v => its.toArray[i]? = some v) (fun i h => h.IsTupleIter it a i ∧ h.IsTuple a its.toArray) := Draws.tuple (A := A1.in1.in1) (show A1.in1.in1.handled = none from hh) it a hai its.toArray
    have hsz : its.toArray.size = i := by rw [List.size_toArray]; omega
    obtain ⟨f0, f1, f2, f3, f4, f5⟩ := hf it (by simp)
    have fin : ∀ h', Heap.ExtBut it s.heap h' → wpAny (model X.prog X.w) A1.in1 (pure (Fin.done (.ret .none))) (fun fin s' => match fin with | .done f => Rs (.ok f) s' | .again c' => c'.quiet = true ∧ codeAny (model X.prog X.w) A1 c' Rs s') (fun e s' => Rs (.error e) s') { s with heap := h' } := fun h' he' =>
      wpAny_pure (hdone acc H _ (I.turned (t' := s.toks) (fun b o hb q => he' b o hb q) f0 f1 f3 f4 f5) L (by omega))
    rcases st with ⟨old, he⟩ | ⟨old, a', f, oa, he, ha, h1, h2, h3⟩
    · exact wpAny_bind (wpAny_pyNext_enum_endD DD he (by rw [hsz]; exact ⟨hit, p⟩) fin)
    · exact wpAny_bind (pyNext_enum_endO DD he (by rw [hsz]; exact ⟨hit, p⟩) fin)
  | succ m ih =>
    intro i acc H s hm hi I L hl hf st hit
    have hlt : i < xs.length := by omega
    refine codeAny_builtin PySem.F.entry_extend_loop ?_
    rw [Around.under_plainId PySem.F.plain_extend_loop _]
    show wpAny _ A1.in1 (pyNext (.ref e) >>= _) _ _ s
    have hq2 : SqT X.K H a xs := sqT_up L.up hq
    obtain ⟨its, rv, p, _⟩ := I.tuple hq2
    have hlv := rv.length
    obtain ⟨x, hx⟩ : ∃ x, xs[i]? = some x := ⟨_, List.getElem?_eq_getElem hlt⟩
    obtain ⟨u, hu, ru⟩ := rv.get hx
    have DD : Draws X.prog X.w A1.in1.in1 it [it, a] its.toArray.size (fun i v => its.toArray[i]? = some v) (fun i h => h.IsTupleIter it a i ∧ h.IsTuple a its.toArray) := Draws.tuple (A := A1.in1.in1) (show A1.in1.in1.handled = none from hh) it a hai its.toArray
    have hsz : i < its.toArray.size := by rw [List.size_toArray]; omega
    have hil : it < s.heap.objs.size := by obtain ⟨_, q, _⟩ := hit; exact Heap.lt_size q
    have hel : e < s.heap.objs.size := by obtain ⟨_, q, _⟩ := st.ty; exact Heap.lt_size q
    have hSl : S < s.heap.objs.size := by obtain ⟨_, _, _, _, _, q⟩ := I.lstM L.lst; exact Heap.lt_size q
    have nT : H s.heap.objs.size = none := I.hok.fresh (Nat.le_refl _)
    have n1T : H1 s.heap.objs.size = none := by
      cases z : H1 s.heap.objs.size with
      | none => rfl
      | some o => rw [L.up _ _ z] at nT; cases nT
    have step : ∀ (y : Value) (h' : Heap) (tk : Nat), its.toArray[i]? = some y → EnSt h' e it S (i + 1) → h'.IsTupleIter it a (i + 1) → h'.get? s.heap.objs.size = some { cls := .type "tuple", data := .seq #[.int i tk, y] } → (∀ b o, b ≠ e → b ≠ it → s.heap.get? b = some o → h'.get? b = some o) →
        wpAny (model X.prog X.w) A1.in1 (updateSeq S (·.push (Value.ref s.heap.objs.size)) >>= fun _ => again (.builtin "list.extend.loop" ⟨[.ref S, .ref e, .none], []⟩)) (fun fin s' => match fin with | .done f => Rs (.ok f) s' | .again c' => c'.quiet = true ∧ codeAny (model X.prog X.w) A1 c' Rs s') (fun e s' => Rs (.error e) s') { s with heap := h', toks := tk + 1 } := fun y h' tk hy st' hit' hT hk => by
      have ey : y = u := by
        have h2 : its.toArray[i]? = some u := by simpa using hu
        rw [h2] at hy; exact (Option.some.inj hy).symm
      subst ey
      have new : ObjOk X.prog X.w (upd H s.heap.objs.size (.tup [.int (i : Nat), x])) h' s.heap.objs.size (.tup [.int (i : Nat), x]) :=
        ⟨by show 2 ≤ sizeLine; rw [sizeLine_eq]; decide, [.int i tk, y], .cons ⟨_, rfl⟩ (.cons ru .nil), ⟨_, hT, rfl, _, rfl⟩⟩
      have I1 : Inv X pins σ (upd H s.heap.objs.size (.tup [.int (i : Nat), x])) { s with heap := h', toks := tk + 1 } :=
        I.turnedNew (ch := [e, it]) (fun b ob hb q => hk b ob (fun z => hb (by simp [z])) (fun z => hb (by simp [z])) q) hf (Nat.le_refl _) new
      have hTS : s.heap.objs.size ≠ S := Nat.ne_of_gt hSl
      have hS' : upd H s.heap.objs.size (.tup [.int (i : Nat), x]) S = some (.lst (acc.map V.ref)) := by rw [upd_ne (Ne.symm hTS)]; exact L.lst
      obtain ⟨z, itsS, kS, r2, hl2, e2⟩ := I1.lstM hS'
      rw [List.length_map] at hl2
      refine wpAny_bind (wpAny_updateSeq e2 rfl (wpAny_pure ⟨plainId_quiet PySem.F.plain_extend_loop _, ?_⟩) (by rw [List.size_toArray]; omega) (by show (itsS.toArray.push _).size ≤ sizeLine + 1; rw [Array.size_push, List.size_toArray]; omega))
      have oth : ∀ b o, b ≠ S → h'.get? b = some o → (h'.update S (Obj.mapSeq (·.push (Value.ref s.heap.objs.size)))).get? b = some o := fun b o hb q => (Heap.get?_update_other _ _ (Ne.symm hb)).trans q
      have hup : ∀ b o, H b = some o → b ≠ S → upd (upd H s.heap.objs.size (.tup [.int (i : Nat), x])) S (.lst (acc.map V.ref ++ [.ref s.heap.objs.size])) b = some o := fun b o q n => by
        rw [upd_ne n, upd_ne (ne_of_none q nT)]; exact q
      refine ih (i + 1) (acc ++ [s.heap.objs.size]) _ _ (by omega) hlt (I1.lset (its' := itsS ++ [Value.ref s.heap.objs.size]) (ys := acc.map V.ref ++ [.ref s.heap.objs.size]) (t' := tk + 1) hS' e2 (by simp) (r2.append (.cons (show RelV (V.ref s.heap.objs.size) (Value.ref s.heap.objs.size) from rfl) .nil)) (by rw [List.length_append, List.length_map, List.length_singleton]; omega)) ⟨fun b o q => hup b o (L.up b o q) (fun z => by rw [z, hS1] at q; cases q), by rw [upd_same, List.map_append]; rfl, fun j t hj => ?_, fun t ht => ?_⟩ (by rw [List.length_append, hl]; rfl) (fun b hb => ?_) (st'.keep heS oth) ?_
      · by_cases hj2 : j < acc.length
        · rw [List.getElem?_append_left hj2] at hj
          obtain ⟨x', h1, h2⟩ := L.at_ j t hj
          exact ⟨x', h1, hup t _ h2 (L.new t (List.mem_of_getElem? hj)).2⟩
        · have hlen := (List.getElem?_eq_some_iff.mp hj).1
          rw [List.length_append, List.length_singleton] at hlen
          have ej : j = acc.length := by omega
          subst ej
          rw [List.getElem?_append_right (Nat.le_refl _), Nat.sub_self] at hj
          cases hj
          refine ⟨x, by rw [hl]; exact hx, ?_⟩
          rw [upd_ne hTS, upd_same, hl]
      · rcases List.mem_append.mp ht with h | h
        · exact L.new t h
        · rw [List.mem_singleton.mp h]; exact ⟨n1T, hTS⟩
      · obtain ⟨f0, fr⟩ := hf b hb
        have hb' : b ≠ S ∧ b < s.heap.objs.size := by
          have e' : b = e ∨ b = it := by simpa using hb
          rcases e' with z | z
          · rw [z]; exact ⟨heS, hel⟩
          · rw [z]; exact ⟨hiS, hil⟩
        refine ⟨?_, fr⟩
        rw [upd_ne hb'.1, upd_ne (Nat.ne_of_lt hb'.2)]; exact f0
      · exact hit'.at fun o q => oth it o hiS q
    rcases st with ⟨old, he⟩ | ⟨old, a', f, oa, he, ha, h1, h2, h3⟩
    · refine wpAny_bind (wpAny_pyNext_enum_itemD DD he ⟨hit, p⟩ hsz hne (by simp [hne, hea]) fun y h' tk hy ho hit' hT hz' hk => ?_)
      refine step y h' tk hy (.inr ⟨y, s.heap.objs.size, false, _, ?_, hT, Nat.ne_of_gt hel, Nat.ne_of_gt hil, Nat.ne_of_gt hSl⟩) hit'.1 hT hk
      have e1 : ((i + 1 : Nat) : Int) = (i : Int) + 1 := by omega
      rw [e1]; exact ho
    · refine wpAny_bind (pyNext_enum_outD DD he ha h1 h2 ⟨hit, p⟩ hsz hne (by simp [hne, hea]) fun y h' tk hy ho hit' hT hz' hk => ?_)
      refine step y h' tk hy (.inr ⟨old, a', true, oa, ?_, hk a' oa h1 h2 ha, h1, h2, h3⟩) hit'.1 hT hk
      have e1 : ((i + 1 : Nat) : Int) = (i : Int) + 1 := by omega
      rw [e1]; exact ho
end
/-- list(enumerate(e)), e a tuple -/
def tListEnT (K : PySem.W.Frag) (ta : TA) : TE := fun σ H Q => ta σ H fun vs H1 => ∃ a xs, vs = [.ref a] ∧ SqT K H1 a xs ∧ xs.length ≤ sizeLine ∧ ∀ H' p acc, H1 p = none → Enl H1 H' p xs acc → acc.length = xs.length → Q (.ref p) H'
theorem pe_listEnT {X : Cx} {e : Expr} {ta : TA} {p p2 pos pos2 : Pos} (hc : X.calm = true) (hgl : Gl X "list") (hml : X.mg "list" = none) (hg : Gl X "enumerate") (hm : X.mg "enumerate" = none) (ha : PA X [e] ta) (hs : starEach [e] X.env = [(false, eval e X.env)] := by rfl)
    (hs2 : starEach [.Call (.Name "enumerate" p2) [e] [] pos2] X.env = (false, eval (.Call (.Name "enumerate" p2) [e] [] pos2) X.env) :: starEach [] X.env := by rfl) :
    PE X (.Call (.Name "list" p) [.Call (.Name "enumerate" p2) [e] [] pos2] [] pos) (tListEnT X.K ta) := by
  refine ⟨fun pins s σ H Q I h => ?_⟩
  refine wpAny_Call_Name_kw (ld_blt I hgl hml boot_list ?_)
  refine PyProof.Rows.callWith_type1 ?_ hs2 rfl
  rw [hs2]
  show wpAny _ _ (spliced ((false, eval (.Call (.Name "enumerate" p2) [e] [] pos2) X.env) :: backTo pos (starEach [] X.env))) _ _ s
  refine Calls.spliced_cons ?_
  refine Call_ (ld_blt I hg hm boot_enumerate (PyProof.Rows.callWith_type1 (thn (ha.run pos2 pins s σ H _ I h) fun us s1 ⟨vs, H1, I1, r1, q1⟩ => ?_) hs rfl))
  obtain ⟨a, xs, ex, hq, hxl, q⟩ := q1
  subst ex
  cases r1 with
  | cons r rr =>
    cases rr
    cases r
    obtain ⟨its, rv, p', hz⟩ := I1.tuple hq
    have hal : a < s1.heap.objs.size := by obtain ⟨_, q, _⟩ := p'; exact Heap.lt_size q
    refine enum_begins1 (begins_tuple a its.toArray) p' fun h' he hit hsz hk => Calls.spliced_nil ?_
    have I2 : Inv X pins σ H1 { s1 with heap := h' } := I1.kept (t' := s1.toks) hk
    have hit2 : h'.IsTupleIter s1.heap.objs.size a 0 := ⟨_, hit, rfl, rfl⟩
    refine callType_codes (Q₁ := fun obj s₁ => obj = .ref h'.objs.size ∧ s₁ = { s1 with heap := h'.push { cls := .type "list", data := .seq #[] } }) PySem.F.called_list (PySem.F.typeCall_list_1 _) PySem.F.entry_list_init
      (code_list_new _ ⟨rfl, rfl⟩) fun obj s₁ h₁ => ?_
    obtain ⟨rfl, rfl⟩ := h₁
    have hS : (h'.push { cls := .type "list", data := .seq #[] }).get? h'.objs.size = some { cls := .type "list", data := .seq #[] } := Heap.get?_push_size _ rfl
    refine ⟨⟨_, hS, rfl⟩, PySem.F.args_list_init_2 _ _, ?_⟩
    have fr : H1 h'.objs.size = none := I2.hok.fresh (Nat.le_refl _)
    have I3 : Inv X pins σ (upd H1 h'.objs.size (.lst [])) { s1 with heap := h'.push { cls := .type "list", data := .seq #[] } } := I2.lnew (its := []) (t' := s1.toks) .nil (Nat.zero_le _)
    show wpAny _ _ (do let old ← Builtin.List.listItems (.ref h'.objs.size); Builtin.List.listUpdate (.ref h'.objs.size) (fun _ => #[]); letGo old.toList.reverse; Builtin.List.listExtendWith (.ref h'.objs.size) (.ref (s1.heap.objs.size + 1)) .none) _ _ _
    refine wpAny_bind ?_
    unfold Builtin.List.listItems
    refine wpAny_bind (wpAny_seqItems hS rfl (wpAny_pure ?_))
    show wpAny _ _ (updateSeq h'.objs.size (fun _ => #[]) >>= fun _ => letGo (#[] : Array Value).toList.reverse >>= fun _ => Builtin.List.listExtendWith (.ref h'.objs.size) (.ref (s1.heap.objs.size + 1)) .none) _ _ _
    refine wpAny_bind (wpAny_updateSeq hS rfl ?_)
    have I4 := I3.lset (f := fun _ => #[]) (its := []) (its' := []) (ys := []) (t' := s1.toks) upd_same hS rfl .nil (Nat.zero_le _)
    rw [upd_upd] at I4
    refine wpAny_bind (wpAny_letGo ?_)
    have heS : s1.heap.objs.size + 1 ≠ h'.objs.size := by omega
    have hiS : s1.heap.objs.size ≠ h'.objs.size := by omega
    have hfp : ∀ b ∈ [s1.heap.objs.size + 1, s1.heap.objs.size], FpOk X pins (upd H1 h'.objs.size (.lst [])) b := fun b hb => by
      have hle : s1.heap.objs.size ≤ b ∧ b ≠ h'.objs.size := by
        have e' : b = s1.heap.objs.size + 1 ∨ b = s1.heap.objs.size := by simpa using hb
        rcases e' with z | z
        · rw [z]; exact ⟨Nat.le_add_right _ _, heS⟩
        · rw [z]; exact ⟨Nat.le_refl _, hiS⟩
      obtain ⟨f0, f1⟩ := I1.fpOk hle.1 (I1.hok.fresh hle.1)
      exact ⟨by rw [upd_ne hle.2]; exact f0, f1⟩
    generalize h'.objs.size = S at *
    generalize hh4 : (h'.push { cls := .type "list", data := .seq #[] }).update S (Obj.mapSeq fun _ => #[]) = h4 at I4 ⊢
    have oth : ∀ b o, b ≠ S → h'.get? b = some o → h4.get? b = some o := fun b o hb q => by
      rw [← hh4]; exact (Heap.get?_update_other _ _ (Ne.symm hb)).trans (Heap.get?_push_of_some _ q)
    have he4 := oth _ _ heS he
    have hit4 : h4.IsTupleIter s1.heap.objs.size a 0 := hit2.at fun o q => oth _ o hiS q
    have hT4 : Shared.TypeIs { s1 with heap := h4 } (.ref (s1.heap.objs.size + 1)) "enumerate" := ⟨_, he4, rfl⟩
    obtain ⟨z, itsS, kS, r2, hl2, e2⟩ := I4.lstM upd_same
    cases r2
    unfold Builtin.List.listExtendWith
    refine wpAny_bind (wpAny_typeOf hT4 ?_)
    have h1 : Builtin.List.listSameRef (.ref S) (.ref (s1.heap.objs.size + 1)) = false := by simp [Builtin.List.listSameRef, Ne.symm heS]
    have h2 : (Value.type "enumerate" == Value.type "list") = false := by decide
    have h3 : (Value.type "enumerate" == Value.type "tuple") = false := by decide
    simp only [h1, h2, h3, Bool.or_false, Bool.false_eq_true, if_false]
    refine wpAny_bind (wpAny_pyIter_enum he4 ?_)
    refine wpAny_bind (wpAny_holding (enum_hint hT4 ?_))
    refine wpAny_ite_split (fun _ => ?_) (fun hab => absurd rfl hab)
    refine wpAny_bind (wpAny_rule ?_)
    refine wpAny_bind ?_
    show wpAny _ _ (updateSeq S (·.push .none) >>= fun _ => updateSeq S (·.pop)) _ _ _
    refine wpAny_bind (wpAny_updateSeq e2 rfl ?_)
    have J2 := I4.lset (f := (·.push Value.none)) (its' := [Value.none]) (ys := [.non]) (t' := s1.toks) upd_same e2 (by simp) (.cons rfl .nil) (by rw [List.length_singleton, sizeLine_eq]; decide)
    rw [upd_upd] at J2
    obtain ⟨z4, its4, k4, r4, hl4, e4⟩ := J2.lstM upd_same
    obtain ⟨u4, rfl, ru4⟩ := r4.one
    refine wpAny_updateSeq e4 rfl ?_ (by show 1 ≤ sizeLine; rw [sizeLine_eq]; decide) (by show 0 ≤ sizeLine + 1; exact Nat.zero_le _)
    have J3 := J2.lset (f := (·.pop)) (its := [u4]) (its' := []) (ys := []) (t' := s1.toks) upd_same e4 (by rfl) .nil (Nat.zero_le _)
    rw [upd_upd] at J3
    generalize hh5 : (h4.update S (Obj.mapSeq (·.push Value.none))).update S (Obj.mapSeq (·.pop)) = h5 at J3 ⊢
    have oth5 : ∀ b o, b ≠ S → h4.get? b = some o → h5.get? b = some o := fun b o hb q => by
      rw [← hh5]; exact (Heap.get?_update_other _ _ (Ne.symm hb)).trans ((Heap.get?_update_other _ _ (Ne.symm hb)).trans q)
    refine wpAny_pure ⟨plainId_quiet PySem.F.plain_extend_loop _, en_loop (A1 := X.A.in1) (H1 := H1) (xs := xs) (I1.ok.hd hc) (Nat.succ_ne_self _) (Nat.ne_of_lt hal) (Nat.ne_of_gt (Nat.lt_succ_of_lt hal)) heS hiS fr hq hxl (fun acc H s I L hl => ⟨rfl, .ref S, H, I, rfl, q H S acc fr L hl⟩) xs.length 0 [] _ _ (Nat.sub_zero _) (Nat.zero_le _) J3 ⟨fun b o q => by rw [upd_ne (fun z => by rw [z, fr] at q; cases q)]; exact q, by rw [upd_same]; rfl, fun j t z => (by cases z), fun t z => (by cases z)⟩ rfl hfp (.inl ⟨.none, oth5 _ _ heS he4⟩) (hit4.at fun o q => oth5 _ o hiS q)⟩
end L2

namespace PL
open PySem PySem.Spec PyProof.Rows L2
theorem rpl_of {A : At} : ∀ {xs : List V} {ds : List D}, xs.length = ds.length → (∀ (j : Nat) v d, xs[j]? = some v → ds[j]? = some d → Rp A v d) → RpL A xs ds
  | [], [], _, _ => .nil
  | [], _ :: _, h, _ => by cases h
  | _ :: _, [], h, _ => by cases h
  | x :: xs, d :: ds, h, k => .cons (k 0 x d rfl rfl) (rpl_of (Nat.succ.inj h) fun j v e h1 h2 => k (j + 1) v e h1 h2)
section
variable {C : Wd → XC → Prop} {K : PySem.W.Frag} {c : Nat} {ta : TA} {am : AM}
theorem sl_listEnT (h : SA C c ta am) : SL C c (tListEnT K ta) (fun env Q => am env fun ds => match ds with | [.tup l] => l.length ≤ sizeLine ∧ Q (enumD 0 l) | _ => False) := fun G cg n O env σ H Qd Q hL F hm q =>
  show ta σ H _ from h G cg n O env σ H _ _ hL F hm fun ds vs H1 h1 g1 ok1 r1 => by
    split at h1
    · rename_i l
      obtain ⟨hl, hq⟩ := h1
      cases r1 with
      | cons r rr =>
        cases rr
        cases r with
        | @tup a xs _ ea rx =>
          have W1 := F.wl.grow g1 ok1
          have hlx := rx.length
          refine ⟨a, xs, rfl, sqT (rk_tup ea.1), by omega, fun H' p acc hp L hacc => ?_⟩
          have gr : Grow G.w H1 H' := fun b o e _ => L.up b o e
          have ok2 : G.w.ok (n + c) H' := G.w.st _ _ _ (fun b o _ e => L.up b o e) (fun b φ e => L.up b _ e) ok1
          have le : LeA (Sh O H1) (Sh (fun b => O b ∨ b = p) H') := fun b o ⟨h1, h2⟩ => ⟨rd_mv (fun o e => L.up b o e) h1, fun z => z.elim h2 fun z => rd_ne h1 (n := hp) z⟩
          refine q _ p _ H' hq (g1.trans gr) ok2 (Grow.free g1 ok1 hp) L.lst (rpl_of (by rw [List.length_map, enumD_len]; omega) fun j v d hv hd => ?_)
          rw [List.getElem?_map] at hv
          cases et : acc[j]? with
          | none => rw [et] at hv; cases hv
          | some t =>
            rw [et] at hv
            cases hv
            obtain ⟨x, hx, ht⟩ := L.at_ j t et
            obtain ⟨n1, n2⟩ := L.new t (List.mem_of_getElem? et)
            obtain ⟨d', hd', rd'⟩ := rx.getV hx
            have e1 := enumD_get (s := 0) hd'
            rw [Nat.zero_add] at e1
            rw [e1] at hd
            cases hd
            exact .tup ⟨.inl ht, fun z => z.elim (W1.free n1) n2⟩ (.cons (.int _) (.cons (rd'.mono le) .nil))
    · exact h1.elim
end
end PL

/-! XP: a, b = x, y with a cell among the names. -/
namespace PL
open PySem PySem.Spec PyProof.Rows L2
section
variable {C : Wd → XC → Prop} {K : PySem.W.Frag} {ta tb : TE} {c1 c2 : Nat}
theorem ss_parA2 {i j : Nat} {mx my : XM} (h : SX C c1 ta mx) (h' : SX C c2 tb my) :
    SS C (c1 + c2) (tAsg (tTup (tCons ta (tCons tb tNil))) (gTup K 2 (gCons (gName i) (gCons (gName j) gNil)))) (sPar i j mx my) := fun G c n O env σ H P D hL F hm e =>
  h G c n O env σ H _ _ (by omega) F hm fun x1 v O1 H1 q g W l1 mo s nn f => by
    have F1 : Fr G (n + c1) O1 env σ H1 := ⟨W, F.len, fun k d e n => let ⟨u, h1, h2⟩ := F.sl k d e n; ⟨u, h1, h2.le g l1 mo⟩, F.uq⟩
    refine h' G c _ O1 env σ H1 _ _ (by omega) F1 q fun x2 u O2 H2 q2 g2 W2 l2 mo2 s2 n2 f2 => ?_
    have en : n + c1 + c2 = n + (c1 + c2) := by omega
    refine ⟨by show 2 ≤ sizeLine; decide, fun T hT => ⟨T, _, rfl, sqT (.inl upd_same), rfl, v, [u], rfl, u, [], rfl, rfl, ?_⟩⟩
    have F3 := (F.set (i := i) g W l1 mo s f).set (i := j) g2 W2 l2 mo2 s2 f2
    rw [en] at F3
    have gT : Grow G.w H2 (upd H2 T (.tup [v, u])) := Grow.new _ hT
    exact e.nx O2 _ _ _ (l1.trans (l2.trans (sh_grow F3.wl.zo gT))) (F3.grow gT (Wd.okNew hT F3.wl.ok)) q2
end
end PL

/-! XM: calls f(a, .., k = b, ..): some by position, the others by keywords in any sequence. -/
namespace PL
open PySem PySem.Spec PyProof.Rows L2
def gM {α : Type} (m : Nat) (ix : List Nat) (us ws : List α) : List α := if us.length = m then us ++ ix.filterMap fun i => ws[i]? else []
theorem gM_vals {vs : List V} {us : List Value} {zs : List V} {ws : List Value} (m : Nat) (ix : List Nat) (r : Vals vs us) (rz : Vals zs ws) : Vals (gM m ix vs zs) (gM m ix us ws) := by
  unfold gM
  by_cases h : us.length = m
  · rw [if_pos h, if_pos (by rw [r.length]; exact h)]
    exact r.append (gP_vals rz ix)
  · rw [if_neg h, if_neg (by rw [r.length]; exact h)]
    exact .nil
theorem gM_rp {A : At} {vs zs : List V} {ds es : List D} (m : Nat) (ix : List Nat) (r : RpL A vs ds) (rz : RpL A zs es) : RpL A (gM m ix vs zs) (gM m ix ds es) := by
  unfold gM
  by_cases h : ds.length = m
  · rw [if_pos h, if_pos (by rw [r.length]; exact h)]
    exact r.append (gP_rp rz ix)
  · rw [if_neg h, if_neg (by rw [r.length]; exact h)]
    exact .nil
structure PrM (P : Program) (w : World) (K : PySem.W.Frag) (mg : Str → Option Value) (base : Heap) (x : Str) (k : Nat) (ps : List Str) (m : Nat) (ks : List Str) (ix : List Nat) (sp : Sp) : Prop where
  ex : ∃ f fd, FnOk P w K mg base CX0 k f fd ps sp ∧ mg x = some (.ref f) ∧ PySem.W.keepIn K (.ref f) = true ∧ KBinds K fd ps ks (gM m ix) (gM m ix)
structure PrXM (P : Program) (w : World) (K : PySem.W.Frag) (mg : Str → Option Value) (base : Heap) (x : Str) (k : Nat) (ps : List Str) (m : Nat) (ks : List Str) (ix : List Nat) (sp : Sp) : Prop where
  ex : ∃ f fd, FnOk P w K mg base (L2.CX P w) k f fd ps sp ∧ mg x = some (.ref f) ∧ PySem.W.keepIn K (.ref f) = true ∧ KBinds K fd ps ks (gM m ix) (gM m ix)
theorem PrM.up {P : Program} {w : World} {K : PySem.W.Frag} {mg : Str → Option Value} {base : Heap} {x : Str} {j k m : Nat} {ps ks : List Str} {ix : List Nat} {sp : Sp} (h : PrM P w K mg base x j ps m ks ix sp) (hk : j ≤ k) : PrM P w K mg base x k ps m ks ix sp := by
  obtain ⟨f, fd, h1, h2, h3, h4⟩ := h.ex
  exact ⟨⟨f, fd, h1.mono hk, h2, h3, h4⟩⟩
theorem PrXM.up {P : Program} {w : World} {K : PySem.W.Frag} {mg : Str → Option Value} {base : Heap} {x : Str} {j k m : Nat} {ps ks : List Str} {ix : List Nat} {sp : Sp} (h : PrXM P w K mg base x j ps m ks ix sp) (hk : j ≤ k) : PrXM P w K mg base x k ps m ks ix sp := by
  obtain ⟨f, fd, h1, h2, h3, h4⟩ := h.ex
  exact ⟨⟨f, fd, h1.mono hk, h2, h3, h4⟩⟩
theorem kbM_mk {K : PySem.W.Frag} {x qual : Str} {st : Stmt} {f : Addr} {fd : FuncData} {ps ks : List Str} {m : Nat} {ix : List Nat} (F : Fun K x qual st f fd) (hps : ps ≠ [])
    (h : ∀ (kV doc pm : Value) (an : Option Addr) (cdv ct : Value) (us ws : List Value), us.length = m → (gM m ix us ws).length = ps.length → bindArgs (PySem.W.fnOf x qual (defArgs st) (defBody st) (defScope st) .none kV doc pm an cdv ct) ⟨us, ks.zip ws⟩ = pure (ps.zip (gM m ix us ws))) : KBinds K fd ps ks (gM m ix) (gM m ix) := by
  obtain ⟨oc, od, kV, doc, pm, an, cdv, ct, osl, rfl, lk, hcd⟩ := F.ex
  refine ⟨fun s us ws _ hl => ?_, fun {vs us zs ws} r rz => gM_vals m ix r rz⟩
  by_cases hu : us.length = m
  · exact .of_eq (h kV doc pm an cdv ct us ws hu hl)
  · unfold gM at hl
    rw [if_neg hu] at hl
    exact absurd (List.length_eq_zero_iff.mp hl.symm) hps
section
variable {X : Cx} {x : Str} {k m : Nat} {ps ks : List Str} {ix : List Nat} {sp : Sp} {p pos : Pos} {e : Expr} {es : List Expr} {kws : List Keyword} {t tk : TA} {E : XK}
theorem pe_callM (h : PrM X.prog X.w X.K X.mg X.base x k ps m ks ix sp) (hr : Room k X.A) (hg : Gl X x) (ha : PA X (e :: es) t) (hkw : PK X kws tk)
    (hall : (backToKw pos (keywordEach kws X.env)).all (·.1.isSome) = true := by rfl) (hks : (backToKw pos (keywordEach kws X.env)).filterMap (·.1) = ks := by rfl)
    (hdb : (x == ("__debug__" : Str)) = false := by decide) (he : starEach (e :: es) X.env = (false, eval e X.env) :: starEach es X.env := by rfl)
    (hpl : ((backTo pos (starEach (e :: es) X.env)).any (·.1) || (backToKw pos (keywordEach kws X.env)).any (·.1.isNone)) = false := by rfl) :
    PE X (.Call (.Name x p) (e :: es) kws pos) (tCallK sp (gM m ix) E0 t tk) := by
  obtain ⟨f, fd, h1, h2, h3, h4⟩ := h.ex
  exact pe_callK h1 hr hg h2 h3 h4 pass0 ha hkw hall hks hdb he hpl
theorem pe_callNM (h : PrXM X.prog X.w X.K X.mg X.base x k ps m ks ix sp) (hr : Room k X.A) (hg : Gl X x) (ha : PA X (e :: es) t) (hkw : PK X kws tk)
    (hall : (backToKw pos (keywordEach kws X.env)).all (·.1.isSome) = true := by rfl) (hks : (backToKw pos (keywordEach kws X.env)).filterMap (·.1) = ks := by rfl)
    (hdb : (x == ("__debug__" : Str)) = false := by decide) (he : starEach (e :: es) X.env = (false, eval e X.env) :: starEach es X.env := by rfl)
    (hpl : ((backTo pos (starEach (e :: es) X.env)).any (·.1) || (backToKw pos (keywordEach kws X.env)).any (·.1.isNone)) = false := by rfl) :
    PE X (.Call (.Name x p) (e :: es) kws pos) (tCallK sp (gM m ix) E0 t tk) := by
  obtain ⟨f, fd, h1, h2, h3, h4⟩ := h.ex
  exact pe_callK h1 hr hg h2 h3 h4 passL ha hkw hall hks hdb he hpl
theorem pe_callXM (h : PrXM X.prog X.w X.K X.mg X.base x k ps m ks ix sp) (hr : Room k X.A) (tkk : Takes X (fun cls d _ H => E cls d H)) (hg : Gl X x) (ha : PA X (e :: es) t) (hkw : PK X kws tk)
    (hall : (backToKw pos (keywordEach kws X.env)).all (·.1.isSome) = true := by rfl) (hks : (backToKw pos (keywordEach kws X.env)).filterMap (·.1) = ks := by rfl)
    (hdb : (x == ("__debug__" : Str)) = false := by decide) (he : starEach (e :: es) X.env = (false, eval e X.env) :: starEach es X.env := by rfl)
    (hpl : ((backTo pos (starEach (e :: es) X.env)).any (·.1) || (backToKw pos (keywordEach kws X.env)).any (·.1.isNone)) = false := by rfl) :
    PE X (.Call (.Name x p) (e :: es) kws pos) (tCallK sp (gM m ix) E t tk) := by
  obtain ⟨f, fd, h1, h2, h3, h4⟩ := h.ex
  exact pe_callK h1 hr hg h2 h3 h4 (passes_call tkk fun _ _ _ _ z => z) ha hkw hall hks hdb he hpl
end
section
variable {c1 c2 m : Nat} {ix : List Nat} {t tr : TA} {am ar : AM} {E : XK}
theorem se_callM {C : Wd → XC → Prop} {S : List D → (D → Prop) → Prop} (h : SA C c1 t am) (h' : SA C c2 tr ar) (hS : Mono S) : SE C (c1 + (c2 + 0)) (tCallK (spP CA 0 S) (gM m ix) E t tr) (fun env Q => am env fun ds => ar env fun es => S (gM m ix ds es) Q) :=
  se_callK (k := 0) (gM m ix) (fun A vs zs ds es r1 r2 => gM_rp m ix r1 r2) h h' hS fun _ _ _ => trivial
theorem se_callNM {C : Wd → XC → Prop} {S : XS} (h : SA C c1 t am) (h' : SA C c2 tr ar) (hS : MonoX S) : SE C (c1 + c2) (tCallK (spX CA 0 S) (gM m ix) E t tr) (fun env Q => am env fun ds => ar env fun es => S (gM m ix ds es) Q fun _ => False) := fun G g n O env σ H Qd Q hL F hm q =>
  h G g n O env σ H _ _ (by omega) F hm fun ds vs H1 h1 g1 ok1 r1 => h' G g _ O env σ H1 _ _ (by omega) (F.grow g1 ok1) h1 fun es zs H2 h2 g2 ok2 r2 =>
    have F2 := (F.grow g1 ok1).grow g2 ok2
    ⟨G.w, n + c1 + c2, O, _, trivial, by have := G.x.le; omega, ok2, F2.wl.zo, F2.wl.tr, gM_rp m ix (r1.mono (sh_grow F.wl.zo g2)) r2, hS _ _ _ _ _ (fun d hd v H' g' ok r => q d v H' hd (g1.trans (g2.trans g')) (ok_le (by omega) (ok_as ok)) r) (fun e he => he.elim) h2⟩
theorem se_callXM {C0 : Wd → Prop} {S : XS} {Er : XK} {X0 : Exn → Prop} (h : SA (exC C0 Er X0) c1 t am) (h' : SA (exC C0 Er X0) c2 tr ar) (hS : MonoX S) : SE (exC C0 Er X0) (c1 + c2) (tCallK (spX CA 0 S) (gM m ix) Er t tr) (fun env Q => am env fun ds => ar env fun es => S (gM m ix ds es) Q X0) := fun G g n O env σ H Qd Q hL F hm q =>
  h G g n O env σ H _ _ (by omega) F hm fun ds vs H1 h1 g1 ok1 r1 => h' G g _ O env σ H1 _ _ (by omega) (F.grow g1 ok1) h1 fun es zs H2 h2 g2 ok2 r2 => by
    have F2 := (F.grow g1 ok1).grow g2 ok2
    refine ⟨G.w, n + c1 + c2, O, _, trivial, by have := G.x.le; omega, ok2, F2.wl.zo, F2.wl.tr, gM_rp m ix (r1.mono (sh_grow F.wl.zo g2)) r2, hS _ _ _ _ _ (fun d hd v H' g' ok r => q d v H' hd (g1.trans (g2.trans g')) (by rw [← Nat.add_assoc]; exact ok_as ok) r) (fun e he cv dd H' g' ok a => ?_) h2⟩
    obtain ⟨_, eE, eX⟩ := g
    rw [← eE]
    exact go_out (by omega) (F2.wl.grow g' ok) a (by rw [eX]; exact he)
end
end PL

/-! XV: calls of a local that holds one of several defs. -/
namespace PL
open PySem PySem.Spec PyProof.Rows L2
structure HeldX (P : Program) (w : World) (K : PySem.W.Frag) (mg : Str → Option Value) (base : Heap) (k : Nat) (f : Addr) (sp : Sp) : Prop where
  ex : ∃ (fd : FuncData) (ps : List Str), FnOk P w K mg base (L2.CX P w) k f fd ps sp ∧ PySem.W.keepIn K (.ref f) = true ∧ Binds K fd ps []
theorem PrX.held {P : Program} {w : World} {K : PySem.W.Frag} {mg : Str → Option Value} {base : Heap} {x : Str} {k : Nat} {ps : List Str} {sp : Sp} (h : PrX P w K mg base x k ps sp) : HeldX P w K mg base k (er mg x) sp ∧ mg x = some (.ref (er mg x)) := by
  obtain ⟨f, fd, h1, h2, h3, h4, _⟩ := h.ex
  have e : er mg x = f := by unfold er; rw [h2]
  rw [e]
  exact ⟨⟨⟨fd, ps, h1, h3, h4⟩⟩, h2⟩
def tCallV (i : Nat) (L : List (Addr × Sp)) (E : XK) (t : TA) : TE := fun σ H Q => ∃ f sp, σ[i]? = some (some (.ref f)) ∧ (f, sp) ∈ L ∧ t σ H fun vs H1 => sp vs H1 Q E
section
variable {X : Cx} {k i : Nat} {E : XK} {x : Str} {p pos : Pos} {e : Expr} {es : List Expr} {t : TA} {L : List (Addr × Sp)}
theorem pe_callV (A : ∀ q ∈ L, HeldX X.prog X.w X.K X.mg X.base k q.1 q.2) (hr : Room k X.A) (tk : Takes X (fun cls d _ H => E cls d H)) (hN : X.N[i]? = some x) (hv : Vis X.env.scope x) (ha : PA X (e :: es) t)
    (hdb : (x == ("__debug__" : Str)) = false := by decide) (hcd : (x == ("__classdict__" : Str)) = false := by decide)
    (he : starEach (e :: es) X.env = (false, eval e X.env) :: starEach es X.env := by rfl) (hpl : (backTo pos (starEach es X.env)).any (·.1) = false := by rfl) : PE X (.Call (.Name x p) (e :: es) [] pos) (tCallV i L E t) := by
  refine ⟨fun pins s σ H Q I h => ?_⟩
  obtain ⟨f, sp, hs, hS, ht⟩ := h
  obtain ⟨fd, ps, F, hk, hb⟩ := (A (f, sp) hS).ex
  refine (pe_callL (i := i) (f := f) (sp := sp) (dvs := []) (E := E) F hr hN hv hk hb .nil (passes_call tk fun _ _ _ _ z => z) ha hdb hcd he hpl).run pins s σ H Q I ⟨hs, ?_⟩
  have e0 : (fun (vs : List V) (H1 : Hp) => sp (vs ++ []) H1 Q E) = fun vs H1 => sp vs H1 Q E := by
    funext vs H1
    rw [List.append_nil]
  show t σ H (fun vs H1 => sp (vs ++ []) H1 Q E)
  rw [e0]
  exact ht
end
/-- what is asked where slot i holds one of the defs of L -/
def mCallV (i : Nat) (L : List (Addr × XS)) (a : AM) (X0 : Exn → Prop) : EM := fun env Q => ∃ q ∈ L, env[i]? = some (.dat (.opq (.ref q.1))) ∧ a env fun ds => q.2 ds Q X0
section
variable {C0 : Wd → Prop} {ta : TA} {am : AM} {c i : Nat} {Er : XK} {X0 : Exn → Prop} {L : List (Addr × XS)}
theorem se_callV (h : SA (exC C0 Er X0) c ta am) (hS : ∀ q ∈ L, MonoX q.2) : SE (exC C0 Er X0) c (tCallV i (L.map fun q => (q.1, spX CA 0 q.2)) Er ta) (mCallV i L am X0) := fun G g n O env σ H Qd Q hL F ⟨q, hq, hi, hm⟩ k => by
  obtain ⟨v, hv, sl⟩ := F.sl i _ hi (by intro z; cases z)
  cases sl with
  | dat r =>
    cases r
    have h2 : tCall (spX CA 0 q.2) [] Er ta σ H Q := se_callXA h (hS q hq) G g n O env σ H Qd Q hL F hm k
    have e0 : (fun (vs : List V) (H1 : Hp) => spX CA 0 q.2 (vs ++ []) H1 Q Er) = fun vs H1 => spX CA 0 q.2 vs H1 Q Er := by
      funext vs H1
      rw [List.append_nil]
    have h3 : ta σ H fun vs H1 => spX CA 0 q.2 (vs ++ []) H1 Q Er := h2
    rw [e0] at h3
    exact ⟨q.1, _, hv, List.mem_map.mpr ⟨q, hq, rfl⟩, h3⟩
end
end PL

/-! XO: == of any data with a text. -/
namespace PL
open PySem PySem.Spec PySem.Calls PyProof.Rows L2 PySem.SeqAt
section
variable {A : Around} {s : Shared}
theorem str_eq_declines_obj (b : Str) (u : Tok) (l : Addr) (o : Obj) (es : Array DictEntry) (ep : Nat) (hc : o.cls = .type "dict") (hd : o.data = .dict es ep) :
    Meets (Builtin.«str.__eq__» ⟨[.str b u, .ref l], []⟩) (fun _ R s => s.heap.get? l = some o ∧ R (.ok (.ret .notImplemented)) s) := by
  obtain ⟨cls, dd, data, sl⟩ := o
  simp only at hc hd
  subst hc hd
  exact .of_wp fun prog w A R s h => by obtain ⟨hp, g, d, tk, os⟩ := s; obtain ⟨hl, h⟩ := h; wp_walk using wpAny_loadPart' hl, wpAny_load hl; exact ⟨_, rfl, h⟩
theorem rc_dict_str {l : Addr} {o : Obj} (b : Str) (u : Tok) (hl : s.heap.get? l = some o) (hc : o.cls = .type "dict") {es : Array DictEntry} {ep : Nat} (hd : o.data = .dict es ep) (hu : A.units < cLine) : RcAt A s (.ref l) (.str b u) false := fun prog w E Q h => by
  have ty : s.TypeIs (.ref l) "dict" := ⟨o, hl, hc⟩
  refine rc_eq_decline_or (k := false) ty (typeIs_str s b u) (by decide) F.sub_str_dict F.slot_dict_eq F.slot_str_eq_refl
    (fun Q' hq => wpAny_call_entry F.slot_dict_eq ty F.entry_dict_eq ?_ (F.args_dict_eq_2 _ _))
    (fun _ hq => call_meets F.slot_str_eq_refl (typeIs_str s b u) F.entry_str_eq (F.args_str_eq_2 _ _) (str_eq_declines_obj b u l o es ep hc hd) ⟨hl, hq⟩)
    (fun _ hq => wpAny_of_eq (rfl : isSame (.ref l) (.str b u) = pure false) hq) (.inr hu) h
  show wpAny _ _ (Builtin.Dict.dictSlotArgs "__eq__" ⟨[.ref l, .str b u], []⟩ >>= _) _ _ s
  refine wpAny_bind ?_
  unfold Builtin.Dict.dictSlotArgs
  refine wpAny_bind (wpAny_notOrdered_dict ty ?_)
  show wpAny _ _ (pure (Value.ref l, Value.str b u)) _ _ s
  refine wpAny_pure ?_
  refine wpAny_bind (wpAny_isInstance (T := "str") (typeIs_str s b u) F.sub_str_dict ?_)
  simp only [Bool.not_false, if_true]
  exact wpAny_bind (wpAny_rule (wpAny_of_eq (rfl : ret Value.notImplemented = pure _) ⟨_, rfl, hq⟩))
end
/-- x == y, y a text, x whatever -/
def rEqT (K : PySem.W.Frag) : R2 := fun x y H Q => ∃ t b, y = .str t ∧ Q (.bl b) H ∧ ((scal x y = true ∧ b = decide (x = .str t)) ∨ b = false ∧ ∃ a, x = .ref a ∧ ((∃ xs, SqL K H a xs) ∨ (∃ xs, SqT K H a xs) ∨ ∃ ks, Rd H a (.dK ks)))
theorem op_eqT {X : Cx} (hu : X.A.units + 64 < cLine) : OpR X (compareOp .Eq) (rEqT X.K) := by
  intro pins s σ H x y v u Q I rx ry h
  obtain ⟨t, b, rfl, q, h⟩ := h
  rcases h with ⟨hs, rfl⟩ | ⟨rfl, a, rfl, h⟩
  · exact op_eq pins s σ H x (.str t) v u Q I rx ry ⟨hs, q⟩
  · obtain rfl : v = Value.ref a := rx
    obtain ⟨tk, rfl⟩ : ∃ tk, u = Value.str t tk := ry
    have hu' : X.A.units < cLine := by omega
    rcases h with ⟨xs, h⟩ | ⟨xs, h⟩ | ⟨ks, h⟩
    · obtain ⟨its, _, hl, _⟩ := I.list h
      exact RcAt.list_str t tk hl.isList hu' _ _ _ _ ⟨.bl _, H, I, rfl, q⟩
    · obtain ⟨its, _, hl, _⟩ := I.tuple h
      exact RcAt.tuple_str t tk (show s.heap.IsTuple a its.toArray from hl) hu' _ _ _ _ ⟨.bl _, H, I, rfl, q⟩
    · obtain ⟨_, ya, va, ra, o, es, ep, ho, hc, hd, _⟩ := h.ok I.hok
      exact rc_dict_str t tk ho hc.1 hd hu' _ _ _ _ ⟨.bl _, H, I, rfl, q⟩
def D.eqs (t : Str) : D → Bool
  | .str s => decide (s = t)
  | _ => false
/-- what can be held against a text -/
def kEqT (p : Bool → Bool) : D → D → (D → Prop) → Prop := fun x y Q => ∃ t, y = .str t ∧ x.ty ≠ none ∧ Q (.bl (p (x.eqs t)))
theorem k2_eqT {C : Wd → XC → Prop} {K : PySem.W.Frag} : K2 C (rEqT K) (kEqT id) := fun G _ n O H x y d e Qd Q W rx ry ⟨t, ey, ht, hq⟩ q => by
  subst ey
  have ys : y = .str t := by
    cases ry with
    | dat r => cases r; rfl
  have fin := q _ _ H hq (Grow.refl _ _) W.ok (.bl _)
  refine ⟨t, d.eqs t, ys, fin, ?_⟩
  cases rx with
  | own e1 z r => exact .inr ⟨rfl, _, rfl, .inl ⟨_, sqL e1⟩⟩
  | owd e1 z r => exact .inr ⟨rfl, _, rfl, .inr (.inr ⟨_, .inl e1⟩)⟩
  | dat r =>
    cases r with
    | non => exact .inl ⟨by rw [ys]; rfl, (decide_eq_false (fun z => nomatch z)).symm⟩
    | bl b => exact .inl ⟨by rw [ys]; rfl, (decide_eq_false (fun z => nomatch z)).symm⟩
    | int b => exact .inl ⟨by rw [ys]; rfl, (decide_eq_false (fun z => nomatch z)).symm⟩
    | str b => exact .inl ⟨by rw [ys]; rfl, decide_eq_decide.mpr ⟨fun z => by cases z; rfl, fun z => by cases z; rfl⟩⟩
    | tup e r => exact .inr ⟨rfl, _, rfl, .inr (.inl ⟨_, sqT (rk_tup e.1)⟩)⟩
    | lst e r => exact .inr ⟨rfl, _, rfl, .inl ⟨_, sqL (rk_lst e.1)⟩⟩
    | dic e r => exact .inr ⟨rfl, _, rfl, .inr (.inr ⟨_, rk_rd e.1⟩)⟩
    | ftp e dn r =>
      have r' : Rp (Sh O H) _ (.tup _) := Rp.wk (.ftp e dn r)
      cases r' with
      | tup e2 r2 => exact .inr ⟨rfl, _, rfl, .inr (.inl ⟨_, sqT (rk_tup e2.1)⟩)⟩
    | opq v => exact absurd rfl ht
    | exc0 e => exact absurd rfl ht
    | exc1 e dd l r => exact absurd rfl ht
    | lam e u => exact absurd rfl ht
    | ins e l r => exact absurd rfl ht
    | dit e r => exact absurd rfl ht
/-- x == (), x a tuple -/
def rEqU (K : PySem.W.Frag) : R2 := fun x y H Q => ∃ a b xs, x = .ref a ∧ y = .ref b ∧ SqT K H a xs ∧ SqT K H b [] ∧ Q (.bl xs.isEmpty) H
theorem op_eqU {X : Cx} (hu : X.A.units + 64 < cLine) : OpR X (compareOp .Eq) (rEqU X.K) := by
  intro pins s σ H x y v u Q I rx ry h
  obtain ⟨a, b, xs, rfl, rfl, h1, h2, q⟩ := h
  obtain rfl : v = Value.ref a := rx
  obtain rfl : u = Value.ref b := ry
  obtain ⟨its, rv, hl, _⟩ := I.tuple h1
  obtain ⟨its2, rv2, hl2, _⟩ := I.tuple h2
  have e2 : its2 = [] := by cases rv2; rfl
  subst e2
  refine eq_tupleAt (e := fun _ => true) (show s.heap.IsTuple a its.toArray from hl) (show s.heap.IsTuple b #[] from hl2) (by omega) (fun j _ h => absurd h (Nat.not_lt_zero j)) ⟨.bl _, H, I, rfl, ?_⟩
  have hx : xs.length = its.length := rv.length
  have e3 : ((List.range (min its.toArray.size (#[] : Array Value).size)).all (fun _ => true) && its.toArray.size == (#[] : Array Value).size) = xs.isEmpty := by
    cases xs with
    | nil =>
      cases its with
      | nil => rfl
      | cons i r => cases hx
    | cons x r =>
      cases its with
      | nil => cases hx
      | cons i r => simp
  rw [e3]
  exact q
def kEqU (p : Bool → Bool) : D → D → (D → Prop) → Prop := fun x y Q => ∃ l, x = .tup l ∧ y = .tup [] ∧ Q (.bl (p l.isEmpty))
theorem k2_eqU {C : Wd → XC → Prop} {K : PySem.W.Frag} : K2 C (rEqU K) (kEqU id) := fun G _ n O H x y d e Qd Q W rx ry ⟨l, e1, e2, hq⟩ q => by
  subst e1
  subst e2
  have fin := q _ _ H hq (Grow.refl _ _) W.ok (.bl _)
  cases rx with
  | dat r =>
    cases r with
    | tup ea ra =>
      cases ry with
      | dat r2 =>
        cases r2 with
        | tup eb rb =>
          cases rb
          refine ⟨_, _, _, rfl, rfl, sqT (rk_tup ea.1), sqT (rk_tup eb.1), ?_⟩
          cases ra with
          | nil => exact fin
          | cons a r => exact fin
end PL

/-! XD: lambdas kept as values. -/
namespace PL
open PySem PySem.Spec PyProof.Rows L2 LamX
/-- the lambda's object at f, its code object at c -/
def LamP (q : Str) (pa : Arguments) (body : Expr) (sc : Scope) (clo : List (Str × Addr)) (f c : Addr) (h : Heap) : Prop := ∃ pm ctv : Value, h.get? f = some (PySem.W.kla_obj "<lambda>" q pa body sc clo pm c ctv)
/-- a code object at c of the name q -/
def CodP (q : Str) (c : Addr) (h : Heap) : Prop := ∃ (oc : Obj) (vs : Array Value) (t : Tok), h.get? c = some oc ∧ oc.data = .fields vs ∧ vs[1]? = some (.str q t)
theorem codP_eq (c : Addr) (q : Str) : CodeO c q = .ext (CodP q c) := rfl
section
variable {X : Cx} {pins : List (Addr × Obj)} {σ : L2.St} {H : Hp} {s : Shared}
theorem lam_track {T : List (Addr × Str)} {c P : Addr} {pa : Arguments} {body : Expr} {sc : Scope} {pos : Pos} {E Q : Value → Shared → Prop} (I : Inv X pins σ H s) (TB : TabB X.base X.mg c P) (hcode : X.env.code = .ref c) (hm : (P, X.env.qual ++ "<lambda>") ∈ T)
    (hu : ∀ p ∈ T, p.1 = P → p.2 = X.env.qual ++ "<lambda>") (hT : Tabs T H) (hdef : defaultsOf pa X.env = ([], [])) (hfree : ∀ y ∈ sc.names, y.2 = .free → ∃ c, X.env.cells.lookup y.1 = some c)
    (h : ∀ (f c' : Addr) (H1 : Hp) (s' : Shared), ExtP P H H1 → Tabs T H1 → H1 f = none → H1 c' = some (CodeO c' (X.env.qual ++ "<lambda>")) → Inv X pins σ (upd H1 f (.ext (LamP (X.env.qual ++ "<lambda>") pa body sc (cloFrom X.env.cells sc.names []) f c'))) s' → Q (.ref f) s') : wpAny (model X.prog X.w) X.A (eval (.Lambda pa body sc pos) X.env) Q E s := by
  obtain ⟨ps, hP, ht, ha⟩ := hT _ hm
  apply PySem.W.kla_eval hdef
  have hP2 : s.heap.get? P = some { cls := .none, data := .fields ps } := I.hok P _ hP
  have nofr : ∀ {f}, s.heap.objs.size ≤ f → f ∉ frs X.stack := fun {f} hf z => (List.mem_cons.mp (I.stkSub _ z)).elim (fun e => Nat.lt_irrefl _ (Nat.lt_of_lt_of_le (e ▸ I.lt) hf)) (I.nofs hf)
  generalize hw : codeAmong pos ps.toList = found
  cases found with
  | none =>
    refine PySem.W.kla_makeFunction (mg := X.mg) (c := c) (P := P) (ps := ps) (closure_ok hfree) I.ok.glob (I.mod.glob.keeps I.bk) hcode (TB.code.keeps I.bk) hP2 ht hw TB.gP (TB.bm.keeps I.bk) fun c' ctv h' tk hx hge hlt hrec htb => ?_
    obtain ⟨_, oc, vs, t, e2, hoc, hd, hv⟩ := hrec
    cases e2
    have hsz := Nat.le_trans hge (Nat.le_of_lt hlt)
    have nC : H c' = none := I.hok.fresh hge
    have nPC := ne_of_none hP nC
    generalize hmore : ps ++ #[rawInt pos.line, rawInt pos.col, .ref c'] = ps2 at htb
    have eL : ps2.toList = ps.toList ++ [rawInt pos.line, rawInt pos.col, .ref c'] := by rw [← hmore]; simp
    generalize hob : PySem.W.kla_obj "<lambda>" (X.env.qual ++ "<lambda>") pa body sc (cloFrom X.env.cells sc.names []) ((X.mg "__name__").getD .none) c' ctv = ob
    have I0 := inv_table (t' := tk) (h' := h') I hP (fun b o hb e => hx b o hb e) (by rw [hmore]; exact htb) hge ⟨oc, vs, t, hoc, hd, hv⟩
    rw [hmore] at I0
    have hE : ExtP P H (upd (upd H P (.tbl ps2)) c' (CodeO c' (X.env.qual ++ "<lambda>"))) := fun b o e n => by rw [upd_ne (ne_of_none e nC), upd_ne n]; exact e
    have nco : ∀ {b q}, H b = some (CodeO b q) → b ≠ P := fun {b q} e z => by
      rw [z, hP] at e
      exact codeO_ne ps (Option.some.inj e).symm
    have hob2 : (h'.push ob).get? h'.objs.size = some ob := Heap.get?_push_size _ (by rw [← hob]; rfl)
    have I1 := I0.laid (t' := tk) (h' := h'.push ob) (o := .ext (LamP (X.env.qual ++ "<lambda>") pa body sc (cloFrom X.env.cells sc.names []) h'.objs.size c')) (fun b u e => Heap.get?_push_of_some _ e) (Nat.le_refl _) ⟨⟨_, ctv, by rw [hob2, ← hob]⟩, ⟨_, hob2⟩, fun h1 h2 ⟨pm, cv, e⟩ k => ⟨pm, cv, k _ e⟩⟩
    refine h h'.objs.size c' _ _ hE (fun p hp => ?_) ?_ upd_same I1
    · by_cases hb : p.1 = P
      · refine ⟨ps2, by rw [hb, upd_ne nPC, upd_same], by rw [eL]; exact PySem.TriplesOk_snoc _ _ _ _ ht, fun p' cv hcv => ?_⟩
        rw [hu p hp hb]
        rcases among_app _ ht (eL ▸ hcv) with z | z
        · obtain ⟨c0, e1, e2⟩ := ha p' cv z
          exact ⟨c0, e1, hE _ _ e2 (nco e2)⟩
        · exact ⟨c', z, upd_same⟩
      · obtain ⟨qs, a1, a2, a3⟩ := hT p hp
        exact ⟨qs, hE _ _ a1 hb, a2, fun p' cv hcv => let ⟨c0, e1, e2⟩ := a3 p' cv hcv; ⟨c0, e1, hE _ _ e2 (nco e2)⟩⟩
    · rw [upd_ne (Nat.ne_of_gt hlt), upd_ne (Nat.ne_of_gt (Nat.lt_of_lt_of_le (Heap.lt_size hP2) hsz))]
      exact I.hok.fresh hsz
  | some cv =>
    obtain ⟨c', rfl, hco⟩ := ha pos cv hw
    refine PySem.W.kla_makeFunctionHit (mg := X.mg) (c := c) (P := P) (ps := ps) (closure_ok hfree) I.ok.glob (I.mod.glob.keeps I.bk) hcode (TB.code.keeps I.bk) hP2 ht hw (TB.bm.keeps I.bk) fun ctv h' tk hx hsz => ?_
    have hob2 : (h'.push (PySem.W.kla_obj "<lambda>" (X.env.qual ++ "<lambda>") pa body sc (cloFrom X.env.cells sc.names []) ((X.mg "__name__").getD .none) c' ctv)).get? h'.objs.size = some (PySem.W.kla_obj "<lambda>" (X.env.qual ++ "<lambda>") pa body sc (cloFrom X.env.cells sc.names []) ((X.mg "__name__").getD .none) c' ctv) := Heap.get?_push_size _ rfl
    have I1 := I.laid (t' := tk) (h' := h'.push (PySem.W.kla_obj "<lambda>" (X.env.qual ++ "<lambda>") pa body sc (cloFrom X.env.cells sc.names []) ((X.mg "__name__").getD .none) c' ctv)) (o := .ext (LamP (X.env.qual ++ "<lambda>") pa body sc (cloFrom X.env.cells sc.names []) h'.objs.size c')) (fun b u e => Heap.get?_push_of_some _ (hx b u e)) hsz ⟨⟨_, ctv, hob2⟩, ⟨_, hob2⟩, fun h1 h2 ⟨pm, cv, e⟩ k => ⟨pm, cv, k _ e⟩⟩
    exact h h'.objs.size c' H _ (fun _ _ e _ => e) hT (I.hok.fresh hsz) hco I1

/-- lambda: .. -/
def tLamV (P : Addr) (T : List (Addr × Str)) (F : Addr → Addr → Heap → Prop) (q : Str) : TE := fun σ H Q => Tabs T H ∧ ∀ (f c : Addr) (H1 : Hp), ExtP P H H1 → Tabs T H1 → H1 f = none → H1 c = some (CodeO c q) → Q (.ref f) (upd H1 f (.ext (F f c)))
theorem pe_lamV {T : List (Addr × Str)} {c P : Addr} {pa : Arguments} {sc : Scope} {body : Expr} {lp : Pos} (TB : TabB X.base X.mg c P) (hcode : X.env.code = .ref c)
    (hmT : (P, X.env.qual ++ "<lambda>") ∈ T) (hu : ∀ p ∈ T, p.1 = P → p.2 = X.env.qual ++ "<lambda>") (L : LamS X.env.scope sc) (hdef : defaultsOf pa X.env = ([], [])) :
    PE X (.Lambda pa body sc lp) (tLamV P T (LamP (X.env.qual ++ "<lambda>") pa body sc (cloFrom X.env.cells sc.names [])) (X.env.qual ++ "<lambda>")) := by
  constructor
  intro pins s σ H Q I ⟨hT, h⟩
  exact lam_track I TB hcode hmT hu hT hdef (L.has I.ok) fun f c' H1 s' eN T1 hfn hco I1 => ⟨.ref f, _, I1, rfl, h f c' H1 eN T1 hfn hco⟩
end
theorem se_lamV {C : Wd → XC → Prop} {P : Addr} {T : List (Addr × Str)} {F : Addr → Addr → Heap → Prop} {q : Str} (hW : ∀ w x, C w x → TbW P T w) : SE C 0 (tLamV P T F q) (mC (.lam F (CodP q))) := fun G g n O env σ H Qd Q hL Fr hm k => by
  have B := hW _ _ g
  refine ⟨B.t n H Fr.wl.ok, fun f c H1 ex T1 hf hc => ?_⟩
  have gr : Grow G.w H H1 := fun b o e z => ex b o e fun y => z (y ▸ B.z)
  have ok1 := B.x n H H1 Fr.wl.ok ex T1
  have W1 := Fr.wl.grow gr ok1
  have ncf : c ≠ f := fun z => by rw [z, hf] at hc; cases hc
  exact k _ _ _ hm (gr.trans (Grow.new _ hf)) (Wd.okNew hf ok1) (.lam ⟨.inl upd_same, W1.free hf⟩ ⟨.inl (by rw [upd_ne ncf]; exact hc), W1.nox hc⟩)
end PL

/-! XD2: f(x), x a lambda that was kept, f the def that catches. -/
namespace PL
open PySem PySem.Spec PyProof.Rows L2 LamX
/-- what is known of a lambda of this def: its body's reading -/
structure LamI (X : Cx) (k : Nat) (F : Addr → Addr → Heap → Prop) (t : XK → TE) : Prop where
  ex : ∃ (pa : Arguments) (body : Expr) (sc : Scope), F = LamP (X.env.qual ++ "<lambda>") pa body sc (cloFrom X.env.cells sc.names []) ∧ LamS X.env.scope sc ∧
    (∀ (q : Str) (cl : List (Str × Addr)) (pm cv ctv : Value), bindArgs (PySem.W.kla_fn "<lambda>" q pa body sc cl pm cv ctv) ⟨[], []⟩ = pure []) ∧
    (∀ (A : Around) (outer : List Env) (s : Shared) (H : Hp) (E : XK) (f c' : Addr), Room k (A.deeper (lamEnv X sc s.heap.objs.size f c')) → PE (lamCx X A outer s H E sc f c') body (t E))
section
variable {X : Cx} {pins : List (Addr × Obj)} {σ : L2.St} {H HZ : Hp} {s s1 : Shared}
/-- x(), in the def that got the lambda, told of as lasting -/
theorem pe_actV {CXg : CXT} {Eg : XK} {Ng : List Str} {qg : Str} {sg : Scope} {g f c' : Addr} {cdg : Value} {params : Arguments} {body : Expr} {scope : Scope} {k i : Nat} {a : Str} {pn : List (Addr × Obj)} {xe : Value → Shared → Prop} {W : WX} {E : XK} {tb : TE} {p1 p2 : Pos}
    (I : Inv X pins σ H s) (L : LamS X.env.scope scope) (hbind : ∀ pm ctv : Value, bindArgs (PySem.W.kla_fn "<lambda>" (X.env.qual ++ "<lambda>") params body scope (cloFrom X.env.cells scope.names []) pm (.ref c') ctv) ⟨[], []⟩ = pure [])
    (tk : Takes ((cxOf CXg X.prog X.w X.K X.mg X.base Ng qg sg g cdg X.A X.stack s H Eg).tr pn xe) W) (hW : ∀ cls d σ' H', E cls d H' → W cls d σ' H') (hr : Room (k + 1) (X.A.deeper (envOfC qg sg s.heap.objs.size g cdg)))
    (hbody : ∀ (A : Around) (outer : List Env) (s : Shared) (H : Hp), Room k (A.deeper (lamEnv X scope s.heap.objs.size f c')) → PE (lamCx X A outer s H E scope f c') body tb)
    (hN : Ng[i]? = some a) (hv : Vis sg a) (hd : (a == ("__debug__" : Str)) = false := by decide) (hcd : (a == ("__classdict__" : Str)) = false := by decide) :
    PE ((cxOf CXg X.prog X.w X.K X.mg X.base Ng qg sg g cdg X.A X.stack s H Eg).tr pn xe) (.Call (.Name a p1) [] [] p2)
      (fun σZ HZ Q => σZ[i]? = some (some (.ref f)) ∧ HZ c' = some (CodeO c' (X.env.qual ++ "<lambda>")) ∧ (HZ f = some (.ext (LamP (X.env.qual ++ "<lambda>") params body scope (cloFrom X.env.cells scope.names []) f c')) ∧ tb σ HZ Q)) := by
  refine ⟨fun pinsZ sZ σZ HZ Q IZ ⟨hs, hc, hf, ht⟩ => ?_⟩
  refine wpAny_Call_Name_kw (thn ((pe_var (pos := p1) (i := i) hN hv hd hcd).run pinsZ sZ σZ HZ (fun v H1 => v = .ref f ∧ H1 = HZ) IZ ⟨.ref f, hs, rfl, rfl⟩) fun u s1 ⟨v, H1, I1, r1, ev, eH⟩ => ?_)
  subst ev
  rw [eH] at I1
  obtain rfl : u = Value.ref f := r1
  obtain ⟨⟨pm, ctv, of1⟩, _, _⟩ := I1.hok f _ hf
  refine PySem.W.callWith_F0 ⟨_, _, _, _, of1⟩ ?_
  have un : Un (frs X.stack) [] H HZ s.heap s1.heap := I1.base
  obtain ⟨⟨oc, vs, t, hoc, hdc, hvc⟩, _, _⟩ := I1.hok c' _ hc
  have rc : codeAny (model X.prog X.w) (X.A.deeper (envOfC qg sg s.heap.objs.size g cdg)) (.call (.ref f) ⟨[], []⟩) (CR (L2.CX X.prog X.w) (envOfC qg sg s.heap.objs.size g cdg :: X.stack) X.prog X.w HZ s1 Q E) s1 := by
    refine PySem.W.kla_callFunE hr.depth of1 rfl L.co L.gen rfl ⟨c', oc, vs, t, rfl, hoc, hdc, hvc⟩ ?_
    rw [hbind]
    refine wpAny_pure (wpAny_newFunctionEnv (fun y hy => (L.own y hy).2) (fun y hy => absurd hy (by simp)) (fun h₁ hns hsb => ⟨I1.nolimit.fresh _ hsb, ?_⟩) L.kind)
    have kp : ∀ b o, s1.heap.get? b = some o → h₁.get? b = some o := fun b o e => hsb.extBut b o (Nat.ne_of_lt (Heap.lt_size e)) (Heap.get?_push_of_some _ e)
    have J : Inv (lamCx X (X.A.deeper (envOfC qg sg s.heap.objs.size g cdg)) (envOfC qg sg s.heap.objs.size g cdg :: X.stack) s1 HZ E scope f c') [] σ HZ { s1 with heap := h₁, toks := s1.toks + ([] : List (Str × Value)).length } :=
      lam_start2 I L I1.env0 hr.hd un hns kp
    refine PySem.W.kla_codeExpr (wpAny_mono ((hbody _ _ s1 HZ (hr.deeper _)).run [] _ _ HZ Q J ht) (fun v s' ⟨w', H', J', rv, q⟩ => ⟨w', H', J'.os, J'.bare, J'.base, J'.hok, rv, q⟩) fun e s' hq => hq)
  have hx : Passes (L2.CX X.prog X.w) ((cxOf CXg X.prog X.w X.K X.mg X.base Ng qg sg g cdg X.A X.stack s H Eg).tr pn xe) E := passes_call tk hW
  refine wpAny_call (codeAny_mono rc fun r s' hq => ?_)
  cases r with
  | error e => exact hx pinsZ σZ HZ s1 e s' I1 hq
  | ok fl =>
    cases fl with
    | ret u => exact I1.after hq
    | next => exact False.elim hq
    | brk => exact False.elim hq
    | cont => exact False.elim hq
/-- f(e), e one of some lambdas of this def -/
def tLamC (q : Str) (L : List ((Addr → Addr → Heap → Prop) × (XK → TE))) (TT : (XK → Hp → VK → Prop) → Hp → VK → Prop) (ta : TA) : TE := fun σ H Q => ta σ H fun vs H1 => ∃ (f c' : Addr), ∃ p ∈ L, vs = [.ref f] ∧ H1 f = some (.ext (p.1 f c')) ∧ H1 c' = some (CodeO c' q) ∧ TT (fun E H' Q' => H' f = some (.ext (p.1 f c')) ∧ p.2 E σ H' Q') H1 Q
theorem pe_lamC {L : List ((Addr → Addr → Heap → Prop) × (XK → TE))} {TT : (XK → Hp → VK → Prop) → Hp → VK → Prop} {x a : Str} {g : Addr} {k : Nat} {pg : Arguments} {bg : List Stmt} {sg : Scope} {dV kV doc pm cdv ct oc : Value} {an od : Option Addr} {osl : Array (Option Value)} {Ng : List Str} {e : Expr} {ta : TA} {p pos : Pos}
    (hg : Gl X x) (hm : X.mg x = some (.ref g)) (hk : PySem.W.keepIn X.K (.ref g) = true) (lk : X.K.lookup g = some ⟨oc, od, .func (PySem.W.fnOf x x pg bg sg dV kV doc pm an cdv ct), osl⟩) (hcg : PySem.W.codeIn X.K cdv x = true)
    (hb : L2.Binds X.K (PySem.W.fnOf x x pg bg sg dV kV doc pm an cdv ct) [a] []) (Sg : FnScope Ng [a] sg) (hNg : Ng[0]? = some a) (hva : Vis sg a) (hG : GivesTo X Ng x sg g cdv bg a (X.env.qual ++ "<lambda>") TT)
    (hr : Room (k + 2) X.A) (hL : ∀ q ∈ L, LamI X k q.1 q.2) (ha : PA X [e] ta) (he : starEach [e] X.env = (false, eval e X.env) :: starEach [] X.env := by rfl) (hpl : (backTo pos (starEach [] X.env)).any (·.1) = false := by rfl)
    (hdb : (x == ("__debug__" : Str)) = false := by decide) (hd : (a == ("__debug__" : Str)) = false := by decide) (hcd : (a == ("__classdict__" : Str)) = false := by decide) : PE X (.Call (.Name x p) [e] [] pos) (tLamC (X.env.qual ++ "<lambda>") L TT ta) := by
  constructor
  intro pins s σ H Q I h
  apply wpAny_Call_Name_kw
  refine ld_glob I hg hm ?_ hdb
  refine PySem.W.callWith_K (h₀ := X.base) I.ok.mod.kin hk (thn (ha.run pos pins s σ H _ I h) fun us s1 ⟨vs, H1, I1, r, f, c', q, hq, ev, hf, hco, hTT⟩ => ⟨I1.kIn, ?_⟩) he hpl
  subst ev
  obtain rfl : us = [Value.ref f] := by
    cases r with | cons a r => cases r; cases a; rfl
  obtain ⟨pa, body, sc, eF, L1, hbind, hbody⟩ := (hL q hq).ex
  have run : codeAny (model X.prog X.w) X.A (.call (.ref g) ⟨[.ref f], []⟩) (CR C8.CX0 X.stack X.prog X.w H1 s1 Q C8.E0) s1 := run_ofS (N := Ng) (ps := [a]) (us := [.ref f]) (vs := [.ref f]) lk hcg Sg hr I1.env0 (hb s1 [.ref f] I1.kIn rfl) (.cons rfl .nil) rfl fun hr2 => by
    obtain ⟨t2, ht2, hq2⟩ := hG f c' s1 H1 Q (fun E H' Q' => H' f = some (.ext (q.1 f c')) ∧ q.2 E σ H' Q') (fun W pn xe E p1 p2 tk hW => by
      rw [eF]
      exact pe_actV (i := 0) I1 L1 (fun _ _ => hbind _ _ _ _ _) tk hW hr2 (fun A outer s H r3 => hbody A outer s H E f c' r3) hNg hva hd hcd) hco hTT
    exact ⟨t2, ht2.nox, hq2⟩
  refine wpAny_call (codeAny_mono run fun r s2 hq => ?_)
  match r, hq with
  | .error e, hq => exact (show False from hq).elim
  | .ok (.ret u), hq => exact I1.after hq
  | .ok .next, hq => exact hq.elim
  | .ok .brk, hq => exact hq.elim
  | .ok .cont, hq => exact hq.elim
end
/-- one of some lambdas: its mark, its run, what it asks -/
abbrev LamT := (Addr → Addr → Heap → Prop) × (XK → TE) × ((Exn → Prop) → EM)
/-- _law_caught(x), x a lambda that was kept -/
def mCaughtV (K : PySem.W.Frag) (CE : Addr) (q : Str) (L : List LamT) (m : EM) : EM := fun env Q => m env fun d => ∃ p ∈ L, d = .lam p.1 (CodP q) ∧ p.2.2 (fun e => PySem.W.exmOne K e.1 (.ref CE) = some true ∧ Q (.exc e.1 e.2.1 e.2.2)) (unOwn env) fun _ => Q .non
section
variable {C : Wd → XC → Prop} {C0 : Wd → Prop} {K : PySem.W.Frag} {te : TE} {m : EM} {c : Nat} {q : Str} {L : List LamT}
theorem se_caughtV {CE : Addr} (h : SE C c te m) (hW : ∀ w x, C w x → C0 w) (ht : ∀ p ∈ L, ∀ E X0, SE (exC C0 E X0) 0 (p.2.1 E) (p.2.2 X0)) : SE C c (tLamC q (L.map fun p => (p.1, p.2.1)) (TCaught K CE) (tCons te tNil)) (mCaughtV K CE q L m) := fun G g n O env σ H Qd Q hL F hm k =>
  show te σ H _ from h G g n O env σ H _ _ hL F hm fun d v H1 ⟨p, hp, ed, hq⟩ gr ok1 r => by
    subst ed
    have F1 := F.grow gr ok1
    have c0 := hW _ _ g
    cases r with
    | lam e1 e2 =>
      have hf := rk_ext e1.1
      have hc := rk_ext e2.1
      refine ⟨_, _, (p.1, p.2.1), List.mem_map.mpr ⟨p, hp, rfl⟩, rfl, hf, hc, hf, ?_⟩
      refine ht p hp _ (fun e => PySem.W.exmOne K e.1 (.ref CE) = some true ∧ Qd (.exc e.1 e.2.1 e.2.2)) (⟨G.w, H1, O, F1.wl.tr, ⟨n + c, Nat.le_trans hL G.x.le, H1, fun c d H' => PySem.W.exmOne K c (.ref CE) = some true ∧ ∀ a, H' a = none → Q (.ref a) (upd H' a (ExcK c d a)), fun e => PySem.W.exmOne K e.1 (.ref CE) = some true ∧ Qd (.exc e.1 e.2.1 e.2.2), fun _ => False⟩, GrowM.refl _ _ _, fun _ z => z.elim, fun n' H' cv d e hn ok' gm _ a z => ?_⟩ : Cfg) ⟨c0, rfl, rfl⟩ (n + c) O (unOwn env) σ H1 (fun _ => Qd .non) (fun _ H' => Q .non H') (Nat.le_refl _) (F1.unOwn ⟨ok1, F1.wl.zo, fun _ y => y, F1.wl.tr, GrowM.refl _ _ _⟩ (LeA.refl _)) hq (fun d v H' hd g' ok' r => k .non .non H' hd (gr.trans g') ok' .non)
      have g' : Grow G.w H1 H' := gm.no
      refine ⟨by rw [a.1]; exact z.1, fun ad hn2 => ?_⟩
      have ok2 := G.w.up _ _ _ hn ok'
      have W2 := F1.wl.grow g' ok2
      have g2 : Grow G.w H' (upd H' ad (ExcK cv d ad)) := Grow.new _ hn2
      exact k _ _ _ z.2 (gr.trans (g'.trans g2)) (Wd.okNew hn2 ok2) (exn_rp a (sh_grow W2.zo g2) ⟨.inl upd_same, W2.free hn2⟩)
end
end PL

/-! XD3: kept lambdas called from a comprehension's block. -/
namespace PL
open PySem PySem.Spec PyProof.Rows L2 LamX
/-- a block's turns tell what the def around knows -/
def Bk (X Y : Cx) (σ : L2.St) : Prop := ∀ pins' σ' H' s', Inv Y pins' σ' H' s' → ∃ pins, Inv X pins σ H' s'
/-- on the way of a turn: but for the block's own names all is as before -/
def tGd (vs : List Nat) (σ0 : L2.St) (t : TT) : TT := fun σ H Q => L2.wipe σ vs = L2.wipe σ0 vs → t σ H Q
def tGdE (vs : List Nat) (σ0 : L2.St) (t : TE) : TE := fun σ H Q => L2.wipe σ vs = L2.wipe σ0 vs → t σ H Q
section
variable {X : Cx}
theorem bk_of {pins : List (Addr × Obj)} {σ : L2.St} {H3 : Hp} {s3 : Shared} {scope : Scope} {ce : Env} {fp : List Addr} (I3 : Inv X pins σ H3 s3) (f3 : ∀ b ∈ fp, FpOk X pins H3 b) : Bk X (X.blk s3 H3 scope ce fp) σ := fun _ _ _ _ I' => ⟨pins, I3.call' (ch := fp) I'.os I'.base I'.hok I'.bare fun b hb =>
  let ⟨_, b1, b2, b3, b4, b5⟩ := f3 b hb
  ⟨b3, b1, b4, b5⟩⟩
abbrev tLcB (wi : TI) (g : TG) (tt : L2.St → TT) (te : TE) (vs : List Nat) : TE := fun σ H Q => tLc wi g (tGd vs σ (tt σ)) te vs σ H Q
theorem pe_lcB {elt tg iter : Expr} {ifs : List Expr} {scope : Scope} {own : List (Str × Nat)} {pos : Pos} {wi : TI} {g : TG} {tt : L2.St → TT} {te : TE} (hc : X.calm = true) (hN : X.N.Nodup) (hi : PI X tg iter wi) (ok : BlkOk X.N X.env.scope scope own)
    (hg : ∀ (s : Shared) (H : Hp) (C : Addr) (cl : List (Str × Addr)) (fp : List Addr), PG (X.blk s H scope (compEnvC scope cl C X.env) fp) tg g)
    (ht : ∀ (σ0 : L2.St) (s : Shared) (H : Hp) (C : Addr) (cl : List (Str × Addr)) (fp : List Addr), Bk X (X.blk s H scope (compEnvC scope cl C X.env) fp) σ0 → PTs (X.blk s H scope (compEnvC scope cl C X.env) fp) ifs (tt σ0))
    (he : ∀ (s : Shared) (H : Hp) (C : Addr) (cl : List (Str × Addr)) (fp : List Addr), PE (X.blk s H scope (compEnvC scope cl C X.env) fp) elt te) (hs : ∀ x, foldedSetIterable iter X.env x = pure x := by intro _; rfl) :
    PE X (.ListComp elt [⟨tg, iter, ifs, 0⟩] scope pos) (tLcB wi g tt te (own.map (·.2))) := by
  refine ⟨fun pins s σ H Q I h => ?_⟩
  generalize hvs : own.map (·.2) = vs at h
  rw [eval_ListComp]
  have cells : ∀ y ∈ scope.names, y.2 = .free → ∃ c, X.env.cells.lookup y.1 = some c := fun y hy e => (ok.free y hy e).elim (fun k => I.ok.has _ (.inl k)) fun k => I.ok.has _ (.inr k)
  refine wpAny_comprehension_free rfl hs (closure_ok cells) ok.kind (fun y hy e => by rw [ok.uniq y hy, e]) (thn (hi.run pins s σ H _ I h) fun _ _ hx => thn hx fun _ s2 ⟨it, fp, tn, J, H2, e, I2, T, st2, f2, q⟩ => ?_)
  subst e
  refine wpAny_newObj_type (newEnv_comp ?_) (Nat.zero_le _)
  -- the new list at D
  obtain ⟨D, hD⟩ : ∃ D, D = s2.heap.objs.size := ⟨_, rfl⟩
  have free : H2 D = none := I2.hok.fresh (Nat.le_of_eq hD.symm)
  obtain ⟨W, ⟨m0, w0⟩, turn⟩ := q D free
  rw [← hD]
  obtain ⟨s3, hs3⟩ : ∃ s3 : Shared, s3 = { s2 with heap := s2.heap.push { cls := .type "list", data := .seq ([] : List Value).toArray } } := ⟨_, rfl⟩
  rw [← hs3]
  have I3 : Inv X pins σ (upd H2 D (.lst [])) s3 := by
    rw [hs3]
    refine I2.laid (t' := s2.toks) (fun b o e => Heap.get?_push_of_some _ e) (Nat.le_of_eq hD.symm) ⟨Nat.zero_le _, [], 0, .nil, ?_⟩
    rw [hD]
    exact Heap.get?_push_size _ rfl
  have lt2 : ∀ b ∈ fp, b < s2.heap.objs.size := fun b hb => let ⟨_, e, _⟩ := T.obj _ _ st2 b hb; Heap.lt_size e
  have sz3 : s3.heap.objs.size = s2.heap.objs.size + 1 := by rw [hs3]; exact Heap.size_push ..
  have f3 : ∀ b ∈ fp, FpOk X pins (upd H2 D (.lst [])) b := fun b hb => ⟨by rw [upd_ne (by rw [hD]; exact Nat.ne_of_lt (lt2 b hb))]; exact (f2 b hb).1, (f2 b hb).2⟩
  have st3 : tn 0 s3.heap := T.keep _ _ _ st2 fun b _ o e => by rw [hs3]; exact Heap.get?_push_of_some _ e
  -- the block's own names
  have I4 := block_start I3 ok hN fun b hb => ⟨f3 b hb, by rw [sz3]; exact Nat.lt_succ_of_lt (lt2 b hb)⟩
  rw [hvs] at I4
  have st4 : tn 0 (pushCells (s3.heap.push { cls := .type "dict", data := .dict #[] }) scope.names) := T.keep _ _ _ st3 fun b _ o e => pushCells_keeps _ _ _ _ (Heap.get?_push_of_some _ e)
  show codeAny _ _ (.compStart _ 0 (.ref it) (.ref D) (compEnvC scope (cellsFrom (s3.heap.objs.size + 1) scope.names (cloFrom X.env.cells scope.names [])) s3.heap.objs.size X.env)) (compPost (model X.prog X.w) X.A X.xe _ _ (.ref D) s3.heap.objs.size) { s3 with heap := pushCells (s3.heap.push { cls := .type "dict", data := .dict #[] }) scope.names }
  generalize cellsFrom (s3.heap.objs.size + 1) scope.names (cloFrom X.env.cells scope.names []) = cl at I4 ⊢
  generalize upd H2 D (.lst []) = H3 at I3 I4 w0 f3
  have hbk : Bk X (X.blk s3 H3 scope (compEnvC scope cl s3.heap.objs.size X.env) fp) σ := bk_of I3 f3
  have aG := hg s3 H3 s3.heap.objs.size cl fp
  have aT := ht σ s3 H3 s3.heap.objs.size cl fp hbk
  have aE := he s3 H3 s3.heap.objs.size cl fp
  have stay : ∀ {σ' : L2.St} {H' : Hp} {s' : Shared}, Inv (X.blk s3 H3 scope (compEnvC scope cl s3.heap.objs.size X.env) fp) [] σ' H' s' → (∀ b ∈ fp, H' b = none) → ∀ b ∈ fp, FpOk (X.blk s3 H3 scope (compEnvC scope cl s3.heap.objs.size X.env) fp) [] H' b := fun I' hn b hb =>
    ⟨hn b hb, (I'.ok.exf b hb).1, I'.ok.exfs b hb, .inl hb, (I'.ok.exf b hb).2, fun p hp => absurd (show p ∈ ([] : List (Addr × Obj)) ++ [] from hp) (by simp)⟩
  have go : ∀ s4 : Shared, Inv (X.blk s3 H3 scope (compEnvC scope cl s3.heap.objs.size X.env) fp) [] (L2.wipe σ vs) H3 s4 → tn 0 s4.heap → codeAny (model X.prog X.w) X.A (.compLoop (.ListComp elt [⟨tg, iter, ifs, 0⟩] scope pos) 0 (.ref it) (.ref D) (compEnvC scope cl s3.heap.objs.size X.env)) (compPost (model X.prog X.w) X.A X.xe none (fun v s' => ∃ w' H', Inv X pins σ H' s' ∧ RelV w' v ∧ Q w' H') (.ref D) s3.heap.objs.size) s4 := fun s4 I4 st4 => by
    refine compLoop_any (fun n s' => ∃ i H', Inv (X.blk s3 H3 scope (compEnvC scope cl s3.heap.objs.size X.env) fp) [] (L2.wipe σ vs) H' s' ∧ tn i s'.heap ∧ (∀ b ∈ fp, H' b = none) ∧ W i n H') ?_ m0 ⟨0, H3, I4, st4, fun b hb => (f3 b hb).1, w0⟩
    rintro n s5 ⟨i, H5, I5, st5, n5, w5⟩
    rcases turn i n H5 w5 with ⟨stop, qq⟩ | ⟨goes, Nx, hNx, step⟩
    · refine thnF (T.done (X.blk s3 H3 scope (compEnvC scope cl s3.heap.objs.size X.env) fp) rfl rfl rfl hc i [] s5 _ H5 (fun _ _ => False) I5 (stay I5 n5) st5 stop) fun r s6 ⟨hr, I6⟩ => ?_
      subst hr
      have I7 : Inv X pins σ H5 s6 := I3.call' (ch := fp) I6.os I6.base I6.hok I6.bare fun b hb => let ⟨_, b1, b2, b3, b4, b5⟩ := f3 b hb; ⟨b3, b1, b4, b5⟩
      obtain ⟨m, hn, _⟩ := I6.loc
      refine ⟨m, hn, fun h'' sb => ?_⟩
      obtain ⟨g0, g1, g2, g3, g4, g5⟩ := I3.fpOk (Nat.le_refl _) (show H5 s3.heap.objs.size = none from I6.free)
      exact ⟨.ref D, H5, I7.turned (t' := s6.toks) (fun b o hb e => (sb.2 b hb).trans e) g0 g1 g3 g4 g5, rfl, qq⟩
    · refine thnF (T.item (X.blk s3 H3 scope (compEnvC scope cl s3.heap.objs.size X.env) fp) rfl rfl rfl hc i [] s5 _ H5 (fun _ _ => False) I5 (stay I5 n5) st5 goes) fun r s6 ⟨u, hr, h6⟩ => ?_
      subst hr
      refine thnF h6 fun _ s7 ⟨x, H7, I7, r7, y7, st7, n7⟩ => ?_
      refine thnF (aG.run _ s7 _ H7 x u _ (I7.pinned (stay I7 n7) (T.obj _ _ st7)) r7 (step x H7 y7)) fun _ s8 ⟨σ8, H8, I8, hw8, q8⟩ => ?_
      refine thnF (aT.run _ s8 σ8 H8 _ I8 (q8 hw8)) fun b s9 ⟨H9, I9, q9⟩ => ?_
      have again : ∀ {s' : Shared} {H' : Hp}, Inv (X.blk s3 H3 scope (compEnvC scope cl s3.heap.objs.size X.env) fp) ([] ++ pinsAt fp s7.heap) σ8 H' s' → Nx H' → ∃ m, m < n ∧ ∃ i H', Inv (X.blk s3 H3 scope (compEnvC scope cl s3.heap.objs.size X.env) fp) [] (L2.wipe σ vs) H' s' ∧ tn i s'.heap ∧ (∀ b ∈ fp, H' b = none) ∧ W i m H' := fun {s' H'} I' nx => by
        obtain ⟨m', hm, w'⟩ := hNx H' nx
        have held : ∀ b ∈ fp, ∀ o, s7.heap.get? b = some o → s'.heap.get? b = some o ∧ H' b = none := fun b hb o e =>
          have z := I'.pin (b, o) (List.mem_append_right _ (List.mem_append_right _ (mem_pinsAt hb e)))
          ⟨z.1, z.2.1⟩
        have ew : L2.wipe σ8 vs = L2.wipe σ vs := hw8
        exact ⟨m', hm, i + 1, H', (I'.unpinned (pins := [])).weak (by rw [← ew, L2.wipe_length]) (fun j v e => by rw [← ew] at e; exact (L2.wipe_some e).1), T.keep _ _ _ st7 fun b hb o e => (held b hb o e).1, fun b hb => let ⟨o, e, _⟩ := T.obj _ _ st7 b hb; (held b hb o e).2, w'⟩
      cases b with
      | false =>
        rw [if_neg Bool.false_ne_true] at q9 ⊢
        exact again I9 q9
      | true =>
        rw [if_pos rfl] at q9 ⊢
        exact thnF (aE.run _ s9 σ8 H9 _ I9 q9) fun _ _ ⟨_, _, I10, r10, _, hd, hz, nx⟩ => app_ok (X := X.blk s3 H3 scope (compEnvC scope cl s3.heap.objs.size X.env) fp) I10 hd hz r10 fun _ I11 => again I11 nx
  exact codeAny_compStart_list (go _ I4 st4) (T.self X.A 0 _ _ _ st4 (go _ I4 st4))
/-- x(), x a kept lambda of the def around, within the def that catches, which a block of that def called -/
theorem pe_actB {pins : List (Addr × Obj)} {σ0 : L2.St} {H : Hp} {s : Shared} {CXg : CXT} {Eg : XK} {Ng : List Str} {qg : Str} {sg : Scope} {g f c' : Addr} {cdg : Value} {params : Arguments} {body : Expr} {scope : Scope} {k i : Nat} {a : Str} {pn : List (Addr × Obj)} {xe : Value → Shared → Prop} {W : WX} {E : XK} {tb : TE} {p1 p2 : Pos}
    (I : Inv X pins σ0 H s) (L : LamS X.env.scope scope) (hbind : ∀ pm ctv : Value, bindArgs (PySem.W.kla_fn "<lambda>" (X.env.qual ++ "<lambda>") params body scope (cloFrom X.env.cells scope.names []) pm (.ref c') ctv) ⟨[], []⟩ = pure [])
    (tk : Takes ((cxOf CXg X.prog X.w X.K X.mg X.base Ng qg sg g cdg X.A X.stack s H Eg).tr pn xe) W) (hW : ∀ cls d σ' H', E cls d H' → W cls d σ' H') (hr : Room (k + 1) (X.A.deeper (envOfC qg sg s.heap.objs.size g cdg)))
    (hbody : ∀ (A : Around) (outer : List Env) (s : Shared) (H : Hp), Room k (A.deeper (lamEnv X scope s.heap.objs.size f c')) → PE (lamCx X A outer s H E scope f c') body tb)
    (hN : Ng[i]? = some a) (hv : Vis sg a) (hd : (a == ("__debug__" : Str)) = false) (hcd : (a == ("__classdict__" : Str)) = false) :
    PE ((cxOf CXg X.prog X.w X.K X.mg X.base Ng qg sg g cdg X.A X.stack s H Eg).tr pn xe) (.Call (.Name a p1) [] [] p2)
      (fun σZ HZ Q => σZ[i]? = some (some (.ref f)) ∧ HZ c' = some (CodeO c' (X.env.qual ++ "<lambda>")) ∧ (HZ f = some (.ext (LamP (X.env.qual ++ "<lambda>") params body scope (cloFrom X.env.cells scope.names []) f c')) ∧ tb σ0 HZ Q)) :=
  pe_actV I L hbind tk hW hr hbody hN hv hd hcd
/-- f(e) in a block, e one of some lambdas of the def around -/
def tLamB (σ0 : L2.St) (q : Str) (L : List ((Addr → Addr → Heap → Prop) × (XK → TE))) (TT : (XK → Hp → VK → Prop) → Hp → VK → Prop) (ta : TA) : TE := fun σ H Q => ta σ H fun vs H1 => ∃ (f c' : Addr), ∃ p ∈ L, vs = [.ref f] ∧ H1 f = some (.ext (p.1 f c')) ∧ H1 c' = some (CodeO c' q) ∧ TT (fun E H' Q' => H' f = some (.ext (p.1 f c')) ∧ p.2 E σ0 H' Q') H1 Q
theorem pe_lamB {σ0 : L2.St} {s0 : Shared} {H0 : Hp} {bsc : Scope} {ce : Env} {fp : List Addr} {L : List ((Addr → Addr → Heap → Prop) × (XK → TE))} {TT : (XK → Hp → VK → Prop) → Hp → VK → Prop} {x a : Str} {g : Addr} {k : Nat} {pg : Arguments} {bg : List Stmt} {sg : Scope} {dV kV doc pm cdv ct oc : Value} {an od : Option Addr} {osl : Array (Option Value)} {Ng : List Str} {e : Expr} {ta : TA} {p pos : Pos}
    (hbk : Bk X (X.blk s0 H0 bsc ce fp) σ0) (hg : Gl (X.blk s0 H0 bsc ce fp) x) (hm : X.mg x = some (.ref g)) (hk : PySem.W.keepIn X.K (.ref g) = true) (lk : X.K.lookup g = some ⟨oc, od, .func (PySem.W.fnOf x x pg bg sg dV kV doc pm an cdv ct), osl⟩) (hcg : PySem.W.codeIn X.K cdv x = true)
    (hb : L2.Binds X.K (PySem.W.fnOf x x pg bg sg dV kV doc pm an cdv ct) [a] []) (Sg : FnScope Ng [a] sg) (hNg : Ng[0]? = some a) (hva : Vis sg a) (hG : GivesTo X Ng x sg g cdv bg a (X.env.qual ++ "<lambda>") TT)
    (hr : Room (k + 2) X.A) (hL : ∀ q ∈ L, LamI X k q.1 q.2) (ha : PA (X.blk s0 H0 bsc ce fp) [e] ta) (he : starEach [e] ce = (false, eval e ce) :: starEach [] ce) (hpl : (backTo pos (starEach [] ce)).any (·.1) = false)
    (hdb : (x == ("__debug__" : Str)) = false) (hd : (a == ("__debug__" : Str)) = false) (hcd : (a == ("__classdict__" : Str)) = false) : PE (X.blk s0 H0 bsc ce fp) (.Call (.Name x p) [e] [] pos) (tLamB σ0 (X.env.qual ++ "<lambda>") L TT ta) := by
  constructor
  intro pins s σ H Q I h
  apply wpAny_Call_Name_kw
  refine ld_glob I hg hm ?_ hdb
  refine PySem.W.callWith_K (h₀ := X.base) I.ok.mod.kin hk (thn (ha.run pos pins s σ H _ I h) fun us s1 ⟨vs, H1, I1, r, f, c', q, hq, ev, hf, hco, hTT⟩ => ⟨I1.kIn, ?_⟩) he hpl
  subst ev
  obtain rfl : us = [Value.ref f] := by
    cases r with | cons a r => cases r; cases a; rfl
  obtain ⟨pa, body, sc, eF, L1, hbind, hbody⟩ := (hL q hq).ex
  obtain ⟨pins0, J1⟩ := hbk _ _ _ _ I1
  have run : codeAny (model X.prog X.w) X.A (.call (.ref g) ⟨[.ref f], []⟩) (CR C8.CX0 X.stack X.prog X.w H1 s1 Q C8.E0) s1 := run_ofS (N := Ng) (ps := [a]) (us := [.ref f]) (vs := [.ref f]) lk hcg Sg hr J1.env0 (hb s1 [.ref f] J1.kIn rfl) (.cons rfl .nil) rfl fun hr2 => by
    obtain ⟨t2, ht2, hq2⟩ := hG f c' s1 H1 Q (fun E H' Q' => H' f = some (.ext (q.1 f c')) ∧ q.2 E σ0 H' Q') (fun W pn xe E p1 p2 tk hW => by
      rw [eF]
      exact pe_actB (i := 0) J1 L1 (fun _ _ => hbind _ _ _ _ _) tk hW hr2 (fun A outer s H r3 => hbody A outer s H E f c' r3) hNg hva hd hcd) hco hTT
    exact ⟨t2, ht2.nox, hq2⟩
  refine wpAny_call (codeAny_mono run fun r s2 hq => ?_)
  match r, hq with
  | .error e, hq => exact (show False from hq).elim
  | .ok (.ret u), hq => exact I1.after hq
  | .ok .next, hq => exact hq.elim
  | .ok .brk, hq => exact hq.elim
  | .ok .cont, hq => exact hq.elim
end
theorem Fr.back {G : Cfg} {n : Nat} {O : Addr → Prop} {env : Ev} {σ σ0 : L2.St} {H : Hp} {vs : List Nat} (F : Fr G n O env σ H) (e : L2.wipe σ vs = L2.wipe σ0 vs) : Fr G n O (wipeE env vs) σ0 H := by
  have F := F.wipe vs
  rw [e] at F
  refine ⟨F.wl, by rw [F.len, L2.wipe_length], fun i c h n => ?_, fun i j a oi oj => ?_⟩
  · obtain ⟨v, h1, h2⟩ := F.sl i c h n
    exact ⟨v, (L2.wipe_some h1).1, h2⟩
  · have key : ∀ k, Own2 (wipeE env vs) σ0 k a → Own2 (wipeE env vs) (L2.wipe σ0 vs) k a := fun k ⟨d, w, ed, hk, od⟩ => by
      obtain ⟨v, h1, _⟩ := F.sl k d ed (fun z => by rw [z] at od; exact (show False from od).elim)
      have := (L2.wipe_some h1).1
      rw [hk] at this
      cases this
      exact ⟨d, w, ed, h1, od⟩
    exact F.uq i j a (key i oi) (key j oj)
/-- _law_caught(x) in a block, x a kept lambda of the def around -/
def mCaughtB (K : PySem.W.Frag) (CE : Addr) (q : Str) (L : List LamT) (m : EM) (vs : List Nat) : EM := fun env Q => m env fun d => ∃ p ∈ L, d = .lam p.1 (CodP q) ∧ p.2.2 (fun e => PySem.W.exmOne K e.1 (.ref CE) = some true ∧ Q (.exc e.1 e.2.1 e.2.2)) (unOwn (wipeE env vs)) fun _ => Q .non
section
variable {C : Wd → XC → Prop} {C0 : Wd → Prop} {K : PySem.W.Frag} {te : TE} {m : EM} {c : Nat} {q : Str} {L : List LamT} {vs : List Nat} {σ0 : L2.St}
theorem se_caughtB {CE : Addr} (h : SE C c te m) (hW : ∀ w x, C w x → C0 w) (ht : ∀ p ∈ L, ∀ E X0, SE (exC C0 E X0) 0 (p.2.1 E) (p.2.2 X0)) : SE C c (tGdE vs σ0 (tLamB σ0 q (L.map fun p => (p.1, p.2.1)) (TCaught K CE) (tCons te tNil))) (mCaughtB K CE q L m vs) := fun G g n O env σ H Qd Q hL F hm k eg =>
  show te σ H _ from h G g n O env σ H _ _ hL F hm fun d v H1 ⟨p, hp, ed, hq⟩ gr ok1 r => by
    subst ed
    have F1 := (F.grow gr ok1).back eg
    have c0 := hW _ _ g
    cases r with
    | lam e1 e2 =>
      have hf := rk_ext e1.1
      have hc := rk_ext e2.1
      refine ⟨_, _, (p.1, p.2.1), List.mem_map.mpr ⟨p, hp, rfl⟩, rfl, hf, hc, hf, ?_⟩
      refine ht p hp _ (fun e => PySem.W.exmOne K e.1 (.ref CE) = some true ∧ Qd (.exc e.1 e.2.1 e.2.2)) (⟨G.w, H1, O, F1.wl.tr, ⟨n + c, Nat.le_trans hL G.x.le, H1, fun c d H' => PySem.W.exmOne K c (.ref CE) = some true ∧ ∀ a, H' a = none → Q (.ref a) (upd H' a (ExcK c d a)), fun e => PySem.W.exmOne K e.1 (.ref CE) = some true ∧ Qd (.exc e.1 e.2.1 e.2.2), fun _ => False⟩, GrowM.refl _ _ _, fun _ z => z.elim, fun n' H' cv d e hn ok' gm _ a z => ?_⟩ : Cfg) ⟨c0, rfl, rfl⟩ (n + c) O (unOwn (wipeE env vs)) σ0 H1 (fun _ => Qd .non) (fun _ H' => Q .non H') (Nat.le_refl _) (F1.unOwn ⟨ok1, F1.wl.zo, fun _ y => y, F1.wl.tr, GrowM.refl _ _ _⟩ (LeA.refl _)) hq (fun d v H' hd g' ok' r => k .non .non H' hd (gr.trans g') ok' .non)
      have g' : Grow G.w H1 H' := gm.no
      refine ⟨by rw [a.1]; exact z.1, fun ad hn2 => ?_⟩
      have ok2 := G.w.up _ _ _ hn ok'
      have W2 := F1.wl.grow g' ok2
      have g2 : Grow G.w H' (upd H' ad (ExcK cv d ad)) := Grow.new _ hn2
      exact k _ _ _ z.2 (gr.trans (g'.trans g2)) (Wd.okNew hn2 ok2) (exn_rp a (sh_grow W2.zo g2) ⟨.inl upd_same, W2.free hn2⟩)
end
section
variable {C : Wd → XC → Prop} {c c1 : Nat} {wi : TI} {g : TG} {te : TE} {am : AM} {mg : GM} {mt : TM} {m : EM} {vs : List Nat}
/-- a filter that calls them -/
theorem st_gd {σ0 : L2.St} {F : TE → TT} {t : TE} (h : ST C c (F (tGdE vs σ0 t)) mt) (hF : ∀ (t : TE) σ, F t σ = F (fun _ => t σ) σ) : ST C c (tGd vs σ0 (F t)) mt := fun G g n O env σ H Qd Q hL Fr hm k eg => by
  have := h G g n O env σ H Qd Q hL Fr hm k
  rw [hF] at this ⊢
  have e : tGdE vs σ0 t σ = t σ := funext fun H => funext fun Q => propext ⟨fun z => z eg, fun z _ => z⟩
  rw [e] at this
  exact this
theorem sl_lcB {F : TE → TT} {t : L2.St → TE} (hi : SI C c1 wi am) (hg : SG C vs g mg) (ht : ∀ σ0, ST C 0 (F (tGdE vs σ0 (t σ0))) mt) (he : SE C 0 te m) (hF : ∀ (t : TE) σ, F t σ = F (fun _ => t σ) σ := by intro _ _; rfl) : SL C c1 (tLcB wi g (fun σ0 => F (t σ0)) te vs) (mLc am mg mt m vs) := fun G c n O env σ H Qd Q hL Fr hm k =>
  sl_lc hi hg (st_gd (ht σ) hF) he G c n O env σ H Qd Q hL Fr hm k
end
end PL

/-! XD4: kept lambdas of one parameter. -/
namespace PL
open PySem PySem.Spec PyProof.Rows L2 LamX
/-- one parameter x, no other name of its own: captured ones and globals -/
structure LamS1 (N : List Str) (sc scope : Scope) (x : Str) : Prop where
  kind : scope.kind = .function
  co : scope.isCoroutine = false
  gen : scope.isGenerator = false
  par : scope.names.lookup x = some .local
  own : ∀ y ∈ scope.names, y.2 ≠ .cell ∧ (y.2 = .local → y.1 = x)
  free : ∀ y ∈ scope.names, y.2 = .free → sc.names.lookup y.1 = some .cell ∨ sc.names.lookup y.1 = some .free
  new : x ∉ N
def lamS1B (N : List Str) (sc scope : Scope) (x : Str) : Bool :=
  decide (scope.kind = .function) && !scope.isCoroutine && !scope.isGenerator && decide (scope.names.lookup x = some .local) && (scope.names.all fun y => !decide (y.2 = .cell) && (!decide (y.2 = .local) || decide (y.1 = x)) && (!decide (y.2 = .free) || decide (sc.names.lookup y.1 = some .cell) || decide (sc.names.lookup y.1 = some .free))) && !N.contains x
theorem lamS1_by {N : List Str} {sc scope : Scope} {x : Str} (h : lamS1B N sc scope x = true) : LamS1 N sc scope x := by
  unfold lamS1B at h
  simp only [Bool.and_eq_true, Bool.or_eq_true, Bool.not_eq_true', decide_eq_true_eq, decide_eq_false_iff_not, List.all_eq_true] at h
  obtain ⟨⟨⟨⟨⟨h1, h2⟩, h3⟩, h4⟩, h5⟩, h6⟩ := h
  refine ⟨h1, h2, h3, h4, fun y hy => ⟨(h5 y hy).1.1, fun e => ?_⟩, fun y hy e => ?_, fun z => ?_⟩
  · rcases (h5 y hy).1.2 with z | z
    · exact absurd e z
    · exact z
  · rcases (h5 y hy).2 with (z | z) | z
    · exact absurd e z
    · exact .inl z
    · exact .inr z
  · rw [List.contains_iff_mem.mpr z] at h6; cases h6
theorem LamS1.has {X : Cx} {N : List Str} {scope : Scope} {x : Str} (L : LamS1 N X.env.scope scope x) (ok : X.Ok) : ∀ y ∈ scope.names, y.2 = .free → ∃ c, X.env.cells.lookup y.1 = some c := fun y hy e => by
  rcases L.free y hy e with k | k
  · exact ok.has _ (.inl k)
  · exact ok.has _ (.inr k)
/-- the context of its body: the parameter comes behind the names around -/
def lamCx1 (X : Cx) (A : Around) (outer : List Env) (s : Shared) (H : Hp) (E : XK) (scope : Scope) (f c' : Addr) (x : Str) : Cx := { lamCx X A outer s H E scope f c' with N := X.N ++ [x] }
section
variable {X : Cx} {pins : List (Addr × Obj)} {σ : L2.St} {H HZ : Hp} {s s1 : Shared}
theorem lam_start1 {A : Around} {outer : List Env} {E : XK} {scope : Scope} {f c' : Addr} {h₁ : Heap} {tk : Nat} {x : Str} {v : V} {u : Value} (I : Inv X pins σ H s) (L : LamS1 X.N X.env.scope scope x) (rv : RelV v u) (e0 : Env0 X.prog X.w X.K X.mg X.base A outer s1 HZ) (hd : A.handled = none)
    (un : Un (frs X.stack) [] H HZ s.heap s1.heap) (hns : h₁.Ns s1.heap.objs.size fun y => [(x, u)].reverse.lookup y) (kp : ∀ b o, s1.heap.get? b = some o → h₁.get? b = some o) :
    Inv (lamCx1 X A outer s1 HZ E scope f c' x) [] (σ ++ [some v]) HZ { s1 with heap := h₁, toks := tk } := by
  have hfree := L.has I.ok
  -- what it captured are the cells of the def around
  have cap : ∀ {y c}, (cloFrom X.env.cells scope.names []).lookup y = some c → X.env.cells.lookup y = some c := fun {y c} e => by
    rcases cloFrom_mem (PySem.mem_of_lookup e) with hm | ⟨h1, h2⟩
    · cases hm
    · obtain ⟨c1, hc⟩ := hfree _ h1 rfl
      have hc : X.env.cells.lookup y = some c1 := hc
      rw [h2, hc] at *
      first | exact hc | rfl
  have got : ∀ {y}, scope.names.lookup y = some .free → ∃ c, (cloFrom X.env.cells scope.names []).lookup y = some c := fun {y} hl => mem_lookup (cloFrom_has (cells := X.env.cells) (acc := []) (show (y, NameKind.free) ∈ scope.names from PySem.mem_of_lookup hl))
  have still : ∀ {c : Addr} {v : Option Value}, H c = none → s.heap.IsCell c v → h₁.IsCell c v := fun {c v} n ⟨o, ho, hd⟩ =>
    let ⟨_, q⟩ := un.any ho n (by simp)
    ⟨_, kp _ _ q, hd⟩
  have noA : ∀ b : Addr, b ∉ (lamCx1 X A outer s1 HZ E scope f c' x).ex := fun b z => absurd (show b ∈ ([] : List Addr) from z) (by simp)
  have nocell : ∀ {y}, scope.names.lookup y ≠ some .cell := fun {y} e => (L.own _ (PySem.mem_of_lookup e)).1 rfl
  have nfree : ∀ y, scope.names.lookup y = some .free → X.env.scope.names.lookup y ≠ some .local := fun y k e => by
    rcases L.free _ (PySem.mem_of_lookup k) rfl with k2 | k2 <;> rw [show X.env.scope.names.lookup y = _ from k2] at e <;> cases e
  have ok : (lamCx1 X A outer s1 HZ E scope f c' x).Ok := ⟨e0.mod, L.kind, rfl, rfl, Nat.le_refl _, fun y z c e1 e2 => I.ok.inj y z c (cap e1) (cap e2),
    fun y hy => (show scope.names.lookup y = some .cell ∨ scope.names.lookup y = some .free from hy).elim (fun z => absurd z nocell) got, fun y c z _ => (by cases (show false = true from z)), fun _ => hd, Around.frames_deeper e0.frames, .inr ⟨rfl, rfl⟩, fun b z => absurd z (noA b), e0.bs, e0.bsz, fun b _ _ => noA b, fun b z => absurd z (noA b), e0.funs, e0.frf⟩
  refine ⟨ok, rfl, e0.bare, Un.kept kp, ⟨_, hns, fun i y w e1 e2 e3 => ?_⟩, fun y c e => ?_, e0.hok.fresh (Nat.le_refl _), fun y c e => ?_, fun q hq => absurd (show q ∈ ([] : List (Addr × Obj)) ++ [] from hq) (by simp), e0.hok.kept kp, by show (σ ++ [some v]).length = (X.N ++ [x]).length; rw [List.length_append, List.length_append, I.len]; rfl⟩
  · have e1 : (X.N ++ [x])[i]? = some y := e1
    have e3 : Vis scope y := e3
    by_cases hi : i < X.N.length
    · rw [List.getElem?_append_left hi] at e1
      rw [List.getElem?_append_left (by rw [I.len]; exact hi)] at e2
      have hyx : y ≠ x := fun z => L.new (z ▸ List.mem_of_getElem? e1)
      rcases e3 with k | k | k
      · exact absurd ((L.own _ (PySem.mem_of_lookup k)).2 rfl) hyx
      · exact absurd k nocell
      · obtain ⟨m, hn, hl⟩ := I.loc
        obtain ⟨w', r, q⟩ := hl i y w e1 e2 ((L.free _ (PySem.mem_of_lookup k) rfl).elim (fun k => .inr (.inl k)) (fun k => .inr (.inr k)))
        obtain ⟨c2, h2⟩ := got k
        refine ⟨w', r, .inr ⟨.inr k, c2, h2, ?_⟩⟩
        rcases q with ⟨k', _⟩ | ⟨_, c3, e', z⟩
        · exact absurd k' (nfree y k)
        · rw [cap h2] at e'
          cases e'
          exact still (I.freeC y _ (cap h2)) z
    · have hl : (X.N ++ [x]).length = X.N.length + 1 := by rw [List.length_append]; rfl
      have hil := (List.getElem?_eq_some_iff.mp e1).1
      have ei : i = X.N.length := by omega
      subst ei
      rw [List.getElem?_append_right (Nat.le_refl _), Nat.sub_self] at e1
      rw [List.getElem?_append_right (by rw [I.len]; exact Nat.le_refl _), I.len, Nat.sub_self] at e2
      cases e1
      cases e2
      exact ⟨u, rv, .inl ⟨L.par, by show ([(x, u)] : List (Str × Value)).lookup x = some u; rw [List.lookup_cons, beq_self_eq_true]⟩⟩
  · obtain ⟨w', z⟩ := I.cell y c (cap e)
    exact ⟨w', still (I.freeC y c (cap e)) z⟩
  · obtain ⟨_, o, ho, _⟩ := I.cell y c (cap e)
    exact un.free c o ho (I.freeC y c (cap e)) (by simp)
/-- x(e), in the def that got the lambda, told of as lasting -/
theorem pe_act1 {CXg : CXT} {Eg : XK} {Ng : List Str} {qg : Str} {sg : Scope} {g f c' : Addr} {cdg : Value} {params : Arguments} {body : Expr} {scope : Scope} {k i : Nat} {a x : Str} {pn : List (Addr × Obj)} {xe : Value → Shared → Prop} {W : WX} {E : XK} {tb : TE} {e : Expr} {te : TA} {p1 p2 : Pos}
    (I : Inv X pins σ H s) (L : LamS1 X.N X.env.scope scope x) (hbind : ∀ (u pm ctv : Value), bindArgs (PySem.W.kla_fn "<lambda>" (X.env.qual ++ "<lambda>") params body scope (cloFrom X.env.cells scope.names []) pm (.ref c') ctv) ⟨[u], []⟩ = pure [(x, u)])
    (tk : Takes ((cxOf CXg X.prog X.w X.K X.mg X.base Ng qg sg g cdg X.A X.stack s H Eg).tr pn xe) W) (hW : ∀ cls d σ' H', E cls d H' → W cls d σ' H') (hr : Room (k + 1) (X.A.deeper (envOfC qg sg s.heap.objs.size g cdg)))
    (hbody : ∀ (A : Around) (outer : List Env) (s : Shared) (H : Hp), Room k (A.deeper (lamEnv X scope s.heap.objs.size f c')) → PE (lamCx1 X A outer s H E scope f c' x) body tb)
    (ha : PA ((cxOf CXg X.prog X.w X.K X.mg X.base Ng qg sg g cdg X.A X.stack s H Eg).tr pn xe) [e] te)
    (hN : Ng[i]? = some a) (hv : Vis sg a) (he : starEach [e] (envOfC qg sg s.heap.objs.size g cdg) = (false, eval e (envOfC qg sg s.heap.objs.size g cdg)) :: starEach [] (envOfC qg sg s.heap.objs.size g cdg)) (hpl : (backTo p2 (starEach [] (envOfC qg sg s.heap.objs.size g cdg))).any (·.1) = false) (hd : (a == ("__debug__" : Str)) = false := by decide) (hcd : (a == ("__classdict__" : Str)) = false := by decide) :
    PE ((cxOf CXg X.prog X.w X.K X.mg X.base Ng qg sg g cdg X.A X.stack s H Eg).tr pn xe) (.Call (.Name a p1) [e] [] p2)
      (fun σZ HZ Q => σZ[i]? = some (some (.ref f)) ∧ HZ f = some (.ext (LamP (X.env.qual ++ "<lambda>") params body scope (cloFrom X.env.cells scope.names []) f c')) ∧ te σZ HZ fun vs H1 => ∃ v, vs = [v] ∧ H1 c' = some (CodeO c' (X.env.qual ++ "<lambda>")) ∧ H1 f = some (.ext (LamP (X.env.qual ++ "<lambda>") params body scope (cloFrom X.env.cells scope.names []) f c')) ∧ tb (σ ++ [some v]) H1 Q) := by
  refine ⟨fun pinsZ sZ σZ HZ Q IZ ⟨hs, hf0, ht⟩ => ?_⟩
  refine wpAny_Call_Name_kw (thn ((pe_var (pos := p1) (i := i) hN hv hd hcd).run pinsZ sZ σZ HZ (fun v H1 => v = .ref f ∧ H1 = HZ) IZ ⟨.ref f, hs, rfl, rfl⟩) fun u s1 ⟨v, H1, I1, r1, ev, eH⟩ => ?_)
  subst ev
  rw [eH] at I1
  obtain rfl : u = Value.ref f := r1
  obtain ⟨⟨pm0, ctv0, of0⟩, _, _⟩ := I1.hok f _ hf0
  refine PySem.W.callWith_F ⟨_, _, _, _, of0⟩ (thn (ha.run p2 pinsZ s1 σZ HZ _ I1 ht) fun us s2 ⟨vs, H2, I2, rs, v, ev, hc, hf, hb⟩ => ?_) he hpl
  subst ev
  obtain ⟨u, rv, rfl⟩ : ∃ u, RelV v u ∧ us = [u] := by
    cases rs with | cons a r => cases r; exact ⟨_, a, rfl⟩
  obtain ⟨⟨pm, ctv, of1⟩, _, _⟩ := I2.hok f _ hf
  refine ⟨⟨_, _, _, _, of1⟩, ?_⟩
  have un : Un (frs X.stack) [] H H2 s.heap s2.heap := I2.base
  obtain ⟨⟨oc, ws, t, hoc, hdc, hvc⟩, _, _⟩ := I2.hok c' _ hc
  have rc : codeAny (model X.prog X.w) (X.A.deeper (envOfC qg sg s.heap.objs.size g cdg)) (.call (.ref f) ⟨[u], []⟩) (CR (L2.CX X.prog X.w) (envOfC qg sg s.heap.objs.size g cdg :: X.stack) X.prog X.w H2 s2 Q E) s2 := by
    refine PySem.W.kla_callFunE hr.depth of1 rfl L.co L.gen rfl ⟨c', oc, ws, t, rfl, hoc, hdc, hvc⟩ ?_
    rw [hbind]
    refine wpAny_pure (wpAny_newFunctionEnv (fun y hy => (L.own y hy).1) (fun y hy => by rw [List.mem_singleton.mp hy]; exact L.par) (fun h₁ hns hsb => ⟨I2.nolimit.fresh _ hsb, ?_⟩) L.kind)
    have kp : ∀ b o, s2.heap.get? b = some o → h₁.get? b = some o := fun b o e => hsb.extBut b o (Nat.ne_of_lt (Heap.lt_size e)) (Heap.get?_push_of_some _ e)
    have J : Inv (lamCx1 X (X.A.deeper (envOfC qg sg s.heap.objs.size g cdg)) (envOfC qg sg s.heap.objs.size g cdg :: X.stack) s2 H2 E scope f c' x) [] (σ ++ [some v]) H2 { s2 with heap := h₁, toks := s2.toks + [(x, u)].length } :=
      lam_start1 I L rv I2.env0 hr.hd un hns kp
    exact PySem.W.kla_codeExpr (wpAny_mono ((hbody _ _ s2 H2 (hr.deeper _)).run [] _ _ H2 Q J hb) (fun v s' ⟨w', H', J', rv, q⟩ => ⟨w', H', J'.os, J'.bare, J'.base, J'.hok, rv, q⟩) fun e s' hq => hq)
  have hx : Passes (L2.CX X.prog X.w) ((cxOf CXg X.prog X.w X.K X.mg X.base Ng qg sg g cdg X.A X.stack s H Eg).tr pn xe) E := passes_call tk hW
  refine wpAny_call (codeAny_mono rc fun r s' hq => ?_)
  cases r with
  | error e => exact hx pinsZ σZ H2 s2 e s' I2 hq
  | ok fl =>
    cases fl with
    | ret u => exact I2.after hq
    | next => exact False.elim hq
    | brk => exact False.elim hq
    | cont => exact False.elim hq
end
end PL
namespace PL
open PySem PySem.Spec PyProof.Rows L2 LamX
/-- a def of two parameters, the second one called with one argument: TT what it makes of the first and of the lambda's reading -/
def GivesTo2 (X : Cx) (Ng : List Str) (x : Str) (sg : Scope) (g : Addr) (cdg : Value) (bg : List Stmt) (a : Str) (q : Str) (TT : V → (XK → V → Hp → VK → Prop) → Hp → VK → Prop) : Prop :=
  ∀ (f c' : Addr) (F : Addr → Addr → Heap → Prop) (s : Shared) (H : Hp) (Q : VK) (v0 : V) (tl : XK → V → Hp → VK → Prop),
    (∀ (W : WX) (pn : List (Addr × Obj)) (xe : Value → Shared → Prop) (E : XK) (e : Expr) (te : TA) (p1 p2 : Pos), Takes ((cxOf C8.CX0 X.prog X.w X.K X.mg X.base Ng x sg g cdg X.A X.stack s H C8.E0).tr pn xe) W → (∀ cls d σ' H', E cls d H' → W cls d σ' H') →
      PA ((cxOf C8.CX0 X.prog X.w X.K X.mg X.base Ng x sg g cdg X.A X.stack s H C8.E0).tr pn xe) [e] te →
      starEach [e] (envOfC x sg s.heap.objs.size g cdg) = (false, eval e (envOfC x sg s.heap.objs.size g cdg)) :: starEach [] (envOfC x sg s.heap.objs.size g cdg) → (backTo p2 (starEach [] (envOfC x sg s.heap.objs.size g cdg))).any (·.1) = false →
      PE ((cxOf C8.CX0 X.prog X.w X.K X.mg X.base Ng x sg g cdg X.A X.stack s H C8.E0).tr pn xe) (.Call (.Name a p1) [e] [] p2) (fun σZ HZ Q => σZ[1]? = some (some (.ref f)) ∧ HZ f = some (.ext (F f c')) ∧ te σZ HZ fun vs H1 => ∃ v, vs = [v] ∧ H1 c' = some (CodeO c' q) ∧ H1 f = some (.ext (F f c')) ∧ tl E v H1 Q)) →
    H c' = some (CodeO c' q) → H f = some (.ext (F f c')) → TT v0 (fun E v H' Q' => H' c' = some (CodeO c' q) ∧ H' f = some (.ext (F f c')) ∧ tl E v H' Q') H Q →
    ∃ t, PSs (cxOf C8.CX0 X.prog X.w X.K X.mg X.base Ng x sg g cdg X.A X.stack s H C8.E0).nox bg t ∧ t { nx := fun _ H' => Q .non H', rt := Q } (L2.start Ng [v0, .ref f]) H
/-- what is known of a lambda of one parameter of this def -/
structure LamI1 (X : Cx) (k : Nat) (F : Addr → Addr → Heap → Prop) (t : XK → TE) : Prop where
  ex : ∃ (pa : Arguments) (body : Expr) (sc : Scope) (x : Str), F = LamP (X.env.qual ++ "<lambda>") pa body sc (cloFrom X.env.cells sc.names []) ∧ LamS1 X.N X.env.scope sc x ∧
    (∀ (u : Value) (q : Str) (cl : List (Str × Addr)) (pm cv ctv : Value), bindArgs (PySem.W.kla_fn "<lambda>" q pa body sc cl pm cv ctv) ⟨[u], []⟩ = pure [(x, u)]) ∧
    (∀ (A : Around) (outer : List Env) (s : Shared) (H : Hp) (E : XK) (f c' : Addr), Room k (A.deeper (lamEnv X sc s.heap.objs.size f c')) → PE (lamCx1 X A outer s H E sc f c' x) body (t E))
/-- f(e0, e), e a kept lambda of this def -/
def tLamC2 (q : Str) (F : Addr → Addr → Heap → Prop) (t : XK → TE) (TT : V → (XK → V → Hp → VK → Prop) → Hp → VK → Prop) (ta : TA) : TE := fun σ H Q => ta σ H fun vs H1 => ∃ (f c' : Addr) (v0 : V), vs = [v0, .ref f] ∧ H1 f = some (.ext (F f c')) ∧ H1 c' = some (CodeO c' q) ∧
  TT v0 (fun E v H' Q' => H' c' = some (CodeO c' q) ∧ H' f = some (.ext (F f c')) ∧ t E (σ ++ [some v]) H' Q') H1 Q
section
variable {X : Cx}
theorem pe_lamC2 {F : Addr → Addr → Heap → Prop} {t : XK → TE} {TT : V → (XK → V → Hp → VK → Prop) → Hp → VK → Prop} {x a0 a : Str} {g : Addr} {k : Nat} {pg : Arguments} {bg : List Stmt} {sg : Scope} {dV kV doc pm cdv ct oc : Value} {an od : Option Addr} {osl : Array (Option Value)} {Ng : List Str} {e0 e : Expr} {ta : TA} {p pos : Pos}
    (hg : Gl X x) (hm : X.mg x = some (.ref g)) (hk : PySem.W.keepIn X.K (.ref g) = true) (lk : X.K.lookup g = some ⟨oc, od, .func (PySem.W.fnOf x x pg bg sg dV kV doc pm an cdv ct), osl⟩) (hcg : PySem.W.codeIn X.K cdv x = true)
    (hb : L2.Binds X.K (PySem.W.fnOf x x pg bg sg dV kV doc pm an cdv ct) [a0, a] []) (Sg : FnScope Ng [a0, a] sg) (hNg : Ng[1]? = some a) (hva : Vis sg a) (hG : GivesTo2 X Ng x sg g cdv bg a (X.env.qual ++ "<lambda>") TT)
    (hr : Room (k + 2) X.A) (hL : LamI1 X k F t) (ha : PA X [e0, e] ta) (hst : starEach [e0, e] X.env = (false, eval e0 X.env) :: starEach [e] X.env := by rfl) (hpl : (backTo pos (starEach [e] X.env)).any (·.1) = false := by rfl)
    (hdb : (x == ("__debug__" : Str)) = false := by decide) (hd : (a == ("__debug__" : Str)) = false := by decide) (hcd : (a == ("__classdict__" : Str)) = false := by decide) : PE X (.Call (.Name x p) [e0, e] [] pos) (tLamC2 (X.env.qual ++ "<lambda>") F t TT ta) := by
  constructor
  intro pins s σ H Q I h
  apply wpAny_Call_Name_kw
  refine ld_glob I hg hm ?_ hdb
  refine PySem.W.callWith_K (h₀ := X.base) I.ok.mod.kin hk (thn (ha.run pos pins s σ H _ I h) fun us s1 ⟨vs, H1, I1, r, f, c', v0, ev, hf, hco, hTT⟩ => ⟨I1.kIn, ?_⟩) hst hpl
  subst ev
  obtain ⟨u0, rv0, rfl⟩ : ∃ u0, RelV v0 u0 ∧ us = [u0, Value.ref f] := by
    cases r with | cons a r => cases r with | cons b r => cases r; exact ⟨_, a, by rw [show _ = Value.ref f from b]⟩
  obtain ⟨pa, body, sc, y, eF, L1, hbind, hbody⟩ := hL.ex
  have run : codeAny (model X.prog X.w) X.A (.call (.ref g) ⟨[u0, .ref f], []⟩) (CR C8.CX0 X.stack X.prog X.w H1 s1 Q C8.E0) s1 := run_ofS (N := Ng) (ps := [a0, a]) (us := [u0, .ref f]) (vs := [v0, .ref f]) lk hcg Sg hr I1.env0 (hb s1 [u0, .ref f] I1.kIn rfl) (.cons rv0 (.cons rfl .nil)) rfl fun hr2 => by
    obtain ⟨t2, ht2, hq2⟩ := hG f c' F s1 H1 Q v0 (fun E v H' Q' => t E (σ ++ [some v]) H' Q') (fun W pn xe E e te p1 p2 tk hW hpa he hp => by
      rw [eF]
      exact pe_act1 (i := 1) I1 L1 (fun u _ _ => hbind u _ _ _ _ _) tk hW hr2 (fun A outer s H r3 => hbody A outer s H E f c' r3) hpa hNg hva he hp hd hcd) hco hf hTT
    exact ⟨t2, ht2.nox, hq2⟩
  refine wpAny_call (codeAny_mono run fun r s2 hq => ?_)
  match r, hq with
  | .error e, hq => exact (show False from hq).elim
  | .ok (.ret u), hq => exact I1.after hq
  | .ok .next, hq => exact hq.elim
  | .ok .brk, hq => exact hq.elim
  | .ok .cont, hq => exact hq.elim
end
/-- what a count of the first ones leaves: n things, p of each, the first that has it not (as far as it looked) -/
def Bs (n : Nat) (p : Nat → Bool) (r : Nat) : Prop := r ≤ n ∧ (r = 0 ∨ p (r - 1) = true) ∧ (r = n ∨ p r = false)
def TCount : V → (XK → V → Hp → VK → Prop) → Hp → VK → Prop := fun v0 tl H Q => ∃ (n : Nat) (p : Nat → Bool) (W : Hp → Prop), v0 = .int (n : Int) ∧ W H ∧ (∀ i, i < n → ∀ H', W H' → ∀ Q' : VK, (∀ H'', W H'' → Q' (.bl (p i)) H'') → tl (fun _ _ _ => False) (.int (i : Int)) H' Q') ∧ ∀ r H', W H' → Bs n p r → Q (.int (r : Int)) H'
theorem Fr.snoc {G : Cfg} {n : Nat} {O : Addr → Prop} {env : Ev} {σ : L2.St} {H : Hp} {v : V} {d : D} (F : Fr G n O env σ H) (r : Rp (Sh O H) v d) : Fr G n O (env ++ [.dat d]) (σ ++ [some v]) H := by
  have own : ∀ {i a}, Own2 (env ++ [.dat d]) (σ ++ [some v]) i a → Own2 env σ i a := fun {i a} ⟨c, w, e, es, o⟩ => by
    by_cases hi : i < env.length
    · rw [List.getElem?_append_left hi] at e
      rw [List.getElem?_append_left (by rw [← F.len]; exact hi)] at es
      exact ⟨c, w, e, es, o⟩
    · rw [List.getElem?_append_right (by omega)] at e
      cases hj : i - env.length with
      | zero => rw [hj] at e; cases e; exact (show False from o).elim
      | succ j => rw [hj] at e; cases e
  refine ⟨F.wl, by rw [List.length_append, List.length_append, F.len]; rfl, fun i c e nn => ?_, fun i j a oi oj => F.uq i j a (own oi) (own oj)⟩
  · by_cases hi : i < env.length
    · rw [List.getElem?_append_left hi] at e
      obtain ⟨w, h1, h2⟩ := F.sl i c e nn
      exact ⟨w, by rw [List.getElem?_append_left (by rw [← F.len]; exact hi)]; exact h1, h2⟩
    · rw [List.getElem?_append_right (by omega)] at e
      cases hj : i - env.length with
      | zero =>
        rw [hj] at e
        cases e
        exact ⟨v, by rw [List.getElem?_append_right (by rw [← F.len]; omega), ← F.len, hj]; rfl, .dat r⟩
      | succ j => rw [hj] at e; cases e
/-- count_first(n, x), x a kept lambda -/
def mCount (q : Str) (F : Addr → Addr → Heap → Prop) (m : EM) (am : AM) : EM := fun env Q => am env fun ds => ∃ (n : Nat) (p : Nat → Bool), ds = [.int (n : Int), .lam F (CodP q)] ∧ (∀ i, i < n → m (unOwn env ++ [.dat (.int (i : Int))]) fun d => d = .bl (p i)) ∧ ∀ r, Bs n p r → Q (.int (r : Int))
theorem se_count {C : Wd → XC → Prop} {q : Str} {F : Addr → Addr → Heap → Prop} {t : XK → TE} {m : EM} {ta : TA} {am : AM} {c : Nat} (h : SA C c ta am) (ht : SE (nx CA) 0 (t fun _ _ _ => False) m) : SE C c (tLamC2 q F t TCount ta) (mCount q F m am) := fun G g n O env σ H Qd Q hL Fr hm k =>
  h G g n O env σ H _ _ hL Fr hm fun ds vs H1 ⟨nn, p, ed, hp, hq⟩ gr ok1 r => by
    subst ed
    have F1 := Fr.grow gr ok1
    cases r with
    | cons a r =>
      cases a
      cases r with
      | cons b r =>
        cases r
        cases b with
        | lam e1 e2 =>
          have z1 := fun z => e1.2 (F1.wl.zo _ z)
          have z2 := fun z => e2.2 (F1.wl.zo _ z)
          refine ⟨_, _, _, rfl, rk_ext e1.1, rk_ext e2.1, nn, p, fun H' => Grow G.w H1 H' ∧ G.w.ok (n + c) H', rfl, ⟨Grow.refl _ _, ok1⟩, fun i hi H' ⟨g', ok'⟩ Q' hQ' => ⟨g' _ _ (rk_ext e2.1) z2, g' _ _ (rk_ext e1.1) z1, ?_⟩, fun r H' ⟨g', ok'⟩ b => k _ _ H' (hq r b) (gr.trans g') ok' (.int _)⟩
          have F2 := F1.grow g' ok'
          refine ht (Cfg.nx G.w H' O F2.wl.tr) trivial (n + c) O _ _ H' (fun d => d = .bl (p i)) Q' (Nat.le_trans hL G.x.le) ((F2.unOwn (G' := Cfg.nx G.w H' O F2.wl.tr) ⟨ok', F2.wl.zo, fun _ y => y, F2.wl.tr, GrowM.refl _ _ _⟩ (LeA.refl _)).snoc (.int (i : Int))) (hp i hi) fun d v H'' hd g'' ok'' r => ?_
          subst hd
          cases r
          exact hQ' H'' ⟨g'.trans g'', ok''⟩
/-- lambda x: .., kept -/
theorem pe_lamV1 {X : Cx} {T : List (Addr × Str)} {c P : Addr} {pa : Arguments} {sc : Scope} {body : Expr} {lp : Pos} {x : Str} (TB : TabB X.base X.mg c P) (hcode : X.env.code = .ref c)
    (hmT : (P, X.env.qual ++ "<lambda>") ∈ T) (hu : ∀ p ∈ T, p.1 = P → p.2 = X.env.qual ++ "<lambda>") (L : LamS1 X.N X.env.scope sc x) (hdef : defaultsOf pa X.env = ([], [])) :
    PE X (.Lambda pa body sc lp) (tLamV P T (LamP (X.env.qual ++ "<lambda>") pa body sc (cloFrom X.env.cells sc.names [])) (X.env.qual ++ "<lambda>")) :=
  ⟨fun pins s σ H Q I ⟨hT, h⟩ => lam_track I TB hcode hmT hu hT hdef (L.has I.ok) fun f c' H1 s' eN T1 hfn hco I1 => ⟨.ref f, _, I1, rfl, h f c' H1 eN T1 hfn hco⟩⟩
end PL

/-! XD5: dict(list of pairs). -/
namespace PL
open PySem PySem.Spec PyProof.Rows L2
def kD : Key → D
  | .inl i => .int i
  | .inr s => .str s
def pairD (es : List (Key × D)) : List D := es.map fun kv => .tup [kD kv.1, kv.2]
theorem pairs_of {K : PySem.W.Frag} {O : Addr → Prop} {H : Hp} : ∀ {es : List (Key × D)} {xs : List V}, RpL (Sh O H) xs (pairD es) → ∃ (ps : List Addr) (kvs : List (Key × V)), xs = ps.map V.ref ∧ Paired (fun p (kv : Key × V) => SqT K H p [kV kv.1, kv.2]) ps kvs ∧ RpD (Sh O H) kvs es
  | [], _, .nil => ⟨[], [], rfl, .nil, .nil⟩
  | (k, d) :: es, _, .cons a r => by
    obtain ⟨ps, kvs, rfl, h1, h2⟩ := pairs_of (K := K) (es := es) r
    have a : Rp (Sh O H) _ (.tup [kD k, d]) := a
    cases a with
    | tup e q =>
      cases q with
      | cons b q =>
        cases q with
        | cons c q =>
          cases q
          rename_i x1 x2
          have e1 : x1 = kV k := by
            cases k with
            | inl i => cases b; rfl
            | inr s => cases b; rfl
          subst e1
          exact ⟨_ :: ps, (k, _) :: kvs, rfl, .cons (sqT (rk_tup e.1)) h1, .cons c h2⟩
def kDictP : List D → (D → Prop) → Prop := fun ds Q => ∃ es : List (Key × D), ds = [.lst (pairD es)] ∧ Q (.dic (mergeD [] es))
theorem kc_dictP {C : Wd → XC → Prop} {K : PySem.W.Frag} : KC C (fun xs H Q => ∃ (a : Addr) (ps : List Addr) (kvs : List (Key × V)), xs = [.ref a] ∧ SqL K H a (ps.map V.ref) ∧ Paired (fun p kv => SqT K H p [kV kv.1, kv.2]) ps kvs ∧ ∀ p, H p = none → Q (.ref p) (upd H p (.dK (mergeK [] kvs)))) kDictP := fun G _ n O H vs ds Qd Q W r ⟨es, ed, h⟩ q => by
  subst ed
  obtain ⟨v, rfl, r1⟩ := r.one
  obtain ⟨a, xs, rfl, e, r⟩ := r1.list
  obtain ⟨ps, kvs, rfl, h1, h2⟩ := pairs_of (K := K) r
  exact ⟨a, ps, kvs, rfl, sqL e, h1, fun p hp => q _ _ _ h (Grow.new _ hp) (Wd.okNew hp W.ok) (.dic ⟨.inl upd_same, W.free hp⟩ ((RpD.merge h2 .nil).mono (sh_grow W.zo (Grow.new _ hp))))⟩
/-- _law_caught(lambda: ..) whose body draws k times -/
theorem se_caughtC {C : Wd → XC → Prop} {C0 : Wd → Prop} {K : PySem.W.Frag} {P CE : Addr} {T : List (Addr × Str)} {k : Nat} (hW : ∀ w x, C w x → TbW P T w ∧ C0 w) {t : XK → TE} {mx : (Exn → Prop) → EM} (ht : ∀ E X0, SE (exC C0 E X0) k (t E) (mx X0)) : SE C k (tLamP P T (TCaught K CE) t) (mCaught K CE mx) := fun G g n O env σ H Qd Q hL F hm q => by
  obtain ⟨B, c0⟩ := hW _ _ g
  refine ⟨B.t n H F.wl.ok, fun H1 ex T1 => ?_⟩
  have gr : Grow G.w H H1 := fun b o e z => ex b o e fun y => z (y ▸ B.z)
  have F1 := F.grow gr (B.x n H H1 F.wl.ok ex T1)
  show t _ σ H1 _
  refine ht _ (fun e => PySem.W.exmOne K e.1 (.ref CE) = some true ∧ Qd (.exc e.1 e.2.1 e.2.2)) (⟨G.w, H1, O, F1.wl.tr, ⟨n + k, Nat.le_trans hL G.x.le, H1, fun c d H' => PySem.W.exmOne K c (.ref CE) = some true ∧ ∀ a, H' a = none → Q (.ref a) (upd H' a (ExcK c d a)), fun e => PySem.W.exmOne K e.1 (.ref CE) = some true ∧ Qd (.exc e.1 e.2.1 e.2.2), fun _ => False⟩, GrowM.refl _ _ _, fun _ z => z.elim, fun n' H' cv d e hn ok' gm _ a z => ?_⟩ : Cfg) ⟨c0, rfl, rfl⟩ n O (unOwn env) σ H1 (fun _ => Qd .non) (fun _ H' => Q .non H') (Nat.le_refl _) (F1.unOwn ⟨F1.wl.ok, F1.wl.zo, fun _ y => y, F1.wl.tr, GrowM.refl _ _ _⟩ (LeA.refl _)) hm (fun d v H' hd g' ok' r => q .non .non H' hd (gr.trans g') ok' .non)
  have g' : Grow G.w H1 H' := gm.no
  refine ⟨by rw [a.1]; exact z.1, fun ad hn2 => ?_⟩
  have ok2 := G.w.up _ _ _ hn ok'
  have W2 := F1.wl.grow g' ok2
  have g2 : Grow G.w H' (upd H' ad (ExcK cv d ad)) := Grow.new _ hn2
  exact q _ _ _ z.2 (gr.trans (g'.trans g2)) (Wd.okNew hn2 ok2) (exn_rp a (sh_grow W2.zo g2) ⟨.inl upd_same, W2.free hn2⟩)
/-- a raising def whose world must hold more than any -/
theorem se_callXC {C0 C' : Wd → Prop} {ta : TA} {am : AM} {c k : Nat} {S : XS} {Er : XK} {X0 : Exn → Prop} (h : SA (exC C0 Er X0) c ta am) (hS : MonoX S) (hC : ∀ w, C0 w → C' w) : SE (exC C0 Er X0) (c + k) (tCall (spX C' k S) [] Er ta) (fun env Q => am env fun ds => S ds Q X0) := fun G g n O env σ H Qd Q hL F hm q =>
  h G g n O env σ H _ _ (by omega) F hm fun ds vs H1 h1 g1 ok1 r1 => by
    have F1 := F.grow g1 ok1
    obtain ⟨c0, eE, eX⟩ := g
    rw [List.append_nil]
    refine ⟨G.w, n + c, O, ds, hC _ c0, by have := G.x.le; omega, ok1, F1.wl.zo, F1.wl.tr, r1, hS ds _ _ _ _ (fun d hd v H' g' ok r => q d v H' hd (g1.trans g') (ok_as ok) r) (fun e he cv dd H' g' ok a => ?_) h1⟩
    rw [← eE]
    exact go_out (by omega) (F1.wl.grow g' ok) a (by rw [eX]; exact he)
theorem se_callNMC {C : Wd → XC → Prop} {C' : Wd → Prop} {c1 c2 m : Nat} {ix : List Nat} {t tr : TA} {am ar : AM} {E : XK} {S : XS} (h : SA C c1 t am) (h' : SA C c2 tr ar) (hS : MonoX S) (hC : ∀ w x, C w x → C' w) : SE C (c1 + c2) (tCallK (spX C' 0 S) (gM m ix) E t tr) (fun env Q => am env fun ds => ar env fun es => S (gM m ix ds es) Q fun _ => False) := fun G g n O env σ H Qd Q hL F hm q =>
  h G g n O env σ H _ _ (by omega) F hm fun ds vs H1 h1 g1 ok1 r1 => h' G g _ O env σ H1 _ _ (by omega) (F.grow g1 ok1) h1 fun es zs H2 h2 g2 ok2 r2 =>
    have F2 := (F.grow g1 ok1).grow g2 ok2
    ⟨G.w, n + c1 + c2, O, _, hC _ _ g, by have := G.x.le; omega, ok2, F2.wl.zo, F2.wl.tr, gM_rp m ix (r1.mono (sh_grow F.wl.zo g2)) r2, hS _ _ _ _ _ (fun d hd v H' g' ok r => q d v H' hd (g1.trans (g2.trans g')) (ok_le (by omega) (ok_as ok)) r) (fun e he => he.elim) h2⟩
/-- a drawing def from within what may raise -/
theorem se_callTC {C : Wd → XC → Prop} {C' : V → Wd → Prop} {c k : Nat} {t : TA} {am : AM} {S : V → List D → (D → Prop) → Prop} {E : XK} (tok : V) (h : SA C c t am) (hS : Mono (S tok)) (hC : ∀ w x, C w x → C' tok w) : SE C (c + k) (tCall (spT C' k S) [] E t) (mCall am (S tok)) := fun G g n O env σ H Qd Q hL F hm q =>
  h G g n O env σ H _ _ (by omega) F hm fun ds vs H1 h1 g1 ok1 r1 => by
    rw [List.append_nil]
    exact ⟨tok, call_sp (hC _ _ g) hS (by have := G.x.le; omega) (F.grow g1 ok1) r1 h1 fun d v H' hd g ok r => q d v H' hd (g1.trans g) (ok_as ok) r⟩
/-- a if t else b, as a test -/
def tIfT (tc ta tb : TT) : TT := fun σ H Q => tc σ H fun z H1 => if z = true then ta σ H1 Q else tb σ H1 Q
theorem pt_ifT {X : Cx} {c a b : Expr} {tc ta tb : TT} {pos : Pos} (hc : PT X c tc) (ha : PT X a ta) (hb : PT X b tb) : PT X (.IfExp c a b pos) (tIfT tc ta tb) := by
  refine ⟨fun pins s σ H Q I h => ?_⟩
  show wpAny _ _ (do if ← isTrue c X.env (eval c X.env) then isTrue a X.env (eval a X.env) else isTrue b X.env (eval b X.env)) _ _ s
  refine wpAny_bind (thn (hc.run pins s σ H _ I h) fun z s1 ⟨H1, I1, q1⟩ => ?_)
  cases z with
  | true =>
    rw [if_pos rfl] at q1 ⊢
    exact ha.run pins s1 σ H1 Q I1 q1
  | false =>
    rw [if_neg Bool.false_ne_true] at q1 ⊢
    exact hb.run pins s1 σ H1 Q I1 q1
def mIfT (mc ma mb : TM) : TM := fun env Q => mc env fun z => if z = true then ma env Q else mb env Q
theorem st_ifT {C : Wd → XC → Prop} {c1 c2 c3 : Nat} {tc ta tb : TT} {mc ma mb : TM} (hc : ST C c1 tc mc) (ha : ST C c2 ta ma) (hb : ST C c3 tb mb) : ST C (c1 + (c2 + c3)) (tIfT tc ta tb) (mIfT mc ma mb) := fun G g n O env σ H Qd Q hL F hm k =>
  hc G g n O env σ H _ _ (by omega) F hm fun z H1 h1 g1 ok1 => by
    have F1 := F.grow g1 ok1
    cases z with
    | true =>
      rw [if_pos rfl] at h1 ⊢
      exact ha G g (n + c1) O env σ H1 Qd Q (by omega) F1 h1 fun z H2 h2 g2 ok2 => k z H2 h2 (g1.trans g2) (ok_le (by omega) (ok_as ok2))
    | false =>
      rw [if_neg Bool.false_ne_true] at h1 ⊢
      exact hb G g (n + c1) O env σ H1 Qd Q (by omega) F1 h1 fun z H2 h2 g2 ok2 => k z H2 h2 (g1.trans g2) (ok_le (by omega) (ok_as ok2))
end PL

/-! XD6: lambdas of some parameters that capture nothing, kept as values and called. -/
namespace PL
open PySem PySem.Spec PyProof.Rows L2 LamX
structure LamSN (ps : List Str) (sc : Scope) : Prop where
  kind : sc.kind = .function
  co : sc.isCoroutine = false
  gen : sc.isGenerator = false
  nd : ps.Nodup
  par : ∀ x ∈ ps, sc.names.lookup x = some .local
  own : ∀ y ∈ sc.names, y.2 ≠ .cell ∧ y.2 ≠ .free
def lamSNB (ps : List Str) (sc : Scope) : Bool :=
  decide (sc.kind = .function) && !sc.isCoroutine && !sc.isGenerator && decide ps.Nodup && (ps.all fun x => decide (sc.names.lookup x = some .local)) && sc.names.all fun y => !decide (y.2 = .cell) && !decide (y.2 = .free)
theorem lamSN_by {ps : List Str} {sc : Scope} (h : lamSNB ps sc = true) : LamSN ps sc := by
  unfold lamSNB at h
  simp only [Bool.and_eq_true, Bool.not_eq_true', decide_eq_true_eq, decide_eq_false_iff_not, List.all_eq_true] at h
  obtain ⟨⟨⟨⟨⟨h1, h2⟩, h3⟩, h4⟩, h5⟩, h6⟩ := h
  exact ⟨h1, h2, h3, h4, h5, h6⟩
abbrev lamE (q : Str) (sc : Scope) (L f c' : Addr) : Env := PySem.W.envX q sc L f (.ref c') []
/-- the context of such a lambda's body -/
def lamN (prog : Program) (w : World) (K : PySem.W.Frag) (mg : Str → Option Value) (base : Heap) (ps : List Str) (q : Str) (A : Around) (outer : List Env) (s : Shared) (H : Hp) (E : XK) (sc : Scope) (f c' : Addr) : Cx where
  prog := prog
  w := w
  K := K
  mg := mg
  base := base
  A := A.deeper (lamE q sc s.heap.objs.size f c')
  N := ps
  s_0 := s
  H_0 := H
  env := lamE q sc s.heap.objs.size f c'
  outer := outer
  stack := lamE q sc s.heap.objs.size f c' :: outer
  ex := []
  fn := fun _ => false
  calm := true
  pn := []
  xe := fun e s' => wpAny (model prog w) (A.deeper (lamE q sc s.heap.objs.size f c')) (leaving (lamE q sc s.heap.objs.size f c') e) (fun _ s'' => L2.CX prog w outer H s E e s'') (fun e' s'' => L2.CX prog w outer H s E e' s'') s'
theorem look_mem : ∀ {l : List (Str × Value)} {y : Str} {u : Value}, (l.map (·.1)).Nodup → (y, u) ∈ l → l.lookup y = some u
  | [], _, _, _, h => by cases h
  | (a, b) :: l, y, u, nd, h => by
    rw [List.map_cons, List.nodup_cons] at nd
    rcases List.mem_cons.mp h with z | z
    · cases z; rw [List.lookup_cons, beq_self_eq_true]
    · have ne : y ≠ a := fun q => nd.1 (by rw [← q]; exact List.mem_map.mpr ⟨_, z, rfl⟩)
      rw [List.lookup_cons, beq_false_of_ne ne]
      exact look_mem nd.2 z
theorem zipU_look {ps : List Str} {us : List Value} {i : Nat} {y : Str} {u : Value} (nd : ps.Nodup) (hl : us.length = ps.length) (h1 : ps[i]? = some y) (h2 : us[i]? = some u) : (ps.zip us).reverse.lookup y = some u := by
  refine look_mem ?_ ?_
  · rw [List.map_reverse, List.map_fst_zip (by omega)]
    exact (List.reverse_perm ps).nodup_iff.mpr nd
  · rw [List.mem_reverse]
    exact List.mem_of_getElem? (i := i) (by rw [List.getElem?_zip_eq_some]; exact ⟨h1, h2⟩)
section
variable {prog : Program} {w : World} {K : PySem.W.Frag} {mg : Str → Option Value} {base : Heap}
theorem lamN_start {ps : List Str} {q : Str} {A : Around} {outer : List Env} {s1 : Shared} {HZ : Hp} {E : XK} {sc : Scope} {f c' : Addr} {h₁ : Heap} {tk : Nat} {vs : List V} {us : List Value} (L : LamSN ps sc) (rv : Vals vs us) (hl : vs.length = ps.length) (e0 : Env0 prog w K mg base A outer s1 HZ) (hd : A.handled = none)
    (hns : h₁.Ns s1.heap.objs.size fun y => (ps.zip us).reverse.lookup y) (kp : ∀ b o, s1.heap.get? b = some o → h₁.get? b = some o) :
    Inv (lamN prog w K mg base ps q A outer s1 HZ E sc f c') [] (vs.map some) HZ { s1 with heap := h₁, toks := tk } := by
  have noA : ∀ b : Addr, b ∉ (lamN prog w K mg base ps q A outer s1 HZ E sc f c').ex := fun b z => absurd (show b ∈ ([] : List Addr) from z) (by simp)
  have nc : ∀ {y : Str} {c : Addr}, (lamN prog w K mg base ps q A outer s1 HZ E sc f c').env.cells.lookup y = some c → False := fun {y c} e => by cases (show (none : Option Addr) = some c from e)
  have nk : ∀ {y : Str}, ¬ (sc.names.lookup y = some .cell ∨ sc.names.lookup y = some .free) := fun {y} e => by
    rcases e with e | e
    · exact (L.own _ (PySem.mem_of_lookup e)).1 rfl
    · exact (L.own _ (PySem.mem_of_lookup e)).2 rfl
  have ok : (lamN prog w K mg base ps q A outer s1 HZ E sc f c').Ok := ⟨e0.mod, L.kind, rfl, rfl, Nat.le_refl _, fun y z c e1 e2 => (nc e1).elim,
    fun y hy => (nk (show sc.names.lookup y = some .cell ∨ sc.names.lookup y = some .free from hy)).elim, fun y c z _ => (by cases (show false = true from z)), fun _ => hd, Around.frames_deeper e0.frames, .inr ⟨rfl, rfl⟩, fun b z => absurd z (noA b), e0.bs, e0.bsz, fun b _ _ => noA b, fun b z => absurd z (noA b), e0.funs, e0.frf⟩
  refine ⟨ok, rfl, e0.bare, Un.kept kp, ⟨_, hns, fun i y v e1 e2 e3 => ?_⟩, fun y c e => (nc e).elim, e0.hok.fresh (Nat.le_refl _), fun y c e => (nc e).elim, fun q hq => absurd (show q ∈ ([] : List (Addr × Obj)) ++ [] from hq) (by simp), e0.hok.kept kp, by show (vs.map some).length = ps.length; rw [List.length_map, hl]⟩
  have e1 : ps[i]? = some y := e1
  rw [List.getElem?_map] at e2
  obtain ⟨v', ev, e2'⟩ := Option.map_eq_some_iff.mp e2
  cases e2'
  obtain ⟨u, eu, ru⟩ := rv.get ev
  exact ⟨u, ru, .inl ⟨L.par y (List.mem_of_getElem? e1), zipU_look L.nd (by rw [← rv.length, hl]) e1 eu⟩⟩
end
/-- what is known of such a lambda: how its arguments are bound, what its body does -/
structure LamIN (P : Program) (w : World) (K : PySem.W.Frag) (mg : Str → Option Value) (base : Heap) (k : Nat) (q : Str) (F : Addr → Addr → Heap → Prop) (n : Nat) (tb : XK → TE) : Prop where
  ex : ∃ (ps : List Str) (pa : Arguments) (body : Expr) (sc : Scope), F = LamP q pa body sc [] ∧ LamSN ps sc ∧ ps.length = n ∧
    (∀ us : List Value, us.length = n → ∀ pm cv ctv : Value, bindArgs (PySem.W.kla_fn "<lambda>" q pa body sc [] pm cv ctv) ⟨us, []⟩ = pure (ps.zip us)) ∧
    ∀ (A : Around) (outer : List Env) (s : Shared) (H : Hp) (E : XK) (f c' : Addr), Room k (A.deeper (lamE q sc s.heap.objs.size f c')) → PE (lamN P w K mg base ps q A outer s H E sc f c') body (tb E)
def tCallLN (q : Str) (i : Nat) (L : List ((Addr → Addr → Heap → Prop) × Nat × (XK → TE))) (E : XK) (t : TA) : TE := fun σ H Q => ∃ f c', ∃ r ∈ L, σ[i]? = some (some (.ref f)) ∧ H f = some (.ext (r.1 f c')) ∧
  t σ H fun vs H1 => vs.length = r.2.1 ∧ H1 f = some (.ext (r.1 f c')) ∧ H1 c' = some (CodeO c' q) ∧ r.2.2 E (vs.map some) H1 Q
section
variable {X : Cx} {k i : Nat} {q : Str} {E : XK} {x : Str} {p pos : Pos} {e : Expr} {es : List Expr} {t : TA} {L : List ((Addr → Addr → Heap → Prop) × Nat × (XK → TE))}
theorem pe_callLN (hL : ∀ r ∈ L, LamIN X.prog X.w X.K X.mg X.base k q r.1 r.2.1 r.2.2) (hr : Room (k + 1) X.A) (tk : Takes X (fun cls d _ H => E cls d H)) (hN : X.N[i]? = some x) (hv : Vis X.env.scope x) (ha : PA X (e :: es) t)
    (hdb : (x == ("__debug__" : Str)) = false := by decide) (hcd : (x == ("__classdict__" : Str)) = false := by decide)
    (he : starEach (e :: es) X.env = (false, eval e X.env) :: starEach es X.env := by rfl) (hpl : (backTo pos (starEach es X.env)).any (·.1) = false := by rfl) : PE X (.Call (.Name x p) (e :: es) [] pos) (tCallLN q i L E t) := by
  refine ⟨fun pins s σ H Q I ⟨f, c', r, hrL, hs, hf0, ht⟩ => ?_⟩
  obtain ⟨ps, pa, body, sc, eF, LS, hn, hbind, hbody⟩ := (hL r hrL).ex
  rw [eF] at hf0 ht
  refine wpAny_Call_Name_kw (thn ((pe_var (pos := p) (i := i) hN hv hdb hcd).run pins s σ H (fun v H1 => v = .ref f ∧ H1 = H) I ⟨.ref f, hs, rfl, rfl⟩) fun u s1 ⟨v, H1, I1, r1, ev, eH⟩ => ?_)
  subst ev
  rw [eH] at I1
  obtain rfl : u = Value.ref f := r1
  obtain ⟨⟨pm0, ctv0, of0⟩, _, _⟩ := I1.hok f _ hf0
  refine PySem.W.callWith_F ⟨_, _, _, _, of0⟩ (thn (ha.run pos pins s1 σ H _ I1 ht) fun us s2 ⟨vs, H2, I2, rs, hl, hf, hc, hb⟩ => ?_) he hpl
  obtain ⟨⟨pm, ctv, of1⟩, _, _⟩ := I2.hok f _ hf
  refine ⟨⟨_, _, _, _, of1⟩, ?_⟩
  obtain ⟨⟨oc, ws, tt, hoc, hdc, hvc⟩, _, _⟩ := I2.hok c' _ hc
  have lu : us.length = ps.length := by rw [← rs.length, hl, hn]
  have rc : codeAny (model X.prog X.w) X.A (.call (.ref f) ⟨us, []⟩) (CR (L2.CX X.prog X.w) X.stack X.prog X.w H2 s2 Q E) s2 := by
    refine PySem.W.kla_callFunE hr.depth of1 rfl LS.co LS.gen rfl ⟨c', oc, ws, tt, rfl, hoc, hdc, hvc⟩ ?_
    rw [hbind us (by rw [lu, hn])]
    refine wpAny_pure (wpAny_newFunctionEnv (fun y hy => (LS.own y hy).1) (fun y hy => LS.par _ (List.of_mem_zip hy).1) (fun h₁ hns hsb => ⟨I2.nolimit.fresh _ hsb, ?_⟩) LS.kind)
    have kp : ∀ b o, s2.heap.get? b = some o → h₁.get? b = some o := fun b o e => hsb.extBut b o (Nat.ne_of_lt (Heap.lt_size e)) (Heap.get?_push_of_some _ e)
    have J : Inv (lamN X.prog X.w X.K X.mg X.base ps q X.A X.stack s2 H2 E sc f c') [] (vs.map some) H2 { s2 with heap := h₁, toks := s2.toks + (ps.zip us).length } :=
      lamN_start LS rs (by rw [hl, hn]) I2.env0 hr.hd hns kp
    exact PySem.W.kla_codeExpr (wpAny_mono ((hbody _ _ s2 H2 E f c' (hr.deeper _)).run [] _ _ H2 Q J hb) (fun v s' ⟨w', H', J', rv, qq⟩ => ⟨w', H', J'.os, J'.bare, J'.base, J'.hok, rv, qq⟩) fun e s' hq => hq)
  have hx : Passes (L2.CX X.prog X.w) X E := passes_call tk fun _ _ _ _ z => z
  refine wpAny_call (codeAny_mono rc fun r s' hq => ?_)
  cases r with
  | error e => exact hx pins σ H2 s2 e s' I2 hq
  | ok fl =>
    cases fl with
    | ret u => exact I2.after hq
    | next => exact False.elim hq
    | brk => exact False.elim hq
    | cont => exact False.elim hq
end
/-- such a lambda: its mark, how many arguments, its run, what it asks -/
abbrev LamTN := (Addr → Addr → Heap → Prop) × Nat × (XK → TE) × ((Exn → Prop) → EM)
def mCallLN (q : Str) (i : Nat) (L : List LamTN) (a : AM) (X0 : Exn → Prop) : EM := fun env Q => ∃ r ∈ L, env[i]? = some (.dat (.lam r.1 (CodP q))) ∧ a env fun ds => ds.length = r.2.1 ∧ r.2.2.2 X0 (ds.map Sv.dat) Q
section
variable {C0 : Wd → Prop} {ta : TA} {am : AM} {c i : Nat} {q : Str} {Er : XK} {X0 : Exn → Prop} {L : List LamTN}
theorem fr_args {G : Cfg} {n : Nat} {O : Addr → Prop} {H : Hp} (W : Wl G n O H) : ∀ {vs : List V} {ds : List D}, RpL (Sh O H) vs ds → Fr G n O (ds.map Sv.dat) (vs.map some) H := fun {vs ds} r => by
  have at' : ∀ (i : Nat) c, (ds.map Sv.dat)[i]? = some c → ∃ d, c = .dat d ∧ ds[i]? = some d := fun i c h => by
    rw [List.getElem?_map] at h
    obtain ⟨d, h1, h2⟩ := Option.map_eq_some_iff.mp h
    exact ⟨d, h2.symm, h1⟩
  refine ⟨W, by rw [List.length_map, List.length_map, r.length], fun i c h n => ?_, fun i j b ⟨c, _, hc, _, ho⟩ _ => ?_⟩
  · obtain ⟨d, rfl, hd⟩ := at' i c h
    obtain ⟨v, hv, rv⟩ := r.get hd
    exact ⟨v, by rw [List.getElem?_map, hv]; rfl, .dat rv⟩
  · obtain ⟨d, rfl, _⟩ := at' i c hc
    exact (show False from ho).elim
theorem se_callLN (h : SA (exC C0 Er X0) c ta am) (hL : ∀ r ∈ L, SE (exC C0 Er X0) 0 (r.2.2.1 Er) (r.2.2.2 X0)) : SE (exC C0 Er X0) c (tCallLN q i (L.map fun r => (r.1, r.2.1, r.2.2.1)) Er ta) (mCallLN q i L am X0) := fun G g n O env σ H Qd Q hL' F ⟨r, hr, hi, hm⟩ k => by
  obtain ⟨v, hv, sl⟩ := F.sl i _ hi (by intro z; cases z)
  cases sl with
  | dat rp =>
    cases rp with
    | lam e1 e2 =>
      have hf := rk_ext e1.1
      have hc := rk_ext e2.1
      refine ⟨_, _, (r.1, r.2.1, r.2.2.1), List.mem_map.mpr ⟨r, hr, rfl⟩, hv, hf, h G g n O env σ H _ _ hL' F hm fun ds vs H1 ⟨hl, hb⟩ g1 ok1 rs => ?_⟩
      have F1 := F.wl.grow g1 ok1
      have nz1 : ∀ a φ, H a = some (.ext φ) → H1 a = some (.ext φ) := fun a φ e => by
        refine g1 a _ e fun z => ?_
        obtain ⟨u, eu, ne⟩ := F.wl.tr a (F.wl.zo a z)
        rw [e] at eu
        exact ne _ (Option.some.inj eu).symm
      refine ⟨by rw [rs.length, hl], nz1 _ _ hf, nz1 _ _ hc, ?_⟩
      exact hL r hr G g (n + c) O (ds.map Sv.dat) (vs.map some) H1 Qd Q (by omega) (fr_args F1 rs) hb fun d v H2 hd g2 ok2 rv => k d v H2 hd (g1.trans g2) (by rw [Nat.add_zero] at ok2; exact ok2) rv
end
end PL

/-! XD7: making a lambda of some parameters that captures nothing. -/
namespace PL
open PySem PySem.Spec PyProof.Rows L2 LamX
theorem cloFrom_none {cells : List (Str × Addr)} : ∀ {l : List (Str × NameKind)}, (∀ y ∈ l, y.2 ≠ .free) → cloFrom cells l [] = []
  | [], _ => rfl
  | (n, k) :: r, h => by
    have h1 : (k == NameKind.free) = false := by
      have := h (n, k) List.mem_cons_self
      cases k <;> first | rfl | exact absurd rfl this
    show (if k == NameKind.free then _ else cloFrom cells r []) = []
    rw [h1]
    exact cloFrom_none fun y hy => h y (List.mem_cons_of_mem _ hy)
theorem pe_lamVN {X : Cx} {T : List (Addr × Str)} {c P : Addr} {pa : Arguments} {sc : Scope} {body : Expr} {lp : Pos} {ps : List Str} (TB : TabB X.base X.mg c P) (hcode : X.env.code = .ref c)
    (hmT : (P, X.env.qual ++ "<lambda>") ∈ T) (hu : ∀ p ∈ T, p.1 = P → p.2 = X.env.qual ++ "<lambda>") (L : LamSN ps sc) (hdef : defaultsOf pa X.env = ([], [])) :
    PE X (.Lambda pa body sc lp) (tLamV P T (LamP (X.env.qual ++ "<lambda>") pa body sc []) (X.env.qual ++ "<lambda>")) :=
  ⟨fun pins s σ H Q I ⟨hT, h⟩ => lam_track I TB hcode hmT hu hT hdef (fun y hy e => absurd e (L.own y hy).2) fun f c' H1 s' eN T1 hfn hco I1 => by
    rw [cloFrom_none fun y hy => (L.own y hy).2] at I1
    exact ⟨.ref f, _, I1, rfl, h f c' H1 eN T1 hfn hco⟩⟩
/-- the lambda l stands for, when it captures nothing -/
def LamF0 (q : Str) (l : Option (Arguments × Expr × Scope)) : Addr → Addr → Heap → Prop := match l with
  | some (pa, body, sc) => LamP q pa body sc []
  | none => fun _ _ _ => False
end PL
namespace PL
open PySem PySem.Spec PyProof.Rows L2 LamX
section
variable {P : Program} {w : World} {K : PySem.W.Frag} {mg : Str → Option Value} {base : Heap} {k n : Nat} {q : Str} {F : Addr → Addr → Heap → Prop} {t : XK → TE} {m : (Exn → Prop) → EM} {C0 : Wd → Prop} {Er : XK} {X0 : Exn → Prop}
theorem lamIN_nil : ∀ r ∈ ([] : List ((Addr → Addr → Heap → Prop) × Nat × (XK → TE))), LamIN P w K mg base k q r.1 r.2.1 r.2.2 := fun _ z => nomatch z
theorem lamIN_cons {L : List ((Addr → Addr → Heap → Prop) × Nat × (XK → TE))} (h : LamIN P w K mg base k q F n t) (hs : ∀ r ∈ L, LamIN P w K mg base k q r.1 r.2.1 r.2.2) : ∀ r ∈ (F, n, t) :: L, LamIN P w K mg base k q r.1 r.2.1 r.2.2 := fun r hr => by
  rcases List.mem_cons.mp hr with e | e
  · rw [e]; exact h
  · exact hs r e
theorem lamTN_nil : ∀ r ∈ ([] : List LamTN), SE (exC C0 Er X0) 0 (r.2.2.1 Er) (r.2.2.2 X0) := fun _ z => nomatch z
theorem lamTN_cons {L : List LamTN} (h : SE (exC C0 Er X0) 0 (t Er) (m X0)) (hs : ∀ r ∈ L, SE (exC C0 Er X0) 0 (r.2.2.1 Er) (r.2.2.2 X0)) : ∀ r ∈ (F, n, t, m) :: L, SE (exC C0 Er X0) 0 (r.2.2.1 Er) (r.2.2.2 X0) := fun r hr => by
  rcases List.mem_cons.mp hr with e | e
  · rw [e]; exact h
  · exact hs r e
end
end PL

/-! XF: a new list or dict as data at once. -/
namespace PL
open PySem PySem.Spec PyProof.Rows L2
def svD (Q : D → Prop) : Sv → Prop
  | .dat d => Q d
  | .own l => Q (.lst l)
  | .owd l => Q (.dic l)
  | .un => False
  | .tr _ _ => False
def mXe (x : XM) : EM := fun env Q => x env (svD Q)
theorem SX.e {C : Wd → XC → Prop} {c : Nat} {te : TE} {mx : XM} (h : SX C c te mx) : SE C c te (mXe mx) := fun G g n O env σ H Qd Q hL F hm k =>
  h G g n O env σ H _ _ hL F hm fun z v O' H' hq gr W l m s hne fr => by
    have le : LeA (Sh O' H') (Sh O H') := fun b u ⟨x, y⟩ => ⟨x, fun z => y (m _ z)⟩
    cases s with
    | dat r => exact k _ _ _ hq gr W.ok (r.mono le)
    | own e o r => exact k _ _ _ hq gr W.ok (.lst ⟨.inl e, F.wl.free (fr _ rfl)⟩ (r.mono le))
    | owd e o r => exact k _ _ _ hq gr W.ok (.dic ⟨.inl e, F.wl.free (fr _ rfl)⟩ (r.mono le))
    | tr r nd u o mm => exact (show False from hq).elim
end PL

/-! XK: objects that nobody changes any more, as data. -/
namespace PL
open PySem PySem.Spec PyProof.Rows L2
theorem rk_ins {H : Hp} {a : Addr} {C dx : Addr} {fs : List (Str × V)} (h : Rk H a (.ins C dx fs)) : H a = some (.ins C dx fs) := h.elim id fun ⟨_, _, e, _⟩ => e.elim (fun ⟨_, e⟩ => nomatch e) fun ⟨_, e⟩ => nomatch e
theorem fld_at {A : At} {f : Str} : ∀ {ns : List Str} {xs : List V} {ds : List D} {d : D}, RpL A xs ds → (ns.zip ds).lookup f = some d → ∃ v, (ns.zip xs).lookup f = some v ∧ Rp A v d
  | [], _, _, _, _, h => by cases h
  | n :: ns, _, _, _, .nil, h => by cases h
  | n :: ns, _, _, _, .cons (v := v) (xs := xs) (d := d) (ds := ds) a r, h => by
    have h : ((n, d) :: ns.zip ds).lookup f = some _ := h
    show ∃ v', ((n, v) :: ns.zip xs).lookup f = some v' ∧ _
    rw [List.lookup_cons] at h ⊢
    cases e : (f == n) with
    | true => rw [e] at h; cases h; exact ⟨_, rfl, a⟩
    | false => rw [e] at h; exact fld_at r h
theorem fld_no {f : Str} : ∀ {ns : List Str} {xs : List V}, f ∉ ns → (ns.zip xs).lookup f = none
  | [], _, _ => rfl
  | n :: ns, [], _ => rfl
  | n :: ns, x :: xs, h => by
    show ((n, x) :: ns.zip xs).lookup f = none
    rw [List.lookup_cons]
    have e : (f == n) = false := beq_false_of_ne fun z => h (by rw [z]; exact List.mem_cons_self)
    rw [e]
    exact fld_no fun z => h (List.mem_cons_of_mem _ z)
/-- o.f -/
def mFld (C0 : Addr) (f : Str) (m : EM) : EM := fun env Q => m env fun d => ∃ ns l d', d = .ins C0 ns l ∧ (ns.zip l).lookup f = some d' ∧ Q d'
def tSelf (C0 : Addr) (m0 : Str) (ta : TE) : TE := fun σ H Q => ta σ H fun x H1 => ∃ a dx fs, x = .ref a ∧ H1 a = some (.ins C0 dx fs) ∧ fs.lookup m0 = none ∧ Q x H1
def mSelf (C0 : Addr) (m0 : Str) (m : EM) : EM := fun env Q => m env fun d => ∃ ns l, d = .ins C0 ns l ∧ m0 ∉ ns ∧ Q d
section
variable {C : Wd → XC → Prop} {C1 : Wd → Prop} {K : PySem.W.Frag} {te : TE} {ta : TA} {m : EM} {am : AM} {c c1 c2 : Nat} {C0 : Addr} {f m0 : Str} {Er : XK} {X0 : Exn → Prop}
theorem se_fld (hc : Cls K C0) (hn : NoAttr K C0 f) (h : SE C c te m) : SE C c (tFld K te f) (mFld C0 f m) := fun G g n O env σ H Qd Q hL F hm k =>
  h G g n O env σ H _ _ hL F hm fun d v H1 ⟨ns, l, d', e, hf, q⟩ gr ok r => by
    subst e
    cases r with
    | ins e hl r =>
      obtain ⟨v', hv, rv⟩ := fld_at r hf
      exact ⟨_, C0, _, _, v', rfl, rk_ins e.1, hc, hn, hv, k _ _ H1 q gr ok rv⟩
theorem se_self (h : SE C c te m) : SE C c (tSelf C0 m0 te) (mSelf C0 m0 m) := fun G g n O env σ H Qd Q hL F hm k =>
  h G g n O env σ H _ _ hL F hm fun d v H1 ⟨ns, l, e, hf, q⟩ gr ok r => by
    subst e
    have r0 := r
    cases r with
    | ins e hl r => exact ⟨_, _, _, rfl, rk_ins e.1, fld_no hf, k _ _ H1 q gr ok r0⟩
theorem se_methP {S : List D → (D → Prop) → Prop} {E : XK} (h : SE C c1 te m) (ha : SA C c2 ta am) (hS : Mono S) : SE C (c1 + c2) (tMeth C0 m0 (spP CA 0 S) [] E te ta) (mCall (aCons (mSelf C0 m0 m) am) S) :=
  show SE C (c1 + c2) (tCall (spP CA 0 S) [] E (tCons (tSelf C0 m0 te) ta)) _ from se_callA (sa_cons (se_self h) ha) hS
theorem se_methX {S : XS} (h : SE (exC C1 Er X0) c1 te m) (ha : SA (exC C1 Er X0) c2 ta am) (hS : MonoX S) : SE (exC C1 Er X0) (c1 + c2) (tMeth C0 m0 (spX CA 0 S) [] Er te ta) (fun env Q => aCons (mSelf C0 m0 m) am env fun ds => S ds Q X0) :=
  show SE (exC C1 Er X0) (c1 + c2) (tCall (spX CA 0 S) [] Er (tCons (tSelf C0 m0 te) ta)) _ from se_callXA (sa_cons (se_self h) ha) hS
end
/-- a class of the module -/
structure GCls (K : PySem.W.Frag) (mg : Str → Option Value) (x : Str) : Prop where
  cl : Cls K (er mg x)
  g : mg x = some (.ref (er mg x))
/-- a method that raises nothing -/
structure MtP (P : Program) (w : World) (K : PySem.W.Frag) (mg : Str → Option Value) (base : Heap) (C : Addr) (x : Str) (k : Nat) (ps : List Str) (sp : Sp) : Prop where
  ex : ∃ f fd, FnOk P w K mg base CX0 k f fd ps sp ∧ Meth K C x f ∧ Binds K fd ps []
/-- .. that may -/
structure MtX (P : Program) (w : World) (K : PySem.W.Frag) (mg : Str → Option Value) (base : Heap) (C : Addr) (x : Str) (k : Nat) (ps : List Str) (sp : Sp) : Prop where
  ex : ∃ f fd, FnOk P w K mg base (L2.CX P w) k f fd ps sp ∧ Meth K C x f ∧ Binds K fd ps []
section
variable {X : Cx} {m : Str} {k : Nat} {ps : List Str} {sp : Sp} {apos pos : Pos} {o e : Expr} {es : List Expr} {t : TA} {te : TE} {E : XK} {C0 : Addr} {pl : Sem Bool}
theorem pe_methP (c : Cls X.K C0) (h : MtP X.prog X.w X.K X.mg X.base C0 m k ps sp) (hr : Room k X.A) (he : PE X o te) (ha : PA X (e :: es) t)
    (hst : starEach (e :: es) X.env = (false, eval e X.env) :: starEach es X.env := by rfl) (hpl : (backTo pos (starEach es X.env)).any (·.1) = false := by rfl)
    (ht : eval (.Call (.Attribute o m apos) (e :: es) [] pos) X.env = (do
      let ov ← eval o X.env
      standAt apos.atName
      let (f, first) ← holding [ov] (getMethod ov m pl)
      callWith pos f first (backTo pos (starEach (e :: es) X.env)) (backToKw pos (keywordEach [] X.env))) := by rfl) : PE X (.Call (.Attribute o m apos) (e :: es) [] pos) (tMeth C0 m sp [] E0 te t) := by
  obtain ⟨f, fd, h1, h2, h3⟩ := h.ex
  exact pe_meth he c h2 h1 hr h3 .nil pass0 ha hst hpl ht
theorem pe_methX (c : Cls X.K C0) (h : MtX X.prog X.w X.K X.mg X.base C0 m k ps sp) (hr : Room k X.A) (tk : Takes X (fun cls d _ H => E cls d H)) (he : PE X o te) (ha : PA X (e :: es) t)
    (hst : starEach (e :: es) X.env = (false, eval e X.env) :: starEach es X.env := by rfl) (hpl : (backTo pos (starEach es X.env)).any (·.1) = false := by rfl)
    (ht : eval (.Call (.Attribute o m apos) (e :: es) [] pos) X.env = (do
      let ov ← eval o X.env
      standAt apos.atName
      let (f, first) ← holding [ov] (getMethod ov m pl)
      callWith pos f first (backTo pos (starEach (e :: es) X.env)) (backToKw pos (keywordEach [] X.env))) := by rfl) : PE X (.Call (.Attribute o m apos) (e :: es) [] pos) (tMeth C0 m sp [] E te t) := by
  obtain ⟨f, fd, h1, h2, h3⟩ := h.ex
  exact pe_meth he c h2 h1 hr h3 .nil (passes_call tk fun _ _ _ _ z => z) ha hst hpl ht
end
end PL

/-! XH: hidden objects, by hand. -/
namespace PL
open PySem PySem.Spec PyProof.Rows L2
theorem Fr.hid {G : Cfg} {n : Nat} {O : Addr → Prop} {env : Ev} {σ : L2.St} {H H' : Hp} (F : Fr G n O env σ H) (hn : ∀ c ∈ env, c.isOwn = false) (hz : ∀ b, G.w.Z b → H' b = H b) (hx : ∀ b φ, H b = some (.ext φ) → H' b = some (.ext φ))
    (hc : ∀ b o, ¬ O b → H b = some o → H' b = some o) (ht : ∀ b, O b → Trk (H' b)) (hb : ∀ b o, G.H0 b = some o → ¬ G.w.Z b → H' b = H b) : Fr G n O env σ H' := by
  have le : LeA (Sh O H) (Sh O H') := fun a o ⟨h, z⟩ => ⟨rd_mv (fun o e => hc a o z e) h, z⟩
  refine ⟨⟨G.w.st _ _ _ (fun b o z e => by rw [hz b z]; exact e) hx F.wl.ok, F.wl.zo, F.wl.co, ht, fun b o e z mm => by rw [hb b o e z]; exact F.wl.base b o e z mm⟩, F.len, fun i c e n => ?_, F.uq⟩
  obtain ⟨v, h1, h2⟩ := F.sl i c e n
  refine ⟨v, h1, ?_⟩
  cases h2 with
  | dat r => exact .dat (r.mono le)
  | own eh o r => exact absurd (hn _ (List.mem_of_getElem? e)) (fun z => nomatch (show true = false from z))
  | owd eh o r => exact absurd (hn _ (List.mem_of_getElem? e)) (fun z => nomatch (show true = false from z))
  | tr _ _ _ _ _ => exact absurd (hn _ (List.mem_of_getElem? e)) (fun z => nomatch (show true = false from z))
theorem Fr.hidNew {G : Cfg} {n : Nat} {O N : Addr → Prop} {env : Ev} {σ : L2.St} {H H' : Hp} (F : Fr G n O env σ H) (hN : ∀ b, N b → H b = none) (hs : ∀ b o, H b = some o → H' b = some o) (ht : ∀ b, N b → Trk (H' b)) : Fr G n (fun b => O b ∨ N b) env σ H' := by
  have nN : ∀ {b o}, H b = some o → ¬ N b := fun {b o} e z => by rw [hN b z] at e; cases e
  have gr : Grow G.w H H' := fun b o e _ => hs b o e
  have le : LeA (Sh O H) (Sh (fun b => O b ∨ N b) H') := fun a o ⟨h, z⟩ => ⟨rd_mv (fun o e => hs a o e) h, fun y => y.elim z (h.elim (fun e => nN e) fun ⟨_, _, _, e⟩ => nN e)⟩
  have ok : G.w.ok n H' := G.w.st _ _ _ (fun b o z e => hs b o e) (fun b φ e => hs b _ e) F.wl.ok
  refine ⟨⟨ok, fun b z => .inl (F.wl.zo b z), fun b z => .inl (F.wl.co b z), fun b z => ?_, F.wl.base.trans gr.m⟩, F.len, fun i c e n => ?_, F.uq⟩
  · rcases z with z | z
    · obtain ⟨u, e, x⟩ := F.wl.tr b z
      exact ⟨u, hs b u e, x⟩
    · exact ht b z
  · obtain ⟨v, h1, h2⟩ := F.sl i c e n
    exact ⟨v, h1, h2.le gr le fun _ z => .inl z⟩
end PL

/-! XMK: min(xs, key=lambda x: ..): the first one of the least. -/
namespace PL
open PySem PySem.Spec PyProof.Rows L2 LamX
structure Fp0 (X : Cx) (pins : List (Addr × Obj)) (b : Addr) : Prop where
  l : b ≠ X.env.locals
  f : b ∉ X.fs
  x : b ∈ X.ex ∨ X.s_0.heap.objs.size ≤ b
  c : ∀ x c, X.env.cells.lookup x = some c → c ≠ b
  p : ∀ p ∈ X.pn ++ pins, p.1 ≠ b
section
variable {X : Cx} {pins : List (Addr × Obj)} {σ : L2.St} {H : Hp} {s : Shared}
theorem fp0_new (I : Inv X pins σ H s) {b : Addr} (hb : s.heap.objs.size ≤ b) : Fp0 X pins b := by
  obtain ⟨_, h1, h2, h3, h4, h5⟩ := I.fpOk hb (I.hok.fresh hb)
  exact ⟨h1, h2, h3, h4, h5⟩
theorem repin {pl pl' : List (Addr × Obj)} {it : Addr} {h' : Heap} {t' : Nat} (I : Inv X (pins ++ pl) σ H s) (F : Fp0 X pins it) (hn : H it = none) (k : ∀ b o, b ≠ it → s.heap.get? b = some o → h'.get? b = some o)
    (hp : ∀ p ∈ pl', h'.get? p.1 = some p.2 ∧ H p.1 = none ∧ p.1 ≠ X.env.locals ∧ p.1 ∉ X.fs ∧ ∀ v, p.2.data ≠ .cell v) : Inv X (pins ++ pl') σ H { s with heap := h', toks := t' } :=
  have I1 : Inv X pins σ H { s with heap := h', toks := t' } := I.unpinned.turned k hn F.l F.x F.c F.p
  I1.pins_of fun p h => (List.mem_append.mp h).elim (fun z => I1.pin p (List.mem_append_right _ z)) (hp p)
theorem vals_at : ∀ {xs : List V} {us : List Value} {i : Nat} {u : Value}, Vals xs us → us[i]? = some u → ∃ x, xs[i]? = some x ∧ RelV x u
  | _, _, _, _, .nil, h => by cases h
  | _, _, 0, _, .cons a _, h => by cases h; exact ⟨_, rfl, a⟩
  | _, _, i + 1, _, .cons _ r, h => vals_at (i := i) r h
/-- a lambda of one parameter, called by a built-in -/
theorem lam_called {params : Arguments} {body : Expr} {scope : Scope} {f c' : Addr} {x : Str} {k : Nat} {tb : TE} {v : V} {u : Value} {Q : VK} (I : Inv X pins σ H s) (L : LamS1 X.N X.env.scope scope x)
    (hbind : ∀ (u pm ctv : Value), bindArgs (PySem.W.kla_fn "<lambda>" (X.env.qual ++ "<lambda>") params body scope (cloFrom X.env.cells scope.names []) pm (.ref c') ctv) ⟨[u], []⟩ = pure [(x, u)]) (hr : Room (k + 2) X.A)
    (hbody : ∀ (A : Around) (outer : List Env) (s : Shared) (H : Hp), Room k (A.deeper (lamEnv X scope s.heap.objs.size f c')) → PE (lamCx1 X A outer s H (fun _ _ _ => False) scope f c' x) body tb)
    (hf : H f = some (.ext (LamP (X.env.qual ++ "<lambda>") params body scope (cloFrom X.env.cells scope.names []) f c'))) (hc : H c' = some (CodeO c' (X.env.qual ++ "<lambda>"))) (rv : RelV v u) (hb : tb (σ ++ [some v]) H Q) :
    wpAny (model X.prog X.w) X.A.in1 (call (.ref f) [u]) (EP X pins σ Q) (fun _ _ => False) s := by
  obtain ⟨⟨pm, ctv, of1⟩, _, _⟩ := I.hok f _ hf
  obtain ⟨⟨oc, ws, t, hoc, hdc, hvc⟩, _, _⟩ := I.hok c' _ hc
  have hr1 : Room (k + 1) X.A.in1 := hr.in1
  have rc : codeAny (model X.prog X.w) X.A.in1 (.call (.ref f) ⟨[u], []⟩) (CR (L2.CX X.prog X.w) X.stack X.prog X.w H s Q (fun _ _ _ => False)) s := by
    refine PySem.W.kla_callFunE hr1.depth of1 rfl L.co L.gen rfl ⟨c', oc, ws, t, rfl, hoc, hdc, hvc⟩ ?_
    rw [hbind]
    refine wpAny_pure (wpAny_newFunctionEnv (fun y hy => (L.own y hy).1) (fun y hy => by rw [List.mem_singleton.mp hy]; exact L.par) (fun h₁ hns hsb => ⟨I.nolimit.fresh _ hsb, ?_⟩) L.kind)
    have kp : ∀ b o, s.heap.get? b = some o → h₁.get? b = some o := fun b o e => hsb.extBut b o (Nat.ne_of_lt (Heap.lt_size e)) (Heap.get?_push_of_some _ e)
    have J : Inv (lamCx1 X X.A.in1 X.stack s H (fun _ _ _ => False) scope f c' x) [] (σ ++ [some v]) H { s with heap := h₁, toks := s.toks + [(x, u)].length } :=
      lam_start1 I L rv I.env0.in1 hr1.hd Un.refl hns kp
    exact PySem.W.kla_codeExpr (wpAny_mono ((hbody _ _ s H (hr1.deeper _)).run [] _ _ H Q J hb) (fun v s' ⟨w', H', J', rv, q⟩ => ⟨w', H', J'.os, J'.bare, J'.base, J'.hok, rv, q⟩) fun e s' hq => hq)
  refine wpAny_call (codeAny_mono rc fun r s' hq => ?_)
  match r, hq with
  | .error e, hq =>
    obtain ⟨_, _, _, _, _, _, _, _, _, _, _, _, z⟩ := hq
    exact z.elim
  | .ok (.ret u), hq => exact I.after hq
  | .ok .next, hq => exact hq.elim
  | .ok .brk, hq => exact hq.elim
  | .ok .cont, hq => exact hq.elim

theorem min_loop {k : Nat} {a J S q : Addr} {xs : List V} {kf : Nat → Int} {W : Hp → Prop} {R : Result → Shared → Prop} (hr : Room k X.A) (hJS : S ≠ J) (haJ : a ≠ J) (haS : a ≠ S) (FJ : Fp0 X pins J) (FS : Fp0 X pins S) (hW : ∀ H, W H → SqL X.K H a xs)
    (turn : ∀ (i : Nat) v, xs[i]? = some v → ∀ pins s H u, Inv X pins σ H s → W H → RelV v u → wpAny (model X.prog X.w) X.A.in1 (call (.ref q) [u]) (EP X pins σ fun w H' => w = .int (kf i) ∧ W H') (fun _ _ => False) s)
    (hR : ∀ (i : Nat) v H s u, xs[i]? = some v → (∀ j, j < xs.length → kf i ≤ kf j ∧ (j < i → kf i < kf j)) → Inv X pins σ H s → W H → RelV v u → R (.ok (.ret u)) s) :
    ∀ (r j i : Nat) (s : Shared) (H : Hp) (v : V) (vb : Value) (tb : Tok) (c : Nat) (oJ : Obj), xs.length - (j + 1) = r → j + 1 ≤ xs.length → Inv X (pins ++ [(S, seqObj "list" #[vb, .int (kf i) tb] c), (J, oJ)]) σ H s → W H → s.heap.IsListIter J a (j + 1) → xs[i]? = some v → RelV v vb → i ≤ j →
      (∀ j', j' ≤ j → kf i ≤ kf j' ∧ (j' < i → kf i < kf j')) → codeAny (model X.prog X.w) X.A (.builtin "min.loop" ⟨[.ref J, .ref q, .ref S], []⟩) R s := by
  have hname : (toString "min" ++ toString ".loop" : String) = "min.loop" := by decide
  have hh : X.A.in1.handled = none := hr.hd
  intro r
  induction r with
  | zero =>
    intro j i s H v vb tb c oJ hr0 hj I w hit hvb rv hij hbest
    have hin : j + 1 = xs.length := by omega
    obtain ⟨its, rvs, hpl, hz⟩ := I.list (hW H w)
    have nS := I.pin (S, seqObj "list" #[vb, .int (kf i) tb] c) (List.mem_append_right _ (List.mem_append_right _ (.head _)))
    have nJ := I.pin (J, oJ) (List.mem_append_right _ (List.mem_append_right _ (.tail _ (.head _))))
    have Wk := Walks.list (prog := X.prog) (w := X.w) (A := X.A.in1) hh J a haJ its.toArray
    have hsz : its.toArray.size = xs.length := (List.size_toArray ..).trans rvs.length.symm
    refine codeAny_builtin PySem.F.entry_min_loop ?_
    rw [Around.under_plainId PySem.F.plain_min_loop _]
    show wpAny _ X.A.in1 (seqItems? (.ref S) >>= _) _ _ _
    refine wpAny_bind (wpAny_seqItems nS.1 rfl ?_)
    show wpAny _ X.A.in1 (tryCatch (pyNext (.ref J)) _ >>= _) _ _ _
    refine wpAny_bind (wpAny_tryCatch (Wk.done _ _ _ ⟨by rw [hsz, ← hin]; exact hit, hpl.isList⟩ fun h' tk' hk' => ?_))
    have hS' := hk' S _ (by simpa using hJS) nS.1
    have I1 : Inv X (pins ++ [(S, seqObj "list" #[vb, .int (kf i) tb] c)]) σ H { s with heap := h', toks := tk' } := repin I FJ nJ.2.1 (fun b o hb e => hk' b o (by simpa using hb) e) fun p hp => by
      rw [List.mem_singleton.mp hp]; exact ⟨hS', nS.2⟩
    have s1 := Heap.SameBut.update h' S (Obj.mapSeq fun _ => (#[] : Array Value))
    show wpAny _ X.A.in1 (updateSeq S (fun _ => #[]) >>= _) _ _ _
    refine wpAny_bind ?_
    refine wpAny_updateSeq hS' rfl (wpAny_bind (wpAny_letGo (wpAny_pure ?_)))
    have I2 := repin (pl' := []) (t' := tk') (h' := h'.update S (Obj.mapSeq fun _ => (#[] : Array Value))) I1 FS nS.2.1 (fun b o hb e => (s1.2 b hb).trans e) (fun p hp => absurd hp List.not_mem_nil)
    rw [List.append_nil] at I2
    exact hR i v H _ vb hvb (fun j' hj' => hbest j' (by omega)) I2 w rv
  | succ r ih =>
    intro j i s H v vb tb c oJ hr0 hj I w hit hvb rv hij hbest
    have hlt : j + 1 < xs.length := by omega
    obtain ⟨its, rvs, hpl, hz⟩ := I.list (hW H w)
    have nS := I.pin (S, seqObj "list" #[vb, .int (kf i) tb] c) (List.mem_append_right _ (List.mem_append_right _ (.head _)))
    have nJ := I.pin (J, oJ) (List.mem_append_right _ (List.mem_append_right _ (.tail _ (.head _))))
    have Wk := Walks.list (prog := X.prog) (w := X.w) (A := X.A.in1) hh J a haJ its.toArray
    have hsz : its.toArray.size = xs.length := (List.size_toArray ..).trans rvs.length.symm
    refine codeAny_builtin PySem.F.entry_min_loop ?_
    rw [Around.under_plainId PySem.F.plain_min_loop _]
    show wpAny _ X.A.in1 (seqItems? (.ref S) >>= _) _ _ _
    refine wpAny_bind (wpAny_seqItems nS.1 rfl ?_)
    show wpAny _ X.A.in1 (tryCatch (pyNext (.ref J)) _ >>= _) _ _ _
    refine wpAny_bind (wpAny_tryCatch (Wk.item (j + 1) _ _ _ (by rw [hsz]; exact hlt) ⟨hit, hpl.isList⟩ fun y h' tk' hP hst' hk' => ?_))
    have hy : its[j + 1]? = some y := by simpa using hP
    obtain ⟨x, hx, rx⟩ := vals_at rvs hy
    obtain ⟨oJ', hoJ', hoc, hod⟩ := id hst'.1
    have I1 : Inv X (pins ++ [(S, seqObj "list" #[vb, .int (kf i) tb] c), (J, oJ')]) σ H { s with heap := h', toks := tk' } := repin I FJ nJ.2.1 (fun b o hb e => hk' b o (by simpa using hb) e) fun p hp => by
      rcases List.mem_cons.mp hp with rfl | hp
      · exact ⟨hk' S _ (by simpa using hJS) nS.1, nS.2⟩
      · rw [List.mem_singleton.mp hp]
        exact ⟨hoJ', nJ.2.1, nJ.2.2.1, nJ.2.2.2.1, fun v z => by rw [hod] at z; cases z⟩
    show wpAny _ X.A.in1 (tryCatch (holding [y] (call (.ref q) [y])) _ >>= _) _ _ _
    refine wpAny_bind (wpAny_tryCatch (wpAny_holding (wpAny_mono (turn (j + 1) x hx _ _ H y I1 w rx) (fun z s'' he => ?_) fun _ _ hF => hF.elim)))
    obtain ⟨v2, H2, I2, r2, e2, w2⟩ := he
    subst e2
    obtain ⟨t2, rfl⟩ : ∃ t2, z = .int (kf (j + 1)) t2 := r2
    have nS2 := I2.pin (S, seqObj "list" #[vb, .int (kf i) tb] c) (List.mem_append_right _ (List.mem_append_right _ (.head _)))
    have nJ2 := I2.pin (J, oJ') (List.mem_append_right _ (List.mem_append_right _ (.tail _ (.head _))))
    have hit2 : s''.heap.IsListIter J a (j + 1 + 1) := ⟨oJ', nJ2.1, hoc, hod⟩
    show wpAny _ X.A.in1 (tryCatch (holding [y, .int (kf (j + 1)) t2] (richCompare .Lt (.int (kf (j + 1)) t2) (.int (kf i) tb) >>= _)) _ >>= _) _ _ _
    refine wpAny_bind (wpAny_tryCatch (wpAny_holding (wpAny_bind (CmpOf.ints_lt (prog := X.prog) (w := X.w) (A := X.A.in1) (P := fun i v => ∃ t, v = .int (kf i) t) kf (fun i v h => h) (j + 1) i _ _ _ _ _ ⟨t2, rfl⟩ ⟨tb, rfl⟩ ?_))))
    refine wpAny_bind (wpAny_holding (wpAny_truthy_bool ?_))
    refine wpAny_bind (wpAny_letGo (wpAny_pure ?_))
    by_cases hb' : kf (j + 1) < kf i
    · have s1 := Heap.SameBut.update s''.heap S (Obj.mapSeq fun _ => #[y, .int (kf (j + 1)) t2])
      obtain ⟨c2, hc2⟩ : ∃ c2, (s''.heap.update S (Obj.mapSeq fun _ => #[y, .int (kf (j + 1)) t2])).get? S = some (seqObj "list" #[y, .int (kf (j + 1)) t2] c2) := ⟨_, get?_update_seq nS2.1 fun _ => #[y, .int (kf (j + 1)) t2]⟩
      simp only [hb', decide_true, if_true]
      refine wpAny_bind ?_
      refine wpAny_updateSeq nS2.1 rfl (wpAny_bind (wpAny_letGo ?_))
      rw [hname]
      have I3 := repin (pl' := [(S, seqObj "list" #[y, .int (kf (j + 1)) t2] c2), (J, oJ')]) (t' := s''.toks) (h' := s''.heap.update S (Obj.mapSeq fun _ => #[y, .int (kf (j + 1)) t2])) I2 FS nS2.2.1 (fun b o hb e => (s1.2 b hb).trans e) (fun p hp => by
        rcases List.mem_cons.mp hp with rfl | hp
        · exact ⟨hc2, nS2.2.1, nS2.2.2.1, nS2.2.2.2.1, fun v z => by cases z⟩
        · rw [List.mem_singleton.mp hp]
          exact ⟨(s1.2 J hJS.symm).trans nJ2.1, nJ2.2⟩)
      refine wpAny_pure ⟨plainId_quiet PySem.F.plain_min_loop _, ih (j + 1) (j + 1) _ H2 x y t2 c2 oJ' (by omega) hlt I3 w2 ⟨oJ', (s1.2 J hJS.symm).trans nJ2.1, hoc, hod⟩ hx rx (Nat.le_refl _) fun j' hj' => ?_⟩
      by_cases e : j' = j + 1
      · subst e
        exact ⟨by omega, fun _ => by omega⟩
      · have hb1 := hbest j' (by omega)
        have hb2 := hb1.1
        exact ⟨by omega, fun _ => by omega⟩
    · simp only [hb', decide_false, Bool.false_eq_true, if_false]
      refine wpAny_bind (wpAny_letGo ?_)
      rw [hname]
      refine wpAny_pure ⟨plainId_quiet PySem.F.plain_min_loop _, ih (j + 1) i _ H2 v vb tb c oJ' (by omega) hlt I2 w2 hit2 hvb rv (by omega) fun j' hj' => ?_⟩
      by_cases e : j' = j + 1
      · subst e
        exact ⟨by omega, fun _ => by omega⟩
      · exact hbest j' (by omega)

theorem min_call {k : Nat} {a q : Addr} {xs : List V} {kf : Nat → Int} {W : Hp → Prop} {Q : VK} {E : Value → Shared → Prop} (hr : Room k X.A) (I : Inv X pins σ H s) (hW : ∀ H, W H → SqL X.K H a xs) (w : W H) (hne : 0 < xs.length)
    (turn : ∀ (i : Nat) v, xs[i]? = some v → ∀ pins s H u, Inv X pins σ H s → W H → RelV v u → wpAny (model X.prog X.w) X.A.in1 (call (.ref q) [u]) (EP X pins σ fun w H' => w = .int (kf i) ∧ W H') (fun _ _ => False) s)
    (hQ : ∀ (i : Nat) v H, xs[i]? = some v → (∀ j, j < xs.length → kf i ≤ kf j ∧ (j < i → kf i < kf j)) → W H → Q v H) :
    wpAny (model X.prog X.w) X.A (call (.builtin "min") [.ref a] [(Str.ofString "key", .ref q)]) (EP X pins σ Q) E s := by
  have hname : (toString "min" ++ toString ".loop" : String) = "min.loop" := by decide
  have hh : X.A.in1.handled = none := hr.hd
  obtain ⟨its, rvs, hpl, hz⟩ := I.list (hW H w)
  have hls := hpl.isList
  obtain ⟨ol, hol, _⟩ := id hls
  have hll : a < s.heap.objs.size := Heap.lt_size hol
  refine kmk_tree PySem.F.kind_min PySem.F.plain_min PySem.F.entry_min (kmk_min_key _ _) ?_
  show wpAny _ _ (Builtin.Builtins.bindParams "min" ["key", "default"] 0 ⟨[], [(Str.ofString "key", .ref q)]⟩ >>= _) _ _ s
  refine wpAny_bind (wpAny_of_eq (show Builtin.Builtins.bindParams "min" ["key", "default"] 0 ⟨[], [(Str.ofString "key", .ref q)]⟩ = pure [some (.ref q), none] from rfl) ?_)
  refine wpAny_bind (wpAny_pure ?_)
  refine wpAny_bind (wpAny_pyIter_list hls ?_)
  refine wpAny_bind (wpAny_newList ?_ (Nat.zero_le _))
  rw [hname]
  have hS : (s.heap.push { cls := .type "list_iterator", data := .fields #[.ref a, .int 0 0] }).objs.size = s.heap.objs.size + 1 := size_push' ..
  have haJ : a ≠ s.heap.objs.size := Nat.ne_of_lt hll
  have hSJ : (s.heap.push { cls := .type "list_iterator", data := .fields #[.ref a, .int 0 0] }).objs.size ≠ s.heap.objs.size := by rw [hS]; exact Nat.ne_of_gt (Nat.lt_succ_self _)
  have haS : a ≠ (s.heap.push { cls := .type "list_iterator", data := .fields #[.ref a, .int 0 0] }).objs.size := by rw [hS]; exact Nat.ne_of_lt (Nat.lt_succ_of_lt hll)
  refine wpAny_pure ⟨plainId_quiet PySem.F.plain_min_loop _, ?_⟩
  have FJ := fp0_new I (Nat.le_refl s.heap.objs.size)
  have FS := fp0_new I (b := (s.heap.push { cls := .type "list_iterator", data := .fields #[.ref a, .int 0 0] }).objs.size) (by rw [hS]; exact Nat.le_succ _)
  have gJ : ((s.heap.push { cls := .type "list_iterator", data := .fields #[.ref a, .int 0 0] }).push (seqObj "list" #[] 0)).get? s.heap.objs.size = some { cls := .type "list_iterator", data := .fields #[.ref a, .int 0 0] } :=
    Heap.get?_push_of_some _ (Heap.get?_push_size _ rfl)
  have gS : ((s.heap.push { cls := .type "list_iterator", data := .fields #[.ref a, .int 0 0] }).push (seqObj "list" #[] 0)).get? (s.heap.push { cls := .type "list_iterator", data := .fields #[.ref a, .int 0 0] }).objs.size = some (seqObj "list" #[] 0) := Heap.get?_push_size _ rfl
  have kp : ∀ b o, s.heap.get? b = some o → ((s.heap.push { cls := .type "list_iterator", data := .fields #[.ref a, .int 0 0] }).push (seqObj "list" #[] 0)).get? b = some o := fun b o e => Heap.get?_push_of_some _ (Heap.get?_push_of_some _ e)
  have hJn : H s.heap.objs.size = none := I.hok.fresh (Nat.le_refl _)
  have hSn : H (s.heap.push { cls := .type "list_iterator", data := .fields #[.ref a, .int 0 0] }).objs.size = none := I.hok.fresh (by rw [hS]; exact Nat.le_succ _)
  generalize hSd : (s.heap.push { cls := .type "list_iterator", data := .fields #[.ref a, .int 0 0] }).objs.size = S at *
  generalize hJd : s.heap.objs.size = J at *
  generalize hhd : (s.heap.push { cls := .type "list_iterator", data := .fields #[.ref a, .int 0 0] }).push (seqObj "list" #[] 0) = h1 at *
  have I0 : Inv X pins σ H { s with heap := h1, toks := s.toks } := I.kept kp
  have Wk := Walks.list (prog := X.prog) (w := X.w) (A := X.A.in1) hh J a haJ its.toArray
  have hsz : its.toArray.size = xs.length := (List.size_toArray ..).trans rvs.length.symm
  obtain ⟨its1, rvs1, hpl1, hz1⟩ := I0.list (hW H w)
  have Wk := Walks.list (prog := X.prog) (w := X.w) (A := X.A.in1) hh J a haJ its1.toArray
  have hsz : its1.toArray.size = xs.length := (List.size_toArray ..).trans rvs1.length.symm
  refine codeAny_builtin PySem.F.entry_min_loop ?_
  rw [Around.under_plainId PySem.F.plain_min_loop _]
  show wpAny _ X.A.in1 (seqItems? (.ref _) >>= _) _ _ _
  refine wpAny_bind (wpAny_seqItems gS rfl ?_)
  show wpAny _ X.A.in1 (tryCatch (pyNext (.ref J)) _ >>= _) _ _ _
  refine wpAny_bind (wpAny_tryCatch (Wk.item 0 _ _ _ (by rw [hsz]; exact hne) ⟨⟨_, gJ, rfl, rfl⟩, hpl1.isList⟩ fun y h' tk' hP hst' hk' => ?_))
  have hy : its1[0]? = some y := by simpa using hP
  obtain ⟨x, hx, rx⟩ := vals_at rvs1 hy
  obtain ⟨oJ', hoJ', hoc, hod⟩ := id hst'.1
  have I1 : Inv X (pins ++ [(S, seqObj "list" #[] 0), (J, oJ')]) σ H { s with heap := h', toks := tk' } := repin (s := { s with heap := h1, toks := s.toks }) (pl := []) (by rw [List.append_nil]; exact I0) FJ hJn (fun b o hb e => hk' b o (by simpa using hb) e) fun p hp => by
    rcases List.mem_cons.mp hp with rfl | hp
    · exact ⟨hk' S _ (by simpa using hSJ) gS, hSn, FS.l, FS.f, fun v z => by cases z⟩
    · rw [List.mem_singleton.mp hp]
      exact ⟨hoJ', hJn, FJ.l, FJ.f, fun v z => by rw [hod] at z; cases z⟩
  show wpAny _ X.A.in1 (tryCatch (holding [y] (call (.ref q) [y])) _ >>= _) _ _ _
  refine wpAny_bind (wpAny_tryCatch (wpAny_holding (wpAny_mono (turn 0 x hx _ _ H y I1 w rx) (fun z s'' he => ?_) fun _ _ hF => hF.elim)))
  obtain ⟨v2, H2, I2, r2, e2, w2⟩ := he
  subst e2
  obtain ⟨t2, rfl⟩ : ∃ t2, z = .int (kf 0) t2 := r2
  have nS2 := I2.pin (S, seqObj "list" #[] 0) (List.mem_append_right _ (List.mem_append_right _ (.head _)))
  have nJ2 := I2.pin (J, oJ') (List.mem_append_right _ (List.mem_append_right _ (.tail _ (.head _))))
  have s1 := Heap.SameBut.update s''.heap S (Obj.mapSeq fun _ => #[y, .int (kf 0) t2])
  obtain ⟨c2, hc2⟩ : ∃ c2, (s''.heap.update S (Obj.mapSeq fun _ => #[y, .int (kf 0) t2])).get? S = some (seqObj "list" #[y, .int (kf 0) t2] c2) := ⟨_, get?_update_seq nS2.1 fun _ => #[y, .int (kf 0) t2]⟩
  show wpAny _ X.A.in1 (updateSeq S (fun _ => #[y, .int (kf 0) t2]) >>= _) _ _ _
  refine wpAny_bind ?_
  refine wpAny_updateSeq nS2.1 rfl ?_
  rw [hname]
  have I3 := repin (pl' := [(S, seqObj "list" #[y, .int (kf 0) t2] c2), (J, oJ')]) (t' := s''.toks) (h' := s''.heap.update S (Obj.mapSeq fun _ => #[y, .int (kf 0) t2])) I2 FS nS2.2.1 (fun b o hb e => (s1.2 b hb).trans e) (fun p hp => by
    rcases List.mem_cons.mp hp with rfl | hp
    · exact ⟨hc2, nS2.2.1, nS2.2.2.1, nS2.2.2.2.1, fun v z => by cases z⟩
    · rw [List.mem_singleton.mp hp]
      exact ⟨(s1.2 J hSJ.symm).trans nJ2.1, nJ2.2⟩)
  refine wpAny_pure ⟨plainId_quiet PySem.F.plain_min_loop _, min_loop hr hSJ haJ haS FJ FS hW turn (R := fun r s' => match r with | .ok (.ret v) => EP X pins σ Q v s' | .ok _ => False | .error e => E e s') (fun i v H s u h1 h2 h3 h4 h5 => ⟨v, H, h3, h5, hQ i v H h1 h2 h4⟩) _ 0 0 _ H2 x y t2 c2 oJ' rfl hne I3 w2 ⟨oJ', (s1.2 J hSJ.symm).trans nJ2.1, hoc, hod⟩ hx rx (Nat.le_refl _) fun j' hj' => ?_⟩
  have e : j' = 0 := by omega
  subst e
  exact ⟨by omega, fun h => absurd h (Nat.lt_irrefl _)⟩
/-- min(xs, key=x), x a kept lambda of this def -/
def tMinK (K : PySem.W.Frag) (q : Str) (F : Addr → Addr → Heap → Prop) (t : XK → TE) (ta tk : TA) : TE := fun σ H Q => ta σ H fun vs H1 => tk σ H1 fun zs H2 => ∃ (a f c' : Addr) (xs : List V) (kf : Nat → Int) (W : Hp → Prop), vs = [.ref a] ∧ zs = [.ref f] ∧ 0 < xs.length ∧ W H2 ∧
  (∀ H', W H' → SqL K H' a xs ∧ H' f = some (.ext (F f c')) ∧ H' c' = some (CodeO c' q)) ∧ (∀ (i : Nat) v, xs[i]? = some v → ∀ H', W H' → t (fun _ _ _ => False) (σ ++ [some v]) H' fun u H'' => u = .int (kf i) ∧ W H'') ∧
  ∀ (i : Nat) v H', xs[i]? = some v → (∀ j, j < xs.length → kf i ≤ kf j ∧ (j < i → kf i < kf j)) → W H' → Q v H'
theorem pe_minK {k : Nat} {F : Addr → Addr → Heap → Prop} {t : XK → TE} {e ek : Expr} {ta tk : TA} {p pos kp : Pos} (hr : Room (k + 2) X.A) (hL : LamI1 X k F t) (hg : Gl X "min") (hm : X.mg "min" = none) (ha : PA X [e] ta) (hk : PK X [⟨some "key", ek, kp⟩] tk)
    (he : backTo pos (starEach [e] X.env) = (false, eval e X.env) :: backTo pos (starEach [] X.env) := by rfl) (hpl : (backTo pos (starEach [e] X.env)).any (·.1) = false := by rfl)
    (hall : (backToKw pos (keywordEach [⟨some "key", ek, kp⟩] X.env)).all (·.1.isSome) = true := by rfl) (hnone : (backToKw pos (keywordEach [⟨some "key", ek, kp⟩] X.env)).any (·.1.isNone) = false := by rfl) (hks : (backToKw pos (keywordEach [⟨some "key", ek, kp⟩] X.env)).filterMap (·.1) = [Str.ofString "key"] := by rfl) :
    PE X (.Call (.Name "min" p) [e] [⟨some "key", ek, kp⟩] pos) (tMinK X.K (X.env.qual ++ "<lambda>") F t ta tk) := by
  refine ⟨fun pins s σ H Q I h => ?_⟩
  refine wpAny_Call_Name_kw (ld_blt (u := .builtin "min") I hg hm (by decide +kernel) ?_ (by decide) (by decide))
  refine PyProof.Rows.callWith_kw (thn (ha.run pos pins s σ H _ I h) fun us s1 ⟨vs, H1, I1, r1, q1⟩ => thn (hk.run pos pins s1 σ H1 _ I1 q1) fun ws s2 ⟨zs, H2, I2, r2, q2⟩ => ?_) he hpl hall hnone
  rw [hks]
  obtain ⟨a, f, c', xs, kf, W, e1, e2, hne, w, hW, hT, hQ⟩ := q2
  subst e1
  subst e2
  obtain rfl := Vals.ref1 r1
  obtain rfl := Vals.ref1 r2
  obtain ⟨pa, body, sc, y, eF, L1, hbind, hbody⟩ := hL.ex
  refine min_call hr I2 (fun H h => (hW H h).1) w hne (fun i v hv pins s H u I w rv => ?_) (fun i v H h1 h2 h3 => hQ i v H h1 h2 h3)
  obtain ⟨_, h2, h3⟩ := hW H w
  exact lam_called I L1 (fun u _ _ => hbind u _ _ _ _ _) hr (fun A outer s H r3 => hbody A outer s H _ f c' r3) (by rw [← eF]; exact h2) h3 rv (hT i v hv H w)
end
/-- the same, as data -/
def mMinK (q : Str) (F : Addr → Addr → Heap → Prop) (m : EM) (am ak : AM) : EM := fun env Q => am env fun ds => ak env fun es => ∃ (l : List D) (kf : Nat → Int), ds = [.lst l] ∧ es = [.lam F (CodP q)] ∧ 0 < l.length ∧ (∀ (i : Nat) d, l[i]? = some d → m (unOwn env ++ [.dat d]) fun d' => d' = .int (kf i)) ∧
  ∀ (i : Nat) d, l[i]? = some d → (∀ j, j < l.length → kf i ≤ kf j ∧ (j < i → kf i < kf j)) → Q d
theorem se_minK {C : Wd → XC → Prop} {K : PySem.W.Frag} {q : Str} {F : Addr → Addr → Heap → Prop} {t : XK → TE} {m : EM} {ta tk : TA} {am ak : AM} {c1 c2 : Nat} (h : SA C c1 ta am) (hk : SA C c2 tk ak) (ht : SE (nx CA) 0 (t fun _ _ _ => False) m) : SE C (c1 + c2) (tMinK K q F t ta tk) (mMinK q F m am ak) := fun G g n O env σ H Qd Q hL Fr hm k =>
  h G g n O env σ H _ _ (by omega) Fr hm fun ds vs H1 h1 gr1 ok1 r1 => hk G g _ O env σ H1 _ _ (by omega) (Fr.grow gr1 ok1) h1 fun es zs H2 ⟨l, kf, e1, e2, hne, hp, hq⟩ gr2 ok2 r2 => by
    subst e1
    subst e2
    have F2 := (Fr.grow gr1 ok1).grow gr2 ok2
    have r1' := r1.mono (sh_grow (Fr.grow gr1 ok1).wl.zo gr2)
    cases r1' with
    | cons a r =>
      cases r
      cases r2 with
      | cons b r =>
        cases r
        cases a with
        | lst ea ra =>
          cases b with
          | lam e1 e2 =>
            have ea1 := rk_lst ea.1
            have z1 := fun z => e1.2 (F2.wl.zo _ z)
            have z2 := fun z => e2.2 (F2.wl.zo _ z)
            have z3 := fun z => ea.2 (F2.wl.zo _ z)
            refine ⟨_, _, _, _, kf, fun H' => Grow G.w H2 H' ∧ G.w.ok (n + c1 + c2) H', rfl, rfl, by rw [ra.length]; exact hne, ⟨Grow.refl _ _, ok2⟩, fun H' ⟨g', ok'⟩ => ⟨sqL (g' _ _ ea1 z3), g' _ _ (rk_ext e1.1) z1, g' _ _ (rk_ext e2.1) z2⟩, fun i v hv H' ⟨g', ok'⟩ => ?_, fun i v H' hv hb ⟨g', ok'⟩ => ?_⟩
            · obtain ⟨d, hd, rd⟩ := ra.getV hv
              have F3 := F2.grow g' ok'
              have rd3 := rd.mono (sh_grow F2.wl.zo g')
              refine ht (Cfg.nx G.w H' O F3.wl.tr) trivial (n + c1 + c2) O _ _ H' (fun d => d = .int (kf i)) _ (by have := G.x.le; show _ ≤ LIM; omega) ((F3.unOwn (G' := Cfg.nx G.w H' O F3.wl.tr) ⟨ok', F3.wl.zo, fun _ y => y, F3.wl.tr, GrowM.refl _ _ _⟩ (LeA.refl _)).snoc rd3) (hp i d hd) fun d v H'' hd g'' ok'' r => ?_
              subst hd
              cases r
              exact ⟨rfl, g'.trans g'', ok''⟩
            · obtain ⟨d, hd, rd⟩ := ra.getV hv
              exact k d v H' (hq i d hd (by rw [← ra.length]; exact hb)) (gr1.trans (gr2.trans g')) (ok_le (by omega) (ok_as ok')) (rd.mono (sh_grow F2.wl.zo g'))
end PL

/-! XM2: max of two ints, tuple(reversed(list)), a list unpacked. -/
namespace PL
open PySem PySem.Spec PyProof.Rows L2
section
variable {C : Wd → XC → Prop} {K : PySem.W.Frag}
def kMax2 : List D → (D → Prop) → Prop := fun ds Q => match ds with | [.int i, .int j] => Q (.int (if j > i then j else i)) | _ => False
theorem kc_max2 : KC C (fun xs H Q => ∃ i j, xs = [.int i, .int j] ∧ Q (.int (if j > i then j else i)) H) kMax2 := fun G _ n O H vs ds Qd Q W r h q => by
  unfold kMax2 at h
  split at h
  · obtain ⟨v, w, rfl, r1, r2⟩ := r.two
    cases r1.int; cases r2.int
    exact ⟨_, _, rfl, q _ _ H h (Grow.refl _ _) W.ok (.int _)⟩
  · exact h.elim
def mTupRev (m : EM) : EM := fun env Q => m env fun d => match d with | .lst l => Q (.tup l.reverse) | _ => False
theorem se_tupRev {c : Nat} {te : TE} {m : EM} (h : SR C c te m) : SE C c (RT.tTupRev K te) (mTupRev m) := fun G g n O env σ H Qd Q hL F hm k =>
  h G g n O env σ H _ _ hL F hm fun d v H1 h1 g1 ok1 r1 => by
    split at h1
    · obtain ⟨a, xs, rfl, e, r⟩ := r1.list
      refine ⟨a, xs, rfl, sqL e, fun p hp => k _ _ _ h1 (g1.trans (Grow.new _ hp)) (Wd.okNew hp ok1) ?_⟩
      exact new_tup (F.wl.grow g1 ok1) hp r.rev
    · exact h1.elim
def gU (n : Nat) (ms : GMs) : GM := fun env d Q => match d with | .lst ds => ds.length = n ∧ ms env ds Q | _ => False
theorem sg_unl {vs : List Nat} {gs : TGs} {mgs : GMs} {l : Nat} (h : SGs C vs gs mgs) : SG C vs (gUnl K l gs) (gU l mgs) := fun G c n O env σ H d v Qd Q F r hm k => by
  unfold gU at hm
  split at hm
  · cases r with
    | lst e r => exact ⟨_, _, rfl, sqL (rk_lst e.1), by rw [r.length]; exact hm.1, h G c n O env σ H _ _ _ _ F r hm.2 k⟩
  · exact hm.elim
def kMinL : List D → (D → Prop) → Prop := fun ds Q => ∃ ns : List Int, ds = [.lst (ns.map D.int)] ∧ 0 < ns.length ∧ ∀ M, M ∈ ns → (∀ a ∈ ns, M ≤ a) → Q (.int M)
theorem kc_minL : KC C (rMin K) kMinL := fun G _ n O H vs ds Qd Q W r h q => by
  obtain ⟨ns, rfl, hne, h⟩ := h
  obtain ⟨v, rfl, r1⟩ := r.one
  obtain ⟨a, xs, rfl, e, r⟩ := r1.list
  have e2 := r.ints
  subst e2
  exact ⟨a, ns, rfl, sqL e, hne, fun M h1 h2 => q _ _ H (h M h1 h2) (Grow.refl _ _) W.ok (.int _)⟩
theorem se_callXMC {C0 C' : Wd → Prop} {c1 c2 m : Nat} {ix : List Nat} {t tr : TA} {am ar : AM} {S : XS} {Er : XK} {X0 : Exn → Prop} (h : SA (exC C0 Er X0) c1 t am) (h' : SA (exC C0 Er X0) c2 tr ar) (hS : MonoX S) (hC : ∀ w, C0 w → C' w) : SE (exC C0 Er X0) (c1 + c2) (tCallK (spX C' 0 S) (gM m ix) Er t tr) (fun env Q => am env fun ds => ar env fun es => S (gM m ix ds es) Q X0) := fun G g n O env σ H Qd Q hL F hm q =>
  h G g n O env σ H _ _ (by omega) F hm fun ds vs H1 h1 g1 ok1 r1 => h' G g _ O env σ H1 _ _ (by omega) (F.grow g1 ok1) h1 fun es zs H2 h2 g2 ok2 r2 => by
    have F2 := (F.grow g1 ok1).grow g2 ok2
    obtain ⟨c0, eE, eX⟩ := g
    refine ⟨G.w, n + c1 + c2, O, _, hC _ c0, by have := G.x.le; omega, ok2, F2.wl.zo, F2.wl.tr, gM_rp m ix (r1.mono (sh_grow F.wl.zo g2)) r2, hS _ _ _ _ _ (fun d hd v H' g' ok r => q d v H' hd (g1.trans (g2.trans g')) (by rw [← Nat.add_assoc]; exact ok_as ok) r) (fun e he cv dd H' g' ok a => ?_) h2⟩
    rw [← eE]
    exact go_out (by omega) (F2.wl.grow g' ok) a (by rw [eX]; exact he)
end
end PL

/-! XO2: methods by keywords, without arguments, where nothing is raised. -/
namespace PL
open PySem PySem.Spec PyProof.Rows L2
theorem passL0 {X : Cx} : Passes (L2.CX X.prog X.w) X (fun _ _ _ => False) := passL
def tMethK (C : Addr) (m : Str) (sp : Sp) (gV : List V → List V → List V) (E : XK) (ta : TE) (tk : TA) : TE := fun σ H Q => ta σ H fun x H1 => ∃ a dx fs, x = .ref a ∧ H1 a = some (.ins C dx fs) ∧ fs.lookup m = none ∧ tk σ H1 fun zs H2 => sp (gV [x] zs) H2 Q E
structure MtXM (P : Program) (w : World) (K : PySem.W.Frag) (mg : Str → Option Value) (base : Heap) (C : Addr) (x : Str) (k : Nat) (ps ks : List Str) (ix : List Nat) (sp : Sp) : Prop where
  ex : ∃ f fd, FnOk P w K mg base (L2.CX P w) k f fd ps sp ∧ Meth K C x f ∧ KBinds K fd ps ks (gM 1 ix) (gM 1 ix)
section
variable {X : Cx} {CX : CXT} {m : Str} {k : Nat} {ps ks : List Str} {ix : List Nat} {sp : Sp} {apos pos : Pos} {o e : Expr} {es : List Expr} {kws : List Keyword} {t tk : TA} {te : TE} {E : XK} {C0 f : Addr} {fd : FuncData} {pl : Sem Bool} {g : List Value → List Value → List Value} {gV : List V → List V → List V}
theorem pe_methK (he : PE X o te) (c : Cls X.K C0) (hm : Meth X.K C0 m f) (F : FnOk X.prog X.w X.K X.mg X.base CX k f fd ps sp) (hr : Room k X.A) (hb : KBinds X.K fd ps ks g gV) (hx : Passes CX X E) (hkw : PK X kws tk)
    (hall : (backToKw pos (keywordEach kws X.env)).all (·.1.isSome) = true := by rfl) (hks : (backToKw pos (keywordEach kws X.env)).filterMap (·.1) = ks := by rfl)
    (hpl : ((backTo pos (starEach [] X.env)).any (·.1) || (backToKw pos (keywordEach kws X.env)).any (·.1.isNone)) = false := by rfl)
    (ht : eval (.Call (.Attribute o m apos) [] kws pos) X.env = (do
      let ov ← eval o X.env
      standAt apos.atName
      let (f, first) ← holding [ov] (getMethod ov m pl)
      callWith pos f first (backTo pos (starEach [] X.env)) (backToKw pos (keywordEach kws X.env))) := by rfl) :
    PE X (.Call (.Attribute o m apos) [] kws pos) (tMethK C0 m sp gV E te tk) := by
  refine ⟨fun pins s σ H Q I h => ?_⟩
  refine PySem.W.methodCall_KW (pl := pl) (thn (he.run pins s σ H _ I h) fun u s1 ⟨x, H1, I1, rx, a, dx, fs, ex, ea, l, q⟩ => ?_) ht
  subst ex
  obtain rfl : u = Value.ref a := rx
  refine getmeth_ok I1 ea c hm l ?_
  refine PySem.W.callWith_KW0 (first := [.ref a]) (h₀ := X.base) I.ok.mod.kin hm.kp hall ?_ hpl
  refine thn (hkw.run pos pins s1 σ H1 _ I1 q) fun ws s2 ⟨zs, H2, I2, rz, q2⟩ => ⟨I2.kIn, ?_⟩
  rw [hks]
  exact run_fnk (us := [.ref a]) (vs := [.ref a]) F hr hb hx I2 (.cons rfl .nil) rz q2
theorem pe_methKN (c : Cls X.K C0) (h : MtXM X.prog X.w X.K X.mg X.base C0 m k ps ks ix sp) (hr : Room k X.A) (he : PE X o te) (hkw : PK X kws tk)
    (hall : (backToKw pos (keywordEach kws X.env)).all (·.1.isSome) = true := by rfl) (hks : (backToKw pos (keywordEach kws X.env)).filterMap (·.1) = ks := by rfl)
    (hpl : ((backTo pos (starEach [] X.env)).any (·.1) || (backToKw pos (keywordEach kws X.env)).any (·.1.isNone)) = false := by rfl)
    (ht : eval (.Call (.Attribute o m apos) [] kws pos) X.env = (do
      let ov ← eval o X.env
      standAt apos.atName
      let (f, first) ← holding [ov] (getMethod ov m pl)
      callWith pos f first (backTo pos (starEach [] X.env)) (backToKw pos (keywordEach kws X.env))) := by rfl) :
    PE X (.Call (.Attribute o m apos) [] kws pos) (tMethK C0 m sp (gM 1 ix) E0 te tk) := by
  obtain ⟨f, fd, h1, h2, h3⟩ := h.ex
  exact pe_methK he c h2 h1 hr h3 passL hkw hall hks hpl ht
/-- a method that may raise, where nothing is raised -/
theorem pe_methN (c : Cls X.K C0) (h : MtX X.prog X.w X.K X.mg X.base C0 m k ps sp) (hr : Room k X.A) (he : PE X o te) (ha : PA X (e :: es) t)
    (hst : starEach (e :: es) X.env = (false, eval e X.env) :: starEach es X.env := by rfl) (hpl : (backTo pos (starEach es X.env)).any (·.1) = false := by rfl)
    (ht : eval (.Call (.Attribute o m apos) (e :: es) [] pos) X.env = (do
      let ov ← eval o X.env
      standAt apos.atName
      let (f, first) ← holding [ov] (getMethod ov m pl)
      callWith pos f first (backTo pos (starEach (e :: es) X.env)) (backToKw pos (keywordEach [] X.env))) := by rfl) : PE X (.Call (.Attribute o m apos) (e :: es) [] pos) (tMeth C0 m sp [] E0 te t) := by
  obtain ⟨f, fd, h1, h2, h3⟩ := h.ex
  exact pe_meth he c h2 h1 hr h3 .nil passL ha hst hpl ht
/-- o.m() -/
theorem pe_methP0 (c : Cls X.K C0) (h : MtP X.prog X.w X.K X.mg X.base C0 m k ps sp) (hr : Room k X.A) (he : PE X o te)
    (ht : eval (.Call (.Attribute o m apos) [] [] pos) X.env = (do
      let ov ← eval o X.env
      standAt apos.atName
      let (f, first) ← holding [ov] (getMethod ov m pl)
      callWith pos f first (backTo pos (starEach [] X.env)) (backToKw pos (keywordEach [] X.env))) := by rfl) : PE X (.Call (.Attribute o m apos) [] [] pos) (tMeth C0 m sp [] E0 te tNil) := by
  obtain ⟨f, fd, h1, h2, h3⟩ := h.ex
  exact pe_meth0 he c h2 h1 hr h3 .nil pass0 ht
end
section
variable {C : Wd → XC → Prop} {te : TE} {ta tk : TA} {m : EM} {am ak : AM} {c c1 c2 : Nat} {C0 : Addr} {m0 : Str} {ix : List Nat}
theorem se_methN {S : XS} (h : SE C c1 te m) (ha : SA C c2 ta am) (hS : MonoX S) : SE C (c1 + c2) (tMeth C0 m0 (spX CA 0 S) [] E0 te ta) (fun env Q => aCons (mSelf C0 m0 m) am env fun ds => S ds Q fun _ => False) :=
  show SE C (c1 + c2) (tCall (spX CA 0 S) [] E0 (tCons (tSelf C0 m0 te) ta)) _ from se_callNA (sa_cons (se_self h) ha) hS
theorem se_methKN {S : XS} (h : SE C c1 te m) (hk : SA C c2 tk ak) (hS : MonoX S) : SE C (c1 + 0 + c2) (tMethK C0 m0 (spX CA 0 S) (gM 1 ix) E0 te tk) (fun env Q => aCons (mSelf C0 m0 m) aNil env fun ds => ak env fun es => S (gM 1 ix ds es) Q fun _ => False) :=
  show SE C (c1 + 0 + c2) (tCallK (spX CA 0 S) (gM 1 ix) E0 (tCons (tSelf C0 m0 te) tNil) tk) _ from se_callNM (sa_cons (se_self h) sa_nil) hk hS
/-- a statement that is never reached -/
theorem ss_dead {t : TS} : SS C c t (fun _ _ => False) := fun G g n O env σ H P D hL F hm e => hm.elim
end
end PL

/-! OT1: things that may be changed: places within them. -/
namespace PL
open PySem PySem.Spec PyProof.Rows L2
def T.kids : T → List T
  | .lst _ ts | .dic _ _ ts | .dit _ _ ts | .obj _ _ _ ts => ts
  | _ => []
def T.wk (us : List T) : T → T
  | .lst a _ => .lst a us
  | .dic a ks _ => .dic a ks us
  | .dit a ks _ => .dit a ks us
  | .obj a C ns _ => .obj a C ns us
  | t => t
def T.at : List Nat → T → Option T
  | [], t => some t
  | k :: p, t => match t.kids[k]? with | some s => T.at p s | none => none
def T.put : List Nat → T → T → T
  | [], _, s => s
  | k :: p, t, s => match t.kids[k]? with | some u => t.wk (t.kids.set k (T.put p u s)) | none => t
theorem RTL.length {A : At} {H : Hp} : ∀ {xs : List V} {ts : List T}, RTL A H xs ts → xs.length = ts.length
  | _, _, .nil => rfl
  | _, _, .cons _ r => congrArg Nat.succ (RTL.length r)
theorem RTL.get {A : At} {H : Hp} : ∀ {xs : List V} {ts : List T} {k : Nat} {t : T}, RTL A H xs ts → ts[k]? = some t → ∃ v, xs[k]? = some v ∧ RT A H v t
  | _, _, _, _, .nil, h => by cases h
  | _, _, 0, _, .cons a _, h => by cases h; exact ⟨_, rfl, a⟩
  | _, _, k + 1, _, .cons _ r, h => RTL.get (k := k) r h
theorem fpL_split : ∀ {ts : List T} {k : Nat} {u : T}, ts[k]? = some u → ∃ pre post, T.fpL ts = pre ++ (u.fp ++ post) ∧ ∀ w, T.fpL (ts.set k w) = pre ++ (w.fp ++ post)
  | [], _, _, h => by cases h
  | t :: ts, 0, _, h => by cases h; exact ⟨[], T.fpL ts, rfl, fun w => rfl⟩
  | t :: ts, k + 1, u, h => by
    obtain ⟨pre, post, e1, e2⟩ := fpL_split (ts := ts) (k := k) h
    refine ⟨t.fp ++ pre, post, ?_, fun w => ?_⟩
    · show t.fp ++ T.fpL ts = _
      rw [e1, List.append_assoc]
    · show t.fp ++ T.fpL (ts.set k w) = _
      rw [e2, List.append_assoc]
theorem mem_fpL {ts : List T} {k : Nat} {u : T} (h : ts[k]? = some u) {a : Addr} (m : a ∈ u.fp) : a ∈ T.fpL ts := by
  obtain ⟨pre, post, e1, _⟩ := fpL_split h
  rw [e1]
  exact List.mem_append_right _ (List.mem_append_left _ m)
theorem T.fp_wk {t : T} {k : Nat} {u : T} (h : t.kids[k]? = some u) : t.fp = t.ad :: T.fpL t.kids ∧ ∀ us, (t.wk us).fp = t.ad :: T.fpL us ∧ (t.wk us).nd = true ∧ (t.wk us).ad = t.ad := by
  cases t with
  | dat d => cases h
  | own a ds => cases h
  | owd a ds => cases h
  | owt a ds => cases h
  | lst a ts => exact ⟨rfl, fun us => ⟨rfl, rfl, rfl⟩⟩
  | dic a ks ts => exact ⟨rfl, fun us => ⟨rfl, rfl, rfl⟩⟩
  | dit a ks ts => exact ⟨rfl, fun us => ⟨rfl, rfl, rfl⟩⟩
  | obj a C ns ts => exact ⟨rfl, fun us => ⟨rfl, rfl, rfl⟩⟩
theorem T.fp_put {s : T} : ∀ {p : List Nat} {t : T}, T.at p t = some s → ∃ pre post, t.fp = pre ++ (s.fp ++ post) ∧ ∀ s', (T.put p t s').fp = pre ++ (s'.fp ++ post)
  | [], t, h => by cases h; exact ⟨[], [], by simp, fun s' => by simp [T.put]⟩
  | k :: p, t, h => by
    unfold T.at at h
    split at h
    · rename_i u hu
      obtain ⟨pre, post, e1, e2⟩ := T.fp_put (p := p) h
      obtain ⟨q1, q2⟩ := T.fp_wk hu
      obtain ⟨pr, po, f1, f2⟩ := fpL_split hu
      refine ⟨t.ad :: (pr ++ pre), post ++ po, ?_, fun s' => ?_⟩
      · rw [q1, f1, e1]; simp [List.append_assoc]
      · unfold T.put
        rw [hu]
        show (t.wk _).fp = _
        rw [(q2 _).1, f2, e2]; simp [List.append_assoc]
    · cases h
theorem T.nd_put {s s' : T} {p : List Nat} {t : T} (h : T.at p t = some s) (hs : s'.nd = true) : (T.put p t s').nd = true := by
  cases p with
  | nil => exact hs
  | cons k p =>
    unfold T.at at h
    split at h
    · rename_i u hu
      unfold T.put
      rw [hu]
      exact ((T.fp_wk hu).2 _).2.1
    · cases h
theorem T.at_app {k : Nat} {s u : T} (hu : s.kids[k]? = some u) : ∀ {p : List Nat} {t : T}, T.at p t = some s → T.at (p ++ [k]) t = some u
  | [], t, h => by cases h; show (match s.kids[k]? with | some s => T.at [] s | none => none) = _; rw [hu]; rfl
  | j :: p, t, h => by
    unfold T.at at h
    split at h
    · rename_i v hv
      show (match t.kids[j]? with | some s => T.at (p ++ [k]) s | none => none) = _
      rw [hv]
      exact T.at_app hu h
    · cases h
theorem RTL.setK {A B : At} {H H' : Hp} (l : LeA A B) {v : V} {u w : T} (rw' : RT B H' v w) : ∀ {xs : List V} {ts : List T} {k : Nat}, RTL A H xs ts → ts[k]? = some u → xs[k]? = some v → (∀ a ∈ T.fpL ts, a ∉ u.fp → ∀ o, H a = some o → H' a = some o) → (T.fpL ts).Nodup → RTL B H' xs (ts.set k w)
  | _, _, _, .nil, h, _, _, _ => by cases h
  | _, _, 0, @RTL.cons _ _ v0 xs0 t ts r rs, h, e, kp, nd => by
    obtain rfl : t = u := Option.some.inj h
    obtain rfl : v0 = v := Option.some.inj e
    rw [show T.fpL (t :: ts) = t.fp ++ T.fpL ts from rfl, List.nodup_append] at nd
    exact .cons rw' (rs.keep l fun a m => kp a (List.mem_append_right _ m) fun z => nd.2.2 a z a m rfl)
  | _, _, k + 1, @RTL.cons _ _ v0 xs0 t ts r rs, h, e, kp, nd => by
    rw [show T.fpL (t :: ts) = t.fp ++ T.fpL ts from rfl, List.nodup_append] at nd
    exact .cons (r.keep l fun a m => kp a (List.mem_append_left _ m) fun z => nd.2.2 a m a (mem_fpL (ts := ts) h z) rfl) (RTL.setK l rw' rs h e (fun a m => kp a (List.mem_append_right _ m)) nd.2.1)
/-- a thing within, and what becomes of the whole when it is changed -/
theorem RT.sub {A : At} {H : Hp} {s : T} : ∀ {p : List Nat} {t : T} {v : V}, T.at p t = some s → RT A H v t → ∃ u, RT A H u s ∧ ∀ (B : At) (H' : Hp) (s' : T), LeA A B → (∀ a ∈ t.fp, a ∉ s.fp → ∀ o, H a = some o → H' a = some o) → t.fp.Nodup → RT B H' u s' → RT B H' v (T.put p t s')
  | [], t, v, h, r => by cases h; exact ⟨v, r, fun B H' s' l kp nd q => q⟩
  | k :: p, t, v, h, r => by
    unfold T.at at h
    split at h
    · rename_i w hw
      have fin : ∀ {xs : List V}, RTL A H xs t.kids → (∀ {B : At} {H' : Hp} {us : List T}, (∀ o, H t.ad = some o → H' t.ad = some o) → RTL B H' xs us → us.length = t.kids.length → RT B H' v (t.wk us)) → ∃ u, RT A H u s ∧ ∀ (B : At) (H' : Hp) (s' : T), LeA A B → (∀ a ∈ t.fp, a ∉ s.fp → ∀ o, H a = some o → H' a = some o) → t.fp.Nodup → RT B H' u s' → RT B H' v (T.put (k :: p) t s') := fun {xs} rs mk => by
        obtain ⟨x, hx, rx⟩ := rs.get hw
        obtain ⟨u, ru, fu⟩ := RT.sub (p := p) h rx
        refine ⟨u, ru, fun B H' s' l kp nd q => ?_⟩
        obtain ⟨q1, q2⟩ := T.fp_wk hw
        rw [q1] at nd kp
        obtain ⟨pre, post, e1, _⟩ := T.fp_put h
        have sw : ∀ a, a ∈ s.fp → a ∈ w.fp := fun a m => by rw [e1]; exact List.mem_append_right _ (List.mem_append_left _ m)
        have nw : w.fp.Nodup := by
          obtain ⟨pr, po, f1, _⟩ := fpL_split hw
          have := (List.nodup_cons.mp nd).2
          rw [f1, List.nodup_append] at this
          exact (List.nodup_append.mp this.2.1).1
        have na : t.ad ∉ s.fp := fun z => (List.nodup_cons.mp nd).1 (mem_fpL hw (sw _ z))
        have q' := fu B H' s' l (fun a m => kp a (List.mem_cons_of_mem _ (mem_fpL hw m))) nw q
        unfold T.put
        rw [hw]
        exact mk (kp _ List.mem_cons_self na) (RTL.setK l q' rs hw hx (fun a m n => kp a (List.mem_cons_of_mem _ m) fun z => n (sw a z)) (List.nodup_cons.mp nd).2) (List.length_set ..)
      cases r with
      | dat r => cases hw
      | own e r => cases hw
      | owd e r => cases hw
      | owt e r => cases hw
      | lst e rs => exact fin rs fun he hr _ => .lst (he _ e) hr
      | dic e q rs => exact fin rs fun he hr _ => .dic (he _ e) q hr
      | dit e q rs => exact fin rs fun he hr _ => .dit (he _ e) q hr
      | obj e q rs => exact fin rs fun he hr _ => .obj (he _ e) q hr
    · cases h
/-- a thing within is changed -/
theorem Fr.mutT {G : Cfg} {n : Nat} {O : Addr → Prop} {env : Ev} {σ : L2.St} {H : Hp} {i : Nat} {p : List Nat} {t s s' : T} {o : HO} (F : Fr G n O env σ H) (e : env[i]? = some (.tr true t)) (hp : T.at p t = some s) (nd : s.nd = true) (hno : ∀ φ, o ≠ .ext φ)
    (rs : RT (Sh O (upd H s.ad o)) (upd H s.ad o) (.ref s.ad) s') (nd' : s'.nd = true) (ns : s'.fp.Nodup) (new : ∀ b ∈ s'.fp, b ∈ s.fp ∨ (O b ∧ ¬ G.w.Z b ∧ (G.H0 b = none ∨ G.x.My b) ∧ ∀ j, ¬ Own2 env σ j b)) :
    Fr G n O (env.set i (.tr true (T.put p t s'))) σ (upd H s.ad o) ∧ LeA (Sh O H) (Sh O (upd H s.ad o)) := by
  have hl := (List.getElem?_eq_some_iff.mp e).1
  obtain ⟨v, es, sv⟩ := F.sl i _ e (by intro z; cases z)
  cases sv with
  | tr r ndt un q m =>
    obtain ⟨u, ru, fu⟩ := RT.sub hp r
    obtain ⟨eu, ma⟩ := ru.ref nd
    subst eu
    obtain ⟨pre, post, e1, e2⟩ := T.fp_put hp
    have st : ∀ b, b ∈ s.fp → b ∈ t.fp := fun b m => by rw [e1]; exact List.mem_append_right _ (List.mem_append_left _ m)
    have at' := st _ ma
    have oa : O s.ad := (q _ at').1
    have sh : LeA (Sh O H) (Sh O (upd H s.ad o)) := fun b u ⟨h, n⟩ => ⟨rd_upd (fun z => n (by rw [z]; exact oa)) h, n⟩
    obtain ⟨w0, hw0, nx0⟩ := r.there _ at'
    have hnx : ∀ φ, H s.ad ≠ some (.ext φ) := fun φ z => by rw [hw0] at z; exact nx0 φ (Option.some.inj z)
    have mem : ∀ b, b ∈ (T.put p t s').fp → b ∈ t.fp ∨ (O b ∧ ¬ G.w.Z b ∧ (G.H0 b = none ∨ G.x.My b) ∧ ∀ j, ¬ Own2 env σ j b) := fun b hb => by
      rw [e2] at hb
      rcases List.mem_append.mp hb with z | z
      · exact .inl (by rw [e1]; exact List.mem_append_left _ z)
      · rcases List.mem_append.mp z with z | z
        · exact (new b z).imp (st b) id
        · exact .inl (by rw [e1]; exact List.mem_append_right _ (List.mem_append_right _ z))
    have key : ∀ {j : Nat} {b : Addr}, Own2 (env.set i (.tr true (T.put p t s'))) σ j b → Own2 env σ j b ∨ (j = i ∧ ∀ j, ¬ Own2 env σ j b) := fun {j b} ⟨d, w, ed, es', od⟩ => by
      by_cases hj : i = j
      · subst hj
        rw [List.getElem?_set_self hl] at ed; cases ed
        exact (mem b od).imp (fun z => ⟨_, v, e, es, z⟩) fun z => ⟨rfl, z.2.2.2⟩
      · rw [List.getElem?_set_ne hj] at ed; exact .inl ⟨d, w, ed, es', od⟩
    refine ⟨⟨⟨st_upd (q _ at').2 hnx F.wl.ok, F.wl.zo, F.wl.co, fun b z => ?_, fun b u h z mm => ?_⟩, by rw [List.length_set]; exact F.len, fun j d ed nn => ?_, fun j k b oj ok => ?_⟩, sh⟩
    · by_cases hb : b = s.ad
      · rw [hb, upd_same]; exact ⟨_, rfl, hno⟩
      · rw [upd_ne hb]; exact F.wl.tr b z
    · rw [upd_ne (fun y => by
        subst y
        rcases m rfl _ at' with z0 | z0
        · rw [h] at z0; cases z0
        · exact mm z0)]
      exact F.wl.base b u h z mm
    · by_cases hj : i = j
      · subst hj
        rw [List.getElem?_set_self hl] at ed
        cases ed
        refine ⟨v, es, .tr (fu _ _ s' sh (fun b hb nb x hx => by rw [upd_ne (fun y => nb (by rw [y]; exact ma))]; exact hx) un rs) (T.nd_put hp nd') ?_ (fun b hb => ?_) fun _ b hb => ?_⟩
        · rw [e2]
          rw [e1] at un
          rw [List.nodup_append] at un ⊢
          obtain ⟨u1, u2, u3⟩ := un
          rw [List.nodup_append] at u2
          obtain ⟨u4, u5, u6⟩ := u2
          have nt : ∀ b, b ∈ s'.fp → b ∈ s.fp ∨ b ∉ t.fp := fun b hb => (new b hb).imp id fun z y => z.2.2.2 i ⟨_, v, e, es, y⟩
          refine ⟨u1, List.nodup_append.mpr ⟨ns, u5, fun b hb c hc ebc => ?_⟩, fun b hb c hc ebc => ?_⟩
          · subst ebc
            rcases nt b hb with z | z
            · exact u6 b z b hc rfl
            · exact z (by rw [e1]; exact List.mem_append_right _ (List.mem_append_right _ hc))
          · subst ebc
            rcases List.mem_append.mp hc with hc | hc
            · rcases nt b hc with z | z
              · exact u3 b hb b (List.mem_append_left _ z) rfl
              · exact z (by rw [e1]; exact List.mem_append_left _ hb)
            · exact u3 b hb b (List.mem_append_right _ hc) rfl
        · rcases mem b hb with z | z
          · exact q b z
          · exact ⟨z.1, z.2.1⟩
        · rcases mem b hb with z | z
          · exact m rfl b z
          · exact z.2.2.1
      · rw [List.getElem?_set_ne hj] at ed
        obtain ⟨u, h1, h2⟩ := F.sl j d ed nn
        exact ⟨u, h1, h2.upd sh fun od => hj (F.uq i j _ ⟨_, v, e, es, at'⟩ ⟨d, u, ed, h1, od⟩)⟩
    · rcases key oj with z1 | ⟨z1, y1⟩
      · rcases key ok with z2 | ⟨z2, y2⟩
        · exact F.uq j k b z1 z2
        · exact absurd z1 (y2 j)
      · rcases key ok with z2 | ⟨z2, y2⟩
        · exact absurd z2 (y1 k)
        · rw [z1, z2]
end PL

/-! OT2: things that may be changed: places told by expressions, reading, changing. -/
namespace PL
open PySem PySem.Spec PyProof.Rows L2
theorem nd1 {a : Addr} : [a].Nodup := List.nodup_cons.mpr ⟨(fun z => nomatch z), List.nodup_nil⟩
def T.top : T → D
  | .dat d => d
  | t => .opq (.ref t.ad)
theorem RT.top {A : At} {H : Hp} {v : V} {t : T} (r : RT A H v t) : Rp A v t.top := by
  cases r with
  | dat r => exact r
  | own e r => exact .opq _
  | owd e r => exact .opq _
  | owt e r => exact .opq _
  | lst e r => exact .opq _
  | dic e q r => exact .opq _
  | dit e q r => exact .opq _
  | obj e q r => exact .opq _
theorem RTL.top {A : At} {H : Hp} : ∀ {xs : List V} {ts : List T}, RTL A H xs ts → RpL A xs (ts.map T.top)
  | _, _, .nil => .nil
  | _, _, .cons a r => .cons a.top (RTL.top r)
abbrev PM := Ev → (List Nat → T → Prop) → Prop
/-- an expression tells a place within what the name i holds -/
def SP (C : Wd → XC → Prop) (c : Nat) (te : TE) (i : Nat) (m : PM) : Prop := ∀ G, C G.w G.x → ∀ n O env σ H (Qd : List Nat → T → Prop) (Q : VK), n + c ≤ G.x.lim → Fr G n O env σ H → m env Qd →
  (∀ p s mm t v H', env[i]? = some (.tr mm t) → T.at p t = some s → Qd p s → Grow G.w H H' → G.w.ok (n + c) H' → RT (Sh O H') H' v s → Q v H') → te σ H Q
/-- the place is changed -/
def kPut (i : Nat) (p : List Nat) (s' : T) (env : Ev) (k : Ev → Prop) : Prop := match env[i]? with
  | some (.tr true t) => k (env.set i (.tr true (T.put p t s')))
  | _ => False
theorem fr_nz {G : Cfg} {n : Nat} {O : Addr → Prop} {env : Ev} {σ : L2.St} {H : Hp} {i : Nat} {mm : Bool} {t s : T} {p : List Nat} (F : Fr G n O env σ H) (e : env[i]? = some (.tr mm t)) (h : T.at p t = some s) : (∀ a ∈ s.fp, O a ∧ ¬ G.w.Z a) ∧ s.fp.Nodup := by
  obtain ⟨v, es, sv⟩ := F.sl i _ e (by intro z; cases z)
  cases sv with
  | tr r ndt un q m =>
    obtain ⟨pre, post, e1, _⟩ := T.fp_put h
    rw [e1] at un
    refine ⟨fun a ha => q a (by rw [e1]; exact List.mem_append_right _ (List.mem_append_left _ ha)), (List.nodup_append.mp (List.nodup_append.mp un).2.1).1⟩
theorem RT.grow {G : Cfg} {n : Nat} {O : Addr → Prop} {H H' : Hp} {v : V} {s : T} (k : Wl G n O H) (g : Grow G.w H H') (q : ∀ a ∈ s.fp, O a ∧ ¬ G.w.Z a) (r : RT (Sh O H) H v s) : RT (Sh O H') H' v s := r.keep (sh_grow k.zo g) fun a ha o e => g a o e (q a ha).2
theorem sh_own {O : Addr → Prop} {H : Hp} {a : Addr} {o : HO} (oa : O a) : LeA (Sh O H) (Sh O (upd H a o)) := fun b u ⟨h, n⟩ => ⟨rd_upd (fun z => n (by rw [z]; exact oa)) h, n⟩
/-- .. by one step of the heap -/
theorem Fr.kput {G : Cfg} {n : Nat} {O : Addr → Prop} {env : Ev} {σ : L2.St} {H : Hp} {i : Nat} {p : List Nat} {mm : Bool} {t s s' : T} {o : HO} {k : Ev → Prop} (F : Fr G n O env σ H) (e : env[i]? = some (.tr mm t)) (hp : T.at p t = some s) (hk : kPut i p s' env k) (nd : s.nd = true) (hno : ∀ φ, o ≠ .ext φ)
    (rs : LeA (Sh O H) (Sh O (upd H s.ad o)) → RT (Sh O (upd H s.ad o)) (upd H s.ad o) (.ref s.ad) s') (nd' : s'.nd = true) (ns : s'.fp.Nodup) (new : ∀ b ∈ s'.fp, b ∈ s.fp ∨ (O b ∧ ¬ G.w.Z b ∧ (G.H0 b = none ∨ G.x.My b) ∧ ∀ j, ¬ Own2 env σ j b)) :
    ∃ env', Fr G n O env' σ (upd H s.ad o) ∧ LeA (Sh O H) (Sh O (upd H s.ad o)) ∧ k env' := by
  unfold kPut at hk
  rw [e] at hk
  cases mm with
  | false => exact hk.elim
  | true =>
    have ma : s.ad ∈ s.fp := by
      obtain ⟨v, es, sv⟩ := F.sl i _ e (by intro z; cases z)
      cases sv with
      | tr r ndt un q m =>
        obtain ⟨u, ru, _⟩ := RT.sub hp r
        exact (ru.ref nd).2
    obtain ⟨F', l⟩ := F.mutT e hp nd hno (rs (sh_own ((fr_nz F e hp).1 _ ma).1)) nd' ns new
    exact ⟨_, F', l, hk⟩
section
variable {C : Wd → XC → Prop} {K : PySem.W.Frag} {te ta tb tk ti to tv : TE} {t tr : TA} {m ma mb mk mi me : EM} {pm : PM} {mx my : XM} {am ar : AM} {i j k c c1 c2 c3 : Nat} {C0 : Addr} {NS : List Str} {f : Str}
def pVar (i : Nat) : PM := fun env Q => match env[i]? with | some (.tr _ t) => Q [] t | _ => False
theorem sp_var : SP C 0 (tVar i) i (pVar i) := fun G g n O env σ H Qd Q hL F hm k => by
  unfold pVar at hm
  split at hm
  · rename_i mm t e
    obtain ⟨v, es, sv⟩ := F.sl i _ e (by intro z; cases z)
    cases sv with
    | tr r ndt un q m => exact ⟨v, es, k [] t mm t v H e rfl hm (Grow.refl _ _) F.wl.ok r⟩
  · exact hm.elim
def fIx (f : Str) : List Str → Option Nat
  | [] => none
  | n :: ns => if f == n then some 0 else (fIx f ns).map (· + 1)
theorem fIx_lk : ∀ {NS : List Str} {k : Nat} (xs : List V), fIx f NS = some k → NS.length = xs.length → (NS.zip xs).lookup f = xs[k]?
  | [], _, _, h, _ => by cases h
  | n :: ns, k, [], h, l => by cases l
  | n :: ns, k, x :: xs, h, l => by
    show ((n, x) :: ns.zip xs).lookup f = _
    rw [List.lookup_cons]
    unfold fIx at h
    cases e : (f == n) with
    | true => rw [e, if_pos rfl] at h; cases h; rfl
    | false =>
      rw [e, if_neg Bool.false_ne_true] at h
      cases q : fIx f ns with
      | none => rw [q] at h; cases h
      | some j =>
        rw [q] at h; cases h
        exact fIx_lk xs q (Nat.succ.inj l)
theorem fIx_put : ∀ {NS : List Str} {k : Nat} (xs : List V) (v : V), fIx f NS = some k → NS.length = xs.length → putF f v (NS.zip xs) = NS.zip (xs.set k v)
  | [], _, _, _, h, _ => by cases h
  | n :: ns, k, [], _, h, l => by cases l
  | n :: ns, k, x :: xs, v, h, l => by
    show putF f v ((n, x) :: ns.zip xs) = _
    unfold putF
    unfold fIx at h
    cases e : (f == n) with
    | true =>
      rw [e, if_pos rfl] at h; cases h
      rw [if_pos (eq_of_beq e).symm]; rfl
    | false =>
      rw [e, if_neg Bool.false_ne_true] at h
      rw [if_neg (fun z => by rw [z, beq_self_eq_true] at e; cases e)]
      cases q : fIx f ns with
      | none => rw [q] at h; cases h
      | some j =>
        rw [q] at h; cases h
        rw [fIx_put xs v q (Nat.succ.inj l)]; rfl
theorem fIx_new : ∀ {NS : List Str} (xs : List V) (v : V), fIx f NS = none → NS.length = xs.length → putF f v (NS.zip xs) = (NS ++ [f]).zip (xs ++ [v])
  | [], [], _, _, _ => rfl
  | [], _ :: _, _, _, l => by cases l
  | n :: ns, [], _, h, l => by cases l
  | n :: ns, x :: xs, v, h, l => by
    show putF f v ((n, x) :: ns.zip xs) = _
    unfold putF
    unfold fIx at h
    cases e : (f == n) with
    | true => rw [e, if_pos rfl] at h; cases h
    | false =>
      rw [e, if_neg Bool.false_ne_true] at h
      rw [if_neg (fun z => by rw [z, beq_self_eq_true] at e; cases e)]
      cases q : fIx f ns with
      | none => rw [fIx_new xs v q (Nat.succ.inj l)]; rfl
      | some j => rw [q] at h; cases h
/-- e.f -/
def pFld (C0 : Addr) (NS : List Str) (k : Nat) (pm : PM) : PM := fun env Q => pm env fun p s => match s with
  | .obj _ C' ns ts => (C' = C0 ∧ ns = NS) ∧ (match ts[k]? with | some u => Q (p ++ [k]) u | none => False)
  | _ => False
theorem sp_fld (hc : Cls K C0) (hn : NoAttr K C0 f) (hl : fIx f NS = some k) (h : SP C c te i pm) : SP C c (tFld K te f) i (pFld C0 NS k pm) := fun G g n O env σ H Qd Q hL F hm q =>
  h G g n O env σ H _ _ hL F hm fun p s mm t v H1 ei hp h1 g1 ok1 r => by
    split at h1
    · obtain ⟨⟨e1, e2⟩, h1⟩ := h1
      subst e1; subst e2
      split at h1
      · rename_i u hu
        cases r with
        | obj e l rs =>
          obtain ⟨x, hx, rx⟩ := rs.get hu
          exact ⟨_, _, _, _, x, rfl, e, hc, hn, by rw [fIx_lk _ hl l]; exact hx, q _ _ _ _ _ _ ei (T.at_app hu hp) h1 g1 ok1 rx⟩
      · exact h1.elim
    · exact h1.elim
/-- e[k], e a list of things -/
def pIx (pm : PM) (mi : EM) : PM := fun env Q => pm env fun p s => mi env fun d => match s, d with
  | .lst _ ts, .int j => (match ixN ts.length j with | some k => (match ts[k]? with | some u => Q (p ++ [k]) u | none => False) | none => False)
  | _, _ => False
theorem sp_ix (h : SP C c1 te i pm) (hi : SE C c2 ti mi) : SP C (c1 + c2) (tOp (rIx K) te ti) i (pIx pm mi) := fun G g n O env σ H Qd Q hL F hm q =>
  h G g n O env σ H _ _ (by omega) F hm fun p s mm t v H1 ei hp h1 g1 ok1 r => hi G g _ O env σ H1 _ _ (by omega) (F.grow g1 ok1) h1 fun d w H2 h2 g2 ok2 rd => by
    have F1 := F.grow g1 ok1
    split at h2
    · split at h2
      · rename_i k hk
        split at h2
        · rename_i u hu
          have nz := (fr_nz F1 ei hp).1
          have r2 := r.grow F1.wl g2 nz
          cases rd
          cases r2 with
          | lst e rs =>
            obtain ⟨x, hx, rx⟩ := rs.get hu
            exact .inl ⟨_, _, _, x, rfl, rfl, sqL e, by unfold atI; rw [rs.length, hk]; exact hx, q _ _ _ _ _ _ ei (T.at_app hu hp) h2 (g1.trans g2) (ok_as ok2) rx⟩
        · exact h2.elim
      · exact h2.elim
    · exact h2.elim
/-! ### reading -/
def mPd (pm : PM) : EM := fun env Q => pm env fun _ s => Q s.top
theorem se_sp (h : SP C c te i pm) : SE C c te (mPd pm) := fun G g n O env σ H Qd Q hL F hm k =>
  h G g n O env σ H _ _ hL F hm fun p s mm t v H1 ei hp h1 g1 ok1 r => k _ v H1 h1 g1 ok1 r.top
def mPr (pm : PM) : EM := fun env Q => pm env fun _ s => match s with
  | .dat d => Q d
  | .own _ ds => Q (.lst ds)
  | .owd _ kvs => Q (.dic kvs)
  | .lst _ ts => Q (.lst (ts.map T.top))
  | _ => False
theorem sr_sp (h : SP C c te i pm) : SR C c te (mPr pm) := fun G g n O env σ H Qd Q hL F hm k =>
  h G g n O env σ H _ _ hL F hm fun p s mm t v H1 ei hp h1 g1 ok1 r => by
    have nz := (fr_nz F ei hp).1
    split at h1
    · cases r with | dat r => exact k _ v H1 h1 g1 ok1 (.dat r)
    · cases r with | own e r => exact k _ _ H1 h1 g1 ok1 (.own e (nz _ (List.mem_singleton.mpr rfl)).2 r)
    · cases r with | owd e r => exact k _ _ H1 h1 g1 ok1 (.owd e (nz _ (List.mem_singleton.mpr rfl)).2 r)
    · cases r with | lst e r => exact k _ _ H1 h1 g1 ok1 (.own e (nz _ List.mem_cons_self).2 r.top)
    · exact h1.elim
/-! ### changing -/
/-- e.append(x), e a list of data -/
def sAppT (i : Nat) (pm : PM) (me : EM) : SM := fun env P => pm env fun p s => match s with
  | .own a ds => me env fun d => ds.length < sizeLine ∧ kPut i p (.own a (ds ++ [d])) env P.nx
  | _ => False
theorem ss_appT (h : SP C c1 te i pm) (hv : SE C c2 tv me) : SS C (c1 + c2) (tDrop (tBM K "list" rAppend te (tCons tv tNil))) (sAppT i pm me) := fun G g n O env σ H P D hL F hm e =>
  h G g n O env σ H _ _ (by omega) F hm fun p s mm t v H1 ei hp h1 g1 ok1 r => by
    have F1 := F.grow g1 ok1
    have nz := (fr_nz F1 ei hp).1
    split at h1
    · rename_i a ds
      cases r with
      | own ea r =>
        refine ⟨.inl ⟨rfl, _, sqL ea⟩, hv G g _ O env σ H1 _ _ (by omega) F1 h1 fun d w H2 ⟨hl, q⟩ g2 ok2 rw' => ?_⟩
        have F2 := F1.grow g2 ok2
        have ea2 := g2 _ _ ea (nz _ (List.mem_singleton.mpr rfl)).2
        have r2 := r.mono (sh_grow F1.wl.zo g2)
        obtain ⟨env', F3, l3, hq⟩ := F2.kput (o := .lst (_ ++ [w])) ei hp q rfl (fun _ z => nomatch z) (fun l => .own upd_same ((r2.append (.cons rw' .nil)).mono l)) rfl nd1 fun b hb => .inl hb
        exact ⟨_, _, w, rfl, rfl, ea2, by rw [r2.length]; exact hl, e.nx O env' σ _ ((sh_grow F.wl.zo (g1.trans g2)).trans l3) (by rw [← Nat.add_assoc]; exact F3) hq⟩
    · exact h1.elim
/-- e[k] = x, e a list of data -/
def sSetIxT (i : Nat) (pm : PM) (mi me : EM) : SM := fun env P => me env fun d => pm env fun p s => match s with
  | .own a ds => mi env fun k => (match k with | .int k => (match ixN ds.length k with | some j => kPut i p (.own a (ds.set j d)) env P.nx | none => False) | _ => False)
  | _ => False
theorem ss_setIxT (hv : SE C c1 tv me) (h : SP C c2 te i pm) (hi : SE C c3 ti mi) : SS C (c1 + (c2 + c3)) (tAsg tv (gSub te ti rSetL)) (sSetIxT i pm mi me) := fun G g n O env σ H P D hL F hm e =>
  hv G g n O env σ H _ _ (by omega) F hm fun d w H0 q0 g0 ok0 rw0 => by
    have F0 := F.grow g0 ok0
    refine h G g _ O env σ H0 _ _ (by omega) F0 q0 fun p s mm t v H1 ei hp h1 g1 ok1 r => ?_
    have F1 := F0.grow g1 ok1
    have nz := (fr_nz F1 ei hp).1
    split at h1
    · rename_i a ds
      cases r with
      | own ea r =>
        refine hi G g _ O env σ H1 _ _ (by omega) F1 h1 fun kd u H2 q2 g2 ok2 rk => ?_
        have F2 := F1.grow g2 ok2
        have ea2 := g2 _ _ ea (nz _ (List.mem_singleton.mpr rfl)).2
        have r2 := r.mono (sh_grow F1.wl.zo g2)
        have rw2 := rw0.mono (sh_grow F0.wl.zo (g1.trans g2))
        split at q2
        · split at q2
          · rename_i j hj
            cases rk
            obtain ⟨env', F3, l3, hq⟩ := F2.kput (o := .lst (List.set _ j w)) ei hp q2 rfl (fun _ z => nomatch z) (fun l => .own upd_same ((RpL.set j rw2 r2).mono l)) rfl nd1 fun b hb => .inl hb
            exact ⟨_, _, _, j, rfl, rfl, ea2, by rw [r2.length]; exact hj, e.nx O env' σ _ ((sh_grow F.wl.zo (g0.trans (g1.trans g2))).trans l3) (by rw [← Nat.add_assoc, ← Nat.add_assoc]; exact F3) hq⟩
          · exact q2.elim
        · exact q2.elim
    · exact h1.elim
/-- e[k] op= x, e a list of ints -/
def sAugIxT (i : Nat) (pm : PM) (mi me : EM) (f : Int → Int → Int) : SM := fun env P => pm env fun p s => match s with
  | .own a ds => mi env fun k => (match k with
    | .int k => (match ixN ds.length k with
      | some j => (match ds[j]? with
        | some (.int x) => me env fun d => (match d with | .int y => kPut i p (.own a (ds.set j (.int (f x y)))) env P.nx | _ => False)
        | _ => False)
      | none => False)
    | _ => False)
  | _ => False
theorem ss_augIxT {f : Int → Int → Int} (h : SP C c1 te i pm) (hi : SE C c2 ti mi) (hv : SE C c3 tv me) : SS C (c1 + (c2 + c3)) (tAugS te ti tv (rIxL K) (ipI f) rSetL) (sAugIxT i pm mi me f) := fun G g n O env σ H P D hL F hm e =>
  h G g n O env σ H _ _ (by omega) F hm fun p s mm t v H1 ei hp h1 g1 ok1 r => by
    have F1 := F.grow g1 ok1
    have nz := (fr_nz F1 ei hp).1
    split at h1
    · rename_i a ds
      cases r with
      | own ea r =>
        refine hi G g _ O env σ H1 _ _ (by omega) F1 h1 fun kd u H2 q2 g2 ok2 rk => ?_
        have F2 := F1.grow g2 ok2
        have ea2 := g2 _ _ ea (nz _ (List.mem_singleton.mpr rfl)).2
        have r2 := r.mono (sh_grow F1.wl.zo g2)
        split at q2
        · split at q2
          · rename_i j hj
            split at q2
            · rename_i x hx
              cases rk
              obtain ⟨w, hw, rw'⟩ := r2.get hx
              cases rw'
              refine ⟨_, _, _, _, rfl, rfl, sqL ea2, by unfold atI; rw [r2.length, hj]; exact hw, ?_⟩
              refine hv G g _ O env σ H2 _ _ (by omega) F2 q2 fun d v H3 q3 g3 ok3 rv => ?_
              have F3 := F2.grow g3 ok3
              split at q3
              · cases rv
                have ea3 := g3 _ _ ea2 (nz _ (List.mem_singleton.mpr rfl)).2
                have r3 := r2.mono (sh_grow F2.wl.zo g3)
                obtain ⟨env', F4, l4, hq⟩ := F3.kput (o := .lst (List.set _ j (.int _))) ei hp q3 rfl (fun _ z => nomatch z) (fun l => .own upd_same ((RpL.set j (.int _) r3).mono l)) rfl nd1 fun b hb => .inl hb
                exact ⟨_, _, rfl, rfl, _, _, _, j, rfl, rfl, ea3, by rw [r3.length]; exact hj, e.nx O env' σ _ ((sh_grow F.wl.zo (g1.trans (g2.trans g3))).trans l4) (by rw [← Nat.add_assoc, ← Nat.add_assoc]; exact F4) hq⟩
              · exact q3.elim
            · exact q2.elim
          · exact q2.elim
        · exact q2.elim
    · exact h1.elim
theorem fp_setDat : ∀ {ts : List T} {k : Nat} {d : D}, (∀ b ∈ T.fpL (ts.set k (.dat d)), b ∈ T.fpL ts) ∧ ((T.fpL ts).Nodup → (T.fpL (ts.set k (.dat d))).Nodup)
  | [], _, _ => ⟨fun _ h => h, fun h => h⟩
  | t :: ts, 0, d => ⟨fun b h => List.mem_append_right _ h, fun h => (List.nodup_append.mp h).2.1⟩
  | t :: ts, k + 1, d => by
    obtain ⟨h1, h2⟩ := fp_setDat (ts := ts) (k := k) (d := d)
    refine ⟨fun b h => ?_, fun h => ?_⟩
    · rcases List.mem_append.mp h with z | z
      · exact List.mem_append_left _ z
      · exact List.mem_append_right _ (h1 b z)
    · obtain ⟨u1, u2, u3⟩ := List.nodup_append.mp h
      exact List.nodup_append.mpr ⟨u1, h2 u2, fun a ha b hb => u3 a ha b (h1 b hb)⟩
theorem RTL.setT {A : At} {H : Hp} {v : V} {w : T} : ∀ {xs : List V} {ts : List T} (k : Nat), RTL A H xs ts → RT A H v w → RTL A H (xs.set k v) (ts.set k w)
  | _, _, _, .nil, _ => .nil
  | _, _, 0, .cons a r, q => .cons q r
  | _, _, k + 1, .cons a r, q => .cons a (RTL.setT k r q)
theorem RTL.app {A : At} {H : Hp} {v : V} {w : T} : ∀ {xs : List V} {ts : List T}, RTL A H xs ts → RT A H v w → RTL A H (xs ++ [v]) (ts ++ [w])
  | _, _, .nil, q => .cons q .nil
  | _, _, .cons a r, q => .cons a (RTL.app r q)
/-- e.f = x, x data -/
def sSetFldT (C0 : Addr) (NS : List Str) (i k : Nat) (pm : PM) (me : EM) : SM := fun env P => me env fun d => pm env fun p s => match s with
  | .obj a C' ns ts => (C' = C0 ∧ ns = NS) ∧ kPut i p (.obj a C' ns (ts.set k (.dat d))) env P.nx
  | _ => False
theorem ss_setFldT (hc : Cls K C0) (hn : NoAttr K C0 f) (hl : fIx f NS = some k) (h1000 : NS.length < 1000) (hv : SE C c1 tv me) (h : SP C c2 te i pm) : SS C (c1 + c2) (sFld K te tv f) (sSetFldT C0 NS i k pm me) := fun G g n O env σ H P D hL F hm e =>
  hv G g n O env σ H _ _ (by omega) F hm fun d w H0 q0 g0 ok0 rw0 => by
    have F0 := F.grow g0 ok0
    refine h G g _ O env σ H0 _ _ (by omega) F0 q0 fun p s mm t v H1 ei hp h1 g1 ok1 r => ?_
    have F1 := F0.grow g1 ok1
    obtain ⟨nz, un⟩ := fr_nz F1 ei hp
    split at h1
    · rename_i a C' ns ts
      obtain ⟨⟨e1, e2⟩, q1⟩ := h1
      subst e1; subst e2
      cases r with
      | @obj _ dx _ _ xs _ ea l rs =>
        have rw1 := rw0.mono (sh_grow F0.wl.zo g1)
        have nm : ∀ b ∈ T.fpL ts, b ≠ a := fun b hb z => (List.nodup_cons.mp un).1 (by rw [← z]; exact hb)
        obtain ⟨f1, f2⟩ := fp_setDat (ts := ts) (k := k) (d := d)
        obtain ⟨env', F3, l3, hq⟩ := F1.kput (o := .ins C' dx (ns.zip (xs.set k w))) ei hp q1 rfl (fun _ z => nomatch z)
          (fun lv => .obj upd_same (by rw [List.length_set]; exact l) (RTL.setT k (rs.keep lv fun b hb o eb => (upd_ne (nm b hb)).trans eb) (.dat (rw1.mono lv)))) rfl (List.nodup_cons.mpr ⟨fun z => (List.nodup_cons.mp un).1 (f1 _ z), f2 (List.nodup_cons.mp un).2⟩)
          fun b hb => .inl ((List.mem_cons.mp hb).elim (fun z => by rw [z]; exact List.mem_cons_self) fun z => List.mem_cons_of_mem _ (f1 b z))
        refine ⟨a, C', dx, _, rfl, ea, hc, hn, by rw [List.length_zip, ← l, Nat.min_self]; exact h1000, ?_⟩
        rw [fIx_put _ _ hl l]
        exact e.nx O env' σ _ ((sh_grow F.wl.zo (g0.trans g1)).trans l3) (by rw [← Nat.add_assoc]; exact F3) hq
    · exact h1.elim
/-- e.f op= x, ints -/
def sAugFldT (C0 : Addr) (NS : List Str) (i k : Nat) (pm : PM) (me : EM) (f : Int → Int → Int) : SM := fun env P => pm env fun p s => match s with
  | .obj a C' ns ts => (C' = C0 ∧ ns = NS) ∧ (match ts[k]? with
    | some (.dat (.int x)) => me env fun d => (match d with | .int y => kPut i p (.obj a C' ns (ts.set k (.dat (.int (f x y))))) env P.nx | _ => False)
    | _ => False)
  | _ => False
theorem ss_augFldT {fo : Int → Int → Int} (hc : Cls K C0) (hn : NoAttr K C0 f) (hl : fIx f NS = some k) (h1000 : NS.length < 1000) (h : SP C c1 te i pm) (hv : SE C c2 tv me) : SS C (c1 + c2) (sFldAug K te tv (ipI fo) f) (sAugFldT C0 NS i k pm me fo) := fun G g n O env σ H P D hL F hm e =>
  h G g n O env σ H _ _ (by omega) F hm fun p s mm t v H1 ei hp h1 g1 ok1 r => by
    have F1 := F.grow g1 ok1
    obtain ⟨nz, un⟩ := fr_nz F1 ei hp
    split at h1
    · rename_i a C' ns ts
      obtain ⟨⟨e1, e2⟩, q1⟩ := h1
      subst e1; subst e2
      cases r with
      | @obj _ dx _ _ xs _ ea l rs =>
        split at q1
        · rename_i x hx
          obtain ⟨w0, hw0, rx⟩ := rs.get hx
          cases rx with
          | dat rx =>
            cases rx
            refine ⟨a, C', dx, _, _, rfl, ea, hc, hn, by rw [fIx_lk _ hl l]; exact hw0, hv G g _ O env σ H1 _ _ (by omega) F1 q1 fun d u H2 q2 g2 ok2 rk => ?_⟩
            have F2 := F1.grow g2 ok2
            split at q2
            · rename_i y
              cases rk
              have ea2 := g2 _ _ ea (nz _ List.mem_cons_self).2
              have rs2 : RTL (Sh O H2) H2 xs ts := rs.keep (sh_grow F1.wl.zo g2) fun b hb o eb => g2 b o eb (nz b (List.mem_cons_of_mem _ hb)).2
              have nm : ∀ b ∈ T.fpL ts, b ≠ a := fun b hb z => (List.nodup_cons.mp un).1 (by rw [← z]; exact hb)
              obtain ⟨f1, f2⟩ := fp_setDat (ts := ts) (k := k) (d := .int (fo x y))
              obtain ⟨env', F3, l3, hq⟩ := F2.kput (o := .ins C' dx (ns.zip (xs.set k (.int (fo x y))))) ei hp q2 rfl (fun _ z => nomatch z)
                (fun lv => .obj upd_same (by rw [List.length_set]; exact l) (RTL.setT k (rs2.keep lv fun b hb o eb => (upd_ne (nm b hb)).trans eb) (.dat (.int _)))) rfl (List.nodup_cons.mpr ⟨fun z => (List.nodup_cons.mp un).1 (f1 _ z), f2 (List.nodup_cons.mp un).2⟩)
                fun b hb => .inl ((List.mem_cons.mp hb).elim (fun z => by rw [z]; exact List.mem_cons_self) fun z => List.mem_cons_of_mem _ (f1 b z))
              refine ⟨_, _, rfl, rfl, dx, _, ea2, by rw [List.length_zip, ← l, Nat.min_self]; exact h1000, ?_⟩
              rw [fIx_put _ _ hl l]
              exact e.nx O env' σ _ ((sh_grow F.wl.zo (g1.trans g2)).trans l3) (by rw [← Nat.add_assoc]; exact F3) hq
            · exact q2.elim
        · exact q1.elim
    · exact h1.elim
/-- what a fresh thing is -/
def svT : Sv → T → Prop
  | .dat d, u => u = .dat d
  | .own ds, u => ∃ a, u = .own a ds
  | .owd kvs, u => ∃ a, u = .owd a kvs
  | .tr _ t, u => u = t
  | .un, _ => False
theorem fresh_T {G : Cfg} {n : Nat} {O O' : Addr → Prop} {env : Ev} {σ : L2.St} {H H' : Hp} {v : V} {z : Sv} (F : Fr G n O env σ H) (g : Grow G.w H H') (W : Wl G n O' H') (s : Slv G O' H' v z) (hz : z ≠ .un) (fr : ∀ a, z.owns v a → H a = none) :
    ∃ u, svT z u ∧ RT (Sh O' H') H' v u ∧ u.fp.Nodup ∧ ∀ b ∈ u.fp, O' b ∧ ¬ G.w.Z b ∧ (G.H0 b = none ∨ G.x.My b) ∧ (∀ j, ¬ Own2 env σ j b) ∧ H b = none := by
  have no : ∀ b, H b = none → ∀ j, ¬ Own2 env σ j b := fun b hb j ⟨d, w, ed, es, od⟩ => by
    obtain ⟨u, h1, h2⟩ := F.sl j d ed (by intro q; rw [q] at od; exact od.elim)
    rw [es] at h1; cases h1
    exact (h2.ownAt od).2.2.ne hb
  cases s with
  | dat r => exact ⟨_, rfl, .dat r, List.nodup_nil, fun b hb => nomatch hb⟩
  | @own a xs ds e oa r =>
    refine ⟨.own a ds, ⟨a, rfl⟩, .own e r, nd1, fun b hb => ?_⟩
    obtain rfl := List.mem_singleton.mp hb
    exact ⟨oa.o, oa.z, .inl oa.n, no _ (fr _ rfl), fr _ rfl⟩
  | @owd a xs ds e oa r =>
    refine ⟨.owd a ds, ⟨a, rfl⟩, .owd e r, nd1, fun b hb => ?_⟩
    obtain rfl := List.mem_singleton.mp hb
    exact ⟨oa.o, oa.z, .inl oa.n, no _ (fr _ rfl), fr _ rfl⟩
  | @tr m _ t r nd un q mm =>
    exact ⟨t, rfl, r, un, fun b hb => ⟨(q b hb).1, (q b hb).2, .inl (F.wl.n0 (fr b hb)), no b (fr b hb), fr b hb⟩⟩
theorem Fr.wide {G : Cfg} {n n' : Nat} {O O' : Addr → Prop} {env : Ev} {σ : L2.St} {H H' : Hp} (F : Fr G n O env σ H) (g : Grow G.w H H') (W : Wl G n' O' H') (l : LeA (Sh O H) (Sh O' H')) (mo : ∀ b, O b → O' b) : Fr G n' O' env σ H' :=
  ⟨W, F.len, fun k d e nn => let ⟨u, h1, h2⟩ := F.sl k d e nn; ⟨u, h1, h2.le g l mo⟩, F.uq⟩
theorem fp_setNew {ts : List T} {k : Nat} {u : T} (n1 : (T.fpL ts).Nodup) (n2 : u.fp.Nodup) (d : ∀ b ∈ u.fp, b ∉ T.fpL ts) : (∀ b ∈ T.fpL (ts.set k u), b ∈ T.fpL ts ∨ b ∈ u.fp) ∧ (T.fpL (ts.set k u)).Nodup := by
  induction ts generalizing k with
  | nil => exact ⟨(fun b h => nomatch h), List.nodup_nil⟩
  | cons t ts ih =>
    obtain ⟨u1, u2, u3⟩ := List.nodup_append.mp n1
    cases k with
    | zero =>
      refine ⟨fun b h => (List.mem_append.mp h).elim .inr fun z => .inl (List.mem_append_right _ z), List.nodup_append.mpr ⟨n2, u2, fun a ha b hb z => d a ha (List.mem_append_right _ (by rw [z]; exact hb))⟩⟩
    | succ k =>
      obtain ⟨h1, h2⟩ := ih (k := k) u2 (fun b hb z => d b hb (List.mem_append_right _ z))
      refine ⟨fun b h => (List.mem_append.mp h).elim (fun z => .inl (List.mem_append_left _ z)) fun z => (h1 b z).imp (List.mem_append_right _) id, List.nodup_append.mpr ⟨u1, h2, fun a ha b hb z => ?_⟩⟩
      rcases h1 b hb with y | y
      · exact u3 a ha b y z
      · exact d b y (List.mem_append_left _ (by rw [← z]; exact ha))
theorem fp_appNew {ts : List T} {u : T} : T.fpL (ts ++ [u]) = T.fpL ts ++ u.fp := by
  induction ts with
  | nil => show u.fp ++ [] = [] ++ u.fp; simp
  | cons t ts ih => show t.fp ++ T.fpL (ts ++ [u]) = (t.fp ++ T.fpL ts) ++ u.fp; rw [ih, List.append_assoc]
/-- e.f = x, x a fresh thing -/
def sSetFldX (C0 : Addr) (NS : List Str) (i k : Nat) (pm : PM) (mx : XM) : SM := fun env P => mx env fun z => pm env fun p s => match s with
  | .obj a C' ns ts => (C' = C0 ∧ ns = NS) ∧ ∀ u, svT z u → kPut i p (.obj a C' ns (ts.set k u)) env P.nx
  | _ => False
theorem ss_setFldX (hc : Cls K C0) (hn : NoAttr K C0 f) (hl : fIx f NS = some k) (h1000 : NS.length < 1000) (hv : SX C c1 tv mx) (h : SP C c2 te i pm) : SS C (c1 + c2) (sFld K te tv f) (sSetFldX C0 NS i k pm mx) := fun G g n O env σ H P D hL F hm e =>
  hv G g n O env σ H _ _ (by omega) F hm fun z w O0 H0 q0 g0 W0 l0 mo0 s0 hz fr => by
    have F0 := F.wide g0 W0 l0 mo0
    obtain ⟨u, su, ru, nu, hu⟩ := fresh_T (F.le (a := 0) (b := c1) (Nat.zero_le _)) g0 W0 s0 hz fr
    refine h G g _ O0 env σ H0 _ _ (by omega) F0 q0 fun p s mm t v H1 ei hp h1 g1 ok1 r => ?_
    have F1 := F0.grow g1 ok1
    obtain ⟨nz, un⟩ := fr_nz F1 ei hp
    split at h1
    · rename_i a C' ns ts
      obtain ⟨⟨e1, e2⟩, q1⟩ := h1
      have q1 := q1 u su
      subst e1; subst e2
      cases r with
      | @obj _ dx _ _ xs _ ea l rs =>
        have ru1 := ru.grow F0.wl g1 fun b hb => ⟨(hu b hb).1, (hu b hb).2.1⟩
        have nm : ∀ b ∈ T.fpL ts, b ≠ a := fun b hb z => (List.nodup_cons.mp un).1 (by rw [← z]; exact hb)
        obtain ⟨vi, esi, svi⟩ := F0.sl i _ ei (by intro z; cases z)
        have sub : ∀ b ∈ (T.obj a C' ns ts).fp, ∃ j, Own2 env σ j b := fun b hb => by
          obtain ⟨pre, post, e1, _⟩ := T.fp_put hp
          exact ⟨i, _, vi, ei, esi, show b ∈ t.fp from by rw [e1]; exact List.mem_append_right _ (List.mem_append_left _ hb)⟩
        have dj : ∀ b ∈ u.fp, b ∉ (T.obj a C' ns ts).fp := fun b hb y => by
          obtain ⟨j, o⟩ := sub b y
          exact (hu b hb).2.2.2.1 j o
        obtain ⟨f1, f2⟩ := fp_setNew (ts := ts) (k := k) (u := u) (List.nodup_cons.mp un).2 nu fun b hb y => dj b hb (List.mem_cons_of_mem _ y)
        have um : ∀ b ∈ u.fp, b ≠ a := fun b hb z => dj b hb (by rw [z]; exact List.mem_cons_self)
        obtain ⟨env', F3, l3, hq⟩ := F1.kput (o := .ins C' dx (ns.zip (xs.set k w))) ei hp q1 rfl (fun _ z => nomatch z)
          (fun lv => .obj upd_same (by rw [List.length_set]; exact l) (RTL.setT k (rs.keep lv fun b hb o eb => (upd_ne (nm b hb)).trans eb) (ru1.keep lv fun b hb o eb => (upd_ne (um b hb)).trans eb))) rfl
          (List.nodup_cons.mpr ⟨fun z => (f1 _ z).elim (List.nodup_cons.mp un).1 fun y => um _ y rfl, f2⟩)
          fun b hb => (List.mem_cons.mp hb).elim (fun z => .inl (by rw [z]; exact List.mem_cons_self)) fun z => (f1 b z).elim (fun y => .inl (List.mem_cons_of_mem _ y)) fun y => .inr ⟨(hu b y).1, (hu b y).2.1, (hu b y).2.2.1, (hu b y).2.2.2.1⟩
        refine ⟨a, C', dx, _, rfl, ea, hc, hn, by rw [List.length_zip, ← l, Nat.min_self]; exact h1000, ?_⟩
        rw [fIx_put _ _ hl l]
        exact e.nx O0 env' σ _ (l0.trans ((sh_grow F0.wl.zo g1).trans l3)) (by rw [← Nat.add_assoc]; exact F3) hq
    · exact h1.elim
/-- e.f = x, f new -/
def sNewFldX (C0 : Addr) (NS : List Str) (f : Str) (i : Nat) (pm : PM) (mx : XM) : SM := fun env P => mx env fun z => pm env fun p s => match s with
  | .obj a C' ns ts => (C' = C0 ∧ ns = NS) ∧ ∀ u, svT z u → kPut i p (.obj a C' (NS ++ [f]) (ts ++ [u])) env P.nx
  | _ => False
theorem ss_newFldX (hc : Cls K C0) (hn : NoAttr K C0 f) (hl : fIx f NS = none) (h1000 : NS.length < 1000) (hv : SX C c1 tv mx) (h : SP C c2 te i pm) : SS C (c1 + c2) (sFld K te tv f) (sNewFldX C0 NS f i pm mx) := fun G g n O env σ H P D hL F hm e =>
  hv G g n O env σ H _ _ (by omega) F hm fun z w O0 H0 q0 g0 W0 l0 mo0 s0 hz fr => by
    have F0 := F.wide g0 W0 l0 mo0
    obtain ⟨u, su, ru, nu, hu⟩ := fresh_T (F.le (a := 0) (b := c1) (Nat.zero_le _)) g0 W0 s0 hz fr
    refine h G g _ O0 env σ H0 _ _ (by omega) F0 q0 fun p s mm t v H1 ei hp h1 g1 ok1 r => ?_
    have F1 := F0.grow g1 ok1
    obtain ⟨nz, un⟩ := fr_nz F1 ei hp
    split at h1
    · rename_i a C' ns ts
      obtain ⟨⟨e1, e2⟩, q1⟩ := h1
      have q1 := q1 u su
      subst e1; subst e2
      cases r with
      | @obj _ dx _ _ xs _ ea l rs =>
        have ru1 := ru.grow F0.wl g1 fun b hb => ⟨(hu b hb).1, (hu b hb).2.1⟩
        have nm : ∀ b ∈ T.fpL ts, b ≠ a := fun b hb z => (List.nodup_cons.mp un).1 (by rw [← z]; exact hb)
        obtain ⟨vi, esi, svi⟩ := F0.sl i _ ei (by intro z; cases z)
        have dj : ∀ b ∈ u.fp, b ∉ (T.obj a C' ns ts).fp := fun b hb y => by
          obtain ⟨pre, post, e1, _⟩ := T.fp_put hp
          exact (hu b hb).2.2.2.1 i ⟨_, vi, ei, esi, show b ∈ t.fp from by rw [e1]; exact List.mem_append_right _ (List.mem_append_left _ y)⟩
        have um : ∀ b ∈ u.fp, b ≠ a := fun b hb z => dj b hb (by rw [z]; exact List.mem_cons_self)
        have fa := fp_appNew (ts := ts) (u := u)
        obtain ⟨env', F3, l3, hq⟩ := F1.kput (o := .ins C' dx ((ns ++ [f]).zip (xs ++ [w]))) ei hp q1 rfl (fun _ z => nomatch z)
          (fun lv => .obj upd_same (by rw [List.length_append, List.length_append, l]; rfl) (RTL.app (rs.keep lv fun b hb o eb => (upd_ne (nm b hb)).trans eb) (ru1.keep lv fun b hb o eb => (upd_ne (um b hb)).trans eb))) rfl
          (List.nodup_cons.mpr ⟨fun z => by
            rw [fa] at z
            exact (List.mem_append.mp z).elim (List.nodup_cons.mp un).1 fun y => um _ y rfl, by
            rw [fa]
            exact List.nodup_append.mpr ⟨(List.nodup_cons.mp un).2, nu, fun x hx y hy z => dj y hy (by rw [← z]; exact List.mem_cons_of_mem _ hx)⟩⟩)
          fun b hb => (List.mem_cons.mp hb).elim (fun z => .inl (by rw [z]; exact List.mem_cons_self)) fun z => by
            rw [fa] at z
            exact (List.mem_append.mp z).elim (fun y => .inl (List.mem_cons_of_mem _ y)) fun y => .inr ⟨(hu b y).1, (hu b y).2.1, (hu b y).2.2.1, (hu b y).2.2.2.1⟩
        refine ⟨a, C', dx, _, rfl, ea, hc, hn, by rw [List.length_zip, ← l, Nat.min_self]; exact h1000, ?_⟩
        rw [fIx_new _ _ hl l]
        exact e.nx O0 env' σ _ (l0.trans ((sh_grow F0.wl.zo g1).trans l3)) (by rw [← Nat.add_assoc]; exact F3) hq
    · exact h1.elim
end
end PL

/-! OT3: things that may be changed: methods, calls, expressions that change things. -/
namespace PL
open PySem PySem.Spec PyProof.Rows L2
/-- a promise over a thing and data: what is asked of them, of the wanted answer, of the wanted exception -/
abbrev RS := T → List D → (D → Prop) → (Exn → Prop) → Prop
/-- .. of the wanted thing behind it, with the answer -/
abbrev MS := T → List D → (T → D → Prop) → Prop
def MonoR (S : RS) : Prop := ∀ t ds P Q Y Z, (∀ d, P d → Q d) → (∀ e, Y e → Z e) → S t ds P Y → S t ds Q Z
def MonoT (S : MS) : Prop := ∀ t ds P Q, (∀ u d, P u d → Q u d) → S t ds P → S t ds Q
/-- the thing and the arguments at a call -/
structure Ent (w : Wd) (n : Nat) (Oc : Addr → Prop) (H : Hp) (vs : List V) (t : T) (ds : List D) : Prop where
  le : n ≤ LIM
  ok : w.ok n H
  zo : ∀ b, w.Z b → Oc b
  tr : ∀ b, Oc b → Trk (H b)
  at' : ∃ v us, vs = v :: us ∧ RT (Sh Oc H) H v t ∧ RpL (Sh Oc H) us ds
  nd : t.nd = true
  un : t.fp.Nodup
  ow : ∀ a ∈ t.fp, Oc a ∧ ¬ w.Z a
/-- a method that only reads -/
def spR (S : RS) : Sp := fun vs H Q E => ∃ (w : Wd) (n : Nat) (Oc : Addr → Prop) (t : T) (ds : List D), Ent w n Oc H vs t ds ∧
  S t ds (fun d => ∀ v' H', Grow w H H' → w.ok n H' → Rp (Sh Oc H') v' d → Q v' H') (fun e => ∀ c d H', Grow w H H' → w.ok n H' → ExnAt (Sh Oc H') c d e → E c d H')
/-- what is behind a call that changes the thing -/
structure Beh (w : Wd) (n : Nat) (Oc : Addr → Prop) (H : Hp) (v : V) (t : T) (Oc' : Addr → Prop) (H' : Hp) (t' : T) : Prop where
  g : GrowM w (fun a => a ∈ t.fp) H H'
  ok : w.ok n H'
  zo : ∀ b, w.Z b → Oc' b
  mo : ∀ b, Oc b → Oc' b
  le : LeA (Sh Oc H) (Sh Oc' H')
  tr : ∀ b, Oc' b → Trk (H' b)
  at' : RT (Sh Oc' H') H' v t'
  nd : t'.nd = true
  un : t'.fp.Nodup
  ow : ∀ a ∈ t'.fp, Oc' a ∧ ¬ w.Z a ∧ (a ∈ t.fp ∨ H a = none)
/-- a method that changes its thing -/
def spM (S : MS) : Sp := fun vs H Q _ => ∃ (w : Wd) (n : Nat) (Oc : Addr → Prop) (t : T) (ds : List D), Ent w n Oc H vs t ds ∧
  S t ds (fun t' d => ∀ v v' Oc' H', vs.head? = some v → Beh w n Oc H v t Oc' H' t' → Rp (Sh Oc' H') v' d → Q v' H')
/-- .. or that raises, and then changes nothing -/
def spMR (S : MS) (R : RS) : Sp := fun vs H Q E => spM S vs H Q E ∨ spR R vs H Q E
/-! ### the frame of a method -/
def envT (N : List Str) (m : Bool) (t : T) (ds : List D) : Ev := .tr m t :: (ds.map .dat ++ List.replicate (N.length - (ds.length + 1)) .un)
theorem fr_startT {G : Cfg} {n : Nat} {H : Hp} {vs : List V} {t : T} {ds : List D} {N : List Str} {m : Bool} (e : Ent G.w n G.Oc H vs t ds) (h0 : G.H0 = H) (hm : m = true → ∀ a ∈ t.fp, G.x.My a) : Fr G n G.Oc (envT N m t ds) (L2.start N vs) H := by
  obtain ⟨v, us, ev, rt, rd⟩ := e.at'
  subst ev
  have at1 : ∀ (i : Nat) (c : Sv), (ds.map Sv.dat ++ List.replicate (N.length - (ds.length + 1)) Sv.un)[i]? = some c → c ≠ .un → ∃ v' d, (L2.start N (v :: us))[i + 1]? = some (some v') ∧ c = .dat d ∧ Rp (Sh G.Oc H) v' d := fun i c h n => by
    by_cases hi : i < ds.length
    · rw [List.getElem?_append_left (by rw [List.length_map]; exact hi), List.getElem?_map, List.getElem?_eq_getElem hi] at h
      cases h
      obtain ⟨v2, hv, rv⟩ := rd.get (List.getElem?_eq_getElem hi)
      refine ⟨v2, _, ?_, rfl, rv⟩
      unfold L2.start
      rw [List.getElem?_append_left (by rw [List.length_map, List.length_cons, rd.length]; omega), List.getElem?_map, List.getElem?_cons_succ, hv]; rfl
    · rw [List.getElem?_append_right (by rw [List.length_map]; omega)] at h
      exact absurd (List.eq_of_mem_replicate (List.mem_of_getElem? h)) n
  have own0 : ∀ (i : Nat) (a : Addr), Own2 (envT N m t ds) (L2.start N (v :: us)) i a → i = 0 := fun i a ⟨c, w, h1, h2, h3⟩ => by
    cases i with
    | zero => rfl
    | succ i =>
      obtain ⟨_, _, _, e2, _⟩ := at1 i c h1 (by intro z; rw [z] at h3; exact h3.elim)
      rw [e2] at h3; exact (show False from h3).elim
  refine ⟨⟨e.ok, e.zo, fun _ z => z, e.tr, by rw [h0]; exact GrowM.refl _ _ _⟩, ?_, fun i c h n => ?_, fun i j a oi oj => by rw [own0 i a oi, own0 j a oj]⟩
  · unfold envT L2.start
    simp only [List.length_cons, List.length_append, List.length_map, List.length_replicate, rd.length]
    omega
  · cases i with
    | zero =>
      cases h
      exact ⟨v, rfl, .tr rt e.nd e.un e.ow fun hmm a ha => .inr (hm hmm a ha)⟩
    | succ i =>
      obtain ⟨v', d, h1, e2, h3⟩ := at1 i c h n
      subst e2
      exact ⟨v', h1, .dat h3⟩
section
variable {P : Program} {w : World} {K : PySem.W.Frag} {mg : Str → Option Value} {base : Heap}
theorem pl_bodyR {S : RS} {N : List Str} {ts : TS} {vs : List V} {H : Hp} {Q : VK} {E : XK} (hs : ∀ X0, ∃ sm : SM, SS (exC CA E X0) 0 ts sm ∧ ∀ t ds Q, S t ds Q X0 → sm (envT N false t ds) { nx := fun _ => Q .non, rt := Q }) (h : spR S vs H Q E) :
    ts { nx := fun _ H' => Q .non H', rt := Q } (L2.start N vs) H := by
  obtain ⟨wd, n, Oc, t, ds, en, h⟩ := h
  obtain ⟨sm, hs, hb⟩ := hs (fun e => ∀ c d H', Grow wd H H' → wd.ok n H' → ExnAt (Sh Oc H') c d e → E c d H')
  exact hs (⟨wd, H, Oc, en.tr, ⟨n, en.le, H, E, fun e => ∀ c d H', Grow wd H H' → wd.ok n H' → ExnAt (Sh Oc H') c d e → E c d H', fun _ => False⟩, GrowM.refl _ _ _, fun _ z => z.elim, fun n' H' cv d e hn ok' gr _ a q => q cv d H' gr.no (wd.up _ _ _ hn ok') a⟩ : Cfg) ⟨trivial, rfl, rfl⟩ n Oc _ (L2.start N vs) H _ _ (Nat.le_refl _) (fr_startT (m := false) en rfl (fun z => Bool.noConfusion z)) (hb t ds _ h)
    ⟨fun O' env' σ' H' l F' q => q .non H' F'.wl.base.no F'.wl.ok .non, fun d v O' H' W rv q => q v H' W.base.no W.ok (rv.mono fun b u ⟨h1, h2⟩ => ⟨h1, fun z => h2 (W.co b z)⟩), fun _ _ _ _ _ _ q => q, fun _ _ _ _ _ _ q => q, fun _ _ _ _ _ _ _ _ _ q => q.elim⟩
/-- the thing as it is at the end, with the answer -/
def rmT (a0 : Addr) (Q : T → D → Prop) : Ev → D → Prop := fun env d => ∃ t', env[0]? = some (.tr true t') ∧ t'.ad = a0 ∧ Q t' d
theorem pl_bodyM {S : MS} {N : List Str} {ts : TS} {sm : SM} {vs : List V} {H : Hp} {Q : VK} {E : XK} (hs : SS (nx CA) 0 ts sm) (hb : ∀ t ds Q, S t ds Q → sm (envT N true t ds) { nx := fun env => rmT t.ad Q env .non, rt := fun _ => False, rm := rmT t.ad Q }) (h : spM S vs H Q E) :
    ts { nx := fun _ H' => Q .non H', rt := Q } (L2.start N vs) H := by
  obtain ⟨wd, n, Oc, t, ds, en, h⟩ := h
  have fin : ∀ {G : Cfg} {O' : Addr → Prop} {env' : Ev} {σ' : L2.St} {H' : Hp} {d : D} {u : V}, G.w = wd → G.H0 = H → G.Oc = Oc → G.x.My = (fun a => a ∈ t.fp) → LeA (Sh Oc H) (Sh O' H') → Fr G n O' env' σ' H' → Rp (Sh O' H') u d →
      rmT t.ad (fun t' d => ∀ v v' Oc' H', vs.head? = some v → Beh wd n Oc H v t Oc' H' t' → Rp (Sh Oc' H') v' d → Q v' H') env' d → Q u H' := by
    intro G O' env' σ' H' d u e1 e2 e3 e4 l F' ru ⟨t', et, ad, q⟩
    subst e1; subst e2; subst e3
    obtain ⟨v', es, sv⟩ := F'.sl 0 _ et (by intro z; cases z)
    obtain ⟨v, us, ev, rt, rd⟩ := en.at'
    cases sv with
    | tr r nd un q' m =>
      have e5 := (r.ref nd).1
      have e6 := (rt.ref en.nd).1
      rw [ad, ← e6] at e5
      subst e5
      refine q v' u O' H' (by rw [ev]; rfl) ⟨by rw [← e4]; exact F'.wl.base, F'.wl.ok, F'.wl.zo, fun b z => F'.wl.co b z, l, F'.wl.tr, r, nd, un, fun a ha => ⟨(q' a ha).1, (q' a ha).2, ?_⟩⟩ ru
      rcases m rfl a ha with z | z
      · exact .inr z
      · rw [e4] at z; exact .inl z
  exact hs (⟨wd, H, Oc, en.tr, ⟨LIM, Nat.le_refl _, H, fun _ _ _ => False, fun _ => False, fun a => a ∈ t.fp⟩, GrowM.refl _ _ _, fun b z => (en.ow b z).1, fun _ _ _ _ _ _ _ _ _ _ h => h.elim⟩ : Cfg) trivial n Oc _ (L2.start N vs) H _ _ en.le (fr_startT (m := true) en rfl (fun _ a ha => ha)) (hb t ds _ h)
    ⟨fun O' env' σ' H' l F' q => fin rfl rfl rfl rfl l F' .non q, fun _ _ _ _ _ _ q => q.elim, fun _ _ _ _ _ _ q => q, fun _ _ _ _ _ _ q => q, fun d v O' e' s' H' l F' r q => fin rfl rfl rfl rfl l F' r q⟩
theorem Ent.len {w : Wd} {n : Nat} {Oc : Addr → Prop} {H : Hp} {vs : List V} {t : T} {ds : List D} (e : Ent w n Oc H vs t ds) : vs.length = ds.length + 1 := by
  obtain ⟨v, us, ev, _, r⟩ := e.at'
  rw [ev, List.length_cons, r.length]
theorem pl_okR {S : RS} {x qual : Str} {st : Stmt} {f : Addr} {fd : FuncData} {N ps : List Str} {k : Nat} (F : Fun K x qual st f fd) (sc : FnScope N ps (defScope st)) (len : ∀ t ds Q Y, S t ds Q Y → ds.length + 1 = ps.length)
    (body : ∀ (cdv : Value) (A : Around) (outer : List Env) (s : Shared) (H : Hp) (E : XK), Room k (A.deeper (envOfC qual (defScope st) s.heap.objs.size f cdv)) →
      PassesOwn (model P w) (cxOf (L2.CX P w) P w K mg base N qual (defScope st) f cdv A outer s H E).A (cxOf (L2.CX P w) P w K mg base N qual (defScope st) f cdv A outer s H E).env (cxOf (L2.CX P w) P w K mg base N qual (defScope st) f cdv A outer s H E).xe →
      Takes (cxOf (L2.CX P w) P w K mg base N qual (defScope st) f cdv A outer s H E) (fun cls d _ H => E cls d H) →
      ∃ t, PSs (cxOf (L2.CX P w) P w K mg base N qual (defScope st) f cdv A outer s H E) (defBody st) t ∧ ∀ X0, ∃ m : SM, SS (exC CA E X0) 0 t m ∧ ∀ u ds Q, S u ds Q X0 → m (envT N false u ds) { nx := fun _ => Q .non, rt := Q }) :
    FnOk P w K mg base (L2.CX P w) (k + 1) f fd ps (spR S) := by
  refine F.okX sc (fun vs H Q E ⟨_, _, _, _, ds, e, h⟩ => by rw [e.len]; exact len _ ds _ _ h) fun cdv A outer s H vs Q E hr h => ?_
  obtain ⟨t, ht, hs⟩ := body cdv A outer s H E hr (passes_of rfl) (takes_of rfl rfl rfl rfl)
  exact ⟨t, ht, pl_bodyR hs h⟩
theorem pl_okMR {S : MS} {R : RS} {x qual : Str} {st : Stmt} {f : Addr} {fd : FuncData} {N ps : List Str} {k : Nat} (F : Fun K x qual st f fd) (sc : FnScope N ps (defScope st)) (len : ∀ t ds Q, S t ds Q → ds.length + 1 = ps.length) (lenR : ∀ t ds Q Y, R t ds Q Y → ds.length + 1 = ps.length)
    (body : ∀ (cdv : Value) (A : Around) (outer : List Env) (s : Shared) (H : Hp) (E : XK), Room k (A.deeper (envOfC qual (defScope st) s.heap.objs.size f cdv)) →
      PassesOwn (model P w) (cxOf (L2.CX P w) P w K mg base N qual (defScope st) f cdv A outer s H E).A (cxOf (L2.CX P w) P w K mg base N qual (defScope st) f cdv A outer s H E).env (cxOf (L2.CX P w) P w K mg base N qual (defScope st) f cdv A outer s H E).xe →
      Takes (cxOf (L2.CX P w) P w K mg base N qual (defScope st) f cdv A outer s H E) (fun cls d _ H => E cls d H) →
      ∃ t, PSs (cxOf (L2.CX P w) P w K mg base N qual (defScope st) f cdv A outer s H E) (defBody st) t ∧ (∃ m : SM, SS (nx CA) 0 t m ∧ ∀ u ds Q, S u ds Q → m (envT N true u ds) { nx := fun env => rmT u.ad Q env .non, rt := fun _ => False, rm := rmT u.ad Q }) ∧
        ∀ X0, ∃ m : SM, SS (exC CA E X0) 0 t m ∧ ∀ u ds Q, R u ds Q X0 → m (envT N false u ds) { nx := fun _ => Q .non, rt := Q }) :
    FnOk P w K mg base (L2.CX P w) (k + 1) f fd ps (spMR S R) := by
  refine F.okX sc (fun vs H Q E h => h.elim (fun ⟨_, _, _, _, ds, e, h⟩ => by rw [e.len]; exact len _ ds _ h) fun ⟨_, _, _, _, ds, e, h⟩ => by rw [e.len]; exact lenR _ ds _ _ h) fun cdv A outer s H vs Q E hr h => ?_
  obtain ⟨t, ht, ⟨m, hs, hb⟩, hx⟩ := body cdv A outer s H E hr (passes_of rfl) (takes_of rfl rfl rfl rfl)
  exact ⟨t, ht, h.elim (pl_bodyM hs hb) (pl_bodyR hx)⟩
end
end PL

/-! OT4: things that may be changed: calls of methods, making, what is caught. -/
namespace PL
open PySem PySem.Spec PyProof.Rows L2 LamX
def isO (C0 : Addr) (NS : List Str) : T → Prop
  | .obj _ C' ns _ => C' = C0 ∧ ns = NS
  | _ => False
theorem isO_at {C0 : Addr} {NS : List Str} {m0 : Str} {A : At} {H : Hp} {v : V} {s : T} (h : isO C0 NS s) (hm0 : m0 ∉ NS) (r : RT A H v s) : s.nd = true ∧ ∃ a dx fs, v = .ref a ∧ H a = some (.ins C0 dx fs) ∧ fs.lookup m0 = none := by
  cases r with
  | obj e l rs => obtain ⟨e1, e2⟩ := h; subst e1; subst e2; exact ⟨rfl, _, _, _, rfl, e, fld_no hm0⟩
  | dat r => exact h.elim
  | own e r => exact h.elim
  | owd e r => exact h.elim
  | owt e r => exact h.elim
  | lst e r => exact h.elim
  | dic e q r => exact h.elim
  | dit e q r => exact h.elim
theorem Ent.mk' {G : Cfg} {n : Nat} {O : Addr → Prop} {env : Ev} {σ : L2.St} {H : Hp} {i : Nat} {mm : Bool} {p : List Nat} {t s : T} {v : V} {vs : List V} {ds : List D} (hn : n ≤ G.x.lim) (F : Fr G n O env σ H) (e : env[i]? = some (.tr mm t)) (hp : T.at p t = some s) (nd : s.nd = true) (r : RT (Sh O H) H v s) (rd : RpL (Sh O H) vs ds) : Ent G.w n O H (v :: vs) s ds :=
  ⟨Nat.le_trans hn G.x.le, F.wl.ok, F.wl.zo, F.wl.tr, ⟨v, vs, rfl, r, rd⟩, nd, (fr_nz F e hp).2, (fr_nz F e hp).1⟩
/-- an expression that may change things -/
def SEM (C : Wd → XC → Prop) (c : Nat) (te : TE) (m : Ev → (D → Ev → Prop) → Prop) : Prop := ∀ G, C G.w G.x → ∀ n O env σ H (Qd : D → Ev → Prop) (Q : VK), n + c ≤ G.x.lim → Fr G n O env σ H → m env Qd →
  (∀ d env' v O' H', Qd d env' → LeA (Sh O H) (Sh O' H') → Fr G (n + c) O' env' σ H' → Rp (Sh O' H') v d → Q v H') → te σ H Q
/-- what a slot holds stays through a call that changes another thing -/
theorem Slv.leM {G : Cfg} {M O O' : Addr → Prop} {H H' : Hp} {v : V} {c : Sv} (g : GrowM G.w M H H') (l : LeA (Sh O H) (Sh O' H')) (mo : ∀ b, O b → O' b) (n : ∀ a, c.owns v a → ¬ M a) (h : Slv G O H v c) : Slv G O' H' v c := by
  cases h with
  | dat r => exact .dat (r.mono l)
  | own e o r => exact .own (g _ _ e o.z (n _ rfl)) ⟨mo _ o.o, o.z, o.n⟩ (r.mono l)
  | owd e o r => exact .owd (g _ _ e o.z (n _ rfl)) ⟨mo _ o.o, o.z, o.n⟩ (r.mono l)
  | tr r nd u o mm => exact .tr (r.keep l fun a ha b e => g a b e (o a ha).2 (n a ha)) nd u (fun a ha => ⟨mo _ (o a ha).1, (o a ha).2⟩) mm
theorem Fr.beh {G : Cfg} {n : Nat} {O O' : Addr → Prop} {env : Ev} {σ : L2.St} {H H' : Hp} {i : Nat} {p : List Nat} {t s s' : T} {v : V} (F : Fr G n O env σ H) (e : env[i]? = some (.tr true t)) (hp : T.at p t = some s) (nd : s.nd = true) (rv : RT (Sh O H) H v s) (b : Beh G.w n O H v s O' H' s') : Fr G n O' (env.set i (.tr true (T.put p t s'))) σ H' := by
  have hl := (List.getElem?_eq_some_iff.mp e).1
  obtain ⟨v0, es, sv⟩ := F.sl i _ e (by intro z; cases z)
  cases sv with
  | tr r ndt un q m =>
    obtain ⟨u, ru, fu⟩ := RT.sub hp r
    have eu : v = u := by rw [(rv.ref nd).1, (ru.ref nd).1]
    subst eu
    obtain ⟨pre, post, e1, e2⟩ := T.fp_put hp
    have st : ∀ b, b ∈ s.fp → b ∈ t.fp := fun b m => by rw [e1]; exact List.mem_append_right _ (List.mem_append_left _ m)
    have no : ∀ b, H b = none → ∀ j, ¬ Own2 env σ j b := fun b hb j ⟨d, w, ed, es, od⟩ => by
      obtain ⟨u, h1, h2⟩ := F.sl j d ed (by intro q; rw [q] at od; exact od.elim)
      rw [es] at h1; cases h1
      exact (h2.ownAt od).2.2.ne hb
    have new : ∀ b ∈ s'.fp, b ∈ s.fp ∨ ∀ j, ¬ Own2 env σ j b := fun c hc => (b.ow c hc).2.2.imp id (no c)
    have mem : ∀ b, b ∈ (T.put p t s').fp → b ∈ t.fp ∨ (b ∈ s'.fp ∧ ∀ j, ¬ Own2 env σ j b) := fun b hb => by
      rw [e2] at hb
      rcases List.mem_append.mp hb with z | z
      · exact .inl (by rw [e1]; exact List.mem_append_left _ z)
      · rcases List.mem_append.mp z with z | z
        · exact (new b z).imp (st b) fun y => ⟨z, y⟩
        · exact .inl (by rw [e1]; exact List.mem_append_right _ (List.mem_append_right _ z))
    have key : ∀ {j : Nat} {b : Addr}, Own2 (env.set i (.tr true (T.put p t s'))) σ j b → Own2 env σ j b ∨ (j = i ∧ ∀ j, ¬ Own2 env σ j b) := fun {j b} ⟨d, w, ed, es', od⟩ => by
      by_cases hj : i = j
      · subst hj
        rw [List.getElem?_set_self hl] at ed; cases ed
        exact (mem b od).imp (fun z => ⟨_, v0, e, es, z⟩) fun z => ⟨rfl, z.2⟩
      · rw [List.getElem?_set_ne hj] at ed; exact .inl ⟨d, w, ed, es', od⟩
    refine ⟨⟨b.ok, b.zo, fun c z => b.mo _ (F.wl.co c z), b.tr, fun c o h z mm => b.g c o (F.wl.base c o h z mm) z fun y => ?_⟩, by rw [List.length_set]; exact F.len, fun j d ed nn => ?_, fun j k c oj ok => ?_⟩
    · rcases m rfl c (st c y) with z0 | z0
      · rw [h] at z0; cases z0
      · exact mm z0
    · by_cases hj : i = j
      · subst hj
        rw [List.getElem?_set_self hl] at ed
        cases ed
        refine ⟨v0, es, .tr (fu _ _ s' b.le (fun c hc nc x hx => b.g c x hx (q c hc).2 nc) un b.at') (T.nd_put hp b.nd) ?_ (fun c hc => ?_) fun _ c hc => ?_⟩
        · rw [e2]
          rw [e1] at un
          rw [List.nodup_append] at un ⊢
          obtain ⟨u1, u2, u3⟩ := un
          rw [List.nodup_append] at u2
          obtain ⟨u4, u5, u6⟩ := u2
          have nt : ∀ b, b ∈ s'.fp → b ∈ s.fp ∨ b ∉ t.fp := fun b hb => (new b hb).imp id fun z y => z i ⟨_, v0, e, es, y⟩
          refine ⟨u1, List.nodup_append.mpr ⟨b.un, u5, fun b hb c hc ebc => ?_⟩, fun b hb c hc ebc => ?_⟩
          · subst ebc
            rcases nt b hb with z | z
            · exact u6 b z b hc rfl
            · exact z (by rw [e1]; exact List.mem_append_right _ (List.mem_append_right _ hc))
          · subst ebc
            rcases List.mem_append.mp hc with hc | hc
            · rcases nt b hc with z | z
              · exact u3 b hb b (List.mem_append_left _ z) rfl
              · exact z (by rw [e1]; exact List.mem_append_left _ hb)
            · exact u3 b hb b (List.mem_append_right _ hc) rfl
        · rcases mem c hc with z | z
          · exact ⟨b.mo _ (q c z).1, (q c z).2⟩
          · exact ⟨(b.ow c z.1).1, (b.ow c z.1).2.1⟩
        · rcases mem c hc with z | z
          · exact m rfl c z
          · rcases (b.ow c z.1).2.2 with y | y
            · exact m rfl c (st c y)
            · exact .inl (F.wl.n0 y)
      · rw [List.getElem?_set_ne hj] at ed
        obtain ⟨u, h1, h2⟩ := F.sl j d ed nn
        exact ⟨u, h1, h2.leM b.g b.le b.mo fun a od y => hj (F.uq i j a ⟨_, v0, e, es, st a y⟩ ⟨d, u, ed, h1, od⟩)⟩
    · rcases key oj with z1 | ⟨z1, y1⟩
      · rcases key ok with z2 | ⟨z2, y2⟩
        · exact F.uq j k c z1 z2
        · exact absurd z1 (y2 j)
      · rcases key ok with z2 | ⟨z2, y2⟩
        · exact absurd z2 (y1 k)
        · rw [z1, z2]
section
variable {C : Wd → XC → Prop} {C1 : Wd → Prop} {K : PySem.W.Frag} {te ta' tb tv : TE} {ta tr : TA} {m mb me : EM} {pm : PM} {mx : XM} {am ar : AM} {mM : Ev → (D → Ev → Prop) → Prop} {i j k c c1 c2 c3 : Nat} {C0 : Addr} {NS : List Str} {m0 : Str} {Er E : XK} {X0 : Exn → Prop} {R : RS} {S : MS}
/-! ### calls that only read -/
def mMethR (C0 : Addr) (NS : List Str) (pm : PM) (am : AM) (R : RS) (X0 : Exn → Prop) : EM := fun env Q => pm env fun _ s => isO C0 NS s ∧ am env fun ds => R s ds Q X0
theorem methR_run {sp : Sp} (hsp : ∀ vs H Q, spR R vs H Q E → sp vs H Q E) (hm0 : m0 ∉ NS) (h : SP C c1 te i pm) (ha : SA C c2 ta am) (hR : MonoR R) {G : Cfg} (g : C G.w G.x) {n : Nat} {O : Addr → Prop} {env : Ev} {σ : L2.St} {H : Hp} {Qd : D → Prop} {Q : VK} (hL : n + (c1 + c2) ≤ G.x.lim) (F : Fr G n O env σ H) (hm : mMethR C0 NS pm am R X0 env Qd)
    (q : ∀ d v H', Qd d → Grow G.w H H' → G.w.ok (n + (c1 + c2)) H' → Rp (Sh O H') v d → Q v H')
    (hE : ∀ e cv dd H', X0 e → Wl G (n + (c1 + c2)) O H' → ExnAt (Sh O H') cv dd e → E cv dd H') : tMeth C0 m0 sp [] E te ta σ H Q :=
  h G g n O env σ H _ _ (by omega) F hm fun p s mm t v H1 ei hp ⟨io, h1⟩ g1 ok1 r => by
    obtain ⟨nd, a, dx, fs, ev, ea, hf⟩ := isO_at io hm0 r
    have F1 := F.grow g1 ok1
    refine ⟨a, dx, fs, ev, ea, hf, ha G g _ O env σ H1 _ _ (by omega) F1 h1 fun ds vs H2 h2 g2 ok2 rd => ?_⟩
    have F2 := F1.grow g2 ok2
    rw [List.append_nil]
    have r2 := r.grow F1.wl g2 (fr_nz F1 ei hp).1
    exact hsp _ _ _ ⟨G.w, n + c1 + c2, O, s, ds, Ent.mk' (by omega) F2 ei hp nd r2 rd, hR s ds _ _ _ _ (fun d hd v' H' g' ok' r' => q d v' H' hd (g1.trans (g2.trans g')) (by rw [← Nat.add_assoc]; exact ok') r') (fun e he cv dd H' g' ok' a => hE e cv dd H' he (by rw [← Nat.add_assoc]; exact F2.wl.grow g' ok') a) h2⟩
theorem se_methR (hm0 : m0 ∉ NS) (h : SP (exC C1 Er X0) c1 te i pm) (ha : SA (exC C1 Er X0) c2 ta am) (hR : MonoR R) : SE (exC C1 Er X0) (c1 + c2) (tMeth C0 m0 (spR R) [] Er te ta) (mMethR C0 NS pm am R X0) := fun G g n O env σ H Qd Q hL F hm q =>
  methR_run (fun _ _ _ z => z) hm0 h ha hR g hL F hm q fun e cv dd H' he W a => by
    obtain ⟨_, eE, eX⟩ := g
    rw [← eE]; exact go_out hL W a (by rw [eX]; exact he)
theorem se_methRN (hm0 : m0 ∉ NS) (h : SP C c1 te i pm) (ha : SA C c2 ta am) (hR : MonoR R) : SE C (c1 + c2) (tMeth C0 m0 (spR R) [] E te ta) (mMethR C0 NS pm am R fun _ => False) := fun G g n O env σ H Qd Q hL F hm q =>
  methR_run (fun _ _ _ z => z) hm0 h ha hR g hL F hm q fun e cv dd H' he W a => he.elim
/-- a method that may change its thing, where it raises -/
theorem se_methMX (hm0 : m0 ∉ NS) (h : SP (exC C1 Er X0) c1 te i pm) (ha : SA (exC C1 Er X0) c2 ta am) (hR : MonoR R) : SE (exC C1 Er X0) (c1 + c2) (tMeth C0 m0 (spMR S R) [] Er te ta) (mMethR C0 NS pm am R X0) := fun G g n O env σ H Qd Q hL F hm q =>
  methR_run (fun _ _ _ z => .inr z) hm0 h ha hR g hL F hm q fun e cv dd H' he W a => by
    obtain ⟨_, eE, eX⟩ := g
    rw [← eE]; exact go_out hL W a (by rw [eX]; exact he)
/-! ### calls that change -/
theorem sem_se (h : SE C c te m) : SEM C c te (fun env Q => m env fun d => Q d env) := fun G g n O env σ H Qd Q hL F hm q =>
  h G g n O env σ H _ _ hL F hm fun d v H1 h1 g1 ok1 r => q d env v O H1 h1 (sh_grow F.wl.zo g1) (F.grow g1 ok1) r
def mMethM (C0 : Addr) (NS : List Str) (i : Nat) (pm : PM) (am : AM) (S : MS) : Ev → (D → Ev → Prop) → Prop := fun env Q => pm env fun p s => isO C0 NS s ∧ am env fun ds => S s ds fun s' d => kPut i p s' env (Q d)
theorem methM_run {sp : Sp} (hsp : ∀ vs H Q, spM S vs H Q E → sp vs H Q E) (hm0 : m0 ∉ NS) (h : SP C c1 te i pm) (ha : SA C c2 ta am) (hS : MonoT S) : SEM C (c1 + c2) (tMeth C0 m0 sp [] E te ta) (mMethM C0 NS i pm am S) := fun G g n O env σ H Qd Q hL F hm q =>
  h G g n O env σ H _ _ (by omega) F hm fun p s mm t v H1 ei hp ⟨io, h1⟩ g1 ok1 r => by
    obtain ⟨nd, a, dx, fs, ev, ea, hf⟩ := isO_at io hm0 r
    have F1 := F.grow g1 ok1
    refine ⟨a, dx, fs, ev, ea, hf, ha G g _ O env σ H1 _ _ (by omega) F1 h1 fun ds vs H2 h2 g2 ok2 rd => ?_⟩
    have F2 := F1.grow g2 ok2
    rw [List.append_nil]
    have r2 := r.grow F1.wl g2 (fr_nz F1 ei hp).1
    refine hsp _ _ _ ⟨G.w, n + c1 + c2, O, s, ds, Ent.mk' (by omega) F2 ei hp nd r2 rd, hS s ds _ _ (fun s' d hd v0 v' O' H' e0 bh r' => ?_) h2⟩
    cases e0
    unfold kPut at hd
    rw [ei] at hd
    cases mm with
    | false => exact hd.elim
    | true => exact q d _ v' O' H' hd ((sh_grow F.wl.zo (g1.trans g2)).trans bh.le) (by rw [← Nat.add_assoc]; exact F2.beh ei hp nd r2 bh) r'
theorem sem_methM (hm0 : m0 ∉ NS) (h : SP C c1 te i pm) (ha : SA C c2 ta am) (hS : MonoT S) : SEM C (c1 + c2) (tMeth C0 m0 (spMR S R) [] E te ta) (mMethM C0 NS i pm am S) := methM_run (fun _ _ _ z => .inl z) hm0 h ha hS
/-! ### statements -/
theorem ss_dropM (h : SEM C c te mM) : SS C c (tDrop te) (fun env P => mM env fun _ e => P.nx e) := fun G g n O env σ H P D hL F hm e =>
  h G g n O env σ H _ _ hL F hm fun d e' v O' H' q l F' r => e.nx O' e' σ H' l F' q
theorem ss_setM (h : SEM C c te mM) : SS C c (tAsg te (gName j)) (fun env P => mM env fun d e => P.nx (e.set j (.dat d))) := fun G g n O env σ H P D hL F hm e =>
  h G g n O env σ H _ _ hL F hm fun d e' v O' H' q l F' r => e.nx O' _ _ H' l (F'.set (Grow.refl _ _) F'.wl (LeA.refl _) (fun _ z => z) (.dat r) fun _ z => (show False from z).elim) q
theorem ss_toM {vs : List Nat} {g : TG} {mg : GM} (h : SEM C c te mM) (hg : SG C vs g mg) : SS C c (tAsg te g) (fun env P => mM env fun d e => mg e d P.nx) := fun G gc n O env σ H P D hL F hm e =>
  h G gc n O env σ H _ _ hL F hm fun d e' v O' H' q l F' r => hg G gc _ O' e' σ H' d v _ _ F' r q fun e2 s2 F2 _ q2 => e.nx O' e2 s2 H' l F2 q2
theorem ss_retM (h : SEM C c te mM) : SS C c (tRet te) (fun env P => mM env fun d e => P.rm e d) := fun G g n O env σ H P D hL F hm e =>
  h G g n O env σ H _ _ hL F hm fun d e' v O' H' q l F' r => e.rm d v O' e' σ H' l F' r q
theorem ss_retNM : SS C 0 tRetN (fun env P => P.rm env .non) := fun G g n O env σ H P D hL F hm e => e.rm .non .non O env σ H (LeA.refl _) F .non hm
/-- a op b, a changes things -/
theorem sem_op {r : R2} {kk : D → D → (D → Prop) → Prop} (ha : SEM C c1 te mM) (hb : SR C c2 tb mb) (hk : K2 C r kk) : SEM C (c1 + c2) (tOp r te tb) (fun env Q => mM env fun x e => mb e fun y => kk x y fun z => Q z e) := fun G g n O env σ H Qd Q hL F hm q =>
  ha G g n O env σ H _ _ (by omega) F hm fun x e' v O1 H1 h1 l1 F1 r1 => hb G g _ O1 e' σ H1 _ _ (by omega) F1 h1 fun y u H2 h2 g2 ok2 r2 =>
    hk G g _ O1 H2 v u x y _ Q ((F1.grow g2 ok2).wl) (.dat (r1.mono (sh_grow F1.wl.zo g2))) r2 h2 fun z w H3 h3 g3 ok3 r3 => q z e' w O1 H3 h3 (l1.trans (sh_grow F1.wl.zo (g2.trans g3))) (by rw [← Nat.add_assoc]; exact F1.grow (g2.trans g3) ok3) r3
/-! ### making -/
/-- C(..) -/
def xMake (C0 : Addr) (am : AM) (S : MS) : XM := fun env Q => am env fun ds => ∀ x : Addr, S (.obj x C0 [] []) ds fun t' d => d = .non ∧ Q (.tr true t')
theorem sx_make (ha : SA C c ta am) (hS : MonoT S) : SX C c (tMake C0 (spMR S R) [] E ta) (xMake C0 am S) := fun G g n O env σ H Qd Q hL F hm k =>
  ha G g n O env σ H _ _ hL F hm fun ds vs H1 h1 g1 ok1 rd x dx hx hdx ne => by
    have F1 := F.grow g1 ok1
    rw [List.append_nil]
    have hx' : upd H1 dx (.own x) x = none := by rw [upd_ne ne.symm]; exact hx
    have gd : Grow G.w H1 (upd H1 dx (.own x)) := Grow.new _ hdx
    have okd := Wd.okNew (o := HO.own x) hdx ok1
    have Fd := F1.grow gd okd
    have gx : Grow G.w (upd H1 dx (.own x)) (upd (upd H1 dx (.own x)) x (.ins C0 dx [])) := Grow.new _ hx'
    have okx := Wd.okNew (o := HO.ins C0 dx []) hx' okd
    have Fx := Fd.grow gx okx
    have lx := add_le (G := G) (O := O) (o := HO.ins C0 dx []) hx'
    have l2 := (sh_grow F1.wl.zo gd).trans lx
    have nO : ¬ O x := F1.wl.free hx
    have nZ : ¬ G.w.Z x := fun z => nO (F.wl.zo x z)
    refine .inl ⟨G.w, n + c, fun b => O b ∨ b = x, .obj x C0 [] [], ds, ⟨Nat.le_trans hL G.x.le, okx, fun b z => .inl (F.wl.zo b z), fun b z => ?_, ⟨_, _, rfl, .obj (xs := []) upd_same rfl .nil, rd.mono l2⟩, rfl, nd1, fun b hb => ?_⟩, hS _ _ _ _ (fun t' d ⟨ed, q⟩ v0 v' O' H' e0 bh r' => ?_) (h1 x)⟩
    · rcases z with z | z
      · exact Fx.wl.tr b z
      · rw [z, upd_same]; exact ⟨_, rfl, fun _ q => nomatch q⟩
    · obtain rfl := List.mem_singleton.mp hb
      exact ⟨.inr rfl, nZ⟩
    · cases e0
      subst ed
      obtain rfl : v' = .non := by cases r'; rfl
      have gg : Grow G.w H H' := fun b o h z => by
        have q1 := (g1.trans (gd.trans gx)) b o h z
        refine bh.g b o q1 z fun y => ?_
        obtain rfl := List.mem_singleton.mp y
        rw [g1.free ok1 hx] at h; cases h
      have fr : ∀ a ∈ t'.fp, H a = none := fun a ha => by
        rcases (bh.ow a ha).2.2 with z | z
        · obtain rfl := List.mem_singleton.mp z
          exact g1.free ok1 hx
        · have n1 : a ≠ x := fun y => by rw [y, upd_same] at z; cases z
          rw [upd_ne n1] at z
          have n2 : a ≠ dx := fun y => by rw [y, upd_same] at z; cases z
          rw [upd_ne n2] at z
          exact g1.free ok1 z
      exact ⟨rfl, k (.tr true t') _ O' H' q gg ⟨bh.ok, bh.zo, fun b z => bh.mo b (.inl (F.wl.co b z)), bh.tr, F.wl.base.trans gg.m⟩ ((sh_grow F.wl.zo g1).trans (l2.trans bh.le)) (fun b z => bh.mo b (.inl z)) (.tr bh.at' bh.nd bh.un (fun a ha => ⟨(bh.ow a ha).1, (bh.ow a ha).2.1⟩) fun _ a ha => .inl (F.wl.n0 (fr a ha))) (fun z => nomatch z) fr⟩
/-- .. where it raises -/
def mMakeR (C0 : Addr) (am : AM) (R : RS) (X0 : Exn → Prop) : EM := fun env _ => am env fun ds => ∀ x : Addr, R (.obj x C0 [] []) ds (fun _ => False) X0
theorem se_makeR (ha : SA (exC C1 Er X0) c ta am) (hR : MonoR R) : SE (exC C1 Er X0) c (tMake C0 (spMR S R) [] Er ta) (mMakeR C0 am R X0) := fun G g n O env σ H Qd Q hL F hm k =>
  ha G g n O env σ H _ _ hL F hm fun ds vs H1 h1 g1 ok1 rd x dx hx hdx ne => by
    have F1 := F.grow g1 ok1
    rw [List.append_nil]
    have hx' : upd H1 dx (.own x) x = none := by rw [upd_ne ne.symm]; exact hx
    have gd : Grow G.w H1 (upd H1 dx (.own x)) := Grow.new _ hdx
    have okd := Wd.okNew (o := HO.own x) hdx ok1
    have Fd := F1.grow gd okd
    have gx : Grow G.w (upd H1 dx (.own x)) (upd (upd H1 dx (.own x)) x (.ins C0 dx [])) := Grow.new _ hx'
    have okx := Wd.okNew (o := HO.ins C0 dx []) hx' okd
    have Fx := Fd.grow gx okx
    have lx := add_le (G := G) (O := O) (o := HO.ins C0 dx []) hx'
    have l2 := (sh_grow F1.wl.zo gd).trans lx
    have nO : ¬ O x := F1.wl.free hx
    have nZ : ¬ G.w.Z x := fun z => nO (F.wl.zo x z)
    refine .inr ⟨G.w, n + c, fun b => O b ∨ b = x, .obj x C0 [] [], ds, ⟨Nat.le_trans hL G.x.le, okx, fun b z => .inl (F.wl.zo b z), fun b z => ?_, ⟨_, _, rfl, .obj (xs := []) upd_same rfl .nil, rd.mono l2⟩, rfl, nd1, fun b hb => ?_⟩, hR _ _ _ _ _ _ (fun d hd => hd.elim) (fun e he cv dd H' g' ok' a => ?_) (h1 x)⟩
    · rcases z with z | z
      · exact Fx.wl.tr b z
      · rw [z, upd_same]; exact ⟨_, rfl, fun _ q => nomatch q⟩
    · obtain rfl := List.mem_singleton.mp hb
      exact ⟨.inr rfl, nZ⟩
    · obtain ⟨_, eE, eX⟩ := g
      rw [← eE]
      exact go_out hL (Fx.wl.grow g' ok') (a.mono fun b u ⟨y1, y2⟩ => ⟨y1, fun y => y2 (.inl y)⟩) (by rw [eX]; exact he)
end
/-! ### what is caught -/
def roOwn (env : Ev) : Ev := env.map fun c => match c with
  | .dat d => .dat d
  | .tr _ t => .tr false t
  | _ => .un
theorem Fr.roOwn {G G' : Cfg} {n n' : Nat} {O : Addr → Prop} {env : Ev} {σ : L2.St} {H : Hp} (F : Fr G n O env σ H) (W : Wl G' n' O H) (hw : G'.w = G.w) : Fr G' n' O (roOwn env) σ H := by
  have at' : ∀ (i : Nat) c, (PL.roOwn env)[i]? = some c → c ≠ .un → ∃ c0, env[i]? = some c0 ∧ ((∃ d, c = .dat d ∧ c0 = .dat d) ∨ ∃ m t, c = .tr false t ∧ c0 = .tr m t) := fun i c h n => by
    unfold PL.roOwn at h
    rw [List.getElem?_map] at h
    cases e : env[i]? with
    | none => rw [e] at h; cases h
    | some u =>
      rw [e] at h
      cases u with
      | un => cases h; exact absurd rfl n
      | dat d => cases h; exact ⟨_, rfl, .inl ⟨d, rfl, rfl⟩⟩
      | own d => cases h; exact absurd rfl n
      | owd d => cases h; exact absurd rfl n
      | tr m t => cases h; exact ⟨_, rfl, .inr ⟨m, t, rfl, rfl⟩⟩
  have ow : ∀ (i : Nat) a, Own2 (PL.roOwn env) σ i a → Own2 env σ i a := fun i a ⟨c, v, h1, h2, h3⟩ => by
    obtain ⟨c0, e0, ⟨d, e1, e2⟩ | ⟨m, t, e1, e2⟩⟩ := at' i c h1 (by intro z; rw [z] at h3; exact h3.elim)
    · rw [e1] at h3; exact (show False from h3).elim
    · rw [e1] at h3; rw [e2] at e0; exact ⟨_, v, e0, h2, h3⟩
  refine ⟨W, by unfold PL.roOwn; rw [List.length_map]; exact F.len, fun i c h n => ?_, fun i j a oi oj => F.uq i j a (ow i a oi) (ow j a oj)⟩
  obtain ⟨c0, e0, ⟨d, e1, e2⟩ | ⟨m, t, e1, e2⟩⟩ := at' i c h n
  · subst e1; subst e2
    obtain ⟨v, h1, h2⟩ := F.sl i _ e0 (fun z => nomatch z)
    cases h2 with | dat r => exact ⟨v, h1, .dat r⟩
  · subst e1; subst e2
    obtain ⟨v, h1, h2⟩ := F.sl i _ e0 (fun z => nomatch z)
    cases h2 with | tr r nd u o mm => exact ⟨v, h1, .tr r nd u (fun a ha => by rw [hw]; exact o a ha) (fun z => Bool.noConfusion z)⟩
section
variable {C : Wd → XC → Prop} {C0 : Wd → Prop} {K : PySem.W.Frag} {c : Nat} {mM : Ev → (D → Ev → Prop) → Prop}
def mCaughtR (K : PySem.W.Frag) (CE : Addr) (mx : (Exn → Prop) → EM) : EM := fun env Q => mx (fun e => PySem.W.exmOne K e.1 (.ref CE) = some true ∧ Q (.exc e.1 e.2.1 e.2.2)) (roOwn env) fun _ => Q .non
theorem se_caughtR {P CE : Addr} {T : List (Addr × Str)} (hW : ∀ w x, C w x → TbW P T w ∧ C0 w) {t : XK → TE} {mx : (Exn → Prop) → EM} (ht : ∀ E X0, SE (exC C0 E X0) 0 (t E) (mx X0)) : SE C 0 (tLamP P T (TCaught K CE) t) (mCaughtR K CE mx) := fun G g n O env σ H Qd Q hL F hm q => by
  obtain ⟨B, c0⟩ := hW _ _ g
  refine ⟨B.t n H F.wl.ok, fun H1 ex T1 => ?_⟩
  have gr : Grow G.w H H1 := fun b o e z => ex b o e fun y => z (y ▸ B.z)
  have ok1 := B.x n H H1 F.wl.ok ex T1
  have F1 := F.grow gr ok1
  show t _ σ H1 _
  refine ht _ (fun e => PySem.W.exmOne K e.1 (.ref CE) = some true ∧ Qd (.exc e.1 e.2.1 e.2.2)) (⟨G.w, H1, O, F1.wl.tr, ⟨n, Nat.le_trans (Nat.le_trans (Nat.le_add_right _ _) hL) G.x.le, H1, fun c d H' => PySem.W.exmOne K c (.ref CE) = some true ∧ ∀ a, H' a = none → Q (.ref a) (upd H' a (ExcK c d a)), fun e => PySem.W.exmOne K e.1 (.ref CE) = some true ∧ Qd (.exc e.1 e.2.1 e.2.2), fun _ => False⟩, GrowM.refl _ _ _, fun _ z => z.elim, fun n' H' cv d e hn ok' gm _ a z => ?_⟩ : Cfg) ⟨c0, rfl, rfl⟩ n O (roOwn env) σ H1 (fun _ => Qd .non) (fun _ H' => Q .non H') (Nat.le_refl _) (F1.roOwn ⟨ok1, F1.wl.zo, fun _ y => y, F1.wl.tr, GrowM.refl _ _ _⟩ rfl) hm (fun d v H' hd g' ok' r => q .non .non H' hd (gr.trans g') ok' .non)
  have g' : Grow G.w H1 H' := gm.no
  refine ⟨by rw [a.1]; exact z.1, fun ad hn2 => ?_⟩
  have ok2 := G.w.up _ _ _ hn ok'
  have W2 := F1.wl.grow g' ok2
  have g2 : Grow G.w H' (upd H' ad (ExcK cv d ad)) := Grow.new _ hn2
  exact q _ _ _ z.2 (gr.trans (g'.trans g2)) (Wd.okNew hn2 ok2) (exn_rp a (sh_grow W2.zo g2) ⟨.inl upd_same, W2.free hn2⟩)
/-- _law_caught(lambda: ..), where the lambda changes things or raises -/
theorem sem_caught {P CE : Addr} {T : List (Addr × Str)} (hW : ∀ w x, C w x → TbW P T w ∧ C0 w) {t : XK → TE} {mx : (Exn → Prop) → EM} (hM : ∀ E, SEM C 0 (t E) mM) (ht : ∀ E X0, SE (exC C0 E X0) 0 (t E) (mx X0)) :
    SEM C 0 (tLamP P T (TCaught K CE) t) (fun env Q => (mM env fun _ e => Q .non e) ∨ mCaughtR K CE mx env fun d => Q d env) := fun G g n O env σ H Qd Q hL F hm q => by
  rcases hm with hm | hm
  · obtain ⟨B, c0⟩ := hW _ _ g
    refine ⟨B.t n H F.wl.ok, fun H1 ex T1 => ?_⟩
    have gr : Grow G.w H H1 := fun b o e z => ex b o e fun y => z (y ▸ B.z)
    have ok1 := B.x n H H1 F.wl.ok ex T1
    have F1 := F.grow gr ok1
    show t _ σ H1 _
    exact hM _ G g n O env σ H1 _ _ hL F1 hm fun d e' v O' H' hq l F' r => q .non e' .non O' H' hq ((sh_grow F.wl.zo gr).trans l) F' .non
  · exact sem_se (se_caughtR hW ht) G g n O env σ H Qd Q hL F hm q
end
end PL

/-! OT5: more of things that may be changed: isinstance, defs over things, methods without arguments, making. -/
namespace PL
open PySem PySem.Spec PyProof.Rows L2
section
variable {C : Wd → XC → Prop} {C1 : Wd → Prop} {K : PySem.W.Frag} {te tv : TE} {ta : TA} {m me : EM} {pm : PM} {am : AM} {i j c c1 c2 : Nat} {C0 : Addr} {NS : List Str} {Er E : XK} {X0 : Exn → Prop} {R : RS}
/-- isinstance(x, C), x a thing of the class C -/
def isC (C0 : Addr) : T → Prop
  | .obj _ C' _ _ => C' = C0
  | _ => False
def rIsC (C0 : Addr) : List V → Hp → VK → Prop := fun xs H Q => ∃ a dx fs, xs = [.ref a, .ref C0] ∧ H a = some (.ins C0 dx fs) ∧ Q (.bl true) H
theorem se_isC (h : SP C c te i pm) : SE C c (tCB (rIsC C0) (tCons te (tCons (tC (.ref C0)) tNil))) (fun env Q => pm env fun _ s => isC C0 s ∧ Q (.bl true)) := fun G g n O env σ H Qd Q hL F hm q =>
  h G g n O env σ H _ _ hL F hm fun p s mm t v H1 ei hp ⟨io, h1⟩ g1 ok1 r => by
    cases r with
    | obj e l rs => cases io; exact ⟨_, _, _, rfl, e, q _ _ H1 h1 g1 ok1 (.bl true)⟩
    | dat r => exact io.elim
    | own e r => exact io.elim
    | owd e r => exact io.elim
    | owt e r => exact io.elim
    | lst e r => exact io.elim
    | dic e q r => exact io.elim
    | dit e q r => exact io.elim
/-- x op= e under a condition -/
def sAugC (i : Nat) (m : EM) (cc : Int → Int → Prop) (f : Int → Int → Int) : SM := fun env P => match env[i]? with
  | some (.dat (.int x)) => m env fun d => (match d with | .int y => cc x y ∧ P.nx (env.set i (.dat (.int (f x y)))) | _ => False)
  | _ => False
theorem ss_augC {cc : Int → Int → Prop} {f : Int → Int → Int} (h : SE C c te m) : SS C c (tAug i te (rI cc fun i j => .int (f i j))) (sAugC i m cc f) := fun G c n O env σ H P D hL F hm e => by
  unfold sAugC at hm
  split at hm
  · rename_i x ei
    obtain ⟨v, es, s⟩ := F.sl i _ ei (by intro z; cases z)
    cases s with
    | dat r =>
      cases r
      refine ⟨_, es, h G c n O env σ H _ _ hL F hm fun d v H1 q1 g1 ok1 rv => ?_⟩
      split at q1
      · cases rv
        have F1 := F.grow g1 ok1
        exact ⟨_, _, rfl, rfl, q1.1, e.nx O _ _ H1 (sh_grow F.wl.zo g1) (F1.set (Grow.refl _ _) F1.wl (LeA.refl _) (fun _ z => z) (.dat (.int _)) fun _ z => (show False from z).elim) q1.2⟩
      · exact q1.elim
  · exact hm.elim
/-! ### f(x, ..), x a thing that f only reads -/
def mCallR (pm : PM) (am : AM) (R : RS) (X0 : Exn → Prop) : EM := fun env Q => pm env fun _ s => s.nd = true ∧ am env fun ds => R s ds Q X0
theorem callR_run (h : SP C c1 te i pm) (ha : SA C c2 ta am) (hR : MonoR R) {G : Cfg} (g : C G.w G.x) {n : Nat} {O : Addr → Prop} {env : Ev} {σ : L2.St} {H : Hp} {Qd : D → Prop} {Q : VK} (hL : n + (c1 + c2) ≤ G.x.lim) (F : Fr G n O env σ H) (hm : mCallR pm am R X0 env Qd)
    (q : ∀ d v H', Qd d → Grow G.w H H' → G.w.ok (n + (c1 + c2)) H' → Rp (Sh O H') v d → Q v H')
    (hE : ∀ e cv dd H', X0 e → Wl G (n + (c1 + c2)) O H' → ExnAt (Sh O H') cv dd e → E cv dd H') : tCall (spR R) [] E (tCons te ta) σ H Q :=
  h G g n O env σ H _ _ (by omega) F hm fun p s mm t v H1 ei hp ⟨nd, h1⟩ g1 ok1 r => by
    have F1 := F.grow g1 ok1
    refine ha G g _ O env σ H1 _ _ (by omega) F1 h1 fun ds vs H2 h2 g2 ok2 rd => ?_
    have F2 := F1.grow g2 ok2
    show spR R ((v :: vs) ++ []) H2 Q E
    rw [List.append_nil]
    have r2 := r.grow F1.wl g2 (fr_nz F1 ei hp).1
    exact ⟨G.w, n + c1 + c2, O, s, ds, Ent.mk' (by omega) F2 ei hp nd r2 rd, hR s ds _ _ _ _ (fun d hd v' H' g' ok' r' => q d v' H' hd (g1.trans (g2.trans g')) (by rw [← Nat.add_assoc]; exact ok') r') (fun e he cv dd H' g' ok' a => hE e cv dd H' he (by rw [← Nat.add_assoc]; exact F2.wl.grow g' ok') a) h2⟩
theorem se_callR (h : SP (exC C1 Er X0) c1 te i pm) (ha : SA (exC C1 Er X0) c2 ta am) (hR : MonoR R) : SE (exC C1 Er X0) (c1 + c2) (tCall (spR R) [] Er (tCons te ta)) (mCallR pm am R X0) := fun G g n O env σ H Qd Q hL F hm q =>
  callR_run h ha hR g hL F hm q fun e cv dd H' he W a => by
    obtain ⟨_, eE, eX⟩ := g
    rw [← eE]; exact go_out hL W a (by rw [eX]; exact he)
theorem se_callRN (h : SP C c1 te i pm) (ha : SA C c2 ta am) (hR : MonoR R) : SE C (c1 + c2) (tCall (spR R) [] E (tCons te ta)) (mCallR pm am R fun _ => False) := fun G g n O env σ H Qd Q hL F hm q =>
  callR_run h ha hR g hL F hm q fun e cv dd H' he W a => he.elim
end
/-! ### methods without arguments, making -/
structure MkX (P : Program) (w : World) (K : PySem.W.Frag) (mg : Str → Option Value) (base : Heap) (x : Str) (k : Nat) (ps : List Str) (sp : Sp) : Prop where
  ex : ∃ f fd, FnOk P w K mg base (L2.CX P w) k f fd ps sp ∧ Mk K (er mg x) f ∧ Binds K fd ps []
section
variable {X : Cx} {m x : Str} {k : Nat} {ps : List Str} {sp : Sp} {apos pos p : Pos} {o e : Expr} {es : List Expr} {t : TA} {te : TE} {E : XK} {C0 : Addr} {pl : Sem Bool}
theorem pe_methN0 (c : Cls X.K C0) (h : MtX X.prog X.w X.K X.mg X.base C0 m k ps sp) (hr : Room k X.A) (he : PE X o te)
    (ht : eval (.Call (.Attribute o m apos) [] [] pos) X.env = (do
      let ov ← eval o X.env
      standAt apos.atName
      let (f, first) ← holding [ov] (getMethod ov m pl)
      callWith pos f first (backTo pos (starEach [] X.env)) (backToKw pos (keywordEach [] X.env))) := by rfl) : PE X (.Call (.Attribute o m apos) [] [] pos) (tMeth C0 m sp [] E0 te tNil) := by
  obtain ⟨f, fd, h1, h2, h3⟩ := h.ex
  exact pe_meth0 he c h2 h1 hr h3 .nil passL ht
theorem pe_methX0 (c : Cls X.K C0) (h : MtX X.prog X.w X.K X.mg X.base C0 m k ps sp) (hr : Room k X.A) (tk : Takes X (fun cls d _ H => E cls d H)) (he : PE X o te)
    (ht : eval (.Call (.Attribute o m apos) [] [] pos) X.env = (do
      let ov ← eval o X.env
      standAt apos.atName
      let (f, first) ← holding [ov] (getMethod ov m pl)
      callWith pos f first (backTo pos (starEach [] X.env)) (backToKw pos (keywordEach [] X.env))) := by rfl) : PE X (.Call (.Attribute o m apos) [] [] pos) (tMeth C0 m sp [] E te tNil) := by
  obtain ⟨f, fd, h1, h2, h3⟩ := h.ex
  exact pe_meth0 he c h2 h1 hr h3 .nil (passes_call tk fun _ _ _ _ z => z) ht
theorem pe_makeN (g : GCls X.K X.mg x) (h : MkX X.prog X.w X.K X.mg X.base x k ps sp) (hr : Room (k + 1) X.A) (hg : Gl X x) (ha : PA X (e :: es) t)
    (hdb : (x == ("__debug__" : Str)) = false := by decide) (he : starEach (e :: es) X.env = (false, eval e X.env) :: starEach es X.env := by rfl) (hpl : (backTo pos (starEach es X.env)).any (·.1) = false := by rfl) :
    PE X (.Call (.Name x p) (e :: es) [] pos) (tMake (er X.mg x) sp [] E0 t) := by
  obtain ⟨f, fd, h1, h2, h3⟩ := h.ex
  exact pe_make h2 h1 hr hg g.g h3 .nil passL ha hdb he hpl
theorem pe_makeX (g : GCls X.K X.mg x) (h : MkX X.prog X.w X.K X.mg X.base x k ps sp) (hr : Room (k + 1) X.A) (tk : Takes X (fun cls d _ H => E cls d H)) (hg : Gl X x) (ha : PA X (e :: es) t)
    (hdb : (x == ("__debug__" : Str)) = false := by decide) (he : starEach (e :: es) X.env = (false, eval e X.env) :: starEach es X.env := by rfl) (hpl : (backTo pos (starEach es X.env)).any (·.1) = false := by rfl) :
    PE X (.Call (.Name x p) (e :: es) [] pos) (tMake (er X.mg x) sp [] E t) := by
  obtain ⟨f, fd, h1, h2, h3⟩ := h.ex
  exact pe_make h2 h1 hr hg g.g h3 .nil (passes_call tk fun _ _ _ _ z => z) ha hdb he hpl
end
end PL

/-! OT6: the text of data (repr), for a frame around which nobody writes a text; what a def promises whom such a frame calls. -/
namespace PL
open PySem PySem.Spec PyProof.Rows L2
section
variable {X : Cx}
def rRepr (K : PySem.W.Frag) : List V → Hp → VK → Prop := fun xs H Q => ∃ x d, xs = [x] ∧ Dp K H x d ∧ d.showable = true ∧ d.hasDict = false ∧ d.depth ≤ 60 ∧ d.shown.length ≤ sizeLine ∧ Q (.str d.shown) H
theorem cr_repr (hg : X.A.guards = some []) (hu : X.A.units + 64 < cLine) : CallR X (.builtin "repr") (rRepr X.K) := by
  intro pins s σ H xs us Q I r h
  obtain ⟨x, d, rfl, hd, h1, h2, h3, h4, q⟩ := h
  obtain ⟨u, rfl, rx⟩ := vals1 r
  obtain ⟨as, rd⟩ := Dp.reads I d x u hd rx
  cases hd with
  | non => cases rx; exact P.repr_of_none ⟨.str _, H, I.tok _, ⟨_, rfl⟩, q⟩
  | bl b => cases rx; exact P.repr_of_bool ⟨.str _, H, I.tok _, ⟨_, rfl⟩, by cases b <;> exact q⟩
  | int i =>
    obtain ⟨t, rfl⟩ := rx
    exact P.repr_of_int (of_decide_eq_true h1) ⟨.str _, H, I.tok _, ⟨_, rfl⟩, q⟩
  | str y =>
    obtain ⟨t, rfl⟩ := rx
    exact P.repr_of_str ⟨.str _, H, I.tok _, ⟨_, rfl⟩, q⟩ h4
  | lst _ _ =>
    cases rx
    exact repr_of_reads' rd h1 (fun z => by rw [h2] at z; cases z) hg (by omega) (fun b o e => e) (fun h' u tk hk => ⟨.str _, H, I.kept hk, ⟨_, rfl⟩, q⟩) h4
  | tup _ _ =>
    cases rx
    exact repr_of_reads' rd h1 (fun z => by rw [h2] at z; cases z) hg (by omega) (fun b o e => e) (fun h' u tk hk => ⟨.str _, H, I.kept hk, ⟨_, rfl⟩, q⟩) h4
end
mutual
theorem noDict : ∀ d : D, (toPy d).hasDict = false
  | .tup l => by show PyData.hasDictAll (toPyL l) = false; exact noDictL l
  | .lst l => by show PyData.hasDictAll (toPyL l) = false; exact noDictL l
  | .non => rfl
  | .bl _ => rfl
  | .int _ => rfl
  | .str _ => rfl
  | .dic _ => rfl
  | .opq _ => rfl
  | .ftp _ => rfl
  | .exc _ _ _ => rfl
  | .lam _ _ => rfl
  | .ins _ _ _ => rfl
  | .dit _ => rfl
theorem noDictL : ∀ l : List D, PyData.hasDictAll (toPyL l) = false
  | [] => rfl
  | d :: r => by
    show (PyData.hasDict (toPy d) || PyData.hasDictAll (toPyL r)) = false
    rw [noDict d, noDictL r]; rfl
end
section
variable {C : Wd → XC → Prop} {K : PySem.W.Frag}
def kRepr : List D → (D → Prop) → Prop := fun ds Q => match ds with
  | [d] => (d.pl 60 = true ∧ (toPy d).showable = true ∧ (toPy d).shown.length ≤ sizeLine) ∧ Q (.str (toPy d).shown)
  | _ => False
theorem kc_repr : KC C (rRepr K) kRepr := fun G _ n O H vs ds Qd Q W r h q => by
  unfold kRepr at h
  split at h
  · obtain ⟨⟨h1, h2, h3⟩, h4⟩ := h
    obtain ⟨v, rfl, r1⟩ := r.one
    refine ⟨v, _, rfl, r1.dp h1, h2, noDict _, (pl_shaped 60 _ h1).2, h3, q _ _ H h4 (Grow.refl _ _) W.ok (.str _)⟩
  · exact h.elim
end
/-! numbers -/
theorem pl_nums (n : Nat) : ∀ l : List Nat, D.plL n (l.map fun x : Nat => D.int (x : Int)) = true
  | [] => rfl
  | x :: l => by show (D.pl n (D.int (x : Int)) && D.plL n (l.map fun x : Nat => D.int (x : Int))) = true; rw [pl_nums n l]; cases n <;> rfl
theorem show_nums : ∀ l : List Nat, (∀ x ∈ l, x < 1000000000000) → PyData.showableAll (toPyL (l.map fun x : Nat => D.int (x : Int))) = true ∧ PyData.leavesShortAll 13 (toPyL (l.map fun x : Nat => D.int (x : Int))) = true
  | [], _ => ⟨rfl, rfl⟩
  | x :: l, h => by
    obtain ⟨h1, h2⟩ := show_nums l fun y hy => h y (List.mem_cons_of_mem _ hy)
    have hx := h x List.mem_cons_self
    refine ⟨?_, ?_⟩
    · show (decide ((x : Int).natAbs.log2 < 1920) && PyData.showableAll (toPyL (l.map fun x : Nat => D.int (x : Int)))) = true
      rw [h1, Bool.and_true]
      refine decide_eq_true ?_
      rw [Int.natAbs_natCast]
      by_cases z : x = 0
      · subst z; decide
      · exact (Nat.log2_lt z).mpr (Nat.lt_trans hx (by decide +kernel))
    · show (PyData.leavesShort 13 (.int (x : Int)) && PyData.leavesShortAll 13 (toPyL (l.map fun x : Nat => D.int (x : Int)))) = true
      rw [h2, Bool.and_true]
      exact decide_eq_true (PyData.shown_int_le (by rw [Int.natAbs_natCast]; exact hx))
theorem weigh_nums : ∀ l : List Nat, (∀ x ∈ l, x < 1000000000000) → PyData.weightAll (toPyL (l.map fun x : Nat => D.int (x : Int))) ≤ 42 * l.length
  | [], _ => Nat.le_refl _
  | x :: l, h => by
    have ih := weigh_nums l fun y hy => h y (List.mem_cons_of_mem _ hy)
    have hx := h x List.mem_cons_self
    show (if (x : Int) == 0 then 0 else (x : Int).natAbs.log2 + 1) + 1 + PyData.weightAll (toPyL (l.map fun x : Nat => D.int (x : Int))) ≤ _
    have : (if (x : Int) == 0 then 0 else (x : Int).natAbs.log2 + 1) ≤ 41 := by
      split
      · omega
      · rename_i z
        have z' : x ≠ 0 := fun q => z (by rw [q]; rfl)
        have := (Nat.log2_lt (n := x) (k := 40) z').mpr (Nat.lt_trans hx (by decide))
        rw [Int.natAbs_natCast]
        omega
    rw [List.length_cons]
    omega
theorem repr_nums {l : List Nat} (h : ∀ x ∈ l, x < 1000000000000) (hl : l.length ≤ 20000) : ((D.lst (l.map fun x : Nat => D.int (x : Int))).pl 60 = true ∧ (toPy (.lst (l.map fun x : Nat => D.int (x : Int)))).showable = true ∧ (toPy (.lst (l.map fun x : Nat => D.int (x : Int)))).shown.length ≤ sizeLine) ∧
    ((D.tup (l.map fun x : Nat => D.int (x : Int))).pl 60 = true ∧ (toPy (.tup (l.map fun x : Nat => D.int (x : Int)))).showable = true ∧ (toPy (.tup (l.map fun x : Nat => D.int (x : Int)))).shown.length ≤ sizeLine) := by
  obtain ⟨h1, h2⟩ := show_nums l h
  have h3 := weigh_nums l h
  have hw : PyData.weightAll (toPyL (l.map fun x : Nat => D.int (x : Int))) ≤ 2 ^ 20 := by omega
  exact ⟨⟨pl_nums 59 l, h1, PyData.shown_fits (B := 13) (by decide) (by decide) (d := .list (toPyL (l.map fun x : Nat => D.int (x : Int)))) h2 hw⟩, pl_nums 59 l, h1, PyData.shown_fits (B := 13) (by decide) (by decide) (d := .tuple (toPyL (l.map fun x : Nat => D.int (x : Int)))) h2 hw⟩
end PL

/-! OT7: what a def promises to a caller around whom nobody writes a text; the law's end with such a promise. -/
namespace PL
open PySem PySem.Spec PyProof.Rows L2
structure FnG (P : Program) (w : World) (K : PySem.W.Frag) (mg : Str → Option Value) (base : Heap) (CX : CXT) (k : Nat) (f : Addr) (fd : FuncData) (ps : List Str) (sp : Sp) : Prop where
  len : ∀ vs H Q E, sp vs H Q E → vs.length = ps.length
  run : ∀ (A : Around) (outer : List Env) (s : Shared) (H : Hp) (args : Args) (us : List Value) (vs : List V) (Q : VK) (E : XK), A.guards = some [] → Room k A → Env0 P w K mg base A outer s H → BindsTo s fd args (ps.zip us) → Vals vs us → sp vs H Q E →
    codeAny (model P w) A (.call (.ref f) args) (CR CX outer P w H s Q E) s
theorem guards_in (A : Around) (e : Env) : (A.deeper e).guards = A.guards := rfl
section
variable {P : Program} {w : World} {K : PySem.W.Frag} {mg : Str → Option Value} {base : Heap} {CX : CXT} {k : Nat} {f : Addr} {fd : FuncData} {ps : List Str} {sp : Sp}
theorem FnG.of (F : FnOk P w K mg base CX k f fd ps sp) : FnG P w K mg base CX k f fd ps sp := ⟨F.len, fun A outer s H args us vs Q E _ => F.run A outer s H args us vs Q E⟩
theorem fn_ofG {x qual : Str} {st : Stmt} {N : List Str} {oc kV doc pm cdv ct : Value} {od an : Option Addr} {osl : Array (Option Value)}
    (lk : K.lookup f = some ⟨oc, od, .func (PySem.W.fnOf x qual (defArgs st) (defBody st) (defScope st) .none kV doc pm an cdv ct), osl⟩) (hcd : PySem.W.codeIn K cdv qual = true) (S : FnScope N ps (defScope st)) (len : ∀ vs H Q E, sp vs H Q E → vs.length = ps.length)
    (hbody : ∀ (A : Around) (outer : List Env) (s : Shared) (H : Hp) (vs : List V) (Q : VK) (E : XK), (A.deeper (envOfC qual (defScope st) s.heap.objs.size f cdv)).guards = some [] → Room k (A.deeper (envOfC qual (defScope st) s.heap.objs.size f cdv)) → sp vs H Q E →
      ∃ t, PSs (cxOf CX0 P w K mg base N qual (defScope st) f cdv A outer s H E).nox (defBody st) t ∧ t { nx := fun _ H' => Q .non H', rt := Q } (L2.start N vs) H) :
    FnG P w K mg base CX0 (k + 1) f (PySem.W.fnOf x qual (defArgs st) (defBody st) (defScope st) .none kV doc pm an cdv ct) ps sp := by
  refine ⟨len, fun A outer s H args us vs Q E hg hr e0 hb r h => ?_⟩
  refine LamX.run_ofS (CX := CX0) lk hcd S hr e0 hb r (len _ _ _ _ h) fun hr' => ?_
  obtain ⟨t, h1, h2⟩ := hbody A outer s H vs Q E hg hr' h
  exact ⟨t, h1.nox, h2⟩
end
/-! ### the law's end -/
/-- H tracks the tables and, at most, the script -/
structure Lone (P : Program) (w : World) (K : PySem.W.Frag) (cs : List (Addr × Addr)) (a : Addr) (xs : List V) (h : Heap) (H : Hp) : Prop where
  tbl : ∀ p ∈ cs, H p.2 = some (.tbl #[])
  seq : SqL K H a xs
  ok : HOk P w H h
  only : ∀ b u, H b = some u → b ∈ cs.map (·.2) ∨ (b = a ∧ K.lookup a = none ∧ ∃ o ys, u = .frz o (.lst ys))
section
variable {P : Program} {w : World} {K : PySem.W.Frag} {mg mb : Str → Option Value} {cs : List (Addr × Addr)} {a : Addr} {xs : List V} {H : Hp} {s : Shared} {vs : List Value}
/-- the two cases: the script is an object of the module, or it is new -/
theorem lone_of (KX : K.In s.heap) (hT : ∀ p ∈ cs, s.heap.get? p.2 = some { cls := .none, data := .fields #[] }) (ha : s.heap.get? a = some { cls := .type "list", data := .seq vs.toArray }) (rv : Vals xs vs) (hl : xs.length ≤ sizeLine) (nT : ∀ p ∈ cs, K.lookup p.2 = none) :
    ∃ H, Lone P w K cs a xs s.heap H := by
  have tabs : ∀ b ∈ cs.map (·.2), s.heap.get? b = some { cls := .none, data := .fields #[] } := fun b hb => by
    obtain ⟨p, hp, rfl⟩ := List.mem_map.mp hb
    exact hT p hp
  have na : a ∉ cs.map (·.2) := fun z => by
    have := tabs a z
    rw [ha] at this
    cases this
  have mem : ∀ p ∈ cs, p.2 ∈ cs.map (·.2) := fun p hp => List.mem_map_of_mem hp
  by_cases hk : K.lookup a = none
  · refine ⟨fun b => if b ∈ cs.map (·.2) then some (.tbl #[]) else if b = a then some (.frz { cls := .type "list", data := .seq vs.toArray } (.lst xs)) else none, ?_, ?_, ?_, ?_⟩
    · exact fun p hp => if_pos (mem p hp)
    · exact .inl (.inr ⟨_, (if_neg na).trans (if_pos rfl)⟩)
    · intro b u hb
      by_cases h1 : b ∈ cs.map (·.2)
      · cases (if_pos h1).symm.trans hb
        exact tabs b h1
      · have hb := (if_neg h1).symm.trans hb
        by_cases h2 : b = a
        · cases (if_pos h2).symm.trans hb
          subst h2
          exact ⟨ha, hl, vs, _, rv, ha⟩
        · cases (if_neg h2).symm.trans hb
    · intro b u hb
      by_cases h1 : b ∈ cs.map (·.2)
      · exact .inl h1
      · have hb := (if_neg h1).symm.trans hb
        by_cases h2 : b = a
        · cases (if_pos h2).symm.trans hb
          exact .inr ⟨h2, hk, _, _, rfl⟩
        · cases (if_neg h2).symm.trans hb
  · obtain ⟨o, ho⟩ := Option.ne_none_iff_exists'.mp hk
    have e := KX a o ho
    rw [ha] at e
    cases e
    refine ⟨fun b => if b ∈ cs.map (·.2) then some (.tbl #[]) else none, fun p hp => if_pos (mem p hp), .inr ⟨_, vs.toArray, _, ho, rfl, rfl, rfl, ?_, by simpa using rv⟩, fun b u hb => ?_, fun b u hb => ?_⟩
    · rw [List.size_toArray, ← rv.length]; exact hl
    · by_cases h1 : b ∈ cs.map (·.2)
      · cases (if_pos h1).symm.trans hb
        exact tabs b h1
      · cases (if_neg h1).symm.trans hb
    · by_cases h1 : b ∈ cs.map (·.2)
      · exact .inl h1
      · cases (if_neg h1).symm.trans hb
/-- what stands at b is neither a list nor a table: H doesn't track it -/
theorem Lone.free (L : Lone P w K cs a xs s.heap H) (hT : ∀ p ∈ cs, s.heap.get? p.2 = some { cls := .none, data := .fields #[] }) (ha : s.heap.get? a = some { cls := .type "list", data := .seq vs.toArray }) {b : Addr} {o : Obj} (e : s.heap.get? b = some o) (h1 : ∀ z n, o.data ≠ .seq z n) (h2 : o.data ≠ .fields #[]) : H b = none := by
  cases q : H b with
  | none => rfl
  | some u =>
    rcases L.only b u q with z | ⟨rfl, _⟩
    · obtain ⟨p, hp, rfl⟩ := List.mem_map.mp z
      rw [hT p hp] at e
      cases e
      exact absurd rfl h2
    · rw [ha] at e
      cases e
      exact absurd rfl (h1 _ _)
theorem Lone.ns (L : Lone P w K cs a xs s.heap H) (hT : ∀ p ∈ cs, s.heap.get? p.2 = some { cls := .none, data := .fields #[] }) (ha : s.heap.get? a = some { cls := .type "list", data := .seq vs.toArray }) {b : Addr} {m : Str → Option Value} (h : s.heap.Ns b m) : (hidT s.heap H).Ns b m := by
  obtain ⟨o, es, ep, e, d, r⟩ := h
  exact ⟨o, es, ep, hidT_get e (L.free hT ha e (fun z n q => by rw [d] at q; cases q) fun q => by rw [d] at q; cases q), d, r⟩
theorem Lone.kin (L : Lone P w K cs a xs s.heap H) (KX : K.In s.heap) (nT : ∀ p ∈ cs, K.lookup p.2 = none) : K.In (hidT s.heap H) := fun b o e => hidT_get (KX b o e) (by
  cases q : H b with
  | none => rfl
  | some u =>
    rcases L.only b u q with z | ⟨rfl, z, _⟩
    · obtain ⟨p, hp, rfl⟩ := List.mem_map.mp z
      rw [nT p hp] at e
      cases e
    · rw [z] at e
      cases e)
theorem Lone.tabB (L : Lone P w K cs a xs s.heap H) (hns : s.heap.Ns mainGlobals mg) (hT : ∀ p ∈ cs, s.heap.get? p.2 = some { cls := .none, data := .fields #[] }) (ha : s.heap.get? a = some { cls := .type "list", data := .seq vs.toArray }) (C : ∀ p ∈ cs, PySem.W.CodeHd s.heap p.1 p.2)
    (hbm : ∃ (bm : Addr) (ob : Obj), mg "__builtins__" = some (.ref bm) ∧ bm ≠ builtinsNs ∧ s.heap.get? bm = some ob ∧ ob.cls = .type "module" ∧ ob.dict = some builtinsNs ∧ ob.data = .plain) {p : Addr × Addr} (hp : p ∈ cs) : LamX.TabB (hidT s.heap H) mg p.1 p.2 := by
  obtain ⟨og, eg, pg, hg1, hg2, _⟩ := hns
  constructor
  · obtain ⟨o, us, file, tf, flags, tg, inF, text, tt, e1, r1, r2, r3, rest⟩ := C p hp
    refine ⟨o, us, file, tf, flags, tg, inF, text, tt, hidT_get e1 (L.free hT ha e1 (fun z n q => ?_) fun q => ?_), r1, r2, r3, rest⟩
    · rw [r2] at q; cases q
    · rw [r2] at q; cases q; simp at r3
  · obtain ⟨bm, ob, b1, b2, b3, b4, b5, b6⟩ := hbm
    refine ⟨bm, ob, b1, b2, fun q => ?_, fun q => ?_, hidT_get b3 (L.free hT ha b3 (fun z n q => ?_) fun q => ?_), b4, b5, b6⟩
    · rw [q, hg1] at b3; cases b3; rw [hg2] at b6; cases b6
    · rw [q, hT p hp] at b3; cases b3; cases b6
    · rw [b6] at q; cases q
    · rw [b6] at q; cases q
  · intro q
    rw [q, hT p hp] at hg1
    cases hg1
    cases hg2
end
theorem law_callG {P : Program} {w : World} {K : PySem.W.Frag} {mg mb : Str → Option Value} {CX : CXT} {k : Nat} {fa a : Addr} {cs : List (Addr × Addr)} {fd : FuncData} {x : Str} {sp : Sp} {s : Shared} {vs : List Value} {ns : List Int}
    (KX : K.In s.heap) (hns : s.heap.Ns mainGlobals mg) (hb : s.heap.Ns builtinsNs mb) (hbb : ∀ x : Str, x ≠ "__name__" → mb x = bootBuiltins x) (hlim : s.heap.NoLimit) (hg : s.gens = #[])
    (hT : ∀ p ∈ cs, s.heap.get? p.2 = some { cls := .none, data := .fields #[] }) (nT : ∀ p ∈ cs, K.lookup p.2 = none) (C : ∀ p ∈ cs, PySem.W.CodeHd s.heap p.1 p.2)
    (hbm : ∃ (bm : Addr) (ob : Obj), mg "__builtins__" = some (.ref bm) ∧ bm ≠ builtinsNs ∧ s.heap.get? bm = some ob ∧ ob.cls = .type "module" ∧ ob.dict = some builtinsNs ∧ ob.data = .plain)
    (ha : s.heap.get? a = some { cls := .type "list", data := .seq vs.toArray }) (hi : IntsAre vs ns) (hl : ns.length ≤ sizeLine) (hr : Room k callerA)
    (F : ∀ base : Heap, K.In base → base.Ns mainGlobals mg → (∀ p ∈ cs, LamX.TabB base mg p.1 p.2) → FnG P w K mg base CX k fa fd [x] sp) (hbind : ∀ (s : Shared) (u : Value), BindsTo s fd ⟨[u], []⟩ [(x, u)])
    (hsp : ∀ H : Hp, (∀ p ∈ cs, H p.2 = some (.tbl #[])) → SqL K H a (ns.map V.int) → sp [.ref a] H (fun v _ => v = .bl true) fun _ _ _ => False)
    (hCX : ∀ H e s', CX [] H s (fun _ _ _ => False) e s' → False) :
    codeAny (model P w) callerA (.call (.ref fa) ⟨[.ref a], []⟩) (fun r s' => r = .ok (.ret (.bool true)) ∧ OldK s.heap s'.heap ∧ s'.os = s.os ∧ AllBare s'.gens) s := by
  obtain ⟨H, L⟩ := lone_of (P := P) (w := w) KX hT ha (vals_ints hi) (by rw [List.length_map]; exact hl) nT
  have kin := L.kin KX nT
  have hM : L2.Mod K mg (hidT s.heap H) := ⟨kin, L.ns hT ha hns, ⟨mb, L.ns hT ha hb, hbb⟩, by obtain ⟨mc, h1, h2⟩ := hlim; exact ⟨mc, L.ns hT ha h1, h2⟩⟩
  have e0 : Env0 P w K mg (hidT s.heap H) callerA [] s H := ⟨rfl, hM, fun b o e => of_hidT e, Nat.le_of_eq (hidT_size _ _), trivial, fun b hb => absurd (show b ∈ ([] : List Addr) from hb) (by simp), L.ok, .of_eq hg⟩
  refine codeAny_mono ((F _ kin (L.ns hT ha hns) fun p hp => L.tabB hns hT ha C hbm hp).run callerA [] s H ⟨[.ref a], []⟩ [.ref a] [.ref a] _ _ rfl hr e0 (hbind s (.ref a)) (.cons rfl .nil) (hsp H L.tbl L.seq)) fun r s' h => ?_
  cases r with
  | error e => exact (hCX H e s' h).elim
  | ok fl =>
    cases fl with
    | next => exact False.elim h
    | brk => exact False.elim h
    | cont => exact False.elim h
    | ret u =>
      obtain ⟨v, H', os, bare, un, ok', rv, q⟩ := h
      obtain rfl : v = .bl true := q
      obtain rfl : u = Value.bool true := rv
      have stay : ∀ b o, b ∉ cs.map (·.2) → s.heap.get? b = some o → s'.heap.get? b = some o := fun b o nb e => by
        cases q : H b with
        | none => exact un.keep b o e q (fun z => absurd (show b ∈ ([] : List Addr) from z) (by simp)) (by simp)
        | some u =>
          rcases L.only b u q with z | ⟨_, _, ob, ys, rfl⟩
          · exact absurd z nb
          · have e1 := (L.ok b _ q).1
            rw [e] at e1
            cases e1
            exact (ok' b _ (un.frzs b _ _ q)).1
      have more : ∀ p ∈ cs, ∃ m : Array Value, s'.heap.get? p.2 = some { cls := .none, data := .fields m } := fun p hp => by
        obtain ⟨m, z⟩ := un.tbls p.2 #[] (L.tbl p hp)
        exact ⟨_, ok' p.2 _ z⟩
      refine ⟨rfl, ⟨fun b o e => ?_, fun b o e => ?_⟩, os, bare⟩
      · by_cases hb : b ∈ cs.map (·.2)
        · obtain ⟨p, hp, rfl⟩ := List.mem_map.mp hb
          obtain ⟨m, hm⟩ := more p hp
          rw [hT p hp] at e
          cases e
          exact .inr (.inl ⟨((C p hp).tab (hT p hp)).isCodeTable, rfl, #[], m, rfl, by rw [Array.empty_append]; exact hm⟩)
        · exact .inl (stay b o hb e)
      · by_cases hb : b ∈ cs.map (·.2)
        · obtain ⟨p, hp, rfl⟩ := List.mem_map.mp hb
          obtain ⟨m, hm⟩ := more p hp
          exact ⟨_, hm⟩
        · exact ⟨o, stay b o hb e⟩
/-- what is known of the law's promise at the head's heap h -/
def LawAtG (l : PySem.W.OpenLaw) (w : World) (K : PySem.W.Frag) (CX : CXT) (k n : Nat) (x : Str) (mg : Str → Option Value) (fa : Addr) (h : Heap) : Prop :=
  ∃ (fd : FuncData) (cs : List (Addr × Addr)) (sp : Sp), ((∀ p ∈ cs, h.get? p.2 = some { cls := .none, data := .fields #[] }) ∧ (∀ p ∈ cs, K.lookup p.2 = none) ∧ ∀ p ∈ cs, PySem.W.CodeHd h p.1 p.2) ∧ (∀ (s : Shared) (u : Value), BindsTo s fd ⟨[u], []⟩ [(x, u)]) ∧
    (∀ (H : Hp) (a : Addr) (ns : List Int), ns.length ≤ n → (∀ p ∈ cs, H p.2 = some (.tbl #[])) → SqL K H a (ns.map V.int) → sp [.ref a] H (fun v _ => v = .bl true) fun _ _ _ => False) ∧
    ∀ base : Heap, K.In base → base.Ns mainGlobals mg → (∀ p ∈ cs, LamX.TabB base mg p.1 p.2) → FnG l.prog w K mg base CX k fa fd [x] sp
theorem walk_ofG {l : PySem.W.OpenLaw} {n k : Nat} {q : Program} {loose : List Str} {XP : (Str → Option Value) → Heap → Prop} {YP : World → Heap → Prop} {d : DefRec} {K : Params → PySem.W.Frag} {CX : World → CXT} {x : Str}
    (hn : l.most = some n) (hn2 : n ≤ sizeLine) (hdf : d.params.defaults = []) (hr : Room k callerA) (hY : ∀ (w : World) (h : Heap), YP w h → (K w.params).In h)
    (F : ∀ (w : World) (mg : Str → Option Value) (fa : Addr) (h : Heap), YP w h → (K w.params).In h → h.Ns mainGlobals mg → mg d.name = some (.ref fa) → LawAtG l w (K w.params) (CX w) k n x mg fa h)
    (hCX : ∀ (w : World) (H : Hp) (s : Shared) (e : Value) (s' : Shared), CX w [] H s (fun _ _ _ => False) e s' → False) :
    PySem.W.WalkO q loose XP YP l.row.toRowW d [] (fun f vs => PySem.call f vs) := by
  refine Att.attach_callB hn hdf fun w s₀ s₁ mg mb fa o pm cd doc a vs ns G Y ho hd hcd hmg hobj hints hlen _ hg => ?_
  have KX := hY w _ Y
  obtain ⟨fd, cs, sp, ⟨hT, nT, C⟩, hb, hsp, hF⟩ := F w mg fa _ Y KX G.T.g hmg
  exact law_callG KX G.T.g G.T.b G.T.builtins G.T.nolimit hg hT nT C G.T.bmain hobj hints (Nat.le_trans hlen hn2) hr hF hb (fun H hH hS => hsp H a ns hlen hH hS) fun H e s' => hCX w H s₁ e s'
end PL

/-! OT8: sorted(set(l)) of a list of ints. -/
namespace PL
open PySem PySem.Spec PyProof.Rows L2
section
variable {P : Program} {w : World} {A : Around} {E : Value → Shared → Prop} {s : Shared}
abbrev setObj0 (w : World) : Obj := { cls := .type "set", dict := none, data := .set #[] 0 (.fresh 0 0 (!w.params.followText "set-order")) }
/-- what the making of a set of the ints of a list leaves -/
def MadeSet (w : World) (ns : List Int) (S : Addr) (h : Heap) (s2 : Shared) : Prop := ∃ (h' : Heap) (c : Nat), s2.heap = h' ∧ SetR w h' S (fun j => decide (j ∈ ns)) c ∧ c ≤ ns.length ∧ ∀ b o, b ≠ S → h.get? b = some o → h'.get? b = some o
theorem init_set_lst {l S : Addr} {items : Array Value} (ns : List Int) (hh : A.handled = none) (hS : s.heap.get? S = some (setObj0 w)) (hl : s.heap.IsList l items) (ne : S ≠ l) (hit : IntsAre items.toList ns) (hb : ns.length + 1 < scanBound) :
    codeAny (model P w) A (.call (.builtin "set.__init__") ⟨[.ref S, .ref l], []⟩) (wants (fun r s2 => r = .none ∧ MadeSet w ns S s.heap s2 ∧ s2 = { s with heap := s2.heap, toks := s2.toks }) E) s := by
  have hT : s.TypeIs (.ref S) "set" := ⟨_, hS, rfl⟩
  refine codeAny_call_builtin F.called_set.init.plain F.entry_set_init (check_set_init_1 hT ?_)
  have hn : items.size = ns.length := by rw [← Array.length_toList]; exact IntsAre.length hit
  obtain ⟨ol, hol, hcl, nl, hdl⟩ := id hl
  obtain ⟨ocls, odict, odata, oslots⟩ := ol
  simp only at hcl hdl
  subst hcl hdl
  have h1 := F.sub_list_set
  have h2 := F.sub_list_frozenset
  have h3 : (Value.type "list" == Value.type "dict") = false := by decide
  unfold Builtin.«set.__init__» noKeywords Builtin.Frozenset.updateFrom
  generalize hI : pyIter = PI
  wp_walk
  subst hI
  refine wpAny_pyIter_list hl (wpAny_bind (wpAny_runValue ?_))
  have lS : S < s.heap.objs.size := Heap.lt_size hS
  have ll : l < s.heap.objs.size := Heap.lt_size hol
  refine set_update_ints ((Walks.list (by simp [hh]) _ l (Nat.ne_of_lt ll) items).toS) S (fun z => ?_) ns hn hb (fun i v hv => ?_) (items.size - 0) 0 _ rfl (Nat.zero_le _) ⟨⟨_, Heap.get?_push_size _ rfl, rfl, rfl⟩, hl.push _⟩ ⟨0, Nat.le_refl 0, setR_new_at (Heap.get?_push_of_some _ hS)⟩ fun s' c mv hc R => ?_
  · rcases List.mem_cons.mp z with z | z
    · exact Nat.ne_of_lt lS z
    · exact ne (List.mem_singleton.mp z)
  · have hi : i < ns.length := by rw [← hn]; exact (Array.getElem?_eq_some_iff.mp hv).1
    obtain ⟨t, e⟩ := IntsAre.int_at hit i v (by rw [Array.getElem?_toList]; exact hv)
    exact ⟨ns[i], t, List.getElem?_eq_getElem hi, by rw [e, List.getD_eq_getElem?_getD, List.getElem?_eq_getElem hi]; rfl⟩
  · obtain ⟨h', g', d', t', o'⟩ := s'
    obtain rfl : g' = s.gens := mv.gens
    obtain rfl : d' = s.drawn := mv.drawn
    obtain rfl : o' = s.os := mv.os
    show wpAny _ _ _ _ _ _
    refine wpAny_pure ?_
    show wpAny _ _ (ret Value.none) _ _ _
    refine wpAny_pure ⟨rfl, ⟨h', c, rfl, R, by rw [← hn]; exact hc, fun b o nb e => ?_⟩, rfl⟩
    have lb : b < s.heap.objs.size := Heap.lt_size e
    exact mv.heap b o (by simp only [List.mem_cons, List.not_mem_nil, or_false, not_or]; exact ⟨nb, Nat.ne_of_lt lb⟩) (Heap.get?_push_of_some _ e)
/-- set(l) of a list of ints -/
theorem call_set_lstI {l : Addr} {items : Array Value} (ns : List Int) {Q : Value → Shared → Prop} (hh : A.handled = none) (hl : s.heap.IsList l items) (hit : IntsAre items.toList ns) (hb : ns.length + 1 < scanBound)
    (h : ∀ (h' : Heap) (tk c : Nat), SetR w h' s.heap.objs.size (fun j => decide (j ∈ ns)) c → c ≤ ns.length → (∀ b o, s.heap.get? b = some o → h'.get? b = some o) → Q (.ref s.heap.objs.size) { s with heap := h', toks := tk }) :
    wpAny (model P w) A (call (.type "set") [.ref l]) Q E s := by
  obtain ⟨c0, tl, m1⟩ := F.called_set.mro
  have m2 := F.called_set.made
  have m3 := F.called_set.sub
  have m4 := F.called_set.notType
  have m5 := F.called_set.canCreate
  have m6 := F.typeCall_set_1 (.ref l)
  refine wpAny_call (codeAny_of_tree ?_)
  show wpAny _ _ (callAny (.type "set") _) _ _ _
  refine wpAny_pure ⟨Code.quiet_builtin _ (by decide +kernel), codeAny_builtin F.entry_type_call ?_⟩
  rw [Around.under_plain (weight_type_call_type "set" [.ref l] []) rfl]
  repeat (any_goals (first | assumption | wp_step))
  refine codeAny_mono (code_set_led1 (.ref l) (E := E) (Q₁ := fun x s1 => x = .ref s.heap.objs.size ∧ s1 = { s with heap := s.heap.push (setObj0 w) }) ⟨rfl, rfl⟩) fun r s1 hr => ?_
  match r, hr with
  | .error e, hr => exact hr
  | .ok (.ret x), hr =>
    obtain ⟨rfl, rfl⟩ := hr
    have hS : (s.heap.push (setObj0 w)).get? s.heap.objs.size = some (setObj0 w) := Heap.get?_push_size _ rfl
    have m7 := F.called_set.init.lookup
    have m8 := F.called_set.init.bind (.ref s.heap.objs.size)
    have hT : Shared.TypeIs { s with heap := s.heap.push (setObj0 w) } (.ref s.heap.objs.size) "set" := ⟨_, hS, rfl⟩
    have ll : l < s.heap.objs.size := by obtain ⟨o, e, _⟩ := hl; exact Heap.lt_size e
    repeat (any_goals (first | assumption | wp_step))
    refine codeAny_mono (init_set_lst (E := E) (s := { s with heap := s.heap.push (setObj0 w) }) ns (by simp [hh]) hS (hl.push _) (Nat.ne_of_gt ll) hit hb) fun r2 s2 hr2 => ?_
    match r2, hr2 with
    | .error e, hr2 => exact hr2
    | .ok (.ret y), hr2 =>
      obtain ⟨rfl, ⟨h', c, e1, R, hc, k⟩, e2⟩ := hr2
      obtain ⟨hp2, g2, d2, t2, o2⟩ := s2
      cases e2
      obtain rfl : hp2 = h' := e1
      repeat (any_goals (first | assumption | wp_step))
      exact h _ _ c R hc fun b o e => k b o (Nat.ne_of_lt (Heap.lt_size e)) (Heap.get?_push_of_some _ e)
    | .ok .next, hr2 => exact hr2.elim
    | .ok .brk, hr2 => exact hr2.elim
    | .ok .cont, hr2 => exact hr2.elim
  | .ok .next, hr => exact hr.elim
  | .ok .brk, hr => exact hr.elim
  | .ok .cont, hr => exact hr.elim
end
section
variable {X : Cx}
def rSetLI (K : PySem.W.Frag) (w : World) : List V → Hp → VK → Prop := fun xs H Q => ∃ (l : Addr) (ns : List Int), xs = [.ref l] ∧ SqL K H l (ns.map V.int) ∧ ns.length ≤ 4000 ∧ ∀ (p : Addr) (c : Nat), H p = none → c ≤ ns.length → Q (.ref p) (upd H p (SetO w p (fun j => decide (j ∈ ns)) c))
theorem cr_setLI (hc : X.calm = true) : CallR X (.type "set") (rSetLI X.K X.w) := by
  intro pins s σ H xs us Q I r h
  obtain ⟨l, ns, rfl, hq, hl, q⟩ := h
  rw [Vals.ref1 r]
  obtain ⟨its, rv, pl, _⟩ := I.list hq
  refine call_set_lstI ns (I.ok.hd hc) pl.isList (by simpa using ints_of_vals rv) (by unfold scanBound; omega) fun h' tk c R hc' k => ?_
  have fr : H s.heap.objs.size = none := I.hok.fresh (Nat.le_refl _)
  exact ⟨.ref s.heap.objs.size, _, I.laid k (Nat.le_refl _) (setO_new R), rfl, q _ c fr hc'⟩
end
section
variable {C : Wd → XC → Prop} {K : PySem.W.Frag} {w : World} {c : Nat} {t : TA} {am : AM}
def rSS (K : PySem.W.Frag) (w : World) : List V → Hp → VK → Prop := fun vs H Q => rSetLI K w vs H fun x H2 => rSortedSet w [x] H2 Q
def kSSet : List D → (List D → Prop) → Prop := fun ds Q => match ds with
  | [.lst l] => ∃ ns : List Int, l = ns.map D.int ∧ ns.length < 64 ∧ ∀ ms : List Int, ms.Pairwise (· < ·) → (∀ k, k ∈ ms ↔ k ∈ ns) → Q (ms.map D.int)
  | _ => False
theorem kl_sset : KL C (rSS K w) kSSet := fun G _ n O H vs ds Qd Q W r h q => by
  unfold kSSet at h
  split at h
  · obtain ⟨ns, rfl, hl, h⟩ := h
    obtain ⟨v, rfl, r1⟩ := r.one
    obtain ⟨a, xs, rfl, e, r⟩ := r1.list
    rw [r.ints] at e
    refine ⟨a, ns, rfl, sqL e, by omega, fun p c hp hc => ⟨p, _, c, rfl, upd_same, by omega, fun ms p2 hs hm _ hp2 => ?_⟩⟩
    have g1 : Grow G.w H (upd H p (SetO w p (fun j => decide (j ∈ ns)) c)) := Grow.new _ hp
    have ok1 : G.w.ok n (upd H p (SetO w p (fun j => decide (j ∈ ns)) c)) := Wd.okNew hp W.ok
    exact q _ p2 _ _ (h ms hs fun k => (hm k).trans decide_eq_true_iff) (g1.trans (Grow.new _ hp2)) (Wd.okNew hp2 ok1) (g1.free ok1 hp2) upd_same (.ofInts ms)
  · exact h.elim
theorem sl_sset (h : SAr C c t am) : SL C c (tCB (rSortedSet w) (tCons (tCB (rSetLI K w) t) tNil)) (mCL am kSSet) := sl_cb (r := rSS K w) h kl_sset
end
/-! four names at once -/
section
variable {C : Wd → XC → Prop} {K : PySem.W.Frag} {ta tb tc td : TE} {c1 c2 c3 c4 : Nat}
def sPar4 (i j k l : Nat) (mx my mz mu : XM) : SM := fun env P => mx env fun z => my env fun u => mz env fun v => mu env fun x => P.nx ((((env.set i z).set j u).set k v).set l x)
theorem ss_par4 {i j k l : Nat} {mx my mz mu : XM} (h1 : SX C c1 ta mx) (h2 : SX C c2 tb my) (h3 : SX C c3 tc mz) (h4 : SX C c4 td mu) :
    SS C (c1 + c2 + c3 + c4) (tAsg (tTup (tCons ta (tCons tb (tCons tc (tCons td tNil))))) (gTup K 4 (gCons (gName i) (gCons (gName j) (gCons (gName k) (gCons (gName l) gNil)))))) (sPar4 i j k l mx my mz mu) := fun G c n O env σ H P D hL F hm e =>
  h1 G c n O env σ H _ _ (by omega) F hm fun x1 v1 O1 H1 q g1 W1 l1 mo1 s1 n1 f1 => by
    have F1 : Fr G (n + c1) O1 env σ H1 := ⟨W1, F.len, fun k d e n => let ⟨u, h1, h2⟩ := F.sl k d e n; ⟨u, h1, h2.le g1 l1 mo1⟩, F.uq⟩
    refine h2 G c _ O1 env σ H1 _ _ (by omega) F1 q fun x2 v2 O2 H2 q2 g2 W2 l2 mo2 s2 n2 f2 => ?_
    have F2 : Fr G (n + c1 + c2) O2 env σ H2 := ⟨W2, F1.len, fun k d e n => let ⟨u, h1, h2⟩ := F1.sl k d e n; ⟨u, h1, h2.le g2 l2 mo2⟩, F1.uq⟩
    refine h3 G c _ O2 env σ H2 _ _ (by omega) F2 q2 fun x3 v3 O3 H3 q3 g3 W3 l3 mo3 s3 n3 f3 => ?_
    have F3 : Fr G (n + c1 + c2 + c3) O3 env σ H3 := ⟨W3, F2.len, fun k d e n => let ⟨u, h1, h2⟩ := F2.sl k d e n; ⟨u, h1, h2.le g3 l3 mo3⟩, F2.uq⟩
    refine h4 G c _ O3 env σ H3 _ _ (by omega) F3 q3 fun x4 v4 O4 H4 q4 g4 W4 l4 mo4 s4 n4 f4 => ?_
    have en : n + c1 + c2 + c3 + c4 = n + (c1 + c2 + c3 + c4) := by omega
    refine ⟨by show 4 ≤ sizeLine; decide, fun T hT => ⟨T, _, rfl, sqT (.inl upd_same), rfl, v1, [v2, v3, v4], rfl, v2, [v3, v4], rfl, v3, [v4], rfl, v4, [], rfl, rfl, ?_⟩⟩
    have E := (((F.set (i := i) g1 W1 l1 mo1 s1 f1).set (i := j) g2 W2 l2 mo2 s2 f2).set (i := k) g3 W3 l3 mo3 s3 f3).set (i := l) g4 W4 l4 mo4 s4 f4
    rw [en] at E
    have gT : Grow G.w H4 (upd H4 T (.tup [v1, v2, v3, v4])) := Grow.new _ hT
    exact e.nx O4 _ _ _ (l1.trans (l2.trans (l3.trans (l4.trans (sh_grow E.wl.zo gT))))) (E.grow gT (Wd.okNew hT E.wl.ok)) q4
end
end PL

/-! OT9: sorted(set(l)) of a list of ints, more than 63 of them. -/
namespace PL
open PySem PySem.Spec PyProof.Rows L2
section
variable {P : Program} {w : World} {A : Around} {E : Value → Shared → Prop} {s : Shared}
theorem keys_iv {es : List (Int × Value)} (g : ∀ e ∈ es, GoodE e) : (es.map (·.2)).map SrtO.iv = es.map keyOf := by
  rw [List.map_map]
  refine List.map_congr_left fun e he => ?_
  obtain ⟨k, t, h, _⟩ := g e he
  show SrtO.iv e.2 = keyOf e
  unfold keyOf
  rw [h]; rfl
theorem sorted_setB {a : Addr} {S : Int → Bool} {n : Nat} {Q : Value → Shared → Prop} (R : SetR w s.heap a S n) (hh : A.handled = none) (hn4 : n ≤ 4000)
    (hQ : ∀ s' p (out : Array Value) (c : Nat) (ns : List Int), (∀ b o, s.heap.get? b = some o → s'.heap.get? b = some o) → s'.gens = s.gens → s'.os = s.os → s.heap.objs.size ≤ p →
      s'.heap.get? p = some (seqObj "list" out c) → IntsAre out.toList ns → ns.Pairwise (· < ·) → (∀ k, k ∈ ns ↔ S k = true) → ns.length = n → Q (.ref p) s') :
    wpAny (model P w) A (call (.builtin "sorted") [.ref a]) Q E s := by
  obtain ⟨o, es, ep, t, ho, hex, hd, g, nd, hm, hb, hf, hn, hr, hl⟩ := R
  have s4 : 4000 ≤ sizeLine := by decide
  refine Calls.call_function_entry kind_sorted plain_sorted entry_sorted (args_sorted1 _) ?_
  unfold Builtin.«sorted»
  refine wpAny_bind (m := checkCount "sorted" 1 1 _) (wpAny_pure ?_)
  refine wpAny_bind (collect_set (A := A.in1) hh ⟨o, ho, hex.1, hd⟩ hf hb hr hl fun s1 vs k1 hz g1 o1 pm => ?_)
  have ln : vs.length = n := by rw [pm.length_eq, List.length_map, Array.length_toList]; exact hn
  have hI : IntsAre vs (vs.map SrtO.iv) := SrtO.ints_iv fun v hv => by
    obtain ⟨e, he, q⟩ := List.mem_map.mp (pm.mem_iff.mp hv)
    obtain ⟨k, tk, h1, _⟩ := g e he
    exact ⟨k, tk, by rw [← q]; exact h1⟩
  refine wpAny_bind (wpAny_newList ?_ (by omega))
  have hoL : (s1.heap.push (seqObj "list" vs.toArray 0)).get? s1.heap.objs.size = some (seqObj "list" vs.toArray 0) := Heap.get?_push_size _ rfl
  refine wpAny_bind (wpAny_holding (wpAny_call_entry slot_list_sort ⟨_, hoL, rfl⟩ entry_list_sort (SrtO.list_sort_ord SrtO.swo_int hoL (by omega) (fun h2 => SrtO.ints_sortable hI h2) fun out h1 h2 => ⟨_, rfl, ?_⟩) (args_list_sort _)))
  obtain ⟨i1, i2, i3⟩ := SrtO.ints_out hI h1 h2
  obtain ⟨c, hc⟩ := sortedHeap_at (vs := vs) (out := out.toArray) hoL
  have pk : (out.map SrtO.iv).Perm (es.toList.map keyOf) := by
    rw [← keys_iv g]
    exact i2.trans (pm.map SrtO.iv)
  have asc : (out.map SrtO.iv).Pairwise (· < ·) := by
    have nd' : (out.map SrtO.iv).Nodup := pk.nodup_iff.mpr nd
    exact (i3.and nd').imp fun ⟨h, ne⟩ => by omega
  refine wpAny_pure ⟨_, rfl, hQ _ s1.heap.objs.size out.toArray c _ (fun b u e => ?_) g1 o1 hz hc (by simpa using i1) asc (fun k => by rw [pk.mem_iff, ← hm k]) ?_⟩
  · have q := k1 b u e
    have hlt := Heap.lt_size q
    show (sortedHeap (s1.heap.push (seqObj "list" vs.toArray 0)) s1.heap.objs.size vs out.toArray).get? b = some u
    rw [sortedHeap_old (Nat.ne_of_lt hlt) (by rw [Heap.size_push]; exact Nat.lt_succ_of_lt hlt)]
    exact Heap.get?_push_of_some _ q
  · rw [pk.length_eq, List.length_map, Array.length_toList]; exact hn
end
section
variable {X : Cx}
def rSortedSetB (w : World) : List V → Hp → VK → Prop := fun vs H Q => ∃ (a : Addr) (S : Int → Bool) (n : Nat), vs = [V.ref a] ∧ H a = some (SetO w a S n) ∧ n ≤ 4000 ∧
  ∀ (ns : List Int) (p : Addr), ns.Pairwise (· < ·) → (∀ k : Int, k ∈ ns ↔ S k = true) → H p = none → Q (.ref p) (upd H p (.lst (ns.map V.int)))
theorem cr_sortedSetB (hc : X.calm = true) : CallR X (.builtin "sorted") (rSortedSetB X.w) := by
  intro pins s σ H vs us Q I r h
  obtain ⟨a, S, n, rfl, ha, hn, q⟩ := h
  rw [Vals.ref1 r]
  refine sorted_setB (setO_get I ha) (I.ok.hd hc) hn fun s' p out c ns k g o hp hg hi hs hm hl => ?_
  obtain ⟨h', g', d', t', o'⟩ := s'
  obtain rfl : g' = s.gens := g
  obtain rfl : o' = s.os := o
  have fr : H p = none := I.hok.fresh hp
  have J : Inv X pins σ (upd H p (.lst (ns.map V.int))) { s with heap := h', gens := s.gens, drawn := d', toks := t' } :=
    I.call (ch := []) (Un.laid k hp fr) (I.hok.laid k hp ⟨by rw [List.length_map, hl, sizeLine_eq]; omega, out.toList, c, vals_of_ints hi, hg⟩) I.bare (fun _ z => nomatch z)
  exact ⟨.ref p, _, J, rfl, q ns p hs hm fr⟩
end
section
variable {C : Wd → XC → Prop} {K : PySem.W.Frag} {w : World} {c : Nat} {t : TA} {am : AM}
def rSSB (K : PySem.W.Frag) (w : World) : List V → Hp → VK → Prop := fun vs H Q => rSetLI K w vs H fun x H2 => rSortedSetB w [x] H2 Q
def kSSetB : List D → (List D → Prop) → Prop := fun ds Q => match ds with
  | [.lst l] => ∃ ns : List Int, l = ns.map D.int ∧ ns.length ≤ 4000 ∧ ∀ ms : List Int, ms.Pairwise (· < ·) → (∀ k, k ∈ ms ↔ k ∈ ns) → Q (ms.map D.int)
  | _ => False
theorem kl_ssetB : KL C (rSSB K w) kSSetB := fun G _ n O H vs ds Qd Q W r h q => by
  unfold kSSetB at h
  split at h
  · obtain ⟨ns, rfl, hl, h⟩ := h
    obtain ⟨v, rfl, r1⟩ := r.one
    obtain ⟨a, xs, rfl, e, r⟩ := r1.list
    rw [r.ints] at e
    refine ⟨a, ns, rfl, sqL e, hl, fun p c hp hc => ⟨p, _, c, rfl, upd_same, by omega, fun ms p2 hs hm hp2 => ?_⟩⟩
    have g1 : Grow G.w H (upd H p (SetO w p (fun j => decide (j ∈ ns)) c)) := Grow.new _ hp
    have ok1 : G.w.ok n (upd H p (SetO w p (fun j => decide (j ∈ ns)) c)) := Wd.okNew hp W.ok
    exact q _ p2 _ _ (h ms hs fun k => (hm k).trans decide_eq_true_iff) (g1.trans (Grow.new _ hp2)) (Wd.okNew hp2 ok1) (g1.free ok1 hp2) upd_same (.ofInts ms)
  · exact h.elim
theorem sl_ssetB (h : SAr C c t am) : SL C c (tCB (rSortedSetB w) (tCons (tCB (rSetLI K w) t) tNil)) (mCL am kSSetB) := sl_cb (r := rSSB K w) h kl_ssetB
end
end PL

/-! OT10: x.insert(i, e). -/
namespace PL
open PySem PySem.Spec PyProof.Rows L2
section
variable {C : Wd → XC → Prop} {K : PySem.W.Frag} {ti te : TE} {mi me : EM} {i c1 c2 : Nat}
def rIns : V → List V → Hp → VK → Prop := fun x vs H Q => ∃ (l : Addr) (xs : List V) (i : Int) (y : V), x = .ref l ∧ vs = [.int i, y] ∧ H l = some (.lst xs) ∧ xs.length < sizeLine ∧ 0 ≤ i ∧ i < 2 ^ 63 ∧ Q .non (upd H l (.lst (xs.take i.toNat ++ [y] ++ xs.drop i.toNat)))
theorem mt_ins {X : Cx} : MtR X "list.insert" rIns := mt_insert
def sIns (i : Nat) (mi me : EM) : SM := fun env P => match env[i]? with
  | some (.own ds) => mi env fun p => match p with
    | .int k => me env fun d => (0 ≤ k ∧ k < 2 ^ 63 ∧ ds.length < sizeLine) ∧ P.nx (env.set i (.own (ds.take k.toNat ++ [d] ++ ds.drop k.toNat)))
    | _ => False
  | _ => False
theorem RpL.drop' {A : At} : ∀ {xs : List V} {ds : List D} (k : Nat), RpL A xs ds → RpL A (xs.drop k) (ds.drop k)
  | _, _, 0, r => by rw [List.drop_zero, List.drop_zero]; exact r
  | _, _, k + 1, .nil => by rw [List.drop_nil, List.drop_nil]; exact .nil
  | _, _, k + 1, .cons a r => by rw [List.drop_succ_cons, List.drop_succ_cons]; exact r.drop' k
theorem ss_ins (h1 : SE C c1 ti mi) (h2 : SE C c2 te me) : SS C (c1 + c2) (tDrop (tBM K "list" rIns (tVar i) (tCons ti (tCons te tNil)))) (sIns i mi me) := fun G c n O env σ H P D hL F hm e => by
  unfold sIns at hm
  split at hm
  · rename_i ds ei
    obtain ⟨v, es, s⟩ := F.sl i _ ei (by intro z; cases z)
    cases s with
    | @own a xs _ eh oa r =>
      refine ⟨_, es, .inl ⟨rfl, xs, sqL eh⟩, ?_⟩
      refine h1 G c n O env σ H _ _ (by omega) F hm fun p v1 H1 hq g1 ok1 rv1 => ?_
      have F1 := F.grow g1 ok1
      split at hq
      · rename_i k
        cases rv1
        refine h2 G c _ O env σ H1 _ _ (by omega) F1 hq fun d v H2 ⟨⟨k0, k1, hl⟩, q⟩ g2 ok2 rv => ?_
        have F2 := F1.grow g2 ok2
        have g := g1.trans g2
        have eh2 := g _ _ eh oa.z
        have r2 := r.mono (sh_grow F.wl.zo g)
        have en : n + c1 + c2 = n + (c1 + c2) := by omega
        rw [en] at F2
        refine ⟨a, xs, k, v, rfl, rfl, eh2, by rw [r.length]; exact hl, k0, k1, ?_⟩
        exact e.nx O _ _ _ ((sh_grow F.wl.zo g).trans (own_le oa)) (F2.mut ei es rfl rfl oa fun H' l e' => .own e' oa ((((r2.take k.toNat).append (.cons rv .nil)).append (r2.drop' k.toNat)).mono l)) q
      · exact hq.elim
  · exact hm.elim
end
end PL

/-! OT11: len(script); a rule used where more is known. -/
namespace PL
open PySem PySem.Spec PyProof.Rows L2
theorem SS.imp {C C' : Wd → XC → Prop} {c : Nat} {t : TS} {m : SM} (h : ∀ w x, C' w x → C w x) (s : SS C c t m) : SS C' c t m := fun G g => s G (h _ _ g)
theorem SE.imp {C C' : Wd → XC → Prop} {c : Nat} {t : TE} {m : EM} (h : ∀ w x, C' w x → C w x) (s : SE C c t m) : SE C' c t m := fun G g => s G (h _ _ g)
/-- the list at a stood at the entry, n long, and stays -/
def LenC (K : PySem.W.Frag) (a : Addr) (n : Nat) (w : Wd) (x : XC) : Prop := ∃ xs, xs.length = n ∧ ((∀ H, SqL K H a xs) ∨ (Rd x.xb a (.lst xs) ∧ ¬ w.Z a ∧ ¬ x.My a))
theorem rd_stay {a : Addr} {u : HO} {w : Wd} {M : Addr → Prop} {H H' : Hp} (s : Rd H a u) (z : ¬ w.Z a) (m : ¬ M a) (g : GrowM w M H H') : Rd H' a u := by
  rcases s with e | ⟨o, e⟩
  · exact .inl (g _ _ e z m)
  · exact .inr ⟨o, g _ _ e z m⟩
theorem se_lenS {C : Wd → XC → Prop} {K : PySem.W.Frag} {a : Addr} {n i : Nat} (h : ∀ w x, C w x → LenC K a n w x) :
    SE C 0 (tCB (fun xs H Q => ∃ x n, xs = [x] ∧ LenV K x H n ∧ Q (.int n) H) (tCons (tVar i) tNil)) (fun env Q => env[i]? = some (.dat (.opq (.ref a))) ∧ Q (.int (n : Int))) := fun G g k O env σ H Qd Q hL F ⟨e, hq⟩ q => by
  obtain ⟨xs, hl, hs⟩ := h _ _ g
  obtain ⟨v, es, s⟩ := F.sl i _ e (fun z => nomatch z)
  have hS : SqL K H a xs := by
    rcases hs with z | ⟨r, z, m⟩
    · exact z H
    · exact .inl (rd_stay r z m (G.hb.trans F.wl.base))
  cases s with
  | dat r =>
    cases r
    refine ⟨_, es, _, n, rfl, .inl ⟨xs, hS, hl.symm⟩, q _ _ H hq (Grow.refl _ _) F.wl.ok (.int _)⟩
end PL

/-! OT12: a tuple the other way round (t[::-1]), the text of a number (str(i)). -/
namespace HT
open PySem PySem.Spec PyProof.Rows L2
section
variable {prog : Program} {w : World} {A : Around} {E : Value → Shared → Prop} {s : Shared}
theorem adjust_rev (n : Nat) : Builtin.Slice.sliceAdjust none none (-1) (n : Int) = ((n : Int) - 1, -1) := by
  unfold Builtin.Slice.sliceAdjust
  rfl
theorem places_rev (n : Nat) : Builtin.Slice.slicePlaces ((n : Int) - 1) (-1) (-1) = n := by
  unfold Builtin.Slice.slicePlaces
  rw [if_neg (by decide)]
  by_cases h : n = 0
  · subst h; rfl
  · rw [if_pos (by omega), show ((n : Int) - 1 - -1 - 1) / (- -1) = (n : Int) - 1 by rw [show (- -1 : Int) = 1 by rfl, Int.ediv_one]; omega]
    omega
theorem sliceApplied_rev {sl : Addr} {vt : Value} {n : Nat} {Q : Int × Int × Nat → Shared → Prop} (hs : s.heap.IsSliceOf sl .none .none vt) (pt : IsPart vt (some (-1)))
    (h : Q ((n : Int) - 1, -1, n) s) : wpAny (model prog w) A (Builtin.Slice.sliceApplied (.ref sl) (pure (n : Int))) Q E s := by
  obtain ⟨os, hos, hcs, hds⟩ := id hs
  unfold Builtin.Slice.sliceApplied Builtin.Slice.sliceFields
  refine wpAny_bind (wpAny_bind (wpAny_field hos hds (x := .none) rfl (wpAny_bind (wpAny_field hos hds (x := .none) rfl (wpAny_bind (wpAny_field hos hds (x := vt) rfl (wpAny_pure ?_)))))))
  refine wpAny_bind (slicePart_ pt ?_)
  show wpAny _ _ (if ((-1 : Int) == 0) = true then _ else _) _ _ s
  rw [if_neg (by decide)]
  refine wpAny_bind (slicePart_none (wpAny_bind (slicePart_none (wpAny_bind (wpAny_pure ?_)))))
  show wpAny _ _ (match Builtin.Slice.sliceAdjust none none (-1) (n : Int) with | (lo, hi) => pure (lo, (-1 : Int), Builtin.Slice.slicePlaces lo hi (-1))) _ _ s
  rw [adjust_rev n]
  show wpAny _ _ (pure ((n : Int) - 1, (-1 : Int), Builtin.Slice.slicePlaces ((n : Int) - 1) (-1) (-1))) _ _ s
  rw [places_rev]
  exact wpAny_pure h
theorem fm_congr {α β : Type} {f g : α → Option β} : ∀ {l : List α}, (∀ x ∈ l, f x = g x) → l.filterMap f = l.filterMap g
  | [], _ => rfl
  | x :: l, h => by rw [List.filterMap_cons, List.filterMap_cons, h x List.mem_cons_self, fm_congr fun y hy => h y (List.mem_cons_of_mem _ hy)]
theorem pick_rev (xs : Array Value) : ((List.range xs.size).filterMap fun (m : Nat) => xs[(((xs.size : Nat) : Int) - 1 + (m : Int) * -1).toNat]?).toArray = xs.toList.reverse.toArray := by
  have h := pick_gen xs.toList.reverse.toArray 0 xs.size
  have e : (List.range xs.size).filterMap (fun (m : Nat) => xs[(((xs.size : Nat) : Int) - 1 + (m : Int) * -1).toNat]?) = (List.range xs.size).filterMap (fun (m : Nat) => xs.toList.reverse.toArray[(((0 : Nat) : Int) + (m : Int) * 1).toNat]?) := by
    refine fm_congr fun m hm => ?_
    have hm := List.mem_range.mp hm
    rw [show (((xs.size : Nat) : Int) - 1 + (m : Int) * -1).toNat = xs.size - 1 - m by omega, show (((0 : Nat) : Int) + (m : Int) * 1).toNat = m by omega, ← Array.getElem?_toList (xs := xs), ← Array.getElem?_toList (xs := xs.toList.reverse.toArray)]
    show xs.toList[xs.size - 1 - m]? = xs.toList.reverse[m]?
    rw [List.getElem?_reverse (by rw [Array.length_toList]; exact hm), Array.length_toList]
  rw [e, h, List.drop_zero, List.take_of_length_le (by rw [List.length_reverse, Array.length_toList]; exact Nat.le_refl _)]
theorem getItem_tuple_rev {t sl : Addr} {items : Array Value} {vt : Value} {Q : Value → Shared → Prop} (ht : IsTup s.heap t items) (hs : s.heap.IsSliceOf sl .none .none vt) (pt : IsPart vt (some (-1)))
    (h : Q (.ref s.heap.objs.size) { s with heap := s.heap.push { cls := .type "tuple", data := .seq items.toList.reverse.toArray } })
    (hsz : items.size ≤ sizeLine) : wpAny (model prog w) A (getItem (.ref t) (.ref sl)) Q E s := by
  have htake : sizeOk (.seq items.toList.reverse.toArray) := by
    show items.toList.reverse.toArray.size ≤ sizeLine
    rw [List.size_toArray, List.length_reverse, Array.length_toList]
    exact hsz
  obtain ⟨os, hos, hcs, hds⟩ := id hs
  have hTs : s.TypeIs (.ref sl) "slice" := ⟨os, hos, hcs⟩
  unfold getItem
  try with_reducible refine wpAny_holding ?_
  first | refine wpAny_bind (wpAny_pure ?_) | skip
  refine wpAny_bind (wpAny_sequenceKey ht.typeIs (by decide) ?_)
  refine wpAny_bind (wpAny_callSpecial?_slot (name := Str.ofString "__getitem__") ht.typeIs PyProof.Rows.slot_tuple_getitem
    (wpAny_call_entry PyProof.Rows.slot_tuple_getitem ht.typeIs entry_tuple_getitem ?_ (args_tuple_getitem _ _)))
  show wpAny _ _ (Builtin.Tuple.tupleItemsOf (.ref t) >>= _) _ _ s
  refine wpAny_bind (tupleItemsOf_ ht ?_)
  refine wpAny_bind (wpAny_typeOf hTs ?_)
  rw [if_pos (by decide)]
  refine wpAny_bind (sliceApplied_rev hs pt ?_)
  have hno : ¬ ((((items.size : Nat) : Int) - 1 == 0 && (-1 : Int) == 1 && items.size == items.size) = true) := by
    rw [show ((-1 : Int) == 1) = false by decide, Bool.and_false, Bool.false_and]; decide
  show wpAny _ _ (if (((items.size : Nat) : Int) - 1 == 0 && (-1 : Int) == 1 && items.size == items.size) = true then _ else _) _ _ s
  rw [if_neg hno, pick_rev]
  first
    | exact wpAny_bind (m := Builtin.Tuple.tupleExact _) (wpAny_newObj_type (wpAny_pure ⟨_, rfl, wpAny_pure h⟩) htake)
    | exact wpAny_bind (m := Builtin.Tuple.tupleExact _) (wpAny_newObj_type (wpAny_bind (wpAny_pure (wpAny_pure ⟨_, rfl, wpAny_pure h⟩))) htake)
    | exact wpAny_bind (wpAny_bind (m := Builtin.Tuple.tupleExact _) (wpAny_newObj_type (wpAny_pure (wpAny_pure ⟨_, rfl, wpAny_pure h⟩)) htake))
    | exact wpAny_bind (wpAny_bind (m := Builtin.Tuple.tupleExact _) (wpAny_newObj_type (wpAny_pure ⟨_, rfl, wpAny_pure h⟩) htake))
end
end HT
namespace PL
open PySem PySem.Spec PyProof.Rows L2
def rRv (K : PySem.W.Frag) : V → Option Int → Hp → VK → Prop := fun x o H Q => ∃ a xs, x = .ref a ∧ SqT K H a xs ∧ o = some (-1) ∧ ∀ p, H p = none → Q (.ref p) (upd H p (.tup xs.reverse))
def tRv (K : PySem.W.Frag) (te : TE) (tt : TO) : TE := fun σ H Q => te σ H fun x H1 => tt σ H1 fun o H2 => rRv K x o H2 Q
section
variable {X : Cx} {e st : Expr} {te : TE} {tt : TO} {pos p2 : Pos}
/-- t[::step], the step -1 -/
theorem pe_rev (he : PE X e te) (ht : PO X (some st) tt) : PE X (.Subscript e (.Slice none none (some st) p2) pos) (tRv X.K te tt) := by
  refine ⟨fun pins s σ H Q I h => ?_⟩
  refine Subscript_ (thn (he.run pins s σ H _ I h) fun v s1 ⟨x, H1, I1, r1, q1⟩ => ?_)
  refine PySem.wpAny_Slice ?_
  rw [evalPart_none]
  refine wpAny_pure (wpAny_pure (thn (ht.run pins s1 σ H1 _ I1 q1) fun vt s3 ⟨o, H3, I3, pt, q3⟩ => ?_))
  obtain ⟨a, xs, rfl, hx, rfl, q⟩ := q3
  cases r1
  have I4 : Inv X pins σ H3 { s3 with heap := s3.heap.push { cls := .type "slice", data := .fields #[.none, .none, vt] } } := I3.kept (t' := s3.toks) fun b ob q => Heap.get?_push_of_some _ q
  obtain ⟨its, r, ht, hz⟩ := I4.tuple hx
  have hlen : its.toArray.size = xs.length := by rw [List.size_toArray]; exact r.length.symm
  refine tail_any (ops := [.ref a, .ref s3.heap.objs.size]) ht.typeIs PyProof.Rows.slot_tuple_getitem.lookup ?_ (by with_unfolding_all rfl)
  refine HT.getItem_tuple_rev ht (Heap.IsSliceOf.new ..) pt ?_ (by rw [hlen]; exact hz)
  exact ⟨.ref _, _, I4.laid (t' := s3.toks) (o := .tup xs.reverse) (fun b ob q => Heap.get?_push_of_some _ q) (Nat.le_refl _) ⟨by rw [List.length_reverse]; exact hz, its.reverse, r.reverse, IsTup.new _ _⟩, rfl, q _ (I4.hok.fresh (Nat.le_refl _))⟩
end
section
variable {C : Wd → XC → Prop} {K : PySem.W.Frag} {c1 c2 : Nat} {te : TE} {tt : TO} {m : EM} {o : Ev → (Option Int → Prop) → Prop}
def mRv (m : EM) (o : Ev → (Option Int → Prop) → Prop) : EM := fun env Q => m env fun x => o env fun a => match x with | .tup ds => a = some (-1) ∧ Q (.tup ds.reverse) | _ => False
theorem se_rv (h : SR C c1 te m) (h2 : SO C c2 tt o) : SE C (c1 + c2) (tRv K te tt) (mRv m o) := fun G c n O env σ H Qd Q hL F hm q =>
  h G c n O env σ H _ _ (by omega) F hm fun x v H1 q1 g1 ok1 r1 => h2 G c _ O env σ H1 _ _ (by omega) (F.grow g1 ok1) q1 fun a H2 q2 g2 ok2 => by
    have W2 := (F.wl.grow g1 ok1).grow g2 ok2
    rw [Nat.add_assoc] at ok2
    split at q2
    · obtain ⟨ea, q2⟩ := q2
      obtain ⟨p, xs, rfl, e, r⟩ := (r1.grow (F.wl.grow g1 ok1) g2).tuple
      exact ⟨p, xs, rfl, sqT e, ea, fun u hu => q _ _ _ q2 ((g1.trans g2).trans (Grow.new _ hu)) (Wd.okNew hu ok2) (new_tup W2 hu r.rev)⟩
    · exact q2.elim
end
/-! what is flat -/
def simC : D → Bool
  | .non => true
  | .bl _ => true
  | .int _ => true
  | .str s => PyData.canLay0 (.str s)
  | _ => false
theorem simC_dp {K : PySem.W.Frag} {A : At} {H : Hp} {v : V} {d : D} (h : simC d = true) (r : Rp A v d) : Dp K H v (toPy d) := by
  cases r with
  | non => exact .non
  | bl b => exact .bl b
  | int i => exact .int i
  | str s => exact .str s
  | _ => cases h
theorem simC_dpL {K : PySem.W.Frag} {A : At} {H : Hp} : ∀ {vs : List V} {ds : List D}, ds.all simC = true → RpL A vs ds → DpAll K H vs (toPyL ds)
  | _, _, _, .nil => .nil
  | _, _, h, .cons a r => by
    rw [List.all_cons, Bool.and_eq_true] at h
    exact .cons (simC_dp h.1 a) (simC_dpL h.2 r)
theorem simC_shaped : ∀ {ds : List D}, ds.all simC = true → PyData.canLayAll0 (toPyL ds) = true ∧ PyData.depthAll (toPyL ds) ≤ 1
  | [], _ => ⟨rfl, by simp [toPyL, PyData.depthAll]⟩
  | d :: r, h => by
    rw [List.all_cons, Bool.and_eq_true] at h
    obtain ⟨h1, h2⟩ := simC_shaped h.2
    have h3 : (toPy d).canLay0 = true ∧ (toPy d).depth ≤ 1 := by
      cases d with
      | non => exact ⟨rfl, by simp [toPy, PyData.depth]⟩
      | bl b => exact ⟨rfl, by simp [toPy, PyData.depth]⟩
      | int i => exact ⟨rfl, by simp [toPy, PyData.depth]⟩
      | str s => exact ⟨h.1, by simp [toPy, PyData.depth]⟩
      | _ => cases h.1
    exact ⟨by simp only [toPyL, PyData.canLayAll0, h3.1, h1, Bool.and_self], by simp only [toPyL, PyData.depthAll]; omega⟩
section
variable {C : Wd → XC → Prop} {K : PySem.W.Frag}
/-- t == (): whether a flat tuple is empty -/
def kEqE : D → D → (D → Prop) → Prop := fun x y Q => match x, y with
  | .tup l, .tup [] => l.all simC = true ∧ Q (.bl l.isEmpty)
  | _, _ => False
theorem k2_eqE : K2 C (rEqD K) kEqE := fun G _ n O H x y d e Qd Q W rx ry h q => by
  unfold kEqE at h
  split at h
  · rename_i l
    obtain ⟨h1, h2⟩ := h
    have s1 := simC_shaped h1
    have hy : (D.tup []).pl 60 = true := rfl
    have hs : SeqAt.shaped (toPy (.tup l)) = true := by
      show ((toPy (.tup l)).canLay0 && decide ((toPy (.tup l)).depth ≤ 64)) = true
      rw [show (toPy (.tup l)).canLay0 = true by simpa [toPy, PyData.canLay0] using s1.1, Bool.true_and]
      exact decide_eq_true (by simp only [toPy, PyData.depth]; omega)
    have hd : Dp K H x (toPy (.tup l)) := by
      cases rx with
      | dat r =>
        cases r with
        | tup e r => exact .tup (.inl (rk_tup e.1)) (simC_dpL h1 r)
    refine ⟨_, _, hd, ry.dp hy, hs, shaped_pl hy, ?_⟩
    have ee : PyData.eqv (toPy (.tup l)) (toPy (.tup [])) = l.isEmpty := by
      cases l with
      | nil => simp [toPy, toPyL, PyData.eqv, PyData.eqvAll]
      | cons a b => simp [toPy, toPyL, PyData.eqv, PyData.eqvAll]
    rw [ee]
    exact q _ _ H h2 (Grow.refl _ _) W.ok (.bl _)
  · exact h.elim
end
theorem strOk_of (s : String) : PyData.canLay0 (.str (Str.ofString s)) = true := by
  show PyData.strOk (Str.ofString s) = true
  unfold PyData.strOk
  rw [Str.ofString_eq_toList]
  rw [Array.all_eq_true']
  intro x hx
  obtain ⟨c, _, rfl⟩ := List.mem_map.mp (List.mem_toArray.mp hx)
  refine decide_eq_true ?_
  have hv := c.valid
  show c.val.toNat < _
  rcases hv with h | h
  · have : c.val.toNat < 0xd800 := h
    omega
  · exact h.2
/-! str(i) -/
section
variable {X : Cx}
def rStrI : List V → Hp → VK → Prop := fun xs H Q => ∃ i : Int, xs = [.int i] ∧ i.natAbs < 2 ^ 1920 ∧ Q (.str (Str.ofString (toString i))) H
theorem call_strI : CallR X (.type "str") rStrI := by
  intro pins s σ H xs us Q I r h
  obtain ⟨i, rfl, h1, q⟩ := h
  obtain ⟨u, rfl, rx⟩ := vals1 r
  obtain ⟨t, rfl⟩ := rx
  refine P.str_of_int ?_ ⟨.str _, H, I.tok _, ⟨_, rfl⟩, q⟩
  by_cases z : i.natAbs = 0
  · rw [z]; decide
  · exact (Nat.log2_lt z).mpr h1
end
section
variable {C : Wd → XC → Prop}
def kStrI : List D → (D → Prop) → Prop := fun ds Q => match ds with
  | [.int i] => (-4611686018427387904 < i ∧ i < 4611686018427387904) ∧ ∀ y : Str, PyData.canLay0 (.str y) = true → Q (.str y)
  | _ => False
theorem kc_strI : KC C rStrI kStrI := fun G _ n O H vs ds Qd Q W r h q => by
  unfold kStrI at h
  split at h
  · obtain ⟨⟨h1, h2⟩, h4⟩ := h
    obtain ⟨v, rfl, r1⟩ := r.one
    cases r1.int
    refine ⟨_, rfl, ?_, q _ _ H (h4 _ (strOk_of _)) (Grow.refl _ _) W.ok (.str _)⟩
    have h3 : (4611686018427387904 : Nat) ≤ 2 ^ 1920 := by decide +kernel
    omega
  · exact h.elim
end
end PL

/-! XD8: an exception made and kept as a value; isinstance of such a value and any class. -/
namespace PL
open PySem PySem.Spec PyProof.Rows L2
section
variable {X : Cx} {e : Expr} {t : L2.St → Hp → XK → Prop}
/-- X(..) as a value -/
def tMkV (t : L2.St → Hp → XK → Prop) : TE := fun σ H Q => t σ H fun c d H' => ∀ a, H' a = none → Q (.ref a) (upd H' a (ExcK c d a))
theorem pe_mkV (hex : X.ex = []) (h : PMk X e t) : PE X e (tMkV t) := by
  refine ⟨fun pins s σ H Q I ht => ?_⟩
  refine thn (h pins s σ H _ I ht) fun u s' ⟨a, oe, vs, sI, H', cls, d, eu, J, k, hne, ha, hz, hd, h1, na, os, ag, r, q⟩ => ?_
  subst eu
  obtain ⟨h', g', d', t', o'⟩ := s'
  have J1 : Inv X pins σ H' { sI with heap := h', toks := t' } := J.kept k
  have J2 : Inv X pins σ H' ⟨h', g', d', t', o'⟩ := ⟨J1.ok, (show o' = X.s_0.os from (show o' = sI.os from os).trans J.os), ag, J1.base, J1.loc, J1.cell, J1.free, J1.freeC, J1.pin, J1.hok, J1.len⟩
  have nL : a ≠ X.env.locals := fun z => by
    obtain ⟨m, hns, _⟩ := J.loc
    obtain ⟨_, _, _, ho, _⟩ := hns
    rw [← z, hne] at ho; cases ho
  have n0 : X.s_0.heap.get? a = none := by
    cases g : X.s_0.heap.get? a with
    | none => rfl
    | some o =>
      obtain ⟨o', q'⟩ := J.base.there a o g (by rw [hex]; exact fun z => nomatch z)
      rw [hne] at q'; cases q'
  have np : ∀ p ∈ X.pn ++ pins, p.1 ≠ a := fun p hp z => by
    have := (J.pin p hp).1
    rw [z, hne] at this; cases this
  exact ⟨.ref a, _, inv_track J2 hex ha hz hd na nL n0 np, rfl, q a na⟩
/-- isinstance(e, a class), e an exception of one's own class, whatever the class asked for -/
def rIsXG (K : PySem.W.Frag) : List V → Hp → VK → Prop := fun xs H Q => ∃ (a C2 : Addr) (d : Option Addr) (v : V) (c : Value) (b : Bool), xs = [.ref a, v] ∧ ((∃ C1, v = .ref C1 ∧ c = .ref C1) ∨ ∃ T, v = .ty T ∧ c = .type T) ∧ H a = some (ExcK (.ref C2) d a) ∧ (∀ dd, d = some dd → ∃ fs, H dd = some (.xd fs)) ∧ IsX K C2 ∧ PySem.W.kitOne K (.ref C2) c = some b ∧ Q (.bl b) H
theorem call_isXG {X : Cx} : CallR X (.builtin "isinstance") (rIsXG X.K) := by
  rintro pins s σ H xs us Q I r ⟨a, C2, d, v, c, b, rfl, hv, e, hd, T, hk, q⟩
  cases r with
  | cons rx rr =>
    cases rr with
    | cons rt rr =>
      cases rr; cases rx
      obtain ⟨o, od, J⟩ := inst_of I.hok e hd
      rcases hv with ⟨C1, rfl, rfl⟩ | ⟨T1, rfl, rfl⟩
      · cases rt
        exact PySem.W.kia_one (b := b) (PySem.W.kitx_exc T.cl T.ga T.gg T.sb T.ca T.cn T.ct T.cm) I.kIn J hk (fun z => nomatch z) fun tk => ⟨.bl b, H, I.kept (t' := tk) fun _ _ z => z, rfl, q⟩
      · cases rt
        exact PySem.W.kia_one (b := b) (PySem.W.kitx_exc T.cl T.ga T.gg T.sb T.ca T.cn T.ct T.cm) I.kIn J hk (fun z => nomatch z) fun tk => ⟨.bl b, H, I.kept (t' := tk) fun _ _ z => z, rfl, q⟩
end
section
variable {C : Wd → XC → Prop} {K : PySem.W.Frag} {c : Nat} {ta : TA} {am : AM}
/-- isinstance(e, the class v) -/
def kIsXG (K : PySem.W.Frag) (v : V) (c : Value) : List D → (D → Prop) → Prop := fun ds Q => ∃ (C2 : Addr) (ns : List Str) (l : List D) (b : Bool), ds = [.exc (.ref C2) ns l, .opq v] ∧ IsX K C2 ∧ PySem.W.kitOne K (.ref C2) c = some b ∧ Q (.bl b)
theorem kc_isXG {v : V} {c : Value} (hv : (∃ C1, v = .ref C1 ∧ c = .ref C1) ∨ ∃ T, v = .ty T ∧ c = .type T) : KC C (rIsXG K) (kIsXG K v c) := fun G _ n O H vs ds Qd Q W r h q => by
  obtain ⟨C2, ns, l, b, rfl, T, hk, h⟩ := h
  obtain ⟨x, w, rfl, r1, r2⟩ := r.two
  have ew : w = v := by
    cases r2 with | dat r => cases r; rfl
  subst ew
  obtain ⟨a, d, rfl, e, hd⟩ := exc_at r1.exc
  refine ⟨a, C2, d, w, c, b, rfl, hv, rk_ext e.1, fun dd ed => ?_, T, hk, q _ _ H h (Grow.refl _ _) W.ok (.bl _)⟩
  rcases hd with ⟨z, _⟩ | ⟨d2, xs, z, hx, _⟩
  · rw [z] at ed; cases ed
  · rw [z] at ed; cases ed
    exact ⟨_, rk_xd hx.1⟩
/-- X(e, ..) as a value, X without an init of its own -/
theorem se_mkV0 {cv : Value} (h : SA C c ta am) : SE C c (tMkV fun σ H Q => ta σ H fun vs H1 => vs.length ≤ sizeLine ∧ Q cv none H1) (fun env Q => am env fun ds => ds.length ≤ sizeLine ∧ Q (.exc cv [] [])) := fun G g n O env σ H Qd Q hL F hm k =>
  h G g n O env σ H _ _ hL F hm fun ds vs H1 ⟨hl, hq⟩ g1 ok1 rs => by
    have W1 := F.wl.grow g1 ok1
    refine ⟨by rw [rs.length]; exact hl, fun a ha => ?_⟩
    have g2 : Grow G.w H1 (upd H1 a (ExcK cv none a)) := Grow.new _ ha
    exact k _ _ _ hq (g1.trans g2) (Wd.okNew ha ok1) (.exc0 ⟨.inl upd_same, W1.free ha⟩)
/-- X(e) as a value, X with an init that sets one attribute -/
theorem se_mkV1 {C1 : Addr} {f : Str} (T : OexC K C1) (hno : PySem.W.findIn K (.ref C1) f = some none) (h : SA C c ta am) : SE C c (tMkV (tMkO C1 (spI K f) [] ta)) (fun env Q => am env fun ds => ∃ y, ds = [y] ∧ Q (.exc (.ref C1) [f] [y])) := fun G g n O env σ H Qd Q hL F hm k =>
  h G g n O env σ H _ _ hL F hm fun ds vs H1 ⟨y, ey, hx⟩ g1 ok1 r1 => by
    subst ey
    cases r1 with
    | cons ry rn =>
      rename_i v us
      cases rn
      have W1 := F.wl.grow g1 ok1
      refine ⟨by show 1 ≤ 1000; decide, fun a ha => ⟨a, C1, v, rfl, upd_same, T, hno, fun dx hdx ne => ⟨rfl, dx, [(f, v)], upd_same, by rw [upd_ne ne, upd_same], ?_, ?_⟩⟩⟩
      · rw [upd_ne ne] at hdx; exact hdx
      · rw [upd_ne ne] at hdx
        rw [del_upd ha ne]
        intro a' ha'
        have ga : Grow G.w H1 (upd H1 dx (.xd [(f, v)])) := Grow.new _ hdx
        have oka := Wd.okNew (o := .xd [(f, v)]) hdx ok1
        have W2 : Wl G (n + c) O (upd H1 dx (.xd [(f, v)])) := W1.grow ga oka
        have gb : Grow G.w (upd H1 dx (.xd [(f, v)])) (upd (upd H1 dx (.xd [(f, v)])) a' (ExcK (.ref C1) (some dx) a')) := Grow.new _ ha'
        have ne2 : dx ≠ a' := fun z => by rw [← z, upd_same] at ha'; cases ha'
        refine k _ _ _ hx ((g1.trans ga).trans gb) (Wd.okNew ha' oka) (.exc1 ⟨.inl upd_same, W2.free ha'⟩ ⟨.inl ?_, W1.free hdx⟩ rfl (.cons ((ry.mono (sh_grow W1.zo ga)).mono (sh_grow W2.zo gb)) .nil))
        rw [upd_ne ne2, upd_same]; rfl
end
/-! lists of bools -/
theorem eqv_bls : ∀ l r : List Bool, PyData.eqvAll (toPyL (l.map D.bl)) (toPyL (r.map D.bl)) = decide (l = r)
  | [], [] => rfl
  | [], b :: r => rfl
  | a :: l, [] => rfl
  | a :: l, b :: r => by
    show (PyData.eqv (.bool a) (.bool b) && PyData.eqvAll (toPyL (l.map D.bl)) (toPyL (r.map D.bl))) = _
    rw [eqv_bls l r]
    cases a <;> cases b <;> simp [PyData.eqv]
theorem simC_bls (l : List Bool) : (l.map D.bl).all simC = true := by
  rw [List.all_eq_true]
  intro x hx
  obtain ⟨b, _, rfl⟩ := List.mem_map.mp hx
  rfl
/-- == of two lists of bools -/
def kEqBl (p : Bool → Bool) : D → D → (D → Prop) → Prop := fun x y Q => ∃ l r : List Bool, x = .lst (l.map D.bl) ∧ y = .lst (r.map D.bl) ∧ Q (.bl (p (decide (l = r))))
section
variable {C : Wd → XC → Prop} {K : PySem.W.Frag}
theorem dp_bls {G : Cfg} {O : Addr → Prop} {H : Hp} {v : V} {l : List Bool} (r : Rr G O H v (.lst (l.map D.bl))) : Dp K H v (toPy (.lst (l.map D.bl))) := by
  cases r with
  | dat r =>
    cases r with
    | lst e r => exact .lst (.inl (.inl (rk_lst e.1))) (simC_dpL (simC_bls l) r)
  | own e z r => exact .lst (.inl (.inl e)) (simC_dpL (simC_bls l) r)
theorem shaped_bls (l : List Bool) : SeqAt.shaped (toPy (.lst (l.map D.bl))) = true := by
  have s1 := simC_shaped (simC_bls l)
  show ((toPy (.lst (l.map D.bl))).canLay0 && decide ((toPy (.lst (l.map D.bl))).depth ≤ 64)) = true
  rw [show (toPy (.lst (l.map D.bl))).canLay0 = true by simpa [toPy, PyData.canLay0] using s1.1, Bool.true_and]
  exact decide_eq_true (by simp only [toPy, PyData.depth]; omega)
theorem k2_neBl : K2 C (rNeD K) (kEqBl not) := fun G _ n O H x y d e Qd Q W rx ry ⟨l, r, hx, hy, h⟩ q => by
  subst hx hy
  refine ⟨_, _, dp_bls rx, dp_bls ry, shaped_bls l, shaped_bls r, ?_⟩
  have e : PyData.eqv (toPy (.lst (l.map D.bl))) (toPy (.lst (r.map D.bl))) = decide (l = r) := by
    rw [← eqv_bls l r]
    simp only [toPy, PyData.eqv]
  rw [e]
  exact q _ _ H h (Grow.refl _ _) W.ok (.bl _)
end
end PL

namespace Law
namespace W
open PySem PySem.Spec PyProof.Rows L2 PL
local macro_rules | `(tactic| walk_at "pl") => `(tactic| simp only [sRet, sRetN, sSeq, sNext, sNever, sSet, sPar, sPar3, sIf, sDrop, sFor, sForL, sApp, sAug, sAugIx, sPutD, sSetIx, sTo, sExt, sRem, sBreak, sCont, mAndV, mOrV, mNotV, mAnd, mOr, mNot, mB, mIf, mTru, mCB, mCL, mCall, mC, mVar, mRd, aCons, aNil, mTup, mLst, mLc, mLcK, mLcL, mLcO, mOwn, mDat, m2, ml2, mNeg, mChain, iT, iL, iR1, iR2, iE, iRv, iZ, iET, kIsi, kIsi2, kIx, kI, kIc, kIsN, kIsB, kEqS, kEqB, kLen, kTuple, kList, kInt1, kAbs, kRepL, kMin2, kCatT, kCatL, mGet, mInD, D.key, mLrg, mRevL, mGet2, sPut2, mSlT, mSlL, oNone, oSome, gT, gsC, gsN, env0, wipeE, frz, unOwn, gN, List.length_cons, List.length_nil, List.map_cons, List.map_nil, List.replicate, List.cons_append, List.nil_append, List.append_nil, List.getElem?_cons_zero, List.getElem?_cons_succ, Nat.sub_self, Nat.reduceAdd, Nat.reduceSub, D.ty, D.isN, D.tru, if_true, if_false, Bool.false_eq_true, List.set, id, kAll, iAlt, iET, iE, kRepT, mC, kIx, kEqO])
def erNames : List Str := [("BadBits" : Str), ("BadCell" : Str), ("BadCode" : Str), ("BadContent" : Str), ("BadCopied" : Str), ("BadCounts" : Str), ("BadCourse" : Str), ("BadDeep" : Str), ("BadDepth" : Str), ("BadDisk" : Str), ("BadEntries" : Str), ("BadExtra" : Str), ("BadField" : Str), ("BadGiven" : Str), ("BadHeap" : Str), ("BadItem" : Str), ("BadItems" : Str), ("BadLabels" : Str), ("BadLanded" : Str), ("BadLater" : Str), ("BadLeast" : Str), ("BadLeft" : Str), ("BadLevel" : Str), ("BadLine" : Str), ("BadMany" : Str), ("BadMarks" : Str), ("BadMost" : Str), ("BadMoves" : Str), ("BadName" : Str), ("BadParents" : Str), ("BadPlace" : Str), ("BadPlan" : Str), ("BadPrice" : Str), ("BadProgram" : Str), ("BadRecord" : Str), ("BadRoom" : Str), ("BadRounds" : Str), ("BadRows" : Str), ("BadRule" : Str), ("BadShape" : Str), ("BadStanding" : Str), ("BadState" : Str), ("BadStory" : Str), ("BadTable" : Str), ("BadUsed" : Str), ("BadValue" : Str), ("BadValues" : Str), ("BadVersion" : Str), ("BadWay" : Str), ("BadWide" : Str), ("Fell" : Str), ("LastName" : Str), ("NoEntry" : Str), ("NotCopied" : Str), ("NotForest" : Str), ("NotOver" : Str), ("TooMany" : Str), ("BadDeed" : Str), ("BadEvents" : Str), ("BadPuts" : Str), ("BadText" : Str), ("Full" : Str), ("NoRecord" : Str), ("NoWay" : Str), ("NotNewest" : Str), ("Stopped" : Str), ("TooPointed" : Str), ("Unknown" : Str), ("CopyError" : Str)]
def erFirst : List Str := [("BadBits" : Str), ("BadCell" : Str), ("BadCode" : Str), ("BadContent" : Str), ("BadCopied" : Str), ("BadCounts" : Str), ("BadCourse" : Str), ("BadDeep" : Str), ("BadDepth" : Str), ("BadDisk" : Str), ("BadEntries" : Str), ("BadExtra" : Str), ("BadField" : Str), ("BadGiven" : Str), ("BadHeap" : Str), ("BadItem" : Str), ("BadItems" : Str), ("BadLabels" : Str), ("BadLanded" : Str), ("BadLater" : Str), ("BadLeast" : Str), ("BadLeft" : Str), ("BadLevel" : Str), ("BadLine" : Str), ("BadMany" : Str), ("BadMarks" : Str), ("BadMost" : Str), ("BadMoves" : Str), ("BadName" : Str), ("BadParents" : Str), ("BadPlace" : Str), ("BadPlan" : Str), ("BadPrice" : Str), ("BadProgram" : Str), ("BadRecord" : Str), ("BadRoom" : Str), ("BadRounds" : Str), ("BadRows" : Str), ("BadRule" : Str), ("BadShape" : Str), ("BadStanding" : Str), ("BadState" : Str)]
def erRest : List Str := [("BadStory" : Str), ("BadTable" : Str), ("BadUsed" : Str), ("BadValue" : Str), ("BadValues" : Str), ("BadVersion" : Str), ("BadWay" : Str), ("BadWide" : Str), ("Fell" : Str), ("LastName" : Str), ("NoEntry" : Str), ("NotCopied" : Str), ("NotForest" : Str), ("NotOver" : Str), ("TooMany" : Str), ("BadDeed" : Str), ("BadEvents" : Str), ("BadPuts" : Str), ("BadText" : Str), ("Full" : Str), ("NoRecord" : Str), ("NoWay" : Str), ("NotNewest" : Str), ("Stopped" : Str), ("TooPointed" : Str), ("Unknown" : Str)]
def erX0 : List Str := [("BadBits" : Str), ("BadCell" : Str), ("BadCode" : Str), ("BadContent" : Str), ("BadCopied" : Str), ("BadCounts" : Str), ("BadCourse" : Str), ("BadDeep" : Str), ("BadDepth" : Str), ("BadDisk" : Str), ("BadEntries" : Str), ("BadExtra" : Str), ("BadField" : Str), ("BadGiven" : Str), ("BadHeap" : Str), ("BadItem" : Str), ("BadItems" : Str), ("BadLabels" : Str), ("BadLanded" : Str), ("BadLater" : Str), ("BadLeast" : Str), ("BadLeft" : Str), ("BadLevel" : Str), ("BadLine" : Str), ("BadMany" : Str), ("BadMarks" : Str), ("BadMost" : Str), ("BadMoves" : Str), ("BadName" : Str), ("BadParents" : Str), ("BadPlace" : Str), ("BadPlan" : Str), ("BadPrice" : Str), ("BadProgram" : Str), ("BadRecord" : Str), ("BadRoom" : Str), ("BadRounds" : Str), ("BadRows" : Str), ("BadRule" : Str), ("BadShape" : Str), ("BadStanding" : Str), ("BadState" : Str), ("BadStory" : Str), ("BadTable" : Str), ("BadUsed" : Str), ("BadValue" : Str), ("BadValues" : Str), ("BadVersion" : Str), ("BadWay" : Str), ("BadWide" : Str), ("Fell" : Str), ("LastName" : Str), ("NoEntry" : Str), ("NotCopied" : Str), ("NotForest" : Str), ("NotOver" : Str), ("TooMany" : Str), ("CopyError" : Str)]
structure ErF (K : PySem.W.Frag) (mg : Str → Option Value) : Prop where
  g : ∀ x ∈ erNames, mg x = some (.ref (er mg x))
  i : ∀ x ∈ erNames, IsX K (er mg x)
  k : ∀ x ∈ erNames, ∀ y ∈ erFirst ++ erRest, PySem.W.kitOne K (.ref (er mg x)) (.ref (er mg y)) = some (decide (x = y))
theorem er_is {K : PySem.W.Frag} {mg : Str → Option Value} (EF : ErF K mg) {x y : Str} {ns : List Str} {l : List D} {Q : D → Prop} (hx : x ∈ erNames) (hy : y ∈ erFirst ++ erRest) (q : Q (.bl (decide (x = y)))) : kIsXG K (V.ref (er mg y)) (.ref (er mg y)) [.exc (.ref (er mg x)) ns l, .opq (V.ref (er mg y))] Q :=
  ⟨er mg x, ns, l, _, rfl, EF.i x hx, EF.k x hx y hy, q⟩
def S_l_er_first (mg : Str → Option Value) (ds : List D) (Q : D → Prop) : Prop := ∃ (x : Str) (ns : List Str) (l : List D), ds = [.exc (.ref (er mg x)) ns l] ∧ x ∈ erNames ∧ Q (.lst (erFirst.map fun y => .bl (decide (x = y))))
theorem len_l_er_first {mg : Str → Option Value} {ds : List D} {Q : D → Prop} (h : S_l_er_first mg ds Q) : ds.length = 1 := by obtain ⟨_, _, _, e, _⟩ := h; rw [e]; rfl
theorem mono_l_er_first {mg : Str → Option Value} : Mono (S_l_er_first mg) := fun ds P Q h ⟨a, b, c, d, e, k⟩ => ⟨a, b, c, d, e, h _ k⟩
def S_l_er_kinds (mg : Str → Option Value) (ds : List D) (Q : D → Prop) : Prop := ∃ (x : Str) (ns : List Str) (l : List D), ds = [.exc (.ref (er mg x)) ns l] ∧ x ∈ erNames ∧ Q (.lst ((erFirst ++ erRest).map fun y => .bl (decide (x = y))))
theorem len_l_er_kinds {mg : Str → Option Value} {ds : List D} {Q : D → Prop} (h : S_l_er_kinds mg ds Q) : ds.length = 1 := by obtain ⟨_, _, _, e, _⟩ := h; rw [e]; rfl
theorem mono_l_er_kinds {mg : Str → Option Value} : Mono (S_l_er_kinds mg) := fun ds P Q h ⟨a, b, c, d, e, k⟩ => ⟨a, b, c, d, e, h _ k⟩
section
variable {P : Program} {w : World} {K : PySem.W.Frag} {mg : Str → Option Value} {base : Heap} {f : Addr} {fd : FuncData}
theorem ok_l_er_first {k : Nat} (F : Fun K "_law_er_first" "_law_er_first" s_l_er_first f fd) (T : Bt mg) (EF : ErF K mg)  : FnOk P w K mg base CX0 (k + 1) f fd ["error"] (spP CA 0 (S_l_er_first mg)) := by
  refine pl_ok F sc_l_er_first (fun ds Q h => ?_) fun cdv A outer s H E hr => ?_
  · exact len_l_er_first h
  have hu := hu_of hr
  refine ⟨_, _, _, (pss_cons (ps_set (i := 1) sc_l_er_first.nd rfl (Or.inl rfl) (pe_lst (pa_cons (pe_callB (r := rIsXG K) call_isXG (by rfl) T.isi (by decide +kernel) (pa_cons (pv 0) (pa_cons (pe_glob (v := V.ref (er mg "BadBits")) rfl (EF.g "BadBits" (by decide +kernel)) rfl) pa_nil))) (pa_cons (pe_callB (r := rIsXG K) call_isXG (by rfl) T.isi (by decide +kernel) (pa_cons (pv 0) (pa_cons (pe_glob (v := V.ref (er mg "BadCell")) rfl (EF.g "BadCell" (by decide +kernel)) rfl) pa_nil))) (pa_cons (pe_callB (r := rIsXG K) call_isXG (by rfl) T.isi (by decide +kernel) (pa_cons (pv 0) (pa_cons (pe_glob (v := V.ref (er mg "BadCode")) rfl (EF.g "BadCode" (by decide +kernel)) rfl) pa_nil))) pa_nil)))))
  (pss_cons (ps_set (i := 1) sc_l_er_first.nd rfl (Or.inl rfl) (pe_op op_cat (pv 1) (pe_lst (pa_cons (pe_callB (r := rIsXG K) call_isXG (by rfl) T.isi (by decide +kernel) (pa_cons (pv 0) (pa_cons (pe_glob (v := V.ref (er mg "BadContent")) rfl (EF.g "BadContent" (by decide +kernel)) rfl) pa_nil))) (pa_cons (pe_callB (r := rIsXG K) call_isXG (by rfl) T.isi (by decide +kernel) (pa_cons (pv 0) (pa_cons (pe_glob (v := V.ref (er mg "BadCopied")) rfl (EF.g "BadCopied" (by decide +kernel)) rfl) pa_nil))) (pa_cons (pe_callB (r := rIsXG K) call_isXG (by rfl) T.isi (by decide +kernel) (pa_cons (pv 0) (pa_cons (pe_glob (v := V.ref (er mg "BadCounts")) rfl (EF.g "BadCounts" (by decide +kernel)) rfl) pa_nil))) pa_nil))))))
  (pss_cons (ps_set (i := 1) sc_l_er_first.nd rfl (Or.inl rfl) (pe_op op_cat (pv 1) (pe_lst (pa_cons (pe_callB (r := rIsXG K) call_isXG (by rfl) T.isi (by decide +kernel) (pa_cons (pv 0) (pa_cons (pe_glob (v := V.ref (er mg "BadCourse")) rfl (EF.g "BadCourse" (by decide +kernel)) rfl) pa_nil))) (pa_cons (pe_callB (r := rIsXG K) call_isXG (by rfl) T.isi (by decide +kernel) (pa_cons (pv 0) (pa_cons (pe_glob (v := V.ref (er mg "BadDeep")) rfl (EF.g "BadDeep" (by decide +kernel)) rfl) pa_nil))) (pa_cons (pe_callB (r := rIsXG K) call_isXG (by rfl) T.isi (by decide +kernel) (pa_cons (pv 0) (pa_cons (pe_glob (v := V.ref (er mg "BadDepth")) rfl (EF.g "BadDepth" (by decide +kernel)) rfl) pa_nil))) pa_nil))))))
  (pss_cons (ps_set (i := 1) sc_l_er_first.nd rfl (Or.inl rfl) (pe_op op_cat (pv 1) (pe_lst (pa_cons (pe_callB (r := rIsXG K) call_isXG (by rfl) T.isi (by decide +kernel) (pa_cons (pv 0) (pa_cons (pe_glob (v := V.ref (er mg "BadDisk")) rfl (EF.g "BadDisk" (by decide +kernel)) rfl) pa_nil))) (pa_cons (pe_callB (r := rIsXG K) call_isXG (by rfl) T.isi (by decide +kernel) (pa_cons (pv 0) (pa_cons (pe_glob (v := V.ref (er mg "BadEntries")) rfl (EF.g "BadEntries" (by decide +kernel)) rfl) pa_nil))) (pa_cons (pe_callB (r := rIsXG K) call_isXG (by rfl) T.isi (by decide +kernel) (pa_cons (pv 0) (pa_cons (pe_glob (v := V.ref (er mg "BadExtra")) rfl (EF.g "BadExtra" (by decide +kernel)) rfl) pa_nil))) pa_nil))))))
  (pss_cons (ps_set (i := 1) sc_l_er_first.nd rfl (Or.inl rfl) (pe_op op_cat (pv 1) (pe_lst (pa_cons (pe_callB (r := rIsXG K) call_isXG (by rfl) T.isi (by decide +kernel) (pa_cons (pv 0) (pa_cons (pe_glob (v := V.ref (er mg "BadField")) rfl (EF.g "BadField" (by decide +kernel)) rfl) pa_nil))) (pa_cons (pe_callB (r := rIsXG K) call_isXG (by rfl) T.isi (by decide +kernel) (pa_cons (pv 0) (pa_cons (pe_glob (v := V.ref (er mg "BadGiven")) rfl (EF.g "BadGiven" (by decide +kernel)) rfl) pa_nil))) (pa_cons (pe_callB (r := rIsXG K) call_isXG (by rfl) T.isi (by decide +kernel) (pa_cons (pv 0) (pa_cons (pe_glob (v := V.ref (er mg "BadHeap")) rfl (EF.g "BadHeap" (by decide +kernel)) rfl) pa_nil))) pa_nil))))))
  (pss_cons (ps_set (i := 1) sc_l_er_first.nd rfl (Or.inl rfl) (pe_op op_cat (pv 1) (pe_lst (pa_cons (pe_callB (r := rIsXG K) call_isXG (by rfl) T.isi (by decide +kernel) (pa_cons (pv 0) (pa_cons (pe_glob (v := V.ref (er mg "BadItem")) rfl (EF.g "BadItem" (by decide +kernel)) rfl) pa_nil))) (pa_cons (pe_callB (r := rIsXG K) call_isXG (by rfl) T.isi (by decide +kernel) (pa_cons (pv 0) (pa_cons (pe_glob (v := V.ref (er mg "BadItems")) rfl (EF.g "BadItems" (by decide +kernel)) rfl) pa_nil))) (pa_cons (pe_callB (r := rIsXG K) call_isXG (by rfl) T.isi (by decide +kernel) (pa_cons (pv 0) (pa_cons (pe_glob (v := V.ref (er mg "BadLabels")) rfl (EF.g "BadLabels" (by decide +kernel)) rfl) pa_nil))) pa_nil))))))
  (pss_cons (ps_set (i := 1) sc_l_er_first.nd rfl (Or.inl rfl) (pe_op op_cat (pv 1) (pe_lst (pa_cons (pe_callB (r := rIsXG K) call_isXG (by rfl) T.isi (by decide +kernel) (pa_cons (pv 0) (pa_cons (pe_glob (v := V.ref (er mg "BadLanded")) rfl (EF.g "BadLanded" (by decide +kernel)) rfl) pa_nil))) (pa_cons (pe_callB (r := rIsXG K) call_isXG (by rfl) T.isi (by decide +kernel) (pa_cons (pv 0) (pa_cons (pe_glob (v := V.ref (er mg "BadLater")) rfl (EF.g "BadLater" (by decide +kernel)) rfl) pa_nil))) (pa_cons (pe_callB (r := rIsXG K) call_isXG (by rfl) T.isi (by decide +kernel) (pa_cons (pv 0) (pa_cons (pe_glob (v := V.ref (er mg "BadLeast")) rfl (EF.g "BadLeast" (by decide +kernel)) rfl) pa_nil))) pa_nil))))))
  (pss_cons (ps_set (i := 1) sc_l_er_first.nd rfl (Or.inl rfl) (pe_op op_cat (pv 1) (pe_lst (pa_cons (pe_callB (r := rIsXG K) call_isXG (by rfl) T.isi (by decide +kernel) (pa_cons (pv 0) (pa_cons (pe_glob (v := V.ref (er mg "BadLeft")) rfl (EF.g "BadLeft" (by decide +kernel)) rfl) pa_nil))) (pa_cons (pe_callB (r := rIsXG K) call_isXG (by rfl) T.isi (by decide +kernel) (pa_cons (pv 0) (pa_cons (pe_glob (v := V.ref (er mg "BadLevel")) rfl (EF.g "BadLevel" (by decide +kernel)) rfl) pa_nil))) (pa_cons (pe_callB (r := rIsXG K) call_isXG (by rfl) T.isi (by decide +kernel) (pa_cons (pv 0) (pa_cons (pe_glob (v := V.ref (er mg "BadLine")) rfl (EF.g "BadLine" (by decide +kernel)) rfl) pa_nil))) pa_nil))))))
  (pss_cons (ps_set (i := 1) sc_l_er_first.nd rfl (Or.inl rfl) (pe_op op_cat (pv 1) (pe_lst (pa_cons (pe_callB (r := rIsXG K) call_isXG (by rfl) T.isi (by decide +kernel) (pa_cons (pv 0) (pa_cons (pe_glob (v := V.ref (er mg "BadMany")) rfl (EF.g "BadMany" (by decide +kernel)) rfl) pa_nil))) (pa_cons (pe_callB (r := rIsXG K) call_isXG (by rfl) T.isi (by decide +kernel) (pa_cons (pv 0) (pa_cons (pe_glob (v := V.ref (er mg "BadMarks")) rfl (EF.g "BadMarks" (by decide +kernel)) rfl) pa_nil))) (pa_cons (pe_callB (r := rIsXG K) call_isXG (by rfl) T.isi (by decide +kernel) (pa_cons (pv 0) (pa_cons (pe_glob (v := V.ref (er mg "BadMost")) rfl (EF.g "BadMost" (by decide +kernel)) rfl) pa_nil))) pa_nil))))))
  (pss_cons (ps_set (i := 1) sc_l_er_first.nd rfl (Or.inl rfl) (pe_op op_cat (pv 1) (pe_lst (pa_cons (pe_callB (r := rIsXG K) call_isXG (by rfl) T.isi (by decide +kernel) (pa_cons (pv 0) (pa_cons (pe_glob (v := V.ref (er mg "BadMoves")) rfl (EF.g "BadMoves" (by decide +kernel)) rfl) pa_nil))) (pa_cons (pe_callB (r := rIsXG K) call_isXG (by rfl) T.isi (by decide +kernel) (pa_cons (pv 0) (pa_cons (pe_glob (v := V.ref (er mg "BadName")) rfl (EF.g "BadName" (by decide +kernel)) rfl) pa_nil))) (pa_cons (pe_callB (r := rIsXG K) call_isXG (by rfl) T.isi (by decide +kernel) (pa_cons (pv 0) (pa_cons (pe_glob (v := V.ref (er mg "BadParents")) rfl (EF.g "BadParents" (by decide +kernel)) rfl) pa_nil))) pa_nil))))))
  (pss_cons (ps_set (i := 1) sc_l_er_first.nd rfl (Or.inl rfl) (pe_op op_cat (pv 1) (pe_lst (pa_cons (pe_callB (r := rIsXG K) call_isXG (by rfl) T.isi (by decide +kernel) (pa_cons (pv 0) (pa_cons (pe_glob (v := V.ref (er mg "BadPlace")) rfl (EF.g "BadPlace" (by decide +kernel)) rfl) pa_nil))) (pa_cons (pe_callB (r := rIsXG K) call_isXG (by rfl) T.isi (by decide +kernel) (pa_cons (pv 0) (pa_cons (pe_glob (v := V.ref (er mg "BadPlan")) rfl (EF.g "BadPlan" (by decide +kernel)) rfl) pa_nil))) (pa_cons (pe_callB (r := rIsXG K) call_isXG (by rfl) T.isi (by decide +kernel) (pa_cons (pv 0) (pa_cons (pe_glob (v := V.ref (er mg "BadPrice")) rfl (EF.g "BadPrice" (by decide +kernel)) rfl) pa_nil))) pa_nil))))))
  (pss_cons (ps_set (i := 1) sc_l_er_first.nd rfl (Or.inl rfl) (pe_op op_cat (pv 1) (pe_lst (pa_cons (pe_callB (r := rIsXG K) call_isXG (by rfl) T.isi (by decide +kernel) (pa_cons (pv 0) (pa_cons (pe_glob (v := V.ref (er mg "BadProgram")) rfl (EF.g "BadProgram" (by decide +kernel)) rfl) pa_nil))) (pa_cons (pe_callB (r := rIsXG K) call_isXG (by rfl) T.isi (by decide +kernel) (pa_cons (pv 0) (pa_cons (pe_glob (v := V.ref (er mg "BadRecord")) rfl (EF.g "BadRecord" (by decide +kernel)) rfl) pa_nil))) (pa_cons (pe_callB (r := rIsXG K) call_isXG (by rfl) T.isi (by decide +kernel) (pa_cons (pv 0) (pa_cons (pe_glob (v := V.ref (er mg "BadRoom")) rfl (EF.g "BadRoom" (by decide +kernel)) rfl) pa_nil))) pa_nil))))))
  (pss_cons (ps_set (i := 1) sc_l_er_first.nd rfl (Or.inl rfl) (pe_op op_cat (pv 1) (pe_lst (pa_cons (pe_callB (r := rIsXG K) call_isXG (by rfl) T.isi (by decide +kernel) (pa_cons (pv 0) (pa_cons (pe_glob (v := V.ref (er mg "BadRounds")) rfl (EF.g "BadRounds" (by decide +kernel)) rfl) pa_nil))) (pa_cons (pe_callB (r := rIsXG K) call_isXG (by rfl) T.isi (by decide +kernel) (pa_cons (pv 0) (pa_cons (pe_glob (v := V.ref (er mg "BadRows")) rfl (EF.g "BadRows" (by decide +kernel)) rfl) pa_nil))) (pa_cons (pe_callB (r := rIsXG K) call_isXG (by rfl) T.isi (by decide +kernel) (pa_cons (pv 0) (pa_cons (pe_glob (v := V.ref (er mg "BadRule")) rfl (EF.g "BadRule" (by decide +kernel)) rfl) pa_nil))) pa_nil))))))
  (pss_one (ps_ret (pe_op op_cat (pv 1) (pe_lst (pa_cons (pe_callB (r := rIsXG K) call_isXG (by rfl) T.isi (by decide +kernel) (pa_cons (pv 0) (pa_cons (pe_glob (v := V.ref (er mg "BadShape")) rfl (EF.g "BadShape" (by decide +kernel)) rfl) pa_nil))) (pa_cons (pe_callB (r := rIsXG K) call_isXG (by rfl) T.isi (by decide +kernel) (pa_cons (pv 0) (pa_cons (pe_glob (v := V.ref (er mg "BadStanding")) rfl (EF.g "BadStanding" (by decide +kernel)) rfl) pa_nil))) (pa_cons (pe_callB (r := rIsXG K) call_isXG (by rfl) T.isi (by decide +kernel) (pa_cons (pv 0) (pa_cons (pe_glob (v := V.ref (er mg "BadState")) rfl (EF.g "BadState" (by decide +kernel)) rfl) pa_nil))) pa_nil)))))))))))))))))))), (ss_seq (ss_set (SE.x (SL.e (sl_lst (sa_cons (se_cb (sar_cons sr_var (sar_cons (SE.r se_opq) sar_nil)) (kc_isXG (v := V.ref (er mg "BadBits")) (c := .ref (er mg "BadBits")) (.inl ⟨_, rfl, rfl⟩))) (sa_cons (se_cb (sar_cons sr_var (sar_cons (SE.r se_opq) sar_nil)) (kc_isXG (v := V.ref (er mg "BadCell")) (c := .ref (er mg "BadCell")) (.inl ⟨_, rfl, rfl⟩))) (sa_cons (se_cb (sar_cons sr_var (sar_cons (SE.r se_opq) sar_nil)) (kc_isXG (v := V.ref (er mg "BadCode")) (c := .ref (er mg "BadCode")) (.inl ⟨_, rfl, rfl⟩))) sa_nil)))))))
  (ss_seq (ss_set (SE.x (SL.e (sl_op sr_var (SE.r (SL.e (sl_lst (sa_cons (se_cb (sar_cons sr_var (sar_cons (SE.r se_opq) sar_nil)) (kc_isXG (v := V.ref (er mg "BadContent")) (c := .ref (er mg "BadContent")) (.inl ⟨_, rfl, rfl⟩))) (sa_cons (se_cb (sar_cons sr_var (sar_cons (SE.r se_opq) sar_nil)) (kc_isXG (v := V.ref (er mg "BadCopied")) (c := .ref (er mg "BadCopied")) (.inl ⟨_, rfl, rfl⟩))) (sa_cons (se_cb (sar_cons sr_var (sar_cons (SE.r se_opq) sar_nil)) (kc_isXG (v := V.ref (er mg "BadCounts")) (c := .ref (er mg "BadCounts")) (.inl ⟨_, rfl, rfl⟩))) sa_nil)))))) kl_cat))))
  (ss_seq (ss_set (SE.x (SL.e (sl_op sr_var (SE.r (SL.e (sl_lst (sa_cons (se_cb (sar_cons sr_var (sar_cons (SE.r se_opq) sar_nil)) (kc_isXG (v := V.ref (er mg "BadCourse")) (c := .ref (er mg "BadCourse")) (.inl ⟨_, rfl, rfl⟩))) (sa_cons (se_cb (sar_cons sr_var (sar_cons (SE.r se_opq) sar_nil)) (kc_isXG (v := V.ref (er mg "BadDeep")) (c := .ref (er mg "BadDeep")) (.inl ⟨_, rfl, rfl⟩))) (sa_cons (se_cb (sar_cons sr_var (sar_cons (SE.r se_opq) sar_nil)) (kc_isXG (v := V.ref (er mg "BadDepth")) (c := .ref (er mg "BadDepth")) (.inl ⟨_, rfl, rfl⟩))) sa_nil)))))) kl_cat))))
  (ss_seq (ss_set (SE.x (SL.e (sl_op sr_var (SE.r (SL.e (sl_lst (sa_cons (se_cb (sar_cons sr_var (sar_cons (SE.r se_opq) sar_nil)) (kc_isXG (v := V.ref (er mg "BadDisk")) (c := .ref (er mg "BadDisk")) (.inl ⟨_, rfl, rfl⟩))) (sa_cons (se_cb (sar_cons sr_var (sar_cons (SE.r se_opq) sar_nil)) (kc_isXG (v := V.ref (er mg "BadEntries")) (c := .ref (er mg "BadEntries")) (.inl ⟨_, rfl, rfl⟩))) (sa_cons (se_cb (sar_cons sr_var (sar_cons (SE.r se_opq) sar_nil)) (kc_isXG (v := V.ref (er mg "BadExtra")) (c := .ref (er mg "BadExtra")) (.inl ⟨_, rfl, rfl⟩))) sa_nil)))))) kl_cat))))
  (ss_seq (ss_set (SE.x (SL.e (sl_op sr_var (SE.r (SL.e (sl_lst (sa_cons (se_cb (sar_cons sr_var (sar_cons (SE.r se_opq) sar_nil)) (kc_isXG (v := V.ref (er mg "BadField")) (c := .ref (er mg "BadField")) (.inl ⟨_, rfl, rfl⟩))) (sa_cons (se_cb (sar_cons sr_var (sar_cons (SE.r se_opq) sar_nil)) (kc_isXG (v := V.ref (er mg "BadGiven")) (c := .ref (er mg "BadGiven")) (.inl ⟨_, rfl, rfl⟩))) (sa_cons (se_cb (sar_cons sr_var (sar_cons (SE.r se_opq) sar_nil)) (kc_isXG (v := V.ref (er mg "BadHeap")) (c := .ref (er mg "BadHeap")) (.inl ⟨_, rfl, rfl⟩))) sa_nil)))))) kl_cat))))
  (ss_seq (ss_set (SE.x (SL.e (sl_op sr_var (SE.r (SL.e (sl_lst (sa_cons (se_cb (sar_cons sr_var (sar_cons (SE.r se_opq) sar_nil)) (kc_isXG (v := V.ref (er mg "BadItem")) (c := .ref (er mg "BadItem")) (.inl ⟨_, rfl, rfl⟩))) (sa_cons (se_cb (sar_cons sr_var (sar_cons (SE.r se_opq) sar_nil)) (kc_isXG (v := V.ref (er mg "BadItems")) (c := .ref (er mg "BadItems")) (.inl ⟨_, rfl, rfl⟩))) (sa_cons (se_cb (sar_cons sr_var (sar_cons (SE.r se_opq) sar_nil)) (kc_isXG (v := V.ref (er mg "BadLabels")) (c := .ref (er mg "BadLabels")) (.inl ⟨_, rfl, rfl⟩))) sa_nil)))))) kl_cat))))
  (ss_seq (ss_set (SE.x (SL.e (sl_op sr_var (SE.r (SL.e (sl_lst (sa_cons (se_cb (sar_cons sr_var (sar_cons (SE.r se_opq) sar_nil)) (kc_isXG (v := V.ref (er mg "BadLanded")) (c := .ref (er mg "BadLanded")) (.inl ⟨_, rfl, rfl⟩))) (sa_cons (se_cb (sar_cons sr_var (sar_cons (SE.r se_opq) sar_nil)) (kc_isXG (v := V.ref (er mg "BadLater")) (c := .ref (er mg "BadLater")) (.inl ⟨_, rfl, rfl⟩))) (sa_cons (se_cb (sar_cons sr_var (sar_cons (SE.r se_opq) sar_nil)) (kc_isXG (v := V.ref (er mg "BadLeast")) (c := .ref (er mg "BadLeast")) (.inl ⟨_, rfl, rfl⟩))) sa_nil)))))) kl_cat))))
  (ss_seq (ss_set (SE.x (SL.e (sl_op sr_var (SE.r (SL.e (sl_lst (sa_cons (se_cb (sar_cons sr_var (sar_cons (SE.r se_opq) sar_nil)) (kc_isXG (v := V.ref (er mg "BadLeft")) (c := .ref (er mg "BadLeft")) (.inl ⟨_, rfl, rfl⟩))) (sa_cons (se_cb (sar_cons sr_var (sar_cons (SE.r se_opq) sar_nil)) (kc_isXG (v := V.ref (er mg "BadLevel")) (c := .ref (er mg "BadLevel")) (.inl ⟨_, rfl, rfl⟩))) (sa_cons (se_cb (sar_cons sr_var (sar_cons (SE.r se_opq) sar_nil)) (kc_isXG (v := V.ref (er mg "BadLine")) (c := .ref (er mg "BadLine")) (.inl ⟨_, rfl, rfl⟩))) sa_nil)))))) kl_cat))))
  (ss_seq (ss_set (SE.x (SL.e (sl_op sr_var (SE.r (SL.e (sl_lst (sa_cons (se_cb (sar_cons sr_var (sar_cons (SE.r se_opq) sar_nil)) (kc_isXG (v := V.ref (er mg "BadMany")) (c := .ref (er mg "BadMany")) (.inl ⟨_, rfl, rfl⟩))) (sa_cons (se_cb (sar_cons sr_var (sar_cons (SE.r se_opq) sar_nil)) (kc_isXG (v := V.ref (er mg "BadMarks")) (c := .ref (er mg "BadMarks")) (.inl ⟨_, rfl, rfl⟩))) (sa_cons (se_cb (sar_cons sr_var (sar_cons (SE.r se_opq) sar_nil)) (kc_isXG (v := V.ref (er mg "BadMost")) (c := .ref (er mg "BadMost")) (.inl ⟨_, rfl, rfl⟩))) sa_nil)))))) kl_cat))))
  (ss_seq (ss_set (SE.x (SL.e (sl_op sr_var (SE.r (SL.e (sl_lst (sa_cons (se_cb (sar_cons sr_var (sar_cons (SE.r se_opq) sar_nil)) (kc_isXG (v := V.ref (er mg "BadMoves")) (c := .ref (er mg "BadMoves")) (.inl ⟨_, rfl, rfl⟩))) (sa_cons (se_cb (sar_cons sr_var (sar_cons (SE.r se_opq) sar_nil)) (kc_isXG (v := V.ref (er mg "BadName")) (c := .ref (er mg "BadName")) (.inl ⟨_, rfl, rfl⟩))) (sa_cons (se_cb (sar_cons sr_var (sar_cons (SE.r se_opq) sar_nil)) (kc_isXG (v := V.ref (er mg "BadParents")) (c := .ref (er mg "BadParents")) (.inl ⟨_, rfl, rfl⟩))) sa_nil)))))) kl_cat))))
  (ss_seq (ss_set (SE.x (SL.e (sl_op sr_var (SE.r (SL.e (sl_lst (sa_cons (se_cb (sar_cons sr_var (sar_cons (SE.r se_opq) sar_nil)) (kc_isXG (v := V.ref (er mg "BadPlace")) (c := .ref (er mg "BadPlace")) (.inl ⟨_, rfl, rfl⟩))) (sa_cons (se_cb (sar_cons sr_var (sar_cons (SE.r se_opq) sar_nil)) (kc_isXG (v := V.ref (er mg "BadPlan")) (c := .ref (er mg "BadPlan")) (.inl ⟨_, rfl, rfl⟩))) (sa_cons (se_cb (sar_cons sr_var (sar_cons (SE.r se_opq) sar_nil)) (kc_isXG (v := V.ref (er mg "BadPrice")) (c := .ref (er mg "BadPrice")) (.inl ⟨_, rfl, rfl⟩))) sa_nil)))))) kl_cat))))
  (ss_seq (ss_set (SE.x (SL.e (sl_op sr_var (SE.r (SL.e (sl_lst (sa_cons (se_cb (sar_cons sr_var (sar_cons (SE.r se_opq) sar_nil)) (kc_isXG (v := V.ref (er mg "BadProgram")) (c := .ref (er mg "BadProgram")) (.inl ⟨_, rfl, rfl⟩))) (sa_cons (se_cb (sar_cons sr_var (sar_cons (SE.r se_opq) sar_nil)) (kc_isXG (v := V.ref (er mg "BadRecord")) (c := .ref (er mg "BadRecord")) (.inl ⟨_, rfl, rfl⟩))) (sa_cons (se_cb (sar_cons sr_var (sar_cons (SE.r se_opq) sar_nil)) (kc_isXG (v := V.ref (er mg "BadRoom")) (c := .ref (er mg "BadRoom")) (.inl ⟨_, rfl, rfl⟩))) sa_nil)))))) kl_cat))))
  (ss_seq (ss_set (SE.x (SL.e (sl_op sr_var (SE.r (SL.e (sl_lst (sa_cons (se_cb (sar_cons sr_var (sar_cons (SE.r se_opq) sar_nil)) (kc_isXG (v := V.ref (er mg "BadRounds")) (c := .ref (er mg "BadRounds")) (.inl ⟨_, rfl, rfl⟩))) (sa_cons (se_cb (sar_cons sr_var (sar_cons (SE.r se_opq) sar_nil)) (kc_isXG (v := V.ref (er mg "BadRows")) (c := .ref (er mg "BadRows")) (.inl ⟨_, rfl, rfl⟩))) (sa_cons (se_cb (sar_cons sr_var (sar_cons (SE.r se_opq) sar_nil)) (kc_isXG (v := V.ref (er mg "BadRule")) (c := .ref (er mg "BadRule")) (.inl ⟨_, rfl, rfl⟩))) sa_nil)))))) kl_cat))))
  (ss_ret (SL.e (sl_op sr_var (SE.r (SL.e (sl_lst (sa_cons (se_cb (sar_cons sr_var (sar_cons (SE.r se_opq) sar_nil)) (kc_isXG (v := V.ref (er mg "BadShape")) (c := .ref (er mg "BadShape")) (.inl ⟨_, rfl, rfl⟩))) (sa_cons (se_cb (sar_cons sr_var (sar_cons (SE.r se_opq) sar_nil)) (kc_isXG (v := V.ref (er mg "BadStanding")) (c := .ref (er mg "BadStanding")) (.inl ⟨_, rfl, rfl⟩))) (sa_cons (se_cb (sar_cons sr_var (sar_cons (SE.r se_opq) sar_nil)) (kc_isXG (v := V.ref (er mg "BadState")) (c := .ref (er mg "BadState")) (.inl ⟨_, rfl, rfl⟩))) sa_nil)))))) kl_cat)))))))))))))))), by decide, fun ds Q h => ?_⟩
  obtain ⟨x, ns, l, rfl, hx, q⟩ := h
  walk_at "pl"
  have hsl := sizeLine_eq
  repeat first
    | refine er_is EF hx (by decide +kernel) ?_
    | refine ⟨by omega, ?_⟩
  exact q

theorem ok_l_er_kinds {k : Nat} (F : Fun K "_law_er_kinds" "_law_er_kinds" s_l_er_kinds f fd) (T : Bt mg) (EF : ErF K mg) (P_l_er_first : Pr P w K mg base "_law_er_first" k ["error"] (spP CA 0 (S_l_er_first mg))) : FnOk P w K mg base CX0 (k + 1) f fd ["error"] (spP CA 0 (S_l_er_kinds mg)) := by
  refine pl_ok F sc_l_er_kinds (fun ds Q h => ?_) fun cdv A outer s H E hr => ?_
  · exact len_l_er_kinds h
  have hu := hu_of hr
  refine ⟨_, _, _, (pss_cons (ps_set (i := 1) sc_l_er_kinds.nd rfl (Or.inl rfl) (pe_lst (pa_cons (pe_callB (r := rIsXG K) call_isXG (by rfl) T.isi (by decide +kernel) (pa_cons (pv 0) (pa_cons (pe_glob (v := V.ref (er mg "BadStory")) rfl (EF.g "BadStory" (by decide +kernel)) rfl) pa_nil))) (pa_cons (pe_callB (r := rIsXG K) call_isXG (by rfl) T.isi (by decide +kernel) (pa_cons (pv 0) (pa_cons (pe_glob (v := V.ref (er mg "BadTable")) rfl (EF.g "BadTable" (by decide +kernel)) rfl) pa_nil))) (pa_cons (pe_callB (r := rIsXG K) call_isXG (by rfl) T.isi (by decide +kernel) (pa_cons (pv 0) (pa_cons (pe_glob (v := V.ref (er mg "BadUsed")) rfl (EF.g "BadUsed" (by decide +kernel)) rfl) pa_nil))) pa_nil)))))
  (pss_cons (ps_set (i := 1) sc_l_er_kinds.nd rfl (Or.inl rfl) (pe_op op_cat (pv 1) (pe_lst (pa_cons (pe_callB (r := rIsXG K) call_isXG (by rfl) T.isi (by decide +kernel) (pa_cons (pv 0) (pa_cons (pe_glob (v := V.ref (er mg "BadValue")) rfl (EF.g "BadValue" (by decide +kernel)) rfl) pa_nil))) (pa_cons (pe_callB (r := rIsXG K) call_isXG (by rfl) T.isi (by decide +kernel) (pa_cons (pv 0) (pa_cons (pe_glob (v := V.ref (er mg "BadValues")) rfl (EF.g "BadValues" (by decide +kernel)) rfl) pa_nil))) (pa_cons (pe_callB (r := rIsXG K) call_isXG (by rfl) T.isi (by decide +kernel) (pa_cons (pv 0) (pa_cons (pe_glob (v := V.ref (er mg "BadVersion")) rfl (EF.g "BadVersion" (by decide +kernel)) rfl) pa_nil))) pa_nil))))))
  (pss_cons (ps_set (i := 1) sc_l_er_kinds.nd rfl (Or.inl rfl) (pe_op op_cat (pv 1) (pe_lst (pa_cons (pe_callB (r := rIsXG K) call_isXG (by rfl) T.isi (by decide +kernel) (pa_cons (pv 0) (pa_cons (pe_glob (v := V.ref (er mg "BadWay")) rfl (EF.g "BadWay" (by decide +kernel)) rfl) pa_nil))) (pa_cons (pe_callB (r := rIsXG K) call_isXG (by rfl) T.isi (by decide +kernel) (pa_cons (pv 0) (pa_cons (pe_glob (v := V.ref (er mg "BadWide")) rfl (EF.g "BadWide" (by decide +kernel)) rfl) pa_nil))) (pa_cons (pe_callB (r := rIsXG K) call_isXG (by rfl) T.isi (by decide +kernel) (pa_cons (pv 0) (pa_cons (pe_glob (v := V.ref (er mg "Fell")) rfl (EF.g "Fell" (by decide +kernel)) rfl) pa_nil))) pa_nil))))))
  (pss_cons (ps_set (i := 1) sc_l_er_kinds.nd rfl (Or.inl rfl) (pe_op op_cat (pv 1) (pe_lst (pa_cons (pe_callB (r := rIsXG K) call_isXG (by rfl) T.isi (by decide +kernel) (pa_cons (pv 0) (pa_cons (pe_glob (v := V.ref (er mg "LastName")) rfl (EF.g "LastName" (by decide +kernel)) rfl) pa_nil))) (pa_cons (pe_callB (r := rIsXG K) call_isXG (by rfl) T.isi (by decide +kernel) (pa_cons (pv 0) (pa_cons (pe_glob (v := V.ref (er mg "NoEntry")) rfl (EF.g "NoEntry" (by decide +kernel)) rfl) pa_nil))) (pa_cons (pe_callB (r := rIsXG K) call_isXG (by rfl) T.isi (by decide +kernel) (pa_cons (pv 0) (pa_cons (pe_glob (v := V.ref (er mg "NotCopied")) rfl (EF.g "NotCopied" (by decide +kernel)) rfl) pa_nil))) pa_nil))))))
  (pss_cons (ps_set (i := 1) sc_l_er_kinds.nd rfl (Or.inl rfl) (pe_op op_cat (pv 1) (pe_lst (pa_cons (pe_callB (r := rIsXG K) call_isXG (by rfl) T.isi (by decide +kernel) (pa_cons (pv 0) (pa_cons (pe_glob (v := V.ref (er mg "NotForest")) rfl (EF.g "NotForest" (by decide +kernel)) rfl) pa_nil))) (pa_cons (pe_callB (r := rIsXG K) call_isXG (by rfl) T.isi (by decide +kernel) (pa_cons (pv 0) (pa_cons (pe_glob (v := V.ref (er mg "NotOver")) rfl (EF.g "NotOver" (by decide +kernel)) rfl) pa_nil))) (pa_cons (pe_callB (r := rIsXG K) call_isXG (by rfl) T.isi (by decide +kernel) (pa_cons (pv 0) (pa_cons (pe_glob (v := V.ref (er mg "TooMany")) rfl (EF.g "TooMany" (by decide +kernel)) rfl) pa_nil))) pa_nil))))))
  (pss_cons (ps_set (i := 1) sc_l_er_kinds.nd rfl (Or.inl rfl) (pe_op op_cat (pv 1) (pe_lst (pa_cons (pe_callB (r := rIsXG K) call_isXG (by rfl) T.isi (by decide +kernel) (pa_cons (pv 0) (pa_cons (pe_glob (v := V.ref (er mg "BadDeed")) rfl (EF.g "BadDeed" (by decide +kernel)) rfl) pa_nil))) (pa_cons (pe_callB (r := rIsXG K) call_isXG (by rfl) T.isi (by decide +kernel) (pa_cons (pv 0) (pa_cons (pe_glob (v := V.ref (er mg "BadEvents")) rfl (EF.g "BadEvents" (by decide +kernel)) rfl) pa_nil))) (pa_cons (pe_callB (r := rIsXG K) call_isXG (by rfl) T.isi (by decide +kernel) (pa_cons (pv 0) (pa_cons (pe_glob (v := V.ref (er mg "BadPuts")) rfl (EF.g "BadPuts" (by decide +kernel)) rfl) pa_nil))) pa_nil))))))
  (pss_cons (ps_set (i := 1) sc_l_er_kinds.nd rfl (Or.inl rfl) (pe_op op_cat (pv 1) (pe_lst (pa_cons (pe_callB (r := rIsXG K) call_isXG (by rfl) T.isi (by decide +kernel) (pa_cons (pv 0) (pa_cons (pe_glob (v := V.ref (er mg "BadText")) rfl (EF.g "BadText" (by decide +kernel)) rfl) pa_nil))) (pa_cons (pe_callB (r := rIsXG K) call_isXG (by rfl) T.isi (by decide +kernel) (pa_cons (pv 0) (pa_cons (pe_glob (v := V.ref (er mg "Full")) rfl (EF.g "Full" (by decide +kernel)) rfl) pa_nil))) (pa_cons (pe_callB (r := rIsXG K) call_isXG (by rfl) T.isi (by decide +kernel) (pa_cons (pv 0) (pa_cons (pe_glob (v := V.ref (er mg "NoRecord")) rfl (EF.g "NoRecord" (by decide +kernel)) rfl) pa_nil))) pa_nil))))))
  (pss_cons (ps_set (i := 1) sc_l_er_kinds.nd rfl (Or.inl rfl) (pe_op op_cat (pv 1) (pe_lst (pa_cons (pe_callB (r := rIsXG K) call_isXG (by rfl) T.isi (by decide +kernel) (pa_cons (pv 0) (pa_cons (pe_glob (v := V.ref (er mg "NoWay")) rfl (EF.g "NoWay" (by decide +kernel)) rfl) pa_nil))) (pa_cons (pe_callB (r := rIsXG K) call_isXG (by rfl) T.isi (by decide +kernel) (pa_cons (pv 0) (pa_cons (pe_glob (v := V.ref (er mg "NotNewest")) rfl (EF.g "NotNewest" (by decide +kernel)) rfl) pa_nil))) (pa_cons (pe_callB (r := rIsXG K) call_isXG (by rfl) T.isi (by decide +kernel) (pa_cons (pv 0) (pa_cons (pe_glob (v := V.ref (er mg "Stopped")) rfl (EF.g "Stopped" (by decide +kernel)) rfl) pa_nil))) pa_nil))))))
  (pss_one (ps_ret (pe_op op_cat (pe_op op_cat (pe_callP P_l_er_first hr rfl (pa_cons (pv 0) pa_nil)) (pv 1)) (pe_lst (pa_cons (pe_callB (r := rIsXG K) call_isXG (by rfl) T.isi (by decide +kernel) (pa_cons (pv 0) (pa_cons (pe_glob (v := V.ref (er mg "TooPointed")) rfl (EF.g "TooPointed" (by decide +kernel)) rfl) pa_nil))) (pa_cons (pe_callB (r := rIsXG K) call_isXG (by rfl) T.isi (by decide +kernel) (pa_cons (pv 0) (pa_cons (pe_glob (v := V.ref (er mg "Unknown")) rfl (EF.g "Unknown" (by decide +kernel)) rfl) pa_nil))) pa_nil)))))))))))))), (ss_seq (ss_set (SE.x (SL.e (sl_lst (sa_cons (se_cb (sar_cons sr_var (sar_cons (SE.r se_opq) sar_nil)) (kc_isXG (v := V.ref (er mg "BadStory")) (c := .ref (er mg "BadStory")) (.inl ⟨_, rfl, rfl⟩))) (sa_cons (se_cb (sar_cons sr_var (sar_cons (SE.r se_opq) sar_nil)) (kc_isXG (v := V.ref (er mg "BadTable")) (c := .ref (er mg "BadTable")) (.inl ⟨_, rfl, rfl⟩))) (sa_cons (se_cb (sar_cons sr_var (sar_cons (SE.r se_opq) sar_nil)) (kc_isXG (v := V.ref (er mg "BadUsed")) (c := .ref (er mg "BadUsed")) (.inl ⟨_, rfl, rfl⟩))) sa_nil)))))))
  (ss_seq (ss_set (SE.x (SL.e (sl_op sr_var (SE.r (SL.e (sl_lst (sa_cons (se_cb (sar_cons sr_var (sar_cons (SE.r se_opq) sar_nil)) (kc_isXG (v := V.ref (er mg "BadValue")) (c := .ref (er mg "BadValue")) (.inl ⟨_, rfl, rfl⟩))) (sa_cons (se_cb (sar_cons sr_var (sar_cons (SE.r se_opq) sar_nil)) (kc_isXG (v := V.ref (er mg "BadValues")) (c := .ref (er mg "BadValues")) (.inl ⟨_, rfl, rfl⟩))) (sa_cons (se_cb (sar_cons sr_var (sar_cons (SE.r se_opq) sar_nil)) (kc_isXG (v := V.ref (er mg "BadVersion")) (c := .ref (er mg "BadVersion")) (.inl ⟨_, rfl, rfl⟩))) sa_nil)))))) kl_cat))))
  (ss_seq (ss_set (SE.x (SL.e (sl_op sr_var (SE.r (SL.e (sl_lst (sa_cons (se_cb (sar_cons sr_var (sar_cons (SE.r se_opq) sar_nil)) (kc_isXG (v := V.ref (er mg "BadWay")) (c := .ref (er mg "BadWay")) (.inl ⟨_, rfl, rfl⟩))) (sa_cons (se_cb (sar_cons sr_var (sar_cons (SE.r se_opq) sar_nil)) (kc_isXG (v := V.ref (er mg "BadWide")) (c := .ref (er mg "BadWide")) (.inl ⟨_, rfl, rfl⟩))) (sa_cons (se_cb (sar_cons sr_var (sar_cons (SE.r se_opq) sar_nil)) (kc_isXG (v := V.ref (er mg "Fell")) (c := .ref (er mg "Fell")) (.inl ⟨_, rfl, rfl⟩))) sa_nil)))))) kl_cat))))
  (ss_seq (ss_set (SE.x (SL.e (sl_op sr_var (SE.r (SL.e (sl_lst (sa_cons (se_cb (sar_cons sr_var (sar_cons (SE.r se_opq) sar_nil)) (kc_isXG (v := V.ref (er mg "LastName")) (c := .ref (er mg "LastName")) (.inl ⟨_, rfl, rfl⟩))) (sa_cons (se_cb (sar_cons sr_var (sar_cons (SE.r se_opq) sar_nil)) (kc_isXG (v := V.ref (er mg "NoEntry")) (c := .ref (er mg "NoEntry")) (.inl ⟨_, rfl, rfl⟩))) (sa_cons (se_cb (sar_cons sr_var (sar_cons (SE.r se_opq) sar_nil)) (kc_isXG (v := V.ref (er mg "NotCopied")) (c := .ref (er mg "NotCopied")) (.inl ⟨_, rfl, rfl⟩))) sa_nil)))))) kl_cat))))
  (ss_seq (ss_set (SE.x (SL.e (sl_op sr_var (SE.r (SL.e (sl_lst (sa_cons (se_cb (sar_cons sr_var (sar_cons (SE.r se_opq) sar_nil)) (kc_isXG (v := V.ref (er mg "NotForest")) (c := .ref (er mg "NotForest")) (.inl ⟨_, rfl, rfl⟩))) (sa_cons (se_cb (sar_cons sr_var (sar_cons (SE.r se_opq) sar_nil)) (kc_isXG (v := V.ref (er mg "NotOver")) (c := .ref (er mg "NotOver")) (.inl ⟨_, rfl, rfl⟩))) (sa_cons (se_cb (sar_cons sr_var (sar_cons (SE.r se_opq) sar_nil)) (kc_isXG (v := V.ref (er mg "TooMany")) (c := .ref (er mg "TooMany")) (.inl ⟨_, rfl, rfl⟩))) sa_nil)))))) kl_cat))))
  (ss_seq (ss_set (SE.x (SL.e (sl_op sr_var (SE.r (SL.e (sl_lst (sa_cons (se_cb (sar_cons sr_var (sar_cons (SE.r se_opq) sar_nil)) (kc_isXG (v := V.ref (er mg "BadDeed")) (c := .ref (er mg "BadDeed")) (.inl ⟨_, rfl, rfl⟩))) (sa_cons (se_cb (sar_cons sr_var (sar_cons (SE.r se_opq) sar_nil)) (kc_isXG (v := V.ref (er mg "BadEvents")) (c := .ref (er mg "BadEvents")) (.inl ⟨_, rfl, rfl⟩))) (sa_cons (se_cb (sar_cons sr_var (sar_cons (SE.r se_opq) sar_nil)) (kc_isXG (v := V.ref (er mg "BadPuts")) (c := .ref (er mg "BadPuts")) (.inl ⟨_, rfl, rfl⟩))) sa_nil)))))) kl_cat))))
  (ss_seq (ss_set (SE.x (SL.e (sl_op sr_var (SE.r (SL.e (sl_lst (sa_cons (se_cb (sar_cons sr_var (sar_cons (SE.r se_opq) sar_nil)) (kc_isXG (v := V.ref (er mg "BadText")) (c := .ref (er mg "BadText")) (.inl ⟨_, rfl, rfl⟩))) (sa_cons (se_cb (sar_cons sr_var (sar_cons (SE.r se_opq) sar_nil)) (kc_isXG (v := V.ref (er mg "Full")) (c := .ref (er mg "Full")) (.inl ⟨_, rfl, rfl⟩))) (sa_cons (se_cb (sar_cons sr_var (sar_cons (SE.r se_opq) sar_nil)) (kc_isXG (v := V.ref (er mg "NoRecord")) (c := .ref (er mg "NoRecord")) (.inl ⟨_, rfl, rfl⟩))) sa_nil)))))) kl_cat))))
  (ss_seq (ss_set (SE.x (SL.e (sl_op sr_var (SE.r (SL.e (sl_lst (sa_cons (se_cb (sar_cons sr_var (sar_cons (SE.r se_opq) sar_nil)) (kc_isXG (v := V.ref (er mg "NoWay")) (c := .ref (er mg "NoWay")) (.inl ⟨_, rfl, rfl⟩))) (sa_cons (se_cb (sar_cons sr_var (sar_cons (SE.r se_opq) sar_nil)) (kc_isXG (v := V.ref (er mg "NotNewest")) (c := .ref (er mg "NotNewest")) (.inl ⟨_, rfl, rfl⟩))) (sa_cons (se_cb (sar_cons sr_var (sar_cons (SE.r se_opq) sar_nil)) (kc_isXG (v := V.ref (er mg "Stopped")) (c := .ref (er mg "Stopped")) (.inl ⟨_, rfl, rfl⟩))) sa_nil)))))) kl_cat))))
  (ss_ret (SL.e (sl_op (SE.r (SL.e (sl_op (SE.r (se_callA (sa_cons se_var sa_nil) mono_l_er_first)) sr_var kl_cat))) (SE.r (SL.e (sl_lst (sa_cons (se_cb (sar_cons sr_var (sar_cons (SE.r se_opq) sar_nil)) (kc_isXG (v := V.ref (er mg "TooPointed")) (c := .ref (er mg "TooPointed")) (.inl ⟨_, rfl, rfl⟩))) (sa_cons (se_cb (sar_cons sr_var (sar_cons (SE.r se_opq) sar_nil)) (kc_isXG (v := V.ref (er mg "Unknown")) (c := .ref (er mg "Unknown")) (.inl ⟨_, rfl, rfl⟩))) sa_nil))))) kl_cat))))))))))), by decide, fun ds Q h => ?_⟩
  obtain ⟨x, ns, l, rfl, hx, q⟩ := h
  walk_at "pl"
  have hsl := sizeLine_eq
  repeat first
    | refine er_is EF hx (by decide +kernel) ?_
    | refine ⟨by omega, ?_⟩
  refine ⟨rfl, hx, ?_⟩
  dsimp only
  refine ⟨by show 42 + 24 ≤ sizeLine; omega, er_is EF hx (by decide +kernel) (er_is EF hx (by decide +kernel) ⟨by omega, by show 66 + 2 ≤ sizeLine; omega, ?_⟩)⟩
  rw [List.map_append] at q
  rw [List.append_assoc]
  exact q

end
end W
end Law

/-! XD9: exceptions with two attributes, made and kept as values. -/
namespace PL
open PySem PySem.Spec PyProof.Rows L2
/-- the init of a class of exceptions with two attributes -/
def spI2 (K : PySem.W.Frag) (f g : Str) : Sp := fun vs H Q _ => ∃ (a C : Addr) (y z : V), vs = [.ref a, y, z] ∧ H a = some (exo a C none) ∧ OexC K C ∧ PySem.W.findIn K (.ref C) f = some none ∧ PySem.W.findIn K (.ref C) g = some none ∧
  ∀ dx, H dx = none → dx ≠ a → Q .non (upd (upd (upd H dx (exd dx [(f, y)])) a (exo a C (some dx))) dx (exd dx [(g, z), (f, y)]))
structure Ex2 (P : Program) (w : World) (K : PySem.W.Frag) (mg : Str → Option Value) (base : Heap) (x f g : Str) : Prop where
  gg : mg x = some (.ref (er mg x))
  o : OexC K (er mg x)
  i : IsX K (er mg x)
  m : PySem.W.exmOne K (.ref (er mg x)) (.ref (er mg "CopyError")) = some true
  xf : XfC K (er mg x)
  nf : PySem.W.findIn K (.ref (er mg x)) f = some none
  ng : PySem.W.findIn K (.ref (er mg x)) g = some none
  iC : ∃ fI fd, PySem.W.findIn K (.ref (er mg x)) "__init__" = some (some (.ref fI)) ∧ PySem.W.typeIn K (.ref fI) = some (.type "function") ∧ FnOk P w K mg base CX0 1 fI fd ["self", f, g] (spI2 K f g) ∧ Binds K fd ["self", f, g] []
/-- self.f = f; self.g = g -/
def iBody2 (f g : Str) (p1 p2 p3 p4 q1 q2 q3 q4 : Pos) : List Stmt := [.Assign [.Attribute (.Name "self" p1) f p2] (.Name f p3) p4, .Assign [.Attribute (.Name "self" q1) g q2] (.Name g q3) q4]
section
variable {P : Program} {w : World} {K : PySem.W.Frag} {mg : Str → Option Value} {base : Heap} {x f g : Str}
theorem ok_init2 {qual : Str} {st : Stmt} {fI : Addr} {fd : FuncData} {p1 p2 p3 p4 q1 q2 q3 q4 : Pos} (F : Fun K "__init__" qual st fI fd) (sc : FnScope ["self", f, g] ["self", f, g] (defScope st)) (hb : defBody st = iBody2 f g p1 p2 p3 p4 q1 q2 q3 q4) (h0 : (defScope st).names.lookup ("self" : Str) = some .local) (h1 : (defScope st).names.lookup f = some .local) (h2 : (defScope st).names.lookup g = some .local)
    (hd : (f == ("__debug__" : Str)) = false) (hc : (f == ("__classdict__" : Str)) = false) (hd2 : (g == ("__debug__" : Str)) = false) (hc2 : (g == ("__classdict__" : Str)) = false) : FnOk P w K mg base CX0 1 fI fd ["self", f, g] (spI2 K f g) := by
  refine F.ok sc (fun vs H Q E ⟨_, _, _, _, e, _⟩ => by rw [e]; rfl) fun cdv A outer s H vs Q E hr ⟨a, C, y, z, e, h3, h4, h5, h6, h7⟩ => ?_
  subst e
  rw [hb]
  exact ⟨_, pss_cons (ps_ost (pv 0 (hv := .inl h0)) (pv 1 (hv := .inl h1) (hd := hd) (hcd := hc))) (pss_one (ps_ost (pv 0 (hv := .inl h0)) (pv 2 (hv := .inl h2) (hd := hd2) (hcd := hc2)))), y, rfl, _, rfl, a, C, rfl, h4, h5, .inl ⟨h3, fun dx n1 n2 => ⟨z, rfl, _, rfl, a, C, rfl, h4, h6, .inr ⟨dx, [(f, y)], upd_same, by rw [upd_ne n2, upd_same], by show 1 ≤ 900; decide, h7 dx n1 n2⟩⟩⟩⟩
theorem ex2_mk {C CE fI : Addr} {fd : FuncData} (gx : mg x = some (.ref C)) (ge : mg "CopyError" = some (.ref CE)) (o : OexC K C) (i : IsX K C) (m : PySem.W.exmOne K (.ref C) (.ref CE) = some true) (hd : PySem.W.hasDictIn K C = true) (nf : PySem.W.findIn K (.ref C) f = some none) (ng : PySem.W.findIn K (.ref C) g = some none)
    (h1 : PySem.W.findIn K (.ref C) "__init__" = some (some (.ref fI))) (h2 : PySem.W.typeIn K (.ref fI) = some (.type "function")) (h3 : FnOk P w K mg base CX0 1 fI fd ["self", f, g] (spI2 K f g)) (h4 : Binds K fd ["self", f, g] []) : Ex2 P w K mg base x f g := by
  have e := er_of gx
  have e2 := er_of ge
  exact ⟨by rw [e]; exact gx, by rw [e]; exact o, by rw [e]; exact i, by rw [e, e2]; exact m, by rw [e]; exact ⟨i.ga, i.gg, i.sb, hd⟩, by rw [e]; exact nf, by rw [e]; exact ng, by rw [e]; exact ⟨fI, fd, h1, h2, h3, h4⟩⟩
end
section
variable {X : Cx}
theorem pmk_x2 {x f g : Str} {k : Nat} {e e2 : Expr} {ta : TA} {p pos : Pos} (T : Ex2 X.prog X.w X.K X.mg X.base x f g) (hr : Room k X.A) (hk : 2 ≤ k) (hg : Gl X x) (ha : PA X [e, e2] ta) (hdb : (x == ("__debug__" : Str)) = false := by decide)
    (he : starEach [e, e2] X.env = (false, eval e X.env) :: starEach [e2] X.env := by rfl) (hpl : (backTo pos (starEach [e2] X.env)).any (·.1) = false := by rfl) : PMk X (.Call (.Name x p) [e, e2] [] pos) (tMkO (er X.mg x) (spI2 X.K f g) [] ta) := by
  obtain ⟨fI, fd, h1, h2, h3, h4⟩ := T.iC
  exact pmk_oex T.o h1 h2 h3 (hr.mono hk) h4 .nil pass0 hg T.gg ha hdb he hpl
end
section
variable {C : Wd → XC → Prop} {K : PySem.W.Frag} {c : Nat} {ta : TA} {am : AM}
/-- X(e, e2) as a value -/
theorem se_mkV2 {C1 : Addr} {f g : Str} (T : OexC K C1) (hf : PySem.W.findIn K (.ref C1) f = some none) (hg : PySem.W.findIn K (.ref C1) g = some none) (h : SA C c ta am) : SE C c (tMkV (tMkO C1 (spI2 K f g) [] ta)) (fun env Q => am env fun ds => ∃ y z, ds = [y, z] ∧ Q (.exc (.ref C1) [g, f] [z, y])) := fun G gw n O env σ H Qd Q hL F hm k =>
  h G gw n O env σ H _ _ hL F hm fun ds vs H1 ⟨y, z, ey, hx⟩ g1 ok1 r1 => by
    subst ey
    obtain ⟨v, u, rfl, ry, rz⟩ : ∃ v u, vs = [v, u] ∧ Rp (Sh O H1) v y ∧ Rp (Sh O H1) u z := by
      cases r1 with
      | cons a r =>
        cases r with
        | cons b r => cases r; exact ⟨_, _, rfl, a, b⟩
    have W1 := F.wl.grow g1 ok1
    refine ⟨by show 2 ≤ 1000; decide, fun a ha => ⟨a, C1, v, u, rfl, upd_same, T, hf, hg, fun dx hdx ne => ⟨rfl, dx, [(g, u), (f, v)], by rw [upd_ne (fun z => ne z.symm), upd_same], upd_same, ?_, ?_⟩⟩⟩
    · rw [upd_ne ne] at hdx; exact hdx
    · rw [upd_ne ne] at hdx
      have e1 : upd (del (upd (upd (upd (upd H1 a (exo a C1 none)) dx (exd dx [(f, v)])) a (exo a C1 (some dx))) dx (exd dx [(g, u), (f, v)])) a) dx (.xd [(g, u), (f, v)]) = upd H1 dx (.xd [(g, u), (f, v)]) := by
        funext b
        by_cases h1 : b = dx
        · rw [h1, upd_same, upd_same]
        · rw [upd_ne h1, upd_ne h1]
          by_cases h2 : b = a
          · rw [h2, del_same, ha]
          · rw [del_ne h2, upd_ne h1, upd_ne h2, upd_ne h1, upd_ne h2]
      rw [e1]
      intro a' ha'
      have ga : Grow G.w H1 (upd H1 dx (.xd [(g, u), (f, v)])) := Grow.new _ hdx
      have oka := Wd.okNew (o := .xd [(g, u), (f, v)]) hdx ok1
      have W2 : Wl G (n + c) O (upd H1 dx (.xd [(g, u), (f, v)])) := W1.grow ga oka
      have gb : Grow G.w (upd H1 dx (.xd [(g, u), (f, v)])) (upd (upd H1 dx (.xd [(g, u), (f, v)])) a' (ExcK (.ref C1) (some dx) a')) := Grow.new _ ha'
      have ne2 : dx ≠ a' := fun z => by rw [← z, upd_same] at ha'; cases ha'
      refine k _ _ _ hx ((g1.trans ga).trans gb) (Wd.okNew ha' oka) (.exc1 ⟨.inl upd_same, W2.free ha'⟩ ⟨.inl ?_, W1.free hdx⟩ rfl (.cons ((rz.mono (sh_grow W1.zo ga)).mono (sh_grow W2.zo gb)) (.cons ((ry.mono (sh_grow W1.zo ga)).mono (sh_grow W2.zo gb)) .nil)))
      rw [upd_ne ne2, upd_same]; rfl
end
end PL

namespace Law
namespace W
open PySem PySem.Spec PyProof.Rows L2 PL
local macro_rules | `(tactic| walk_at "pl") => `(tactic| simp only [sRet, sRetN, sSeq, sNext, sNever, sSet, sPar, sPar3, sIf, sDrop, sFor, sForL, sApp, sAug, sAugIx, sPutD, sSetIx, sTo, sExt, sRem, sBreak, sCont, mAndV, mOrV, mNotV, mAnd, mOr, mNot, mB, mIf, mTru, mCB, mCL, mCall, mC, mVar, mRd, aCons, aNil, mTup, mLst, mLc, mLcK, mLcL, mLcO, mOwn, mDat, m2, ml2, mNeg, mChain, iT, iL, iR1, iR2, iE, iRv, iZ, iET, kIsi, kIsi2, kIx, kI, kIc, kIsN, kIsB, kEqS, kEqB, kLen, kTuple, kList, kInt1, kAbs, kRepL, kMin2, kCatT, kCatL, mGet, mInD, D.key, mLrg, mRevL, mGet2, sPut2, mSlT, mSlL, oNone, oSome, gT, gsC, gsN, env0, wipeE, frz, unOwn, gN, List.length_cons, List.length_nil, List.map_cons, List.map_nil, List.replicate, List.cons_append, List.nil_append, List.append_nil, List.getElem?_cons_zero, List.getElem?_cons_succ, Nat.sub_self, Nat.reduceAdd, Nat.reduceSub, D.ty, D.isN, D.tru, if_true, if_false, Bool.false_eq_true, List.set, id, kAll, iAlt, iET, iE, kRepT, mC, kIx, kEqO])
def erAt (text : Str) (one other : Int) : List (List Str × List D) := [(([], []) : List Str × List D), (([], []) : List Str × List D), (([], []) : List Str × List D), (([], []) : List Str × List D), (([], []) : List Str × List D), (([], []) : List Str × List D), (([], []) : List Str × List D), (([], []) : List Str × List D), (([], []) : List Str × List D), (([], []) : List Str × List D), (([], []) : List Str × List D), (([], []) : List Str × List D), (([], []) : List Str × List D), (([], []) : List Str × List D), (([], []) : List Str × List D), (([], []) : List Str × List D), (([], []) : List Str × List D), (([], []) : List Str × List D), (([], []) : List Str × List D), (([], []) : List Str × List D), (([], []) : List Str × List D), (([], []) : List Str × List D), (([], []) : List Str × List D), (([], []) : List Str × List D), (([], []) : List Str × List D), (([], []) : List Str × List D), (([], []) : List Str × List D), (([], []) : List Str × List D), (([], []) : List Str × List D), (([], []) : List Str × List D), (([], []) : List Str × List D), (([], []) : List Str × List D), (([], []) : List Str × List D), (([], []) : List Str × List D), (([], []) : List Str × List D), (([], []) : List Str × List D), (([], []) : List Str × List D), (([], []) : List Str × List D), (([], []) : List Str × List D), (([], []) : List Str × List D), (([], []) : List Str × List D), (([], []) : List Str × List D), (([], []) : List Str × List D), (([], []) : List Str × List D), (([], []) : List Str × List D), (([], []) : List Str × List D), (([], []) : List Str × List D), (([], []) : List Str × List D), (([], []) : List Str × List D), (([], []) : List Str × List D), (([], []) : List Str × List D), (([], []) : List Str × List D), (([], []) : List Str × List D), (([], []) : List Str × List D), (([], []) : List Str × List D), (([], []) : List Str × List D), (([], []) : List Str × List D), (([("at" : Str)], [D.int one]) : List Str × List D), (([("at" : Str)], [D.int one]) : List Str × List D), (([("at" : Str)], [D.int one]) : List Str × List D), (([("line" : Str)], [D.int one]) : List Str × List D), (([("many" : Str)], [D.int one]) : List Str × List D), (([("record" : Str)], [D.int one]) : List Str × List D), (([("at" : Str)], [D.int one]) : List Str × List D), (([("newest" : Str)], [D.int one]) : List Str × List D), (([("steps" : Str), "word"], [D.int other, D.str text]) : List Str × List D), (([("record" : Str)], [D.int one]) : List Str × List D), (([("name" : Str)], [D.str text]) : List Str × List D)]
def erMade (mg : Str → Option Value) (text : Str) (one other : Int) : List D := ((erFirst ++ erRest).zip (erAt text one other)).map fun p => .exc (.ref (er mg p.1)) p.2.1 p.2.2
def S_l_er_made (mg : Str → Option Value) (ds : List D) (Q : D → Prop) : Prop := ∃ (text : Str) (one other : Int), ds = [.str text, .int one, .int other] ∧ Q (.lst (erMade mg text one other))
theorem len_l_er_made {mg : Str → Option Value} {ds : List D} {Q : D → Prop} (h : S_l_er_made mg ds Q) : ds.length = 3 := by obtain ⟨_, _, _, e, _⟩ := h; rw [e]; rfl
theorem mono_l_er_made {mg : Str → Option Value} : Mono (S_l_er_made mg) := fun ds P Q h ⟨a, b, c, d, k⟩ => ⟨a, b, c, d, h _ k⟩
section
variable {P : Program} {w : World} {K : PySem.W.Frag} {mg : Str → Option Value} {base : Heap} {f : Addr} {fd : FuncData}
theorem ok_l_er_made {k : Nat} (F : Fun K "_law_er_made" "_law_er_made" s_l_er_made f fd) (T : Bt mg) (hk2 : 2 ≤ k) (EX : ∀ x ∈ erX0, Ex0 K mg x) (X_BadDeed : Ex1 P w K mg base "BadDeed" "at") (X_BadEvents : Ex1 P w K mg base "BadEvents" "at") (X_BadPuts : Ex1 P w K mg base "BadPuts" "at") (X_BadText : Ex1 P w K mg base "BadText" "line") (X_Full : Ex1 P w K mg base "Full" "many") (X_NoRecord : Ex1 P w K mg base "NoRecord" "record") (X_NoWay : Ex1 P w K mg base "NoWay" "at") (X_NotNewest : Ex1 P w K mg base "NotNewest" "newest") (X_Stopped : Ex2 P w K mg base "Stopped" "word" "steps") (X_TooPointed : Ex1 P w K mg base "TooPointed" "record") (X_Unknown : Ex1 P w K mg base "Unknown" "name") : FnOk P w K mg base CX0 (k + 1) f fd ["text", "one", "other"] (spP CA 0 (S_l_er_made mg)) := by
  refine pl_ok F sc_l_er_made (fun ds Q h => ?_) fun cdv A outer s H E hr => ?_
  · exact len_l_er_made h
  have hu := hu_of hr
  refine ⟨_, _, _, (pss_cons (ps_set (i := 3) sc_l_er_made.nd rfl (Or.inl rfl) (pe_lst (pa_cons (pe_mkV rfl (pmk_ownA PySem.F.excBase_ValueError (EX "BadBits" (by decide +kernel)).xi (EX "BadBits" (by decide +kernel)).g (EX "BadBits" (by decide +kernel)).k (raises_own (EX "BadBits" (by decide +kernel)).i.sb (EX "BadBits" (by decide +kernel)).t) rfl (pa_cons (pv 0) pa_nil))) (pa_cons (pe_mkV rfl (pmk_ownA PySem.F.excBase_ValueError (EX "BadCell" (by decide +kernel)).xi (EX "BadCell" (by decide +kernel)).g (EX "BadCell" (by decide +kernel)).k (raises_own (EX "BadCell" (by decide +kernel)).i.sb (EX "BadCell" (by decide +kernel)).t) rfl (pa_cons (pv 0) pa_nil))) (pa_cons (pe_mkV rfl (pmk_ownA PySem.F.excBase_ValueError (EX "BadCode" (by decide +kernel)).xi (EX "BadCode" (by decide +kernel)).g (EX "BadCode" (by decide +kernel)).k (raises_own (EX "BadCode" (by decide +kernel)).i.sb (EX "BadCode" (by decide +kernel)).t) rfl (pa_cons (pv 0) pa_nil))) (pa_cons (pe_mkV rfl (pmk_ownA PySem.F.excBase_ValueError (EX "BadContent" (by decide +kernel)).xi (EX "BadContent" (by decide +kernel)).g (EX "BadContent" (by decide +kernel)).k (raises_own (EX "BadContent" (by decide +kernel)).i.sb (EX "BadContent" (by decide +kernel)).t) rfl (pa_cons (pv 0) pa_nil))) (pa_cons (pe_mkV rfl (pmk_ownA PySem.F.excBase_ValueError (EX "BadCopied" (by decide +kernel)).xi (EX "BadCopied" (by decide +kernel)).g (EX "BadCopied" (by decide +kernel)).k (raises_own (EX "BadCopied" (by decide +kernel)).i.sb (EX "BadCopied" (by decide +kernel)).t) rfl (pa_cons (pv 0) pa_nil))) (pa_cons (pe_mkV rfl (pmk_ownA PySem.F.excBase_ValueError (EX "BadCounts" (by decide +kernel)).xi (EX "BadCounts" (by decide +kernel)).g (EX "BadCounts" (by decide +kernel)).k (raises_own (EX "BadCounts" (by decide +kernel)).i.sb (EX "BadCounts" (by decide +kernel)).t) rfl (pa_cons (pv 0) pa_nil))) pa_nil))))))))
  (pss_cons (ps_set (i := 3) sc_l_er_made.nd rfl (Or.inl rfl) (pe_op op_cat (pv 3) (pe_lst (pa_cons (pe_mkV rfl (pmk_ownA PySem.F.excBase_ValueError (EX "BadCourse" (by decide +kernel)).xi (EX "BadCourse" (by decide +kernel)).g (EX "BadCourse" (by decide +kernel)).k (raises_own (EX "BadCourse" (by decide +kernel)).i.sb (EX "BadCourse" (by decide +kernel)).t) rfl (pa_cons (pv 0) pa_nil))) (pa_cons (pe_mkV rfl (pmk_ownA PySem.F.excBase_ValueError (EX "BadDeep" (by decide +kernel)).xi (EX "BadDeep" (by decide +kernel)).g (EX "BadDeep" (by decide +kernel)).k (raises_own (EX "BadDeep" (by decide +kernel)).i.sb (EX "BadDeep" (by decide +kernel)).t) rfl (pa_cons (pv 0) pa_nil))) (pa_cons (pe_mkV rfl (pmk_ownA PySem.F.excBase_ValueError (EX "BadDepth" (by decide +kernel)).xi (EX "BadDepth" (by decide +kernel)).g (EX "BadDepth" (by decide +kernel)).k (raises_own (EX "BadDepth" (by decide +kernel)).i.sb (EX "BadDepth" (by decide +kernel)).t) rfl (pa_cons (pv 0) pa_nil))) (pa_cons (pe_mkV rfl (pmk_ownA PySem.F.excBase_ValueError (EX "BadDisk" (by decide +kernel)).xi (EX "BadDisk" (by decide +kernel)).g (EX "BadDisk" (by decide +kernel)).k (raises_own (EX "BadDisk" (by decide +kernel)).i.sb (EX "BadDisk" (by decide +kernel)).t) rfl (pa_cons (pv 0) pa_nil))) (pa_cons (pe_mkV rfl (pmk_ownA PySem.F.excBase_ValueError (EX "BadEntries" (by decide +kernel)).xi (EX "BadEntries" (by decide +kernel)).g (EX "BadEntries" (by decide +kernel)).k (raises_own (EX "BadEntries" (by decide +kernel)).i.sb (EX "BadEntries" (by decide +kernel)).t) rfl (pa_cons (pv 0) pa_nil))) (pa_cons (pe_mkV rfl (pmk_ownA PySem.F.excBase_ValueError (EX "BadExtra" (by decide +kernel)).xi (EX "BadExtra" (by decide +kernel)).g (EX "BadExtra" (by decide +kernel)).k (raises_own (EX "BadExtra" (by decide +kernel)).i.sb (EX "BadExtra" (by decide +kernel)).t) rfl (pa_cons (pv 0) pa_nil))) pa_nil)))))))))
  (pss_cons (ps_set (i := 3) sc_l_er_made.nd rfl (Or.inl rfl) (pe_op op_cat (pv 3) (pe_lst (pa_cons (pe_mkV rfl (pmk_ownA PySem.F.excBase_ValueError (EX "BadField" (by decide +kernel)).xi (EX "BadField" (by decide +kernel)).g (EX "BadField" (by decide +kernel)).k (raises_own (EX "BadField" (by decide +kernel)).i.sb (EX "BadField" (by decide +kernel)).t) rfl (pa_cons (pv 0) pa_nil))) (pa_cons (pe_mkV rfl (pmk_ownA PySem.F.excBase_ValueError (EX "BadGiven" (by decide +kernel)).xi (EX "BadGiven" (by decide +kernel)).g (EX "BadGiven" (by decide +kernel)).k (raises_own (EX "BadGiven" (by decide +kernel)).i.sb (EX "BadGiven" (by decide +kernel)).t) rfl (pa_cons (pv 0) pa_nil))) (pa_cons (pe_mkV rfl (pmk_ownA PySem.F.excBase_ValueError (EX "BadHeap" (by decide +kernel)).xi (EX "BadHeap" (by decide +kernel)).g (EX "BadHeap" (by decide +kernel)).k (raises_own (EX "BadHeap" (by decide +kernel)).i.sb (EX "BadHeap" (by decide +kernel)).t) rfl (pa_cons (pv 0) pa_nil))) (pa_cons (pe_mkV rfl (pmk_ownA PySem.F.excBase_ValueError (EX "BadItem" (by decide +kernel)).xi (EX "BadItem" (by decide +kernel)).g (EX "BadItem" (by decide +kernel)).k (raises_own (EX "BadItem" (by decide +kernel)).i.sb (EX "BadItem" (by decide +kernel)).t) rfl (pa_cons (pv 0) pa_nil))) (pa_cons (pe_mkV rfl (pmk_ownA PySem.F.excBase_ValueError (EX "BadItems" (by decide +kernel)).xi (EX "BadItems" (by decide +kernel)).g (EX "BadItems" (by decide +kernel)).k (raises_own (EX "BadItems" (by decide +kernel)).i.sb (EX "BadItems" (by decide +kernel)).t) rfl (pa_cons (pv 0) pa_nil))) (pa_cons (pe_mkV rfl (pmk_ownA PySem.F.excBase_ValueError (EX "BadLabels" (by decide +kernel)).xi (EX "BadLabels" (by decide +kernel)).g (EX "BadLabels" (by decide +kernel)).k (raises_own (EX "BadLabels" (by decide +kernel)).i.sb (EX "BadLabels" (by decide +kernel)).t) rfl (pa_cons (pv 0) pa_nil))) pa_nil)))))))))
  (pss_cons (ps_set (i := 3) sc_l_er_made.nd rfl (Or.inl rfl) (pe_op op_cat (pv 3) (pe_lst (pa_cons (pe_mkV rfl (pmk_ownA PySem.F.excBase_ValueError (EX "BadLanded" (by decide +kernel)).xi (EX "BadLanded" (by decide +kernel)).g (EX "BadLanded" (by decide +kernel)).k (raises_own (EX "BadLanded" (by decide +kernel)).i.sb (EX "BadLanded" (by decide +kernel)).t) rfl (pa_cons (pv 0) pa_nil))) (pa_cons (pe_mkV rfl (pmk_ownA PySem.F.excBase_ValueError (EX "BadLater" (by decide +kernel)).xi (EX "BadLater" (by decide +kernel)).g (EX "BadLater" (by decide +kernel)).k (raises_own (EX "BadLater" (by decide +kernel)).i.sb (EX "BadLater" (by decide +kernel)).t) rfl (pa_cons (pv 0) pa_nil))) (pa_cons (pe_mkV rfl (pmk_ownA PySem.F.excBase_ValueError (EX "BadLeast" (by decide +kernel)).xi (EX "BadLeast" (by decide +kernel)).g (EX "BadLeast" (by decide +kernel)).k (raises_own (EX "BadLeast" (by decide +kernel)).i.sb (EX "BadLeast" (by decide +kernel)).t) rfl (pa_cons (pv 0) pa_nil))) (pa_cons (pe_mkV rfl (pmk_ownA PySem.F.excBase_ValueError (EX "BadLeft" (by decide +kernel)).xi (EX "BadLeft" (by decide +kernel)).g (EX "BadLeft" (by decide +kernel)).k (raises_own (EX "BadLeft" (by decide +kernel)).i.sb (EX "BadLeft" (by decide +kernel)).t) rfl (pa_cons (pv 0) pa_nil))) (pa_cons (pe_mkV rfl (pmk_ownA PySem.F.excBase_ValueError (EX "BadLevel" (by decide +kernel)).xi (EX "BadLevel" (by decide +kernel)).g (EX "BadLevel" (by decide +kernel)).k (raises_own (EX "BadLevel" (by decide +kernel)).i.sb (EX "BadLevel" (by decide +kernel)).t) rfl (pa_cons (pv 0) pa_nil))) (pa_cons (pe_mkV rfl (pmk_ownA PySem.F.excBase_ValueError (EX "BadLine" (by decide +kernel)).xi (EX "BadLine" (by decide +kernel)).g (EX "BadLine" (by decide +kernel)).k (raises_own (EX "BadLine" (by decide +kernel)).i.sb (EX "BadLine" (by decide +kernel)).t) rfl (pa_cons (pv 0) pa_nil))) pa_nil)))))))))
  (pss_cons (ps_set (i := 3) sc_l_er_made.nd rfl (Or.inl rfl) (pe_op op_cat (pv 3) (pe_lst (pa_cons (pe_mkV rfl (pmk_ownA PySem.F.excBase_ValueError (EX "BadMany" (by decide +kernel)).xi (EX "BadMany" (by decide +kernel)).g (EX "BadMany" (by decide +kernel)).k (raises_own (EX "BadMany" (by decide +kernel)).i.sb (EX "BadMany" (by decide +kernel)).t) rfl (pa_cons (pv 0) pa_nil))) (pa_cons (pe_mkV rfl (pmk_ownA PySem.F.excBase_ValueError (EX "BadMarks" (by decide +kernel)).xi (EX "BadMarks" (by decide +kernel)).g (EX "BadMarks" (by decide +kernel)).k (raises_own (EX "BadMarks" (by decide +kernel)).i.sb (EX "BadMarks" (by decide +kernel)).t) rfl (pa_cons (pv 0) pa_nil))) (pa_cons (pe_mkV rfl (pmk_ownA PySem.F.excBase_ValueError (EX "BadMost" (by decide +kernel)).xi (EX "BadMost" (by decide +kernel)).g (EX "BadMost" (by decide +kernel)).k (raises_own (EX "BadMost" (by decide +kernel)).i.sb (EX "BadMost" (by decide +kernel)).t) rfl (pa_cons (pv 0) pa_nil))) (pa_cons (pe_mkV rfl (pmk_ownA PySem.F.excBase_ValueError (EX "BadMoves" (by decide +kernel)).xi (EX "BadMoves" (by decide +kernel)).g (EX "BadMoves" (by decide +kernel)).k (raises_own (EX "BadMoves" (by decide +kernel)).i.sb (EX "BadMoves" (by decide +kernel)).t) rfl (pa_cons (pv 0) pa_nil))) (pa_cons (pe_mkV rfl (pmk_ownA PySem.F.excBase_ValueError (EX "BadName" (by decide +kernel)).xi (EX "BadName" (by decide +kernel)).g (EX "BadName" (by decide +kernel)).k (raises_own (EX "BadName" (by decide +kernel)).i.sb (EX "BadName" (by decide +kernel)).t) rfl (pa_cons (pv 0) pa_nil))) (pa_cons (pe_mkV rfl (pmk_ownA PySem.F.excBase_ValueError (EX "BadParents" (by decide +kernel)).xi (EX "BadParents" (by decide +kernel)).g (EX "BadParents" (by decide +kernel)).k (raises_own (EX "BadParents" (by decide +kernel)).i.sb (EX "BadParents" (by decide +kernel)).t) rfl (pa_cons (pv 0) pa_nil))) pa_nil)))))))))
  (pss_cons (ps_set (i := 3) sc_l_er_made.nd rfl (Or.inl rfl) (pe_op op_cat (pv 3) (pe_lst (pa_cons (pe_mkV rfl (pmk_ownA PySem.F.excBase_ValueError (EX "BadPlace" (by decide +kernel)).xi (EX "BadPlace" (by decide +kernel)).g (EX "BadPlace" (by decide +kernel)).k (raises_own (EX "BadPlace" (by decide +kernel)).i.sb (EX "BadPlace" (by decide +kernel)).t) rfl (pa_cons (pv 0) pa_nil))) (pa_cons (pe_mkV rfl (pmk_ownA PySem.F.excBase_ValueError (EX "BadPlan" (by decide +kernel)).xi (EX "BadPlan" (by decide +kernel)).g (EX "BadPlan" (by decide +kernel)).k (raises_own (EX "BadPlan" (by decide +kernel)).i.sb (EX "BadPlan" (by decide +kernel)).t) rfl (pa_cons (pv 0) pa_nil))) (pa_cons (pe_mkV rfl (pmk_ownA PySem.F.excBase_ValueError (EX "BadPrice" (by decide +kernel)).xi (EX "BadPrice" (by decide +kernel)).g (EX "BadPrice" (by decide +kernel)).k (raises_own (EX "BadPrice" (by decide +kernel)).i.sb (EX "BadPrice" (by decide +kernel)).t) rfl (pa_cons (pv 0) pa_nil))) (pa_cons (pe_mkV rfl (pmk_ownA PySem.F.excBase_ValueError (EX "BadProgram" (by decide +kernel)).xi (EX "BadProgram" (by decide +kernel)).g (EX "BadProgram" (by decide +kernel)).k (raises_own (EX "BadProgram" (by decide +kernel)).i.sb (EX "BadProgram" (by decide +kernel)).t) rfl (pa_cons (pv 0) pa_nil))) (pa_cons (pe_mkV rfl (pmk_ownA PySem.F.excBase_ValueError (EX "BadRecord" (by decide +kernel)).xi (EX "BadRecord" (by decide +kernel)).g (EX "BadRecord" (by decide +kernel)).k (raises_own (EX "BadRecord" (by decide +kernel)).i.sb (EX "BadRecord" (by decide +kernel)).t) rfl (pa_cons (pv 0) pa_nil))) (pa_cons (pe_mkV rfl (pmk_ownA PySem.F.excBase_ValueError (EX "BadRoom" (by decide +kernel)).xi (EX "BadRoom" (by decide +kernel)).g (EX "BadRoom" (by decide +kernel)).k (raises_own (EX "BadRoom" (by decide +kernel)).i.sb (EX "BadRoom" (by decide +kernel)).t) rfl (pa_cons (pv 0) pa_nil))) pa_nil)))))))))
  (pss_cons (ps_set (i := 3) sc_l_er_made.nd rfl (Or.inl rfl) (pe_op op_cat (pv 3) (pe_lst (pa_cons (pe_mkV rfl (pmk_ownA PySem.F.excBase_ValueError (EX "BadRounds" (by decide +kernel)).xi (EX "BadRounds" (by decide +kernel)).g (EX "BadRounds" (by decide +kernel)).k (raises_own (EX "BadRounds" (by decide +kernel)).i.sb (EX "BadRounds" (by decide +kernel)).t) rfl (pa_cons (pv 0) pa_nil))) (pa_cons (pe_mkV rfl (pmk_ownA PySem.F.excBase_ValueError (EX "BadRows" (by decide +kernel)).xi (EX "BadRows" (by decide +kernel)).g (EX "BadRows" (by decide +kernel)).k (raises_own (EX "BadRows" (by decide +kernel)).i.sb (EX "BadRows" (by decide +kernel)).t) rfl (pa_cons (pv 0) pa_nil))) (pa_cons (pe_mkV rfl (pmk_ownA PySem.F.excBase_ValueError (EX "BadRule" (by decide +kernel)).xi (EX "BadRule" (by decide +kernel)).g (EX "BadRule" (by decide +kernel)).k (raises_own (EX "BadRule" (by decide +kernel)).i.sb (EX "BadRule" (by decide +kernel)).t) rfl (pa_cons (pv 0) pa_nil))) (pa_cons (pe_mkV rfl (pmk_ownA PySem.F.excBase_ValueError (EX "BadShape" (by decide +kernel)).xi (EX "BadShape" (by decide +kernel)).g (EX "BadShape" (by decide +kernel)).k (raises_own (EX "BadShape" (by decide +kernel)).i.sb (EX "BadShape" (by decide +kernel)).t) rfl (pa_cons (pv 0) pa_nil))) (pa_cons (pe_mkV rfl (pmk_ownA PySem.F.excBase_ValueError (EX "BadStanding" (by decide +kernel)).xi (EX "BadStanding" (by decide +kernel)).g (EX "BadStanding" (by decide +kernel)).k (raises_own (EX "BadStanding" (by decide +kernel)).i.sb (EX "BadStanding" (by decide +kernel)).t) rfl (pa_cons (pv 0) pa_nil))) (pa_cons (pe_mkV rfl (pmk_ownA PySem.F.excBase_ValueError (EX "BadState" (by decide +kernel)).xi (EX "BadState" (by decide +kernel)).g (EX "BadState" (by decide +kernel)).k (raises_own (EX "BadState" (by decide +kernel)).i.sb (EX "BadState" (by decide +kernel)).t) rfl (pa_cons (pv 0) pa_nil))) pa_nil)))))))))
  (pss_cons (ps_set (i := 3) sc_l_er_made.nd rfl (Or.inl rfl) (pe_op op_cat (pv 3) (pe_lst (pa_cons (pe_mkV rfl (pmk_ownA PySem.F.excBase_ValueError (EX "BadStory" (by decide +kernel)).xi (EX "BadStory" (by decide +kernel)).g (EX "BadStory" (by decide +kernel)).k (raises_own (EX "BadStory" (by decide +kernel)).i.sb (EX "BadStory" (by decide +kernel)).t) rfl (pa_cons (pv 0) pa_nil))) (pa_cons (pe_mkV rfl (pmk_ownA PySem.F.excBase_ValueError (EX "BadTable" (by decide +kernel)).xi (EX "BadTable" (by decide +kernel)).g (EX "BadTable" (by decide +kernel)).k (raises_own (EX "BadTable" (by decide +kernel)).i.sb (EX "BadTable" (by decide +kernel)).t) rfl (pa_cons (pv 0) pa_nil))) (pa_cons (pe_mkV rfl (pmk_ownA PySem.F.excBase_ValueError (EX "BadUsed" (by decide +kernel)).xi (EX "BadUsed" (by decide +kernel)).g (EX "BadUsed" (by decide +kernel)).k (raises_own (EX "BadUsed" (by decide +kernel)).i.sb (EX "BadUsed" (by decide +kernel)).t) rfl (pa_cons (pv 0) pa_nil))) (pa_cons (pe_mkV rfl (pmk_ownA PySem.F.excBase_ValueError (EX "BadValue" (by decide +kernel)).xi (EX "BadValue" (by decide +kernel)).g (EX "BadValue" (by decide +kernel)).k (raises_own (EX "BadValue" (by decide +kernel)).i.sb (EX "BadValue" (by decide +kernel)).t) rfl (pa_cons (pv 0) pa_nil))) (pa_cons (pe_mkV rfl (pmk_ownA PySem.F.excBase_ValueError (EX "BadValues" (by decide +kernel)).xi (EX "BadValues" (by decide +kernel)).g (EX "BadValues" (by decide +kernel)).k (raises_own (EX "BadValues" (by decide +kernel)).i.sb (EX "BadValues" (by decide +kernel)).t) rfl (pa_cons (pv 0) pa_nil))) (pa_cons (pe_mkV rfl (pmk_ownA PySem.F.excBase_ValueError (EX "BadVersion" (by decide +kernel)).xi (EX "BadVersion" (by decide +kernel)).g (EX "BadVersion" (by decide +kernel)).k (raises_own (EX "BadVersion" (by decide +kernel)).i.sb (EX "BadVersion" (by decide +kernel)).t) rfl (pa_cons (pv 0) pa_nil))) pa_nil)))))))))
  (pss_cons (ps_set (i := 3) sc_l_er_made.nd rfl (Or.inl rfl) (pe_op op_cat (pv 3) (pe_lst (pa_cons (pe_mkV rfl (pmk_ownA PySem.F.excBase_ValueError (EX "BadWay" (by decide +kernel)).xi (EX "BadWay" (by decide +kernel)).g (EX "BadWay" (by decide +kernel)).k (raises_own (EX "BadWay" (by decide +kernel)).i.sb (EX "BadWay" (by decide +kernel)).t) rfl (pa_cons (pv 0) pa_nil))) (pa_cons (pe_mkV rfl (pmk_ownA PySem.F.excBase_ValueError (EX "BadWide" (by decide +kernel)).xi (EX "BadWide" (by decide +kernel)).g (EX "BadWide" (by decide +kernel)).k (raises_own (EX "BadWide" (by decide +kernel)).i.sb (EX "BadWide" (by decide +kernel)).t) rfl (pa_cons (pv 0) pa_nil))) (pa_cons (pe_mkV rfl (pmk_ownA PySem.F.excBase_ValueError (EX "Fell" (by decide +kernel)).xi (EX "Fell" (by decide +kernel)).g (EX "Fell" (by decide +kernel)).k (raises_own (EX "Fell" (by decide +kernel)).i.sb (EX "Fell" (by decide +kernel)).t) rfl (pa_cons (pv 0) pa_nil))) (pa_cons (pe_mkV rfl (pmk_ownA PySem.F.excBase_ValueError (EX "LastName" (by decide +kernel)).xi (EX "LastName" (by decide +kernel)).g (EX "LastName" (by decide +kernel)).k (raises_own (EX "LastName" (by decide +kernel)).i.sb (EX "LastName" (by decide +kernel)).t) rfl (pa_cons (pv 0) pa_nil))) (pa_cons (pe_mkV rfl (pmk_ownA PySem.F.excBase_ValueError (EX "NoEntry" (by decide +kernel)).xi (EX "NoEntry" (by decide +kernel)).g (EX "NoEntry" (by decide +kernel)).k (raises_own (EX "NoEntry" (by decide +kernel)).i.sb (EX "NoEntry" (by decide +kernel)).t) rfl (pa_cons (pv 0) pa_nil))) (pa_cons (pe_mkV rfl (pmk_ownA PySem.F.excBase_ValueError (EX "NotCopied" (by decide +kernel)).xi (EX "NotCopied" (by decide +kernel)).g (EX "NotCopied" (by decide +kernel)).k (raises_own (EX "NotCopied" (by decide +kernel)).i.sb (EX "NotCopied" (by decide +kernel)).t) rfl (pa_cons (pv 0) pa_nil))) pa_nil)))))))))
  (pss_cons (ps_set (i := 3) sc_l_er_made.nd rfl (Or.inl rfl) (pe_op op_cat (pv 3) (pe_lst (pa_cons (pe_mkV rfl (pmk_ownA PySem.F.excBase_ValueError (EX "NotForest" (by decide +kernel)).xi (EX "NotForest" (by decide +kernel)).g (EX "NotForest" (by decide +kernel)).k (raises_own (EX "NotForest" (by decide +kernel)).i.sb (EX "NotForest" (by decide +kernel)).t) rfl (pa_cons (pv 0) pa_nil))) (pa_cons (pe_mkV rfl (pmk_ownA PySem.F.excBase_ValueError (EX "NotOver" (by decide +kernel)).xi (EX "NotOver" (by decide +kernel)).g (EX "NotOver" (by decide +kernel)).k (raises_own (EX "NotOver" (by decide +kernel)).i.sb (EX "NotOver" (by decide +kernel)).t) rfl (pa_cons (pv 0) pa_nil))) (pa_cons (pe_mkV rfl (pmk_ownA PySem.F.excBase_ValueError (EX "TooMany" (by decide +kernel)).xi (EX "TooMany" (by decide +kernel)).g (EX "TooMany" (by decide +kernel)).k (raises_own (EX "TooMany" (by decide +kernel)).i.sb (EX "TooMany" (by decide +kernel)).t) rfl (pa_cons (pv 0) pa_nil))) (pa_cons (pe_mkV rfl (pmk_x1 X_BadDeed hr hk2 rfl (pa_cons (pv 1) pa_nil))) (pa_cons (pe_mkV rfl (pmk_x1 X_BadEvents hr hk2 rfl (pa_cons (pv 1) pa_nil))) (pa_cons (pe_mkV rfl (pmk_x1 X_BadPuts hr hk2 rfl (pa_cons (pv 1) pa_nil))) pa_nil)))))))))
  (pss_cons (ps_set (i := 3) sc_l_er_made.nd rfl (Or.inl rfl) (pe_op op_cat (pv 3) (pe_lst (pa_cons (pe_mkV rfl (pmk_x1 X_BadText hr hk2 rfl (pa_cons (pv 1) pa_nil))) (pa_cons (pe_mkV rfl (pmk_x1 X_Full hr hk2 rfl (pa_cons (pv 1) pa_nil))) (pa_cons (pe_mkV rfl (pmk_x1 X_NoRecord hr hk2 rfl (pa_cons (pv 1) pa_nil))) (pa_cons (pe_mkV rfl (pmk_x1 X_NoWay hr hk2 rfl (pa_cons (pv 1) pa_nil))) (pa_cons (pe_mkV rfl (pmk_x1 X_NotNewest hr hk2 rfl (pa_cons (pv 1) pa_nil))) (pa_cons (pe_mkV rfl (pmk_x2 X_Stopped hr hk2 rfl (pa_cons (pv 0) (pa_cons (pv 2) pa_nil)))) pa_nil)))))))))
  (pss_one (ps_ret (pe_op op_cat (pv 3) (pe_lst (pa_cons (pe_mkV rfl (pmk_x1 X_TooPointed hr hk2 rfl (pa_cons (pv 1) pa_nil))) (pa_cons (pe_mkV rfl (pmk_x1 X_Unknown hr hk2 rfl (pa_cons (pv 0) pa_nil))) pa_nil))))))))))))))))), (ss_seq (ss_set (SE.x (SL.e (sl_lst (sa_cons (se_mkV0 (sa_cons se_var sa_nil)) (sa_cons (se_mkV0 (sa_cons se_var sa_nil)) (sa_cons (se_mkV0 (sa_cons se_var sa_nil)) (sa_cons (se_mkV0 (sa_cons se_var sa_nil)) (sa_cons (se_mkV0 (sa_cons se_var sa_nil)) (sa_cons (se_mkV0 (sa_cons se_var sa_nil)) sa_nil))))))))))
  (ss_seq (ss_set (SE.x (SL.e (sl_op sr_var (SE.r (SL.e (sl_lst (sa_cons (se_mkV0 (sa_cons se_var sa_nil)) (sa_cons (se_mkV0 (sa_cons se_var sa_nil)) (sa_cons (se_mkV0 (sa_cons se_var sa_nil)) (sa_cons (se_mkV0 (sa_cons se_var sa_nil)) (sa_cons (se_mkV0 (sa_cons se_var sa_nil)) (sa_cons (se_mkV0 (sa_cons se_var sa_nil)) sa_nil))))))))) kl_cat))))
  (ss_seq (ss_set (SE.x (SL.e (sl_op sr_var (SE.r (SL.e (sl_lst (sa_cons (se_mkV0 (sa_cons se_var sa_nil)) (sa_cons (se_mkV0 (sa_cons se_var sa_nil)) (sa_cons (se_mkV0 (sa_cons se_var sa_nil)) (sa_cons (se_mkV0 (sa_cons se_var sa_nil)) (sa_cons (se_mkV0 (sa_cons se_var sa_nil)) (sa_cons (se_mkV0 (sa_cons se_var sa_nil)) sa_nil))))))))) kl_cat))))
  (ss_seq (ss_set (SE.x (SL.e (sl_op sr_var (SE.r (SL.e (sl_lst (sa_cons (se_mkV0 (sa_cons se_var sa_nil)) (sa_cons (se_mkV0 (sa_cons se_var sa_nil)) (sa_cons (se_mkV0 (sa_cons se_var sa_nil)) (sa_cons (se_mkV0 (sa_cons se_var sa_nil)) (sa_cons (se_mkV0 (sa_cons se_var sa_nil)) (sa_cons (se_mkV0 (sa_cons se_var sa_nil)) sa_nil))))))))) kl_cat))))
  (ss_seq (ss_set (SE.x (SL.e (sl_op sr_var (SE.r (SL.e (sl_lst (sa_cons (se_mkV0 (sa_cons se_var sa_nil)) (sa_cons (se_mkV0 (sa_cons se_var sa_nil)) (sa_cons (se_mkV0 (sa_cons se_var sa_nil)) (sa_cons (se_mkV0 (sa_cons se_var sa_nil)) (sa_cons (se_mkV0 (sa_cons se_var sa_nil)) (sa_cons (se_mkV0 (sa_cons se_var sa_nil)) sa_nil))))))))) kl_cat))))
  (ss_seq (ss_set (SE.x (SL.e (sl_op sr_var (SE.r (SL.e (sl_lst (sa_cons (se_mkV0 (sa_cons se_var sa_nil)) (sa_cons (se_mkV0 (sa_cons se_var sa_nil)) (sa_cons (se_mkV0 (sa_cons se_var sa_nil)) (sa_cons (se_mkV0 (sa_cons se_var sa_nil)) (sa_cons (se_mkV0 (sa_cons se_var sa_nil)) (sa_cons (se_mkV0 (sa_cons se_var sa_nil)) sa_nil))))))))) kl_cat))))
  (ss_seq (ss_set (SE.x (SL.e (sl_op sr_var (SE.r (SL.e (sl_lst (sa_cons (se_mkV0 (sa_cons se_var sa_nil)) (sa_cons (se_mkV0 (sa_cons se_var sa_nil)) (sa_cons (se_mkV0 (sa_cons se_var sa_nil)) (sa_cons (se_mkV0 (sa_cons se_var sa_nil)) (sa_cons (se_mkV0 (sa_cons se_var sa_nil)) (sa_cons (se_mkV0 (sa_cons se_var sa_nil)) sa_nil))))))))) kl_cat))))
  (ss_seq (ss_set (SE.x (SL.e (sl_op sr_var (SE.r (SL.e (sl_lst (sa_cons (se_mkV0 (sa_cons se_var sa_nil)) (sa_cons (se_mkV0 (sa_cons se_var sa_nil)) (sa_cons (se_mkV0 (sa_cons se_var sa_nil)) (sa_cons (se_mkV0 (sa_cons se_var sa_nil)) (sa_cons (se_mkV0 (sa_cons se_var sa_nil)) (sa_cons (se_mkV0 (sa_cons se_var sa_nil)) sa_nil))))))))) kl_cat))))
  (ss_seq (ss_set (SE.x (SL.e (sl_op sr_var (SE.r (SL.e (sl_lst (sa_cons (se_mkV0 (sa_cons se_var sa_nil)) (sa_cons (se_mkV0 (sa_cons se_var sa_nil)) (sa_cons (se_mkV0 (sa_cons se_var sa_nil)) (sa_cons (se_mkV0 (sa_cons se_var sa_nil)) (sa_cons (se_mkV0 (sa_cons se_var sa_nil)) (sa_cons (se_mkV0 (sa_cons se_var sa_nil)) sa_nil))))))))) kl_cat))))
  (ss_seq (ss_set (SE.x (SL.e (sl_op sr_var (SE.r (SL.e (sl_lst (sa_cons (se_mkV0 (sa_cons se_var sa_nil)) (sa_cons (se_mkV0 (sa_cons se_var sa_nil)) (sa_cons (se_mkV0 (sa_cons se_var sa_nil)) (sa_cons (se_mkV1 X_BadDeed.o X_BadDeed.no (sa_cons se_var sa_nil)) (sa_cons (se_mkV1 X_BadEvents.o X_BadEvents.no (sa_cons se_var sa_nil)) (sa_cons (se_mkV1 X_BadPuts.o X_BadPuts.no (sa_cons se_var sa_nil)) sa_nil))))))))) kl_cat))))
  (ss_seq (ss_set (SE.x (SL.e (sl_op sr_var (SE.r (SL.e (sl_lst (sa_cons (se_mkV1 X_BadText.o X_BadText.no (sa_cons se_var sa_nil)) (sa_cons (se_mkV1 X_Full.o X_Full.no (sa_cons se_var sa_nil)) (sa_cons (se_mkV1 X_NoRecord.o X_NoRecord.no (sa_cons se_var sa_nil)) (sa_cons (se_mkV1 X_NoWay.o X_NoWay.no (sa_cons se_var sa_nil)) (sa_cons (se_mkV1 X_NotNewest.o X_NotNewest.no (sa_cons se_var sa_nil)) (sa_cons (se_mkV2 X_Stopped.o X_Stopped.nf X_Stopped.ng (sa_cons se_var (sa_cons se_var sa_nil))) sa_nil))))))))) kl_cat))))
  (ss_ret (SL.e (sl_op sr_var (SE.r (SL.e (sl_lst (sa_cons (se_mkV1 X_TooPointed.o X_TooPointed.no (sa_cons se_var sa_nil)) (sa_cons (se_mkV1 X_Unknown.o X_Unknown.no (sa_cons se_var sa_nil)) sa_nil))))) kl_cat)))))))))))))), by decide, fun ds Q h => ?_⟩
  obtain ⟨text, one, other, rfl, q⟩ := h
  walk_at "pl"
  have hsl := sizeLine_eq
  have h1 : ([D.str text] : List D).length ≤ sizeLine := by show 1 ≤ sizeLine; omega
  repeat first
    | refine ⟨h1, ?_⟩
    | refine ⟨_, rfl, ?_⟩
    | refine ⟨_, _, rfl, ?_⟩
    | refine ⟨by omega, ?_⟩
  exact q

end
end W
end Law

/-! XD10: exceptions with an own init, made by keywords (all, or behind some by position), and kept as values. -/
namespace PySem
namespace XKw
open PySem.W PySem.Calls PyProof.Rows PySem.HandSPX
section
variable {M : Model} {A : Around} {E : Value → Shared → Prop} {h : Heap} {g : Array GenState} {d : Drawn} {t : Nat} {os : OsState}
variable {nm q : PySem.Str} {C N : Addr} {bs bm bmB : List Value} {hdct : Bool} {sn : List PySem.Str} {sub : List Value} {ab : Bool} {col : Option Bool} {dd : Option Addr} {k0 k1 k2 k3 k5 : Option Value} {B newId initId : String} {kw : List (PySem.Str × Value)}
theorem check_any (sh1 sh2 : String) (r : Manifest.Receiver) (ps : List Manifest.Param) (f s : String) (n : Nat) (ks : List PySem.Str) : Bind.check ⟨.any, sh1, sh2, r, ps⟩ f s n ks = pure () := rfl
theorem check_new_ownK (F : ExcBaseFacts B newId initId bmB) (hT : ∀ X : String, bm.contains (.type X) = bmB.contains (.type X)) {rest : List Value} {Q : Unit → Shared → Prop}
    (hC : h.get? C = some (excClassObj nm q C N bs bm hdct sn sub ab col dd k0 k1 k2 k3 k5 newId)) (hq : Q () ⟨h, g, d, t, os⟩) : wpAny M A (checkBuiltinCall newId ⟨.ref C :: rest, kw⟩) Q E ⟨h, g, d, t, os⟩ := by
  have hcont : (Value.ref C :: bm).contains (.type B) = true := by rw [List.contains_cons, hT, F.hasB, Bool.or_true]
  have hstar := F.noStar
  simp only [checkBuiltinCall, F.newKind, F.newSplit, F.newRow]
  repeat (first | refine wpAny_loadPart_at hC ?_ | (refine wpAny_isSubtype_exc hC ?_; rw [hcont]) | refine wpAny_staticBase_exc hC ?_ | refine wpAny_madeBy_exc hC ?_ | simp only [bne_self_eq_false, Bool.false_eq_true, if_false] | wp_step)
  exact hq
end
section
variable {prog : Program} {w : World} {A : Around} {E : Value → Shared → Prop} {R : Result → Shared → Prop} {h : Heap} {g : Array GenState} {d : Drawn} {t : Nat} {os : OsState}
variable {nm q : PySem.Str} {C N : Addr} {bs bm bmB : List Value} {hdct : Bool} {sn : List PySem.Str} {sub : List Value} {ab : Bool} {col : Option Bool} {dd : Option Addr} {k0 k1 k2 k3 k5 : Option Value} {B newId initId : String} {kw : List (PySem.Str × Value)}
theorem new_ownK (F : ExcBaseFacts B newId initId bmB) (hT : ∀ X : String, bm.contains (.type X) = bmB.contains (.type X)) {rest : List Value}
    (hC : h.get? C = some (excClassObj nm q C N bs bm hdct sn sub ab col dd k0 k1 k2 k3 k5 newId))
    (hq : R (.ok (.ret (.ref (h.objs.size + 1)))) ⟨(h.push { cls := .type "tuple", data := .seq rest.toArray }).push
      { cls := .ref C, data := .fields #[.ref h.objs.size, .none, .none, .none, .bool false, .none] }, g, d, t, os⟩) (hrest : rest.length ≤ sizeLine) :
    codeAny (model prog w) A (.builtin newId ⟨.ref C :: rest, kw⟩) R ⟨h, g, d, t, os⟩ := by
  have hends := F.ends
  have hcB : (Value.ref C :: bm).contains (.type B) = true := by rw [List.contains_cons, hT, F.hasB, Bool.or_true]
  have hcA : (Value.ref C :: bm).contains (.type "AttributeError") = false := by rw [List.contains_cons, hT, F.noAttr]; rfl
  have hcN : (Value.ref C :: bm).contains (.type "NameError") = false := by rw [List.contains_cons, hT, F.noName]; rfl
  refine codeAny_builtinAt F.entry ?_
  unfold Builtin.«BaseException.__new__»
  refine wpAt_bind ?_
  show wpAt _ _ _ (stack >>= _) _ _ _
  refine wpAt_bind (wpAt_stack fun p below => wpAt_of_wpAny ?_)
  wp_walk
  refine wpAt_of_wpAny ?_
  rw [F.owner]
  repeat (first | with_reducible refine wpAny_madeHere_exc F.canon hC ?_ | with_reducible refine wpAny_loadPart_at hC ?_ | (with_reducible refine wpAny_isSubtype_exc hC ?_; first | rw [hcB] | rw [hcA] | rw [hcN]) | wp_step)
  show R _ _
  rw [Heap.size_push]
  exact hq
theorem type_call_ownK (F : ExcBaseFacts B newId initId bmB) (hT : ∀ X : String, bm.contains (.type X) = bmB.contains (.type X)) {rest : List Value} {fI : Addr} {Q : Fin → Shared → Prop}
    (hC : h.get? C = some (excClassObj nm q C N bs bm hdct sn sub ab col dd k0 k1 k2 k3 k5 newId))
    (hi : W.Looks (model prog w) h (typeLookup (.ref C) "__init__") (some (.ref fI))) (hb : ∀ self, W.Looks (model prog w) h (bindSpecial (.ref fI) self) (.ref fI, [self])) (hrest : rest.length ≤ sizeLine)
    (hq : codeAny (model prog w) A (.call (.ref fI) ⟨.ref (h.objs.size + 1) :: rest, kw⟩)
      (fun r s' => match r with | .ok (.ret v) => v = .none ∧ Q (.done (.ret (.ref (h.objs.size + 1)))) s' | .ok _ => False | .error e => E e s')
      ⟨(h.push (W.kdv_tup rest)).push (excO C h.objs.size), g, d, t, os⟩) :
    wpAny (model prog w) A (Builtin.«type.__call__» ⟨.ref C :: rest, kw⟩) Q E ⟨h, g, d, t, os⟩ := by
  repeat (first | with_reducible refine wpAny_loadPart_at hC ?_ | with_reducible refine wpAny_madeBy_exc hC ?_ | wp_step)
  refine codeAny_call_builtin_code (Code.quiet_builtin _ F.quiet) (check_new_ownK F hT hC ?_)
  refine new_ownK F hT hC ?_ hrest
  show wpAny _ _ _ _ _ _
  have k : ∀ b o, h.get? b = some o → ((h.push (W.kdv_tup rest)).push (excO C h.objs.size)).get? b = some o := fun b o e => Heap.get?_push_of_some _ (Heap.get?_push_of_some _ e)
  have hC₁ := k _ _ hC
  have hget : ((h.push (W.kdv_tup rest)).push (excO C h.objs.size)).get? (h.objs.size + 1) = some (excO C h.objs.size) := by heap_get
  have hcC : (Value.ref C :: bm).contains (.ref C) = true := by simp
  have i1 := hi.keeps k
  have b1 := (hb (.ref (h.objs.size + 1))).keeps k
  unfold isInstance
  repeat (first | with_reducible refine wpAny_loadPart_at hget ?_ | (with_reducible refine wpAny_isSubtype_exc hC₁ ?_; rw [hcC]) | wp_step)
  show wpAny _ _ (typeLookup (.ref C) _) _ _ _
  refine i1.at ?_
  refine wpAny_holding (wpAny_bind (b1.at ?_))
  refine wpAny_bind (wpAny_call (codeAny_mono hq fun r s' z => ?_))
  rcases r with e | (v | _ | _ | _) <;> first | exact z | exact z.elim | skip
  obtain ⟨rfl, z⟩ := z
  first
    | exact wpAny_pure (wpAny_pure z)
    | (wp_walk; exact z)
theorem call_ownK (F : ExcBaseFacts B newId initId bmB) (hT : ∀ X : String, bm.contains (.type X) = bmB.contains (.type X)) {rest : List Value} {fI : Addr}
    (hC : h.get? C = some (excClassObj nm q C N bs bm hdct sn sub ab col dd k0 k1 k2 k3 k5 newId)) (typ : W.Looks (model prog w) h (isInstance (.ref C) (.type "type")) true)
    (hi : W.Looks (model prog w) h (typeLookup (.ref C) "__init__") (some (.ref fI))) (hb : ∀ self, W.Looks (model prog w) h (bindSpecial (.ref fI) self) (.ref fI, [self])) (hrest : rest.length ≤ sizeLine)
    (hq : codeAny (model prog w) (A.under (.builtin "type.__call__" ⟨.ref C :: rest, kw⟩)) (.call (.ref fI) ⟨.ref (h.objs.size + 1) :: rest, kw⟩) (W.InitBack (h.objs.size + 1) R)
      ⟨(h.push (W.kdv_tup rest)).push (excO C h.objs.size), g, d, t, os⟩) :
    codeAny (model prog w) A (.call (.ref C) ⟨rest, kw⟩) R ⟨h, g, d, t, os⟩ := by
  have f1 := tc_lookup
  have f2 := tc_bind (.ref C)
  have hTy : (⟨h, g, d, t, os⟩ : Shared).TypeIs (.ref C) "type" := ⟨_, hC, rfl⟩
  refine codeAny_of_tree ?_
  show wpAny _ _ (callAny (.ref C) _) _ _ _
  repeat (any_goals (first | assumption | with_reducible refine wpAny_loadPart_at hC ?_ | wp_step))
  refine ⟨rfl, ?_⟩
  refine codeAny_call_builtin_at (Code.quiet_builtin _ (by decide +kernel)) entry_typeCall (W.check_slot tc_kind tc_split typ (W.tc_args _ _ _) (type_call_ownK F hT hC hi hb hrest ?_))
  refine codeAny_mono hq fun r s' z => ?_
  rcases r with e | (v | _ | _ | _) <;> exact z
end
end XKw
end PySem
namespace PL
open PySem PySem.Spec PyProof.Rows L2
theorem looks_typ {M : Model} {K : PySem.W.Frag} {h : Heap} {C : Addr} (x : K.In h) (e : PySem.W.typeIn K (.ref C) = some (.type "type")) : PySem.W.Looks M h (isInstance (.ref C) (.type "type")) true :=
  (PySem.W.looks_typeIn x e).andThen (PySem.W.looks_subIn x (show PySem.W.subIn K (.type "type") (.type "type") = some true by kernel_rfl))
/-- C(.., k = e), C's own __init__ keeping sp -/
def tMkOK (C : Addr) (sp : Sp) (gV : List V → List V → List V) (ta tk : TA) : L2.St → Hp → XK → Prop := fun σ H Q => ta σ H fun vs H0 => tk σ H0 fun zs H1 => vs.length ≤ 1000 ∧ ∀ a, H1 a = none → sp (gV (.ref a :: vs) zs) (upd H1 a (exo a C none))
  (fun v H2 => v = .non ∧ ∃ (d : Addr) (fs : List (Str × V)), H2 a = some (exo a C (some d)) ∧ H2 d = some (exd d fs) ∧ H1 d = none ∧ Q (.ref C) (some d) (upd (del H2 a) d (.xd fs))) (fun _ _ _ => False)
section
variable {X : Cx} {e : Expr} {es : List Expr} {kws : List Keyword} {ta tk : TA} {p pos : Pos} {CX : CXT} {x : Str} {C fI : Addr} {k : Nat} {fd : FuncData} {ps ks : List Str} {sp : Sp} {g : List Value → List Value → List Value} {gV : List V → List V → List V}
theorem mkK_run {pins : List (Addr × Obj)} {σ : L2.St} {H1 : Hp} {s1 : Shared} {Q : XK} {us ws : List Value} {vs zs : List V} (T : OexC X.K C) (iC : PySem.W.findIn X.K (.ref C) "__init__" = some (some (.ref fI))) (tI : PySem.W.typeIn X.K (.ref fI) = some (.type "function"))
    (F1 : FnOk X.prog X.w X.K X.mg X.base CX k fI fd ps sp) (hr : Room (k + 1) X.A) (hb : KBinds X.K fd ps ks g gV) (hx : Passes CX X (fun _ _ _ => False)) (I1 : Inv X pins σ H1 s1) (r1 : Vals vs us) (rz : Vals zs ws)
    (hz : vs.length ≤ 1000) (q1 : ∀ a, H1 a = none → sp (gV (.ref a :: vs) zs) (upd H1 a (exo a C none))
      (fun v H2 => v = .non ∧ ∃ (d : Addr) (fs : List (Str × V)), H2 a = some (exo a C (some d)) ∧ H2 d = some (exd d fs) ∧ H1 d = none ∧ Q (.ref C) (some d) (upd (del H2 a) d (.xd fs))) (fun _ _ _ => False)) :
    wpAny (model X.prog X.w) X.A (call (.ref C) us (ks.zip ws)) (MkP X pins σ Q) X.xe s1 := by
  obtain ⟨nm, q, N, bs, bm, sn, sub, ab, col, dd, k0, k1, k2, k3, k5, hC, hbm⟩ := T.cls
  obtain ⟨hp, gg, dr, tk, os⟩ := s1
  have hsz : hp.objs.size ≤ hp.objs.size + 1 := Nat.le_succ _
  have hn : H1 (hp.objs.size + 1) = none := I1.hok.fresh hsz
  have hq := q1 (hp.objs.size + 1) hn
  have kk : ∀ b o, hp.get? b = some o → ((hp.push (PySem.W.kdv_tup us)).push (PySem.HandSPX.excO C hp.objs.size)).get? b = some o := fun b o e => Heap.get?_push_of_some _ (Heap.get?_push_of_some _ e)
  have hget : ((hp.push (PySem.W.kdv_tup us)).push (PySem.HandSPX.excO C hp.objs.size)).get? (hp.objs.size + 1) = some (PySem.HandSPX.excO C hp.objs.size) := by heap_get
  have I2 : Inv X pins σ (upd H1 (hp.objs.size + 1) (exo (hp.objs.size + 1) C none)) ⟨(hp.push (PySem.W.kdv_tup us)).push (PySem.HandSPX.excO C hp.objs.size), gg, dr, tk, os⟩ :=
    I1.laid (t' := tk) (a := hp.objs.size + 1) (o := exo (hp.objs.size + 1) C none) (h' := (hp.push (PySem.W.kdv_tup us)).push (PySem.HandSPX.excO C hp.objs.size)) kk hsz (exo_ok hget)
  have r2 : Vals (gV (V.ref (hp.objs.size + 1) :: vs) zs) (g (Value.ref (hp.objs.size + 1) :: us) ws) := hb.rel (.cons rfl r1) rz
  have hl : (g (Value.ref (hp.objs.size + 1) :: us) ws).length = ps.length := by
    rw [← r2.length]
    exact F1.len _ _ _ _ hq
  have hus : us.length ≤ sizeLine := by
    rw [← Paired.length r1, sizeLine_eq]
    omega
  refine wpAny_call (XKw.call_ownK F.excBase_ValueError (fun Y => PySem.HandSPX.refsVE_contains Y bm hbm) (I1.kIn _ _ hC) (looks_typ I1.kIn T.tyC) (PySem.W.looks_findIn I1.kIn iC) (fun self => PySem.W.bind_fn I1.kIn self tI) hus
    (codeAny_mono (F1.run _ X.stack _ _ ⟨Value.ref (hp.objs.size + 1) :: us, ks.zip ws⟩ (g (Value.ref (hp.objs.size + 1) :: us) ws) _ _ (fun _ _ _ => False) (hr.make C us (ks.zip ws)) (I2.env0.make C us (ks.zip ws)) (hb.to _ (Value.ref (hp.objs.size + 1) :: us) ws I2.kIn hl) r2 hq) fun r s' hq' => ?_))
  cases r with
  | error er => exact hx pins σ _ _ er s' I2 hq'
  | ok fl =>
    cases fl with
    | ret u =>
      obtain ⟨v, H2, os2, bare2, un2, hok2, rv, ev, d, fs, ea, ed, hd1, q2⟩ := hq'
      subst ev
      obtain ⟨h2, g2, d2, t2, os'⟩ := s'
      exact ⟨rv, mk_end (raises_own T.exC T.tyC) I1 hsz kk un2 hok2 os2 bare2 ea ed hd1 q2⟩
    | next => exact False.elim hq'
    | brk => exact False.elim hq'
    | cont => exact False.elim hq'
theorem pmk_oexK0 (T : OexC X.K C) (iC : PySem.W.findIn X.K (.ref C) "__init__" = some (some (.ref fI))) (tI : PySem.W.typeIn X.K (.ref fI) = some (.type "function"))
    (F1 : FnOk X.prog X.w X.K X.mg X.base CX k fI fd ps sp) (hr : Room (k + 1) X.A) (hb : KBinds X.K fd ps ks g gV) (hx : Passes CX X (fun _ _ _ => False)) (hg : Gl X x) (hm : X.mg x = some (.ref C)) (hkw : PK X kws tk)
    (hall : (backToKw pos (keywordEach kws X.env)).all (·.1.isSome) = true := by rfl) (hks : (backToKw pos (keywordEach kws X.env)).filterMap (·.1) = ks := by rfl)
    (hdb : (x == ("__debug__" : Str)) = false := by decide) (hpl : ((backTo pos (starEach [] X.env)).any (·.1) || (backToKw pos (keywordEach kws X.env)).any (·.1.isNone)) = false := by rfl) :
    PMk X (.Call (.Name x p) [] kws pos) (tMkOK C sp gV tNil tk) := by
  intro pins s σ H Q I h
  refine wpAny_Call_Name_kw (ld_glob I hg hm ?_ hdb)
  refine PySem.W.callWith_KW0 (h₀ := X.base) I.ok.mod.kin T.kC hall ?_ hpl
  refine thn (hkw.run pos pins s σ H _ I h) fun ws s2 ⟨zs, H2, I2, rz, q2⟩ => ⟨I2.kIn, ?_⟩
  rw [hks]
  exact mkK_run T iC tI F1 hr hb hx I2 .nil rz q2.1 q2.2
theorem pmk_oexKM (T : OexC X.K C) (iC : PySem.W.findIn X.K (.ref C) "__init__" = some (some (.ref fI))) (tI : PySem.W.typeIn X.K (.ref fI) = some (.type "function"))
    (F1 : FnOk X.prog X.w X.K X.mg X.base CX k fI fd ps sp) (hr : Room (k + 1) X.A) (hb : KBinds X.K fd ps ks g gV) (hx : Passes CX X (fun _ _ _ => False)) (hg : Gl X x) (hm : X.mg x = some (.ref C)) (ha : PA X (e :: es) ta) (hkw : PK X kws tk)
    (hall : (backToKw pos (keywordEach kws X.env)).all (·.1.isSome) = true := by rfl) (hks : (backToKw pos (keywordEach kws X.env)).filterMap (·.1) = ks := by rfl)
    (hdb : (x == ("__debug__" : Str)) = false := by decide) (he : starEach (e :: es) X.env = (false, eval e X.env) :: starEach es X.env := by rfl)
    (hpl : ((backTo pos (starEach (e :: es) X.env)).any (·.1) || (backToKw pos (keywordEach kws X.env)).any (·.1.isNone)) = false := by rfl) :
    PMk X (.Call (.Name x p) (e :: es) kws pos) (tMkOK C sp gV ta tk) := by
  intro pins s σ H Q I h
  refine wpAny_Call_Name_kw (ld_glob I hg hm ?_ hdb)
  refine PySem.W.callWith_KW (h₀ := X.base) I.ok.mod.kin T.kC hall ?_ hpl he
  refine thn (ha.run pos pins s σ H _ I h) fun us s1 ⟨vs, H1, I1, r1, q1⟩ => thn (hkw.run pos pins s1 σ H1 _ I1 q1) fun ws s2 ⟨zs, H2, I2, rz, q2⟩ => ⟨I2.kIn, ?_⟩
  rw [hks]
  exact mkK_run T iC tI F1 hr hb hx I2 r1 rz q2.1 q2.2
end
/-- C(f = e) -/
def gS {α : Type} (us ws : List α) : List α := us ++ ws
section
variable {P : Program} {w : World} {K : PySem.W.Frag} {mg : Str → Option Value} {base : Heap}
/-- a class of exceptions of one attribute, made by its keyword -/
structure Ex1K (P : Program) (w : World) (K : PySem.W.Frag) (mg : Str → Option Value) (base : Heap) (x f : Str) : Prop where
  e : Ex1 P w K mg base x f
  iC : ∃ fI fd, PySem.W.findIn K (.ref (er mg x)) "__init__" = some (some (.ref fI)) ∧ PySem.W.typeIn K (.ref fI) = some (.type "function") ∧ FnOk P w K mg base CX0 1 fI fd ["self", f] (spI K f) ∧ KBinds K fd ["self", f] [f] (gM 1 [0]) (gM 1 [0])
structure Ex2K (P : Program) (w : World) (K : PySem.W.Frag) (mg : Str → Option Value) (base : Heap) (x f g : Str) : Prop where
  e : Ex2 P w K mg base x f g
  iC : ∃ fI fd, PySem.W.findIn K (.ref (er mg x)) "__init__" = some (some (.ref fI)) ∧ PySem.W.typeIn K (.ref fI) = some (.type "function") ∧ FnOk P w K mg base CX0 1 fI fd ["self", f, g] (spI2 K f g) ∧ KBinds K fd ["self", f, g] [g, f] (gM 1 [1, 0]) (gM 1 [1, 0]) ∧ KBinds K fd ["self", f, g] [g] (gM 2 [0]) (gM 2 [0])
end
section
variable {X : Cx} {x f g : Str} {k : Nat} {e : Expr} {kws : List Keyword} {ta tk : TA} {p pos : Pos}
theorem pmk_x1K (T : Ex1K X.prog X.w X.K X.mg X.base x f) (hr : Room k X.A) (hk : 2 ≤ k) (hg : Gl X x) (hkw : PK X kws tk)
    (hall : (backToKw pos (keywordEach kws X.env)).all (·.1.isSome) = true := by rfl) (hks : (backToKw pos (keywordEach kws X.env)).filterMap (·.1) = [f] := by rfl)
    (hdb : (x == ("__debug__" : Str)) = false := by decide) (hpl : ((backTo pos (starEach [] X.env)).any (·.1) || (backToKw pos (keywordEach kws X.env)).any (·.1.isNone)) = false := by rfl) :
    PMk X (.Call (.Name x p) [] kws pos) (tMkOK (er X.mg x) (spI X.K f) (gM 1 [0]) tNil tk) := by
  obtain ⟨fI, fd, h1, h2, h3, h4⟩ := T.iC
  exact pmk_oexK0 T.e.o h1 h2 h3 (hr.mono hk) h4 pass0 hg T.e.g hkw hall hks hdb hpl
theorem pmk_x2K (T : Ex2K X.prog X.w X.K X.mg X.base x f g) (hr : Room k X.A) (hk : 2 ≤ k) (hg : Gl X x) (hkw : PK X kws tk)
    (hall : (backToKw pos (keywordEach kws X.env)).all (·.1.isSome) = true := by rfl) (hks : (backToKw pos (keywordEach kws X.env)).filterMap (·.1) = [g, f] := by rfl)
    (hdb : (x == ("__debug__" : Str)) = false := by decide) (hpl : ((backTo pos (starEach [] X.env)).any (·.1) || (backToKw pos (keywordEach kws X.env)).any (·.1.isNone)) = false := by rfl) :
    PMk X (.Call (.Name x p) [] kws pos) (tMkOK (er X.mg x) (spI2 X.K f g) (gM 1 [1, 0]) tNil tk) := by
  obtain ⟨fI, fd, h1, h2, h3, h4, h5⟩ := T.iC
  exact pmk_oexK0 T.e.o h1 h2 h3 (hr.mono hk) h4 pass0 hg T.e.gg hkw hall hks hdb hpl
theorem pmk_x2M (T : Ex2K X.prog X.w X.K X.mg X.base x f g) (hr : Room k X.A) (hk : 2 ≤ k) (hg : Gl X x) (ha : PA X [e] ta) (hkw : PK X kws tk)
    (hall : (backToKw pos (keywordEach kws X.env)).all (·.1.isSome) = true := by rfl) (hks : (backToKw pos (keywordEach kws X.env)).filterMap (·.1) = [g] := by rfl)
    (hdb : (x == ("__debug__" : Str)) = false := by decide) (he : starEach [e] X.env = (false, eval e X.env) :: starEach [] X.env := by rfl)
    (hpl : ((backTo pos (starEach [e] X.env)).any (·.1) || (backToKw pos (keywordEach kws X.env)).any (·.1.isNone)) = false := by rfl) :
    PMk X (.Call (.Name x p) [e] kws pos) (tMkOK (er X.mg x) (spI2 X.K f g) (gM 2 [0]) ta tk) := by
  obtain ⟨fI, fd, h1, h2, h3, h4, h5⟩ := T.iC
  exact pmk_oexKM T.e.o h1 h2 h3 (hr.mono hk) h5 pass0 hg T.e.gg ha hkw hall hks hdb he hpl
end
section
variable {C : Wd → XC → Prop} {K : PySem.W.Frag} {c c2 : Nat} {ta tk : TA} {am ak : AM}
/-- X(f = e) as a value -/
theorem se_mkV1K {C1 : Addr} {f : Str} (T : OexC K C1) (hno : PySem.W.findIn K (.ref C1) f = some none) (h : SA C c ta am) : SE C c (tMkV (tMkOK C1 (spI K f) (gM 1 [0]) tNil ta)) (fun env Q => am env fun ds => ∃ y, ds = [y] ∧ Q (.exc (.ref C1) [f] [y])) := fun G g n O env σ H Qd Q hL F hm k =>
  h G g n O env σ H _ _ hL F hm fun ds vs H1 ⟨y, ey, hx⟩ g1 ok1 r1 => by
    subst ey
    cases r1 with
    | cons ry rn =>
      rename_i v us
      cases rn
      have W1 := F.wl.grow g1 ok1
      refine ⟨by show 0 ≤ 1000; decide, fun a ha => ⟨a, C1, v, rfl, upd_same, T, hno, fun dx hdx ne => ⟨rfl, dx, [(f, v)], upd_same, by rw [upd_ne ne, upd_same], ?_, ?_⟩⟩⟩
      · rw [upd_ne ne] at hdx; exact hdx
      · rw [upd_ne ne] at hdx
        rw [del_upd ha ne]
        intro a' ha'
        have ga : Grow G.w H1 (upd H1 dx (.xd [(f, v)])) := Grow.new _ hdx
        have oka := Wd.okNew (o := .xd [(f, v)]) hdx ok1
        have W2 : Wl G (n + c) O (upd H1 dx (.xd [(f, v)])) := W1.grow ga oka
        have gb : Grow G.w (upd H1 dx (.xd [(f, v)])) (upd (upd H1 dx (.xd [(f, v)])) a' (ExcK (.ref C1) (some dx) a')) := Grow.new _ ha'
        have ne2 : dx ≠ a' := fun z => by rw [← z, upd_same] at ha'; cases ha'
        refine k _ _ _ hx ((g1.trans ga).trans gb) (Wd.okNew ha' oka) (.exc1 ⟨.inl upd_same, W2.free ha'⟩ ⟨.inl ?_, W1.free hdx⟩ rfl (.cons ((ry.mono (sh_grow W1.zo ga)).mono (sh_grow W2.zo gb)) .nil))
        rw [upd_ne ne2, upd_same]; rfl
/-- what is told by an init of two attributes -/
theorem mk2_end {G : Cfg} {n : Nat} {O : Addr → Prop} {H H1 : Hp} {C1 : Addr} {f g : Str} {v u : V} {y z : D} {Qd : D → Prop} {Q : VK} (T : OexC K C1) (hf : PySem.W.findIn K (.ref C1) f = some none) (hg : PySem.W.findIn K (.ref C1) g = some none) (W1 : Wl G n O H1) (g1 : Grow G.w H H1) (ry : Rp (Sh O H1) v y) (rz : Rp (Sh O H1) u z) (hx : Qd (.exc (.ref C1) [g, f] [z, y]))
    (k : ∀ d v H', Qd d → Grow G.w H H' → G.w.ok n H' → Rp (Sh O H') v d → Q v H') {a : Addr} (ha : H1 a = none) :
    spI2 K f g [.ref a, v, u] (upd H1 a (exo a C1 none)) (fun v H2 => v = .non ∧ ∃ (d : Addr) (fs : List (Str × V)), H2 a = some (exo a C1 (some d)) ∧ H2 d = some (exd d fs) ∧ H1 d = none ∧ (fun c d H' => ∀ a, H' a = none → Q (.ref a) (upd H' a (ExcK c d a))) (.ref C1) (some d) (upd (del H2 a) d (.xd fs))) (fun _ _ _ => False) := by
  refine ⟨a, C1, v, u, rfl, upd_same, T, hf, hg, fun dx hdx ne => ⟨rfl, dx, [(g, u), (f, v)], by rw [upd_ne (fun z => ne z.symm), upd_same], upd_same, ?_, ?_⟩⟩
  · rw [upd_ne ne] at hdx; exact hdx
  · rw [upd_ne ne] at hdx
    have e1 : upd (del (upd (upd (upd (upd H1 a (exo a C1 none)) dx (exd dx [(f, v)])) a (exo a C1 (some dx))) dx (exd dx [(g, u), (f, v)])) a) dx (.xd [(g, u), (f, v)]) = upd H1 dx (.xd [(g, u), (f, v)]) := by
      funext b
      by_cases h1 : b = dx
      · rw [h1, upd_same, upd_same]
      · rw [upd_ne h1, upd_ne h1]
        by_cases h2 : b = a
        · rw [h2, del_same, ha]
        · rw [del_ne h2, upd_ne h1, upd_ne h2, upd_ne h1, upd_ne h2]
    rw [e1]
    intro a' ha'
    have ga : Grow G.w H1 (upd H1 dx (.xd [(g, u), (f, v)])) := Grow.new _ hdx
    have oka := Wd.okNew (o := .xd [(g, u), (f, v)]) hdx W1.ok
    have W2 : Wl G n O (upd H1 dx (.xd [(g, u), (f, v)])) := W1.grow ga oka
    have gb : Grow G.w (upd H1 dx (.xd [(g, u), (f, v)])) (upd (upd H1 dx (.xd [(g, u), (f, v)])) a' (ExcK (.ref C1) (some dx) a')) := Grow.new _ ha'
    have ne2 : dx ≠ a' := fun z => by rw [← z, upd_same] at ha'; cases ha'
    refine k _ _ _ hx ((g1.trans ga).trans gb) (Wd.okNew ha' oka) (.exc1 ⟨.inl upd_same, W2.free ha'⟩ ⟨.inl ?_, W1.free hdx⟩ rfl (.cons ((rz.mono (sh_grow W1.zo ga)).mono (sh_grow W2.zo gb)) (.cons ((ry.mono (sh_grow W1.zo ga)).mono (sh_grow W2.zo gb)) .nil)))
    rw [upd_ne ne2, upd_same]; rfl
/-- X(g = e, f = e2) as a value -/
theorem se_mkV2K {C1 : Addr} {f g : Str} (T : OexC K C1) (hf : PySem.W.findIn K (.ref C1) f = some none) (hg : PySem.W.findIn K (.ref C1) g = some none) (h : SA C c ta am) : SE C c (tMkV (tMkOK C1 (spI2 K f g) (gM 1 [1, 0]) tNil ta)) (fun env Q => am env fun ds => ∃ z y, ds = [z, y] ∧ Q (.exc (.ref C1) [g, f] [z, y])) := fun G gw n O env σ H Qd Q hL F hm k =>
  h G gw n O env σ H _ _ hL F hm fun ds vs H1 ⟨z, y, ey, hx⟩ g1 ok1 r1 => by
    subst ey
    obtain ⟨u, v, rfl, rz, ry⟩ : ∃ u v, vs = [u, v] ∧ Rp (Sh O H1) u z ∧ Rp (Sh O H1) v y := by
      cases r1 with
      | cons a r =>
        cases r with
        | cons b r => cases r; exact ⟨_, _, rfl, a, b⟩
    exact ⟨by show 0 ≤ 1000; decide, fun a ha => mk2_end (Q := Q) T hf hg (F.wl.grow g1 ok1) g1 ry rz hx k ha⟩
/-- X(e, g = e2) as a value -/
theorem se_mkV2M {C1 : Addr} {f g : Str} (T : OexC K C1) (hf : PySem.W.findIn K (.ref C1) f = some none) (hg : PySem.W.findIn K (.ref C1) g = some none) (h : SA C c ta am) (h2 : SA C c2 tk ak) : SE C (c + c2) (tMkV (tMkOK C1 (spI2 K f g) (gM 2 [0]) ta tk)) (fun env Q => am env fun ds => ak env fun es => ∃ y z, ds = [y] ∧ es = [z] ∧ Q (.exc (.ref C1) [g, f] [z, y])) := fun G gw n O env σ H Qd Q hL F hm k =>
  h G gw n O env σ H _ _ (by omega) F hm fun ds vs H1 hm1 g1 ok1 r1 => h2 G gw _ O env σ H1 _ _ (by omega) (F.grow g1 ok1) hm1 fun es zs H2 ⟨y, z, ey, ez, hx⟩ g2 ok2 r2 => by
    subst ey ez
    have W1 := F.wl.grow g1 ok1
    have rr1 := r1.mono (sh_grow W1.zo g2)
    obtain ⟨v, rfl, ry⟩ : ∃ v, vs = [v] ∧ Rp (Sh O H2) v y := by
      cases rr1 with
      | cons a r => cases r; exact ⟨_, rfl, a⟩
    obtain ⟨u, rfl, rz⟩ : ∃ u, zs = [u] ∧ Rp (Sh O H2) u z := by
      cases r2 with
      | cons a r => cases r; exact ⟨_, rfl, a⟩
    exact ⟨by show 1 ≤ 1000; decide, fun a ha => mk2_end (Q := Q) T hf hg ((W1.grow g2 (ok_as ok2)).grow (Grow.refl _ _) (by rw [Nat.add_assoc] at ok2; exact ok2)) (g1.trans g2) ry rz hx k ha⟩
end
end PL

/-! XD11: True in a list of bools. -/
namespace PL
open PySem PySem.Spec PyProof.Rows L2
/-- b in l, l a list of bools -/
def kInBl : D → D → (D → Prop) → Prop := fun x y Q => ∃ (b : Bool) (l : List Bool), x = .bl b ∧ y = .lst (l.map D.bl) ∧ Q (.bl (decide (b ∈ l)))
theorem any_bls (b : Bool) : ∀ l : List Bool, ((toPyL (l.map D.bl)).any fun z => PyData.eqv z (.bool b)) = decide (b ∈ l)
  | [] => rfl
  | a :: l => by
    show (PyData.eqv (.bool a) (.bool b) || ((toPyL (l.map D.bl)).any fun z => PyData.eqv z (.bool b))) = _
    rw [any_bls b l]
    cases a <;> cases b <;> simp [PyData.eqv]
section
variable {C : Wd → XC → Prop} {K : PySem.W.Frag}
theorem k2_inBl : K2 C (rInS K false) kInBl := fun G _ n O H x y d e Qd Q W rx ry ⟨b, l, hx, hy, h⟩ q => by
  subst hx hy
  obtain rfl := rx.bl
  have s1 := shaped_bls l
  have hc : PyData.canLayAll0 (toPyL (l.map D.bl)) = true := (simC_shaped (simC_bls l)).1
  refine ⟨.bool b, toPyL (l.map D.bl), .bl b, .inl (dp_bls ry), rfl, hc, (by simp [PyData.depth]), ?_⟩
  rw [any_bls, Bool.false_xor]
  exact q _ _ H h (Grow.refl _ _) W.ok (.bl _)
end
end PL

namespace Law
namespace W
open PySem PySem.Spec PyProof.Rows L2 PL
local macro_rules | `(tactic| walk_at "pl") => `(tactic| simp only [sRet, sRetN, sSeq, sNext, sNever, sSet, sPar, sPar3, sIf, sDrop, sFor, sForL, sApp, sAug, sAugIx, sPutD, sSetIx, sTo, sExt, sRem, sBreak, sCont, mAndV, mOrV, mNotV, mAnd, mOr, mNot, mB, mIf, mTru, mCB, mCL, mCall, mC, mVar, mRd, aCons, aNil, mTup, mLst, mLc, mLcK, mLcL, mLcO, mOwn, mDat, m2, ml2, mNeg, mChain, iT, iL, iR1, iR2, iE, iRv, iZ, iET, kIsi, kIsi2, kIx, kI, kIc, kIsN, kIsB, kEqS, kEqB, kLen, kTuple, kList, kInt1, kAbs, kRepL, kMin2, kCatT, kCatL, mGet, mInD, D.key, mLrg, mRevL, mGet2, sPut2, mSlT, mSlL, oNone, oSome, gT, gsC, gsN, env0, wipeE, frz, unOwn, gN, List.length_cons, List.length_nil, List.map_cons, List.map_nil, List.replicate, List.cons_append, List.nil_append, List.append_nil, List.getElem?_cons_zero, List.getElem?_cons_succ, Nat.sub_self, Nat.reduceAdd, Nat.reduceSub, D.ty, D.isN, D.tru, if_true, if_false, Bool.false_eq_true, List.set, id, kAll, iAlt, iET, iE, kRepT, mC, kIx, kEqD, mXg, kRepL])
def S_l_er_told (ds : List D) (Q : D → Prop) : Prop := ∃ (text : Str) (one other : Int), ds = [.str text, .int one, .int other] ∧ PyData.canLay0 (.str text) = true ∧ Q (.bl true)
theorem len_l_er_told {ds : List D} {Q : D → Prop} (h : S_l_er_told ds Q) : ds.length = 3 := by obtain ⟨_, _, _, e, _⟩ := h; rw [e]; rfl
theorem mono_l_er_told : Mono S_l_er_told := fun ds P Q h ⟨a, b, c, d, k, l⟩ => ⟨a, b, c, d, k, h _ l⟩
section
variable {P : Program} {w : World} {K : PySem.W.Frag} {mg : Str → Option Value} {base : Heap} {f : Addr} {fd : FuncData}
theorem ok_l_er_told {k : Nat} (F : Fun K "_law_er_told" "_law_er_told" s_l_er_told f fd) (T : Bt mg) (hk2 : 2 ≤ k) (Y_BadDeed : Ex1K P w K mg base "BadDeed" "at") (Y_BadEvents : Ex1K P w K mg base "BadEvents" "at") (Y_BadPuts : Ex1K P w K mg base "BadPuts" "at") (Y_BadText : Ex1K P w K mg base "BadText" "line") (Y_Full : Ex1K P w K mg base "Full" "many") (Y_NoRecord : Ex1K P w K mg base "NoRecord" "record") (Y_NoWay : Ex1K P w K mg base "NoWay" "at") (Y_NotNewest : Ex1K P w K mg base "NotNewest" "newest") (Y_Stopped : Ex2K P w K mg base "Stopped" "word" "steps") (Y_TooPointed : Ex1K P w K mg base "TooPointed" "record") (Y_Unknown : Ex1K P w K mg base "Unknown" "name") : FnOk P w K mg base CX0 (k + 1) f fd ["text", "one", "other"] (spP CA 0 S_l_er_told) := by
  refine pl_ok F sc_l_er_told (fun ds Q h => ?_) fun cdv A outer s H E hr => ?_
  · exact len_l_er_told h
  have hu := hu_of hr
  refine ⟨_, _, _, (pss_cons (ps_set (i := 3) sc_l_er_told.nd rfl (Or.inl rfl) (pe_lst (pa_cons (pe_xg (pe_mkV rfl (pmk_x1 Y_BadDeed.e hr hk2 rfl (pa_cons (pv 1) pa_nil)))) (pa_cons (pe_xg (pe_mkV rfl (pmk_x1K Y_BadDeed hr hk2 rfl (pk_cons (pv 1) pk_nil)))) (pa_cons (pe_xg (pe_mkV rfl (pmk_x1 Y_BadEvents.e hr hk2 rfl (pa_cons (pv 1) pa_nil)))) (pa_cons (pe_xg (pe_mkV rfl (pmk_x1K Y_BadEvents hr hk2 rfl (pk_cons (pv 1) pk_nil)))) (pa_cons (pe_xg (pe_mkV rfl (pmk_x1 Y_BadPuts.e hr hk2 rfl (pa_cons (pv 1) pa_nil)))) pa_nil)))))))
  (pss_cons (ps_set (i := 3) sc_l_er_told.nd rfl (Or.inl rfl) (pe_op op_cat (pv 3) (pe_lst (pa_cons (pe_xg (pe_mkV rfl (pmk_x1K Y_BadPuts hr hk2 rfl (pk_cons (pv 1) pk_nil)))) (pa_cons (pe_xg (pe_mkV rfl (pmk_x1 Y_BadText.e hr hk2 rfl (pa_cons (pv 1) pa_nil)))) (pa_cons (pe_xg (pe_mkV rfl (pmk_x1K Y_BadText hr hk2 rfl (pk_cons (pv 1) pk_nil)))) (pa_cons (pe_xg (pe_mkV rfl (pmk_x1 Y_Full.e hr hk2 rfl (pa_cons (pv 1) pa_nil)))) (pa_cons (pe_xg (pe_mkV rfl (pmk_x1K Y_Full hr hk2 rfl (pk_cons (pv 1) pk_nil)))) pa_nil))))))))
  (pss_cons (ps_set (i := 3) sc_l_er_told.nd rfl (Or.inl rfl) (pe_op op_cat (pv 3) (pe_lst (pa_cons (pe_xg (pe_mkV rfl (pmk_x1 Y_NoRecord.e hr hk2 rfl (pa_cons (pv 1) pa_nil)))) (pa_cons (pe_xg (pe_mkV rfl (pmk_x1K Y_NoRecord hr hk2 rfl (pk_cons (pv 1) pk_nil)))) (pa_cons (pe_xg (pe_mkV rfl (pmk_x1 Y_NoWay.e hr hk2 rfl (pa_cons (pv 1) pa_nil)))) (pa_cons (pe_xg (pe_mkV rfl (pmk_x1K Y_NoWay hr hk2 rfl (pk_cons (pv 1) pk_nil)))) pa_nil)))))))
  (pss_cons (ps_set (i := 3) sc_l_er_told.nd rfl (Or.inl rfl) (pe_op op_cat (pv 3) (pe_lst (pa_cons (pe_xg (pe_mkV rfl (pmk_x1 Y_NotNewest.e hr hk2 rfl (pa_cons (pv 1) pa_nil)))) (pa_cons (pe_xg (pe_mkV rfl (pmk_x1K Y_NotNewest hr hk2 rfl (pk_cons (pv 1) pk_nil)))) (pa_cons (pe_xg (pe_mkV rfl (pmk_x1 Y_TooPointed.e hr hk2 rfl (pa_cons (pv 1) pa_nil)))) pa_nil))))))
  (pss_cons (ps_set (i := 3) sc_l_er_told.nd rfl (Or.inl rfl) (pe_op op_cat (pv 3) (pe_lst (pa_cons (pe_xg (pe_mkV rfl (pmk_x1K Y_TooPointed hr hk2 rfl (pk_cons (pv 1) pk_nil)))) (pa_cons (pe_xg (pe_mkV rfl (pmk_x2 Y_Stopped.e hr hk2 rfl (pa_cons (pv 0) (pa_cons (pv 1) pa_nil))))) (pa_cons (pe_xg (pe_mkV rfl (pmk_x2K Y_Stopped hr hk2 rfl (pk_cons (pv 1) (pk_cons (pv 0) pk_nil))))) pa_nil))))))
  (pss_cons (ps_set (i := 4) sc_l_er_told.nd rfl (Or.inl rfl) (pe_lst (pa_cons (pe_xg (pe_mkV rfl (pmk_x1 Y_Unknown.e hr hk2 rfl (pa_cons (pv 0) pa_nil)))) (pa_cons (pe_xg (pe_mkV rfl (pmk_x1K Y_Unknown hr hk2 rfl (pk_cons (pv 0) pk_nil)))) (pa_cons (pe_xg (pe_mkV rfl (pmk_x2 Y_Stopped.e hr hk2 rfl (pa_cons (pv 0) (pa_cons (pv 2) pa_nil))))) (pa_cons (pe_xg (pe_mkV rfl (pmk_x2M Y_Stopped hr hk2 rfl (pa_cons (pv 0) pa_nil) (pk_cons (pv 2) pk_nil)))) pa_nil))))))
  (pss_one (ps_ret (pe_and (pe_cmpR (show OpR _ _ (rEqD K) from op_eqD hr.units) (pv 3) (pe_op op_rep (pe_lst (pa_cons (pv 1) pa_nil)) (pe_callB (r := fun xs H Q => ∃ x n, xs = [x] ∧ LenV K x H n ∧ Q (.int n) H) call_len (by rfl) T.len PySem.boot_len (pa_cons (pv 3) pa_nil))) (nomark _)) (pe_one (pe_cmpR (show OpR _ _ (rEqD K) from op_eqD hr.units) (pv 4) (pe_op op_rep (pe_lst (pa_cons (pv 0) pa_nil)) pe_int) (nomark _)))))))))))), (ss_seq (ss_set (SE.x (SL.e (sl_lst (sa_cons (se_xg Y_BadDeed.e.xf Y_BadDeed.e.no (se_mkV1 Y_BadDeed.e.o Y_BadDeed.e.no (sa_cons se_var sa_nil))) (sa_cons (se_xg Y_BadDeed.e.xf Y_BadDeed.e.no (se_mkV1K Y_BadDeed.e.o Y_BadDeed.e.no (sa_cons se_var sa_nil))) (sa_cons (se_xg Y_BadEvents.e.xf Y_BadEvents.e.no (se_mkV1 Y_BadEvents.e.o Y_BadEvents.e.no (sa_cons se_var sa_nil))) (sa_cons (se_xg Y_BadEvents.e.xf Y_BadEvents.e.no (se_mkV1K Y_BadEvents.e.o Y_BadEvents.e.no (sa_cons se_var sa_nil))) (sa_cons (se_xg Y_BadPuts.e.xf Y_BadPuts.e.no (se_mkV1 Y_BadPuts.e.o Y_BadPuts.e.no (sa_cons se_var sa_nil))) sa_nil)))))))))
  (ss_seq (ss_set (SE.x (SL.e (sl_op sr_var (SE.r (SL.e (sl_lst (sa_cons (se_xg Y_BadPuts.e.xf Y_BadPuts.e.no (se_mkV1K Y_BadPuts.e.o Y_BadPuts.e.no (sa_cons se_var sa_nil))) (sa_cons (se_xg Y_BadText.e.xf Y_BadText.e.no (se_mkV1 Y_BadText.e.o Y_BadText.e.no (sa_cons se_var sa_nil))) (sa_cons (se_xg Y_BadText.e.xf Y_BadText.e.no (se_mkV1K Y_BadText.e.o Y_BadText.e.no (sa_cons se_var sa_nil))) (sa_cons (se_xg Y_Full.e.xf Y_Full.e.no (se_mkV1 Y_Full.e.o Y_Full.e.no (sa_cons se_var sa_nil))) (sa_cons (se_xg Y_Full.e.xf Y_Full.e.no (se_mkV1K Y_Full.e.o Y_Full.e.no (sa_cons se_var sa_nil))) sa_nil)))))))) kl_cat))))
  (ss_seq (ss_set (SE.x (SL.e (sl_op sr_var (SE.r (SL.e (sl_lst (sa_cons (se_xg Y_NoRecord.e.xf Y_NoRecord.e.no (se_mkV1 Y_NoRecord.e.o Y_NoRecord.e.no (sa_cons se_var sa_nil))) (sa_cons (se_xg Y_NoRecord.e.xf Y_NoRecord.e.no (se_mkV1K Y_NoRecord.e.o Y_NoRecord.e.no (sa_cons se_var sa_nil))) (sa_cons (se_xg Y_NoWay.e.xf Y_NoWay.e.no (se_mkV1 Y_NoWay.e.o Y_NoWay.e.no (sa_cons se_var sa_nil))) (sa_cons (se_xg Y_NoWay.e.xf Y_NoWay.e.no (se_mkV1K Y_NoWay.e.o Y_NoWay.e.no (sa_cons se_var sa_nil))) sa_nil))))))) kl_cat))))
  (ss_seq (ss_set (SE.x (SL.e (sl_op sr_var (SE.r (SL.e (sl_lst (sa_cons (se_xg Y_NotNewest.e.xf Y_NotNewest.e.no (se_mkV1 Y_NotNewest.e.o Y_NotNewest.e.no (sa_cons se_var sa_nil))) (sa_cons (se_xg Y_NotNewest.e.xf Y_NotNewest.e.no (se_mkV1K Y_NotNewest.e.o Y_NotNewest.e.no (sa_cons se_var sa_nil))) (sa_cons (se_xg Y_TooPointed.e.xf Y_TooPointed.e.no (se_mkV1 Y_TooPointed.e.o Y_TooPointed.e.no (sa_cons se_var sa_nil))) sa_nil)))))) kl_cat))))
  (ss_seq (ss_set (SE.x (SL.e (sl_op sr_var (SE.r (SL.e (sl_lst (sa_cons (se_xg Y_TooPointed.e.xf Y_TooPointed.e.no (se_mkV1K Y_TooPointed.e.o Y_TooPointed.e.no (sa_cons se_var sa_nil))) (sa_cons (se_xg Y_Stopped.e.xf Y_Stopped.e.ng (se_mkV2 Y_Stopped.e.o Y_Stopped.e.nf Y_Stopped.e.ng (sa_cons se_var (sa_cons se_var sa_nil)))) (sa_cons (se_xg Y_Stopped.e.xf Y_Stopped.e.ng (se_mkV2K Y_Stopped.e.o Y_Stopped.e.nf Y_Stopped.e.ng (sa_cons se_var (sa_cons se_var sa_nil)))) sa_nil)))))) kl_cat))))
  (ss_seq (ss_set (SE.x (SL.e (sl_lst (sa_cons (se_xg Y_Unknown.e.xf Y_Unknown.e.no (se_mkV1 Y_Unknown.e.o Y_Unknown.e.no (sa_cons se_var sa_nil))) (sa_cons (se_xg Y_Unknown.e.xf Y_Unknown.e.no (se_mkV1K Y_Unknown.e.o Y_Unknown.e.no (sa_cons se_var sa_nil))) (sa_cons (se_xg Y_Stopped.e.xf Y_Stopped.e.nf (se_mkV2 Y_Stopped.e.o Y_Stopped.e.nf Y_Stopped.e.ng (sa_cons se_var (sa_cons se_var sa_nil)))) (sa_cons (se_xg Y_Stopped.e.xf Y_Stopped.e.nf (se_mkV2M Y_Stopped.e.o Y_Stopped.e.nf Y_Stopped.e.ng (sa_cons se_var sa_nil) (sa_cons se_var sa_nil))) sa_nil))))))))
  (ss_ret (se_andV (se_op sr_var (SE.r (SL.e (sl_op (SE.r (SL.e (sl_lst (sa_cons se_var sa_nil)))) (SE.r (se_cb (sar_cons sr_var sar_nil) kc_len)) kl_rep))) k2_eqD) (se_op sr_var (SE.r (SL.e (sl_op (SE.r (SL.e (sl_lst (sa_cons se_var sa_nil)))) (SE.r se_int) kl_rep))) k2_eqD))))))))), by decide, fun ds Q h => ?_⟩
  obtain ⟨text, one, other, rfl, ht, q⟩ := h
  walk_at "pl"
  have hsl := sizeLine_eq
  repeat first
    | refine ⟨_, rfl, _, _, _, rfl, rfl, ?_⟩
    | refine ⟨_, _, rfl, rfl, _, _, _, rfl, rfl, ?_⟩
    | refine ⟨_, _, rfl, _, _, _, rfl, rfl, ?_⟩
    | refine ⟨by omega, ?_⟩
  have p1 : D.pl 60 (D.lst (List.replicate 20 (D.int one))) = true := by simp [List.replicate, D.pl, D.plL]
  have p2 : D.pl 60 (D.lst (List.replicate 4 (D.str text))) = true := by simp [List.replicate, D.pl, D.plL, ht]
  exact ⟨p1, p1, fun _ => ⟨by omega, ⟨by decide, by decide, by show 1 * 4 ≤ sizeLine; omega⟩, p2, p2, fun _ => q, fun z => absurd rfl z⟩, fun z => absurd rfl z⟩

end
end W
end Law

namespace Law
open PySem PySem.Spec PyProof.Rows L2 PL LamX
/-! ### the source of draws, and tables of code objects -/
theorem st_tabs {za zg zc : Addr} {n : Nat} {H H' : Hp} {T : List (Addr × Str)} (ok : StOk za zg zc n H) (t : Tabs T H) (h : ∀ b o, H b = some o → ¬ (b = za ∨ b = zg ∨ b = zc) → H' b = some o) : Tabs T H' := fun p hp => by
  obtain ⟨g, c, l, u, e1, e2, e3, _⟩ := ok
  obtain ⟨ps, h1, h2, h3⟩ := t p hp
  have ne : ∀ b o, H b = some o → (∀ xs, o ≠ .lst xs) → (∀ xs, o ≠ .dK xs) → ¬ (b = za ∨ b = zg ∨ b = zc) := fun b o e n1 n2 z => by
    rcases z with z | z | z
    · rw [z, e1] at e; exact n2 _ (Option.some.inj e).symm
    · rw [z, e2] at e; exact n1 _ (Option.some.inj e).symm
    · rw [z, e3] at e; exact n1 _ (Option.some.inj e).symm
  refine ⟨ps, h _ _ h1 (ne _ _ h1 (fun _ z => nomatch z) fun _ z => nomatch z), h2, fun pos cv hc => ?_⟩
  obtain ⟨c0, q1, q2⟩ := h3 pos cv hc
  exact ⟨c0, q1, h _ _ q2 (ne _ _ q2 (fun _ z => nomatch z) fun _ z => nomatch z)⟩
def stWT (za zg zc : Addr) (T : List (Addr × Str)) : Wd where
  Z := fun b => (b = za ∨ b = zg ∨ b = zc) ∨ ∃ p ∈ T, b = p.1
  ok := fun n H => StOk za zg zc n H ∧ Tabs T H
  up := fun n k H h ⟨a, b⟩ => ⟨(stW za zg zc).up n k H h a, b⟩
  st := fun n H H' h hx ⟨a, b⟩ => ⟨(stW za zg zc).st n H H' (fun b o z => h b o (.inl z)) hx a, fun p hp => by
    obtain ⟨ps, h1, h2, h3⟩ := b p hp
    refine ⟨ps, h _ _ (.inr ⟨p, hp, rfl⟩) h1, h2, fun pos cv hc => ?_⟩
    obtain ⟨c0, q1, q2⟩ := h3 pos cv hc
    exact ⟨c0, q1, hx _ _ q2⟩⟩
  tr := fun n H b ⟨a, t⟩ z => by
    rcases z with z | ⟨p, hp, z⟩
    · exact (stW za zg zc).tr n H b a z
    · obtain ⟨ps, h1, _⟩ := t p hp
      rw [z, h1]; exact ⟨_, rfl, fun _ q => nomatch q⟩
def StWT (T : List (Addr × Str)) (tok : V) (w : Wd) : Prop := ∃ za zg zc, tok = .ref za ∧ zg ≠ zc ∧ w = stWT za zg zc T
theorem spT_wt {T : List (Addr × Str)} {k : Nat} {S : V → List D → (D → Prop) → Prop} (hS : ∀ tok, Mono (S tok)) {vs : List V} {H : Hp} {Q : VK} {E : XK} (h : spT (StWT T) k S vs H Q E) : spT StW k S vs H Q E := by
  obtain ⟨tok, w, n, Oc, ds, ⟨za, zg, zc, e1, e2, e3⟩, hL, ok, zo, tr, r, s⟩ := h
  subst e3
  refine ⟨tok, stW za zg zc, n, Oc, ds, ⟨za, zg, zc, e1, e2, rfl⟩, hL, ok.1, fun b z => zo b (.inl z), tr, r, hS tok ds _ _ (fun d hd v H' g ok' rv => hd v H' (fun b o e z => g b o e fun q => z (.inl q)) ⟨ok', st_tabs ok.1 ok.2 g⟩ rv) s⟩
theorem _root_.PL.Pr.wt {P : Program} {w : World} {K : PySem.W.Frag} {mg : Str → Option Value} {base : Heap} {x : Str} {k c : Nat} {ps : List Str} {S : V → List D → (D → Prop) → Prop} (T : List (Addr × Str)) (hS : ∀ tok, Mono (S tok)) (h : Pr P w K mg base x k ps (spT StW c S)) : Pr P w K mg base x k ps (spT (StWT T) c S) := by
  obtain ⟨f, fd, h1, h2, h3, h4⟩ := h.ex
  exact ⟨⟨f, fd, h1.imp fun vs H Q E q => spT_wt hS q, h2, h3, h4⟩⟩
theorem tbW_of {T : List (Addr × Str)} {tok : V} {P0 : Addr} {q : Str} (hP : (P0, q) ∈ T) : ∀ w x, nx (StWT T tok) w x → TbW P0 T w ∧ CA w := fun w x ⟨za, zg, zc, e1, e2, e3⟩ => by
  subst e3
  refine ⟨⟨.inr ⟨_, hP, rfl⟩, fun n H ok => ok.2, fun n H H1 ok ex t => ⟨?_, t⟩⟩, trivial⟩
  obtain ⟨ps, h1, _⟩ := ok.2 _ hP
  obtain ⟨g, c, l, u, e1, e2, e3, h4⟩ := ok.1
  have ne : ∀ b o, H b = some o → (∀ ps, o ≠ .tbl ps) → b ≠ P0 := fun b o e n z => by
    rw [z, h1] at e
    exact n _ (Option.some.inj e).symm
  exact ⟨g, c, l, u, ex _ _ e1 (ne _ _ e1 fun _ z => nomatch z), ex _ _ e2 (ne _ _ e2 fun _ z => nomatch z), ex _ _ e3 (ne _ _ e3 fun _ z => nomatch z), h4⟩
/-- the law's promise: the script, the empty tables -/
def spLawT (K : PySem.W.Frag) (cs : List Addr) : Sp := fun vs H Q _ => ∃ (a : Addr) (ns : List Int), vs = [.ref a] ∧ SqL K H a (ns.map V.int) ∧ ns.length ≤ 63 ∧ (∀ p ∈ cs, H p = some (.tbl #[])) ∧ ∀ H', Q (.bl true) H'
theorem fr_lawT {za zg zc a : Addr} {T : List (Addr × Str)} {H : Hp} (k : Nat) (st : StOk za zg zc 0 H) (t : Tabs T H) (ctr : ∀ b, (stWT za zg zc T).Z b → Trk (H b)) : Fr (Cfg.nx (stWT za zg zc T) H (stWT za zg zc T).Z ctr) 0 (stWT za zg zc T).Z (.un :: .dat (.opq (.ref za)) :: List.replicate k .un) (some (.ref a) :: some (.ref za) :: List.replicate k none) H := by
  refine ⟨⟨⟨st, t⟩, fun b z => z, fun b z => z, ctr, GrowM.refl _ _ _⟩, by simp, fun i c hc hn => ?_, fun i j b ⟨c, _, hc, _, ho⟩ _ => ?_⟩
  · match i with
    | 0 => cases hc; exact absurd rfl hn
    | 1 => cases hc; exact ⟨_, rfl, .dat (.opq _)⟩
    | i + 2 => exact absurd (List.eq_of_mem_replicate (List.mem_of_getElem? (l := List.replicate k Sv.un) (i := i) hc)) hn
  · match i with
    | 0 => cases hc; exact (show False from ho).elim
    | 1 => cases hc; exact (show False from ho).elim
    | i + 2 =>
      have := List.eq_of_mem_replicate (List.mem_of_getElem? (l := List.replicate k Sv.un) (i := i) hc)
      rw [this] at ho; exact (show False from ho).elim
/-! ### a def whose code object is told; the def that catches -/
theorem fun_okC {P : Program} {w : World} {K : PySem.W.Frag} {mg : Str → Option Value} {base : Heap} {x qual : Str} {st : Stmt} {f : Addr} {N ps : List Str} {k : Nat} {sp : Sp} {oc kV doc pm cdv ct : Value} {od an : Option Addr} {osl : Array (Option Value)}
    (lk : K.lookup f = some ⟨oc, od, .func (PySem.W.fnOf x qual (defArgs st) (defBody st) (defScope st) .none kV doc pm an cdv ct), osl⟩) (hcd : PySem.W.codeIn K cdv qual = true) (S : FnScope N ps (defScope st)) (len : ∀ vs H Q E, sp vs H Q E → vs.length = ps.length)
    (hbody : ∀ (A : Around) (outer : List Env) (s : Shared) (H : Hp) (vs : List V) (Q : VK) (E : XK), Room k (A.deeper (envOfC qual (defScope st) s.heap.objs.size f cdv)) → sp vs H Q E →
      ∃ t, PSs (cxOf CX0 P w K mg base N qual (defScope st) f cdv A outer s H E).nox (defBody st) t ∧ t { nx := fun _ H' => Q .non H', rt := Q } (L2.start N vs) H) : FnOk P w K mg base CX0 (k + 1) f (PySem.W.fnOf x qual (defArgs st) (defBody st) (defScope st) .none kV doc pm an cdv ct) ps sp := by
  refine fn_of lk hcd S len fun A outer s H vs Q E hr hsp => ?_
  obtain ⟨t, h, q⟩ := hbody A outer s H vs Q E hr hsp
  exact ⟨t, h.nox, q⟩
/-- {} -/
theorem se_dnew {C : Wd → XC → Prop} : SE C 0 tDNewK (mC (.dic [])) := fun G _ n O env σ H Qd Q hL F hm k => fun p hp => k _ _ _ hm (Grow.new _ hp) (Wd.okNew hp F.wl.ok) (.dic ⟨.inl upd_same, F.wl.free hp⟩ .nil)
theorem ss_run {C : Wd → XC → Prop} {c n : Nat} {t : TS} {m : SM} (h : SS C c t m) {G : Cfg} {O : Addr → Prop} {env : Ev} {σ : L2.St} {H : Hp} {P : Pe} {D : Ends} (cg : C G.w G.x) (F : Fr G n O env σ H) (hc : n + c ≤ G.x.lim) (hm : m env P) (e : EOk G (n + c) O H P D) : t D σ H := h G cg n O env σ H P D hc F hm e
/-! ### lambdas in several defs -/
theorem tbW_ofM {T : List (Addr × Str)} {tok : V} {P0 : Addr} {q : Str} (hP : (P0, q) ∈ T) (hu : ∀ p ∈ T, p.1 = P0 → p = (P0, q)) : ∀ w x, nx (StWT T tok) w x → TbW P0 [(P0, q)] w ∧ CA w := fun w x ⟨za, zg, zc, e1, e2, e3⟩ => by
  subst e3
  refine ⟨⟨.inr ⟨_, hP, rfl⟩, fun n H ok p hp => by rw [List.mem_singleton.mp hp]; exact ok.2 _ hP, fun n H H1 ok ex t => ⟨?_, fun p hp => ?_⟩⟩, trivial⟩
  · obtain ⟨ps, h1, _⟩ := ok.2 _ hP
    obtain ⟨g, c, l, u, e1, e2, e3, h4⟩ := ok.1
    have ne : ∀ b o, H b = some o → (∀ ps, o ≠ .tbl ps) → b ≠ P0 := fun b o e n z => by
      rw [z, h1] at e
      exact n _ (Option.some.inj e).symm
    exact ⟨g, c, l, u, ex _ _ e1 (ne _ _ e1 fun _ z => nomatch z), ex _ _ e2 (ne _ _ e2 fun _ z => nomatch z), ex _ _ e3 (ne _ _ e3 fun _ z => nomatch z), h4⟩
  · by_cases z : p.1 = P0
    · rw [hu p hp z]; exact t _ (List.mem_singleton.mpr rfl)
    · obtain ⟨ps0, h0, _⟩ := ok.2 _ hP
      obtain ⟨ps, h1, h2, h3⟩ := ok.2 p hp
      refine ⟨ps, ex _ _ h1 z, h2, fun pos cv hc => ?_⟩
      obtain ⟨c0, q1, q2⟩ := h3 pos cv hc
      exact ⟨c0, q1, ex _ _ q2 fun y => by rw [y, h0] at q2; cases q2⟩
theorem pl_okTC {P : Program} {w : World} {K : PySem.W.Frag} {mg : Str → Option Value} {base : Heap} {CT : V → Wd → Prop} {S : V → List D → (D → Prop) → Prop} {x qual : Str} {st : Stmt} {f : Addr} {N ps : List Str} {k kd : Nat} {oc kV doc pm cdv ct : Value} {od an : Option Addr} {osl : Array (Option Value)}
    (lk : K.lookup f = some ⟨oc, od, .func (PySem.W.fnOf x qual (defArgs st) (defBody st) (defScope st) .none kV doc pm an cdv ct), osl⟩) (hcd : PySem.W.codeIn K cdv qual = true) (sc : FnScope N ps (defScope st)) (len : ∀ tok ds Q, S tok ds Q → ds.length = ps.length)
    (body : ∀ (A : Around) (outer : List Env) (s : Shared) (H : Hp) (E : XK), Room k (A.deeper (envOfC qual (defScope st) s.heap.objs.size f cdv)) →
      ∃ t, PSs (cxOf CX0 P w K mg base N qual (defScope st) f cdv A outer s H E).nox (defBody st) t ∧ ∀ tok, ∃ m c, SS (nx (CT tok)) c t m ∧ c ≤ kd ∧ ∀ ds Q, S tok ds Q → m (env0 N ds) { nx := fun _ => Q .non, rt := Q }) :
    FnOk P w K mg base CX0 (k + 1) f (PySem.W.fnOf x qual (defArgs st) (defBody st) (defScope st) .none kV doc pm an cdv ct) ps (spT CT kd S) := by
  refine fun_okC lk hcd sc (fun vs H Q E ⟨_, _, _, _, ds, _, _, _, _, _, r, h⟩ => by rw [r.length]; exact len _ ds _ h) fun A outer s H vs Q E hr ⟨tok, h⟩ => ?_
  obtain ⟨t, ht, hb⟩ := body A outer s H E hr
  obtain ⟨m, c, hs, hc, hb⟩ := hb tok
  exact ⟨t, ht, pl_body hs hc hb h⟩
end Law

namespace Law
open PySem PySem.Spec PyProof.Rows L2 PL LamX
/-! ### a lambda of a def, told by its place -/
def sBody : Stmt → List Stmt
  | .For _ _ b _ _ => b
  | .While _ b _ _ => b
  | .If _ b _ _ => b
  | _ => []
def sVal : Stmt → Expr
  | .Assign _ v _ => v
  | .Return (some v) _ => v
  | _ => .Constant .none 0 ⟨0, 0, 0, 0⟩
def eArgs : Expr → List Expr
  | .Call _ a _ _ => a
  | .List l _ => l
  | _ => []
def lOf : Expr → Option (Arguments × Expr × Scope)
  | .Lambda a b s _ => some (a, b, s)
  | _ => none
def stAt (l : List Stmt) (i : Nat) : Stmt := l.getD i (.Pass ⟨0, 0, 0, 0⟩)
def exAt (l : List Expr) (i : Nat) : Expr := l.getD i (.Constant .none 0 ⟨0, 0, 0, 0⟩)
def LamFx (X : Cx) (o : Option (Arguments × Expr × Scope)) : Addr → Addr → Heap → Prop := match o with
  | some (a, b, sc) => LamP (X.env.qual ++ "<lambda>") a b sc (cloFrom X.env.cells sc.names [])
  | none => fun _ _ _ => False
theorem lamI_nil {X : Cx} {k : Nat} : ∀ q ∈ ([] : List ((Addr → Addr → Heap → Prop) × (XK → TE))), LamI X k q.1 q.2 := fun _ z => nomatch z
theorem lamI_cons {X : Cx} {k : Nat} {F : Addr → Addr → Heap → Prop} {t : XK → TE} {L : List ((Addr → Addr → Heap → Prop) × (XK → TE))} (h : LamI X k F t) (r : ∀ q ∈ L, LamI X k q.1 q.2) : ∀ q ∈ (F, t) :: L, LamI X k q.1 q.2 := fun q hq => (List.mem_cons.mp hq).elim (fun e => by rw [e]; exact h) (r q)
theorem lamT_nil {C0 : Wd → Prop} : ∀ p ∈ ([] : List LamT), ∀ E X0, SE (exC C0 E X0) 0 (p.2.1 E) (p.2.2 X0) := fun _ z => nomatch z
theorem lamT_cons {C0 : Wd → Prop} {F : Addr → Addr → Heap → Prop} {t : XK → TE} {m : (Exn → Prop) → EM} {L : List LamT} (h : ∀ E X0, SE (exC C0 E X0) 0 (t E) (m X0)) (r : ∀ p ∈ L, ∀ E X0, SE (exC C0 E X0) 0 (p.2.1 E) (p.2.2 X0)) : ∀ p ∈ (F, t, m) :: L, ∀ E X0, SE (exC C0 E X0) 0 (p.2.1 E) (p.2.2 X0) := fun p hp => (List.mem_cons.mp hp).elim (fun e => by rw [e]; exact h) (r p)
end Law

namespace Law
namespace W
open PySem PySem.Spec PyProof.Rows L2 PL
local macro_rules | `(tactic| walk_at "pl") => `(tactic| simp only [sRet, sRetN, sSeq, sNext, sNever, sSet, sPar, sPar3, sIf, sDrop, sFor, sForL, sApp, sAug, sAugIx, sPutD, sSetIx, sTo, sExt, sRem, sBreak, sCont, mAndV, mOrV, mNotV, mAnd, mOr, mNot, mB, mIf, mTru, mCB, mCL, mCall, mC, mVar, mRd, aCons, aNil, mTup, mLst, mLc, mLcK, mLcL, mLcO, mOwn, mDat, m2, ml2, mNeg, mChain, iT, iL, iR1, iR2, iE, iRv, iZ, iET, kIsi, kIsi2, kIx, kI, kIc, kIsN, kIsB, kEqS, kEqB, kLen, kTuple, kList, kInt1, kAbs, kRepL, kMin2, kCatT, kCatL, mGet, mInD, D.key, mLrg, mRevL, mGet2, sPut2, mSlT, mSlL, oNone, oSome, gT, gsC, gsN, env0, wipeE, frz, unOwn, gN, List.length_cons, List.length_nil, List.map_cons, List.map_nil, List.replicate, List.cons_append, List.nil_append, List.append_nil, List.getElem?_cons_zero, List.getElem?_cons_succ, Nat.sub_self, Nat.reduceAdd, Nat.reduceSub, D.ty, D.isN, D.tru, if_true, if_false, Bool.false_eq_true, List.set, id, kAll, iAlt, iET, iE, kRepT, mC, kIx, kEqD, mXg, kRepL])
theorem gname_of {i : Nat} {v : V} {σ : L2.St} {H : Hp} {Q : L2.St → Hp → Prop} (h : Q (σ.set i (some v)) H) : gName i v σ H Q := h
theorem seq_of {t u : TS} {D : Ends} {σ : L2.St} {H : Hp} (h : t { D with nx := u D } σ H) : tSeq t u D σ H := h
theorem seq2 {a b r : SM} {env : Ev} {P : Pe} (h : ∀ Cc, Cc = r → sSeq a (sSeq b Cc) env P) : sSeq a (sSeq b r) env P := h r rfl
theorem seq3 {a b c r : SM} {env : Ev} {P : Pe} (h : ∀ Cc, Cc = r → sSeq a (sSeq b (sSeq c Cc)) env P) : sSeq a (sSeq b (sSeq c r)) env P := h r rfl
theorem seq4 {a b c d r : SM} {env : Ev} {P : Pe} (h : ∀ Cc, Cc = r → sSeq a (sSeq b (sSeq c (sSeq d Cc))) env P) : sSeq a (sSeq b (sSeq c (sSeq d r))) env P := h r rfl
theorem seq5 {a b c d e r : SM} {env : Ev} {P : Pe} (h : ∀ Cc, Cc = r → sSeq a (sSeq b (sSeq c (sSeq d (sSeq e Cc)))) env P) : sSeq a (sSeq b (sSeq c (sSeq d (sSeq e r)))) env P := h r rfl

theorem seq1 {a r : SM} {env : Ev} {P : Pe} (h : ∀ Cc, Cc = r → sSeq a Cc env P) : sSeq a r env P := h r rfl
theorem forB {i : AM} {g : GM} {b r : SM} {env : Ev} {P : Pe} (h : ∀ B Cc, B = b → Cc = r → sSeq (sFor i g B) Cc env P) : sSeq (sFor i g b) r env P := h b r rfl rfl
structure ErG (K : PySem.W.Frag) (mg : Str → Option Value) : Prop where
  c : ∀ x ∈ erNames, PySem.W.kitOne K (.ref (er mg x)) (.ref (er mg "CopyError")) = some true
  v : ∀ x ∈ erNames, PySem.W.kitOne K (.ref (er mg x)) (.type "ValueError") = some true
theorem iteF' {c : Bool} {a b : Prop} (h : ¬ c = true) (k : b) : if c = true then a else b := by rw [if_neg h]; exact k
theorem er_base : (List.map (fun y => D.bl (decide (("CopyError" : Str) = y))) (erFirst ++ erRest)) = (List.replicate 68 false).map D.bl := by
  have h : (erFirst ++ erRest).map (fun y => decide (("CopyError" : Str) = y)) = List.replicate 68 false := by decide +kernel
  rw [← h, List.map_map]; rfl
theorem er_no_base : decide (true ∈ List.replicate 68 false) = false := by decide
theorem fm_some {α β : Type} (f : α → β) (l : List α) : l.filterMap (fun k => some (f k)) = l.map f := by rw [show (fun k => some (f k)) = some ∘ f from rfl, List.filterMap_eq_map]
theorem made_len {mg : Str → Option Value} {text : Str} {one other : Int} : (erMade mg text one other).length = 68 := rfl
theorem at_all (text : Str) (one other : Int) : (erAt text one other).length = 68 := rfl
theorem nm_all : (erFirst ++ erRest).length = 68 := rfl
theorem nm_in : ∀ x ∈ erFirst ++ erRest, x ∈ erNames := by decide +kernel
theorem nm_nodup : (erFirst ++ erRest).Nodup := by decide +kernel
theorem nm_idx {i k : Nat} {x : Str} (hi : (erFirst ++ erRest)[i]? = some x) (hk : k < 68) : decide (x = (erFirst ++ erRest).getD k "") = decide (k = i) := by
  obtain ⟨h1, h1'⟩ := List.getElem?_eq_some_iff.mp hi
  have h3 : k < (erFirst ++ erRest).length := by rw [nm_all]; exact hk
  have e3 : (erFirst ++ erRest).getD k "" = (erFirst ++ erRest)[k] := by rw [List.getD_eq_getElem?_getD, List.getElem?_eq_getElem h3]; rfl
  rw [e3]
  by_cases e : k = i
  · subst e; rw [decide_eq_true h1'.symm, decide_eq_true rfl]
  · rw [decide_eq_false e]
    refine decide_eq_false fun z => e ?_
    have nd := List.pairwise_iff_getElem.mp nm_nodup
    rcases Nat.lt_trichotomy k i with h | h | h
    · exact absurd (z.symm.trans h1'.symm) (nd k i h3 h1 h)
    · exact h
    · exact absurd (h1'.trans z) (nd i k h1 h3 h)
theorem zip_at {α β : Type} : ∀ {l : List α} {r : List β} {i : Nat} {x : α} {y : β}, l[i]? = some x → r[i]? = some y → (l.zip r)[i]? = some (x, y)
  | [], _, _, _, _, h, _ => by cases h
  | _ :: _, [], _, _, _, _, h => by cases h
  | a :: l, b :: r, 0, x, y, h, h' => by cases h; cases h'; rfl
  | a :: l, b :: r, i + 1, x, y, h, h' => zip_at (l := l) (r := r) (i := i) h h'
theorem made_at (mg : Str → Option Value) (text : Str) (one other : Int) {i : Nat} (hi : i < 68) : ∃ (x : Str) (ns : List Str) (l : List D), x ∈ erNames ∧ (erMade mg text one other)[i]? = some (.exc (.ref (er mg x)) ns l) ∧ (erFirst ++ erRest).map (fun y => D.bl (decide (x = y))) = (List.range 68).map fun k => D.bl (decide (k = i)) := by
  have h1 : i < (erFirst ++ erRest).length := by rw [nm_all]; exact hi
  have h2 : i < (erAt text one other).length := by rw [at_all]; exact hi
  obtain ⟨x, hx⟩ : ∃ x, (erFirst ++ erRest)[i]? = some x := ⟨_, List.getElem?_eq_getElem h1⟩
  obtain ⟨p, hp⟩ : ∃ p, (erAt text one other)[i]? = some p := ⟨_, List.getElem?_eq_getElem h2⟩
  refine ⟨x, p.1, p.2, nm_in _ (List.mem_of_getElem? hx), ?_, ?_⟩
  · unfold erMade
    rw [List.getElem?_map, zip_at hx hp]
    rfl
  · refine List.ext_getElem? fun k => ?_
    rw [List.getElem?_map, List.getElem?_map]
    by_cases hk : k < 68
    · have h3 : k < (erFirst ++ erRest).length := by rw [nm_all]; exact hk
      have e := nm_idx hx hk
      rw [List.getD_eq_getElem?_getD] at e
      obtain ⟨y, hy⟩ : ∃ y, (erFirst ++ erRest)[k]? = some y := ⟨_, List.getElem?_eq_getElem h3⟩
      rw [hy] at e ⊢
      rw [List.getElem?_range hk]
      show some (D.bl (decide (x = y))) = some (D.bl (decide (k = i)))
      rw [show decide (x = y) = decide (k = i) from e]
    · rw [List.getElem?_eq_none (l := List.range 68) (by rw [List.length_range]; omega), List.getElem?_eq_none (l := erFirst ++ erRest) (by rw [nm_all]; omega)]
      rfl

section
variable {P : Program} {w : World} {K : PySem.W.Frag} {mg : Str → Option Value} {base : Heap}
theorem ok_law {k : Nat} {f : Addr} {oc kV doc pm cdv ct : Value} {od an : Option Addr} {osl : Array (Option Value)} (lk : K.lookup f = some ⟨oc, od, .func (PySem.W.fnOf "law" "law" (defArgs s_law) (defBody s_law) (defScope s_law) .none kV doc pm an cdv ct), osl⟩) (hcd : PySem.W.codeIn K cdv "law" = true) (T : Bt mg) (EX : ∀ x ∈ erX0, Ex0 K mg x) (EG : ErG K mg) (EF : ErF K mg) (hVE : mg "ValueError" = none) (P_l_begun : Pr P w K mg base "_law_begun" k ["script"] (spBg K)) (P_l_er_made : Pr P w K mg base "_law_er_made" k ["text", "one", "other"] (spP CA 0 (S_l_er_made mg))) (P_l_pick : Pr P w K mg base "_law_pick" k ["state", "several"] (spT StW 1 S_l_pick)) (P_l_draw : Pr P w K mg base "_law_draw" k ["state", "size_here"] (spT StW 1 S_l_draw)) (P_l_er_kinds : Pr P w K mg base "_law_er_kinds" k ["error"] (spP CA 0 (S_l_er_kinds mg))) (P_l_er_told : Pr P w K mg base "_law_er_told" k ["text", "one", "other"] (spP CA 0 S_l_er_told))  :
    FnG P w K mg base CX0 (k + 1 + 1) f (PySem.W.fnOf "law" "law" (defArgs s_law) (defBody s_law) (defScope s_law) .none kV doc pm an cdv ct) ["script"] (spLawT K []) := by
  refine fn_ofG lk hcd sc_law (fun vs H Q E ⟨_, _, e, _⟩ => by rw [e]; rfl) fun A outer s H vs Q E hg hr0 ⟨a, ns, e, hS, h63, hT0, kq⟩ => ?_
  subst e
  have hrL := hr0
  have hr := hr0.mono (by omega : k ≤ k + 1)
  have hu := hu_of hr
  let Tt : List (Addr × Str) := []
  replace P_l_pick := P_l_pick.wt Tt mono_l_pick
  replace P_l_draw := P_l_draw.wt Tt mono_l_draw
  refine ⟨_, pss_cons (ps_set (i := 1) sc_law.nd rfl (Or.inl rfl) (pe_callP P_l_begun hr rfl (pa_cons (pv 0) pa_nil)))
    (pss_cons (ps_for PassesOwn.never rfl (pi_range1 rfl T.range (pa_cons (pe_op op_add pe_int (pe_callB (call_min2 rfl) (by rfl) T.min (by decide +kernel) (pa_cons (pe_callB (r := fun xs H Q => ∃ x n, xs = [x] ∧ LenV K x H n ∧ Q (.int n) H) call_len (by rfl) T.len PySem.boot_len (pa_cons (pv 0) pa_nil)) (pa_cons pe_int pa_nil)))) pa_nil)) (pg_name (i := 2) sc_law.nd rfl (Or.inl rfl))
      (pss_cons (ps_par3 (i := 5) (j := 6) (l := 7) rfl sc_law.nd rfl rfl rfl (by decide) (by decide) (by decide) rfl rfl rfl (pa_cons (pe_callP P_l_pick hr rfl (pa_cons (pv 1) (pa_cons (pe_lst (pa_cons pe_str (pa_cons pe_str (pa_cons pe_str (pa_cons pe_str pa_nil))))) pa_nil))) (pa_cons (pe_callP P_l_draw hr rfl (pa_cons (pv 1) (pa_cons (pe_op op_pow pe_int pe_int) pa_nil))) (pa_cons (pe_callP P_l_draw hr rfl (pa_cons (pv 1) (pa_cons pe_int pa_nil))) pa_nil))) (by rfl))
  (pss_cons (ps_set (i := 3) sc_law.nd rfl (Or.inl rfl) (pe_callP P_l_er_made hr rfl (pa_cons (pv 5) (pa_cons (pv 6) (pa_cons (pv 7) pa_nil)))))
  (pss_cons (ps_for PassesOwn.never rfl (pi_enum rfl T.enum (pa_cons (pv 3) pa_nil)) (pg_tup rfl (pgs_cons (pg_name (i := 8) sc_law.nd rfl (Or.inr rfl)) (pgs_cons (pg_name (i := 9) sc_law.nd rfl (Or.inl rfl)) pgs_nil)))
  (pss_cons (ps_if (PW.pt (pw_or (pt_not (pt_val (pe_callB (r := rIsXG K) call_isXG (by rfl) T.isi (by decide +kernel) (pa_cons (pv 9) (pa_cons (pe_glob (v := V.ref (er mg "CopyError")) rfl (EF.g "CopyError" (by decide +kernel)) rfl) pa_nil))))) (pw_or1 (pt_not (pt_val (pe_callB (r := rIsXG K) call_isXG (by rfl) T.isi (by decide +kernel) (pa_cons (pv 9) (pa_cons (pe_bltn (v := V.ty "ValueError") (u := Value.type "ValueError") (by rfl) hVE (by decide +kernel) rfl) pa_nil)))))))) (pss_one (ps_ret pe_bl)) pss_nil)
  (pss_one (ps_if (pt_cmpR (show OpR _ _ (rNeD K) from op_neD hr.units) (pe_callP P_l_er_kinds hr rfl (pa_cons (pv 9) pa_nil)) (pe_lc (own := [("spot", 10)]) (g := (gName 10)) (tt := tYes) rfl sc_law.nd (pi_range1 rfl T.range (pa_cons (pe_callB (r := fun xs H Q => ∃ x n, xs = [x] ∧ LenV K x H n ∧ Q (.int n) H) call_len (by rfl) T.len PySem.boot_len (pa_cons (pv 3) pa_nil)) pa_nil)) (blkOk_by (own := [("spot", 10)]) (N := ["script", "state", "lap", "several", "base", "text", "one", "other", "at", "error", "spot"]) (sc := defScope s_law) (by decide +kernel)) (fun _ _ _ _ _ => (pg_name (i := 10) sc_law.nd rfl (Or.inl rfl))) (fun _ _ _ _ _ => pts_nil) (fun _ _ _ _ _ => (pe_cmpR op_eq (pv 10) (pv 8) (nomark _)))) (nomark _)) (pss_one (ps_ret pe_bl)) pss_nil))))
  (pss_cons (ps_set (i := 4) sc_law.nd rfl (Or.inl rfl) (pe_mkV rfl (pmk_ownA PySem.F.excBase_ValueError (EX "CopyError" (by decide +kernel)).xi (EX "CopyError" (by decide +kernel)).g (EX "CopyError" (by decide +kernel)).k (raises_own (EX "CopyError" (by decide +kernel)).i.sb (EX "CopyError" (by decide +kernel)).t) rfl (pa_cons (pv 5) pa_nil))))
  (pss_one (ps_if (PW.pt (pw_or (pt_not (pt_val (pe_callB (r := rIsXG K) call_isXG (by rfl) T.isi (by decide +kernel) (pa_cons (pv 4) (pa_cons (pe_bltn (v := V.ty "ValueError") (u := Value.type "ValueError") (by rfl) hVE (by decide +kernel) rfl) pa_nil))))) (pw_or (pt_cmpR (show OpR _ _ (rInS K false) from op_inS hr.units) pe_bl (pe_callP P_l_er_kinds hr rfl (pa_cons (pv 4) pa_nil)) (by rfl)) (pw_or1 (pt_not (pt_val (pe_callP P_l_er_told hr rfl (pa_cons (pv 5) (pa_cons (pv 6) (pa_cons (pv 7) pa_nil)))))))))) (pss_one (ps_ret pe_bl)) pss_nil)))))))
    (pss_one (ps_ret pe_bl))), ?_⟩
  refine ⟨_, rfl, a, ns, rfl, hS, h63, fun za zg zc H1 hne sm n1 n2 n3 st => ?_⟩
  refine gname_of ?_
  dsimp only
  refine seq_of ?_
  have tt : LamX.Tabs Tt H1 := fun p hp => absurd hp List.not_mem_nil
  have ctr : ∀ b, (stWT za zg zc Tt).Z b → Trk (H1 b) := fun b z => (stWT za zg zc Tt).tr 0 H1 b ⟨st, tt⟩ z
  let tok : V := .ref za
  refine for_run (C := nx (StWT Tt (.ref za))) (c1 := 0) (T := 5 * _) (am := fun env Q => Q (rng 0 (1 + min ns.length 4))) (X := fun ds env P => ds.length ≤ 5 ∧ loopP _ _ ds env P) (P := { nx := fun _ => True, rt := fun _ => False }) (fun _ _ _ h => ⟨Nat.mul_le_mul_right _ h.1, h.2⟩) (sg_name (vs := [2]))
    (ss_seq (ss_par3 (SE.x (se_callT tok (sa_cons se_var (sa_cons (SL.e (sl_lst (sa_cons se_str (sa_cons se_str (sa_cons se_str (sa_cons se_str sa_nil)))))) sa_nil)) (mono_l_pick tok))) (SE.x (se_callT tok (sa_cons se_var (sa_cons (se_op (SE.r se_int) (SE.r se_int) k2_intC) sa_nil)) (mono_l_draw tok))) (SE.x (se_callT tok (sa_cons se_var (sa_cons se_int sa_nil)) (mono_l_draw tok))))
  (ss_seq (ss_set (SE.x (se_callA (sa_cons se_var (sa_cons se_var (sa_cons se_var sa_nil))) mono_l_er_made)))
  (ss_seq (ss_for (si_enum (sa_cons se_var sa_nil)) (sg_tup (sgs_cons (sg_name (vs := [8, 9]) (i := 8)) (sgs_cons (sg_name (vs := [8, 9]) (i := 9)) sgs_nil)))
  (ss_seq (ss_if (st_or (st_not (st_tb (se_cb (sar_cons sr_var (sar_cons (SE.r se_opq) sar_nil)) (kc_isXG (v := V.ref (er mg "CopyError")) (c := .ref (er mg "CopyError")) (.inl ⟨_, rfl, rfl⟩))))) (st_not (st_tb (se_cb (sar_cons sr_var (sar_cons (SE.r se_opq) sar_nil)) (kc_isXG (v := .ty "ValueError") (c := .type "ValueError") (.inr ⟨_, rfl, rfl⟩)))))) (ss_ret se_bl) ss_next)
  (ss_if (st_b (se_op (SE.r (se_callA (sa_cons se_var sa_nil) mono_l_er_kinds)) (SE.r (SL.e (sl_lc (si_rng1 (sa_cons (se_cb (sar_cons sr_var sar_nil) kc_len) sa_nil)) (sg_name (vs := [10]) (i := 10)) st_yes' (se_op sr_var sr_var k2_eqS)))) k2_neBl)) (ss_ret se_bl) ss_next)))
  (ss_seq (ss_set (SE.x (se_mkV0 (sa_cons se_var sa_nil))))
  (ss_if (st_or (st_not (st_tb (se_cb (sar_cons sr_var (sar_cons (SE.r se_opq) sar_nil)) (kc_isXG (v := .ty "ValueError") (c := .type "ValueError") (.inr ⟨_, rfl, rfl⟩))))) (st_or (st_b (se_op (SE.r se_bl) (SE.r (se_callA (sa_cons se_var sa_nil) mono_l_er_kinds)) k2_inBl)) (st_not (st_tb (se_callA (sa_cons se_var (sa_cons se_var (sa_cons se_var sa_nil))) mono_l_er_told))))) (ss_ret se_bl) ss_next)))))
    ⟨za, zg, zc, rfl, hne, rfl⟩ ?_ (fr_lawT 9 st tt ctr) (fun Qd' R h k' => ?_) ?_ ?_
  · show _ ≤ LIM
    decide
  · have e : ((1 : Int) + (if (4 : Int) < ((ns.map V.int).length : Int) then 4 else ((ns.map V.int).length : Int))).toNat = 1 + min ns.length 4 := by
      rw [List.length_map]
      split <;> omega
    refine ⟨_, rfl, _, _, rfl, .inl ⟨_, sm.seq hS, rfl⟩, _, _, rfl, _, _, rfl, rfl, _, rfl, ?_, ?_, ?_⟩
    · split <;> omega
    · rw [List.length_map]; split <;> omega
    · rw [e]
      exact k' _ _ H1 h (Grow.refl _ _) ⟨st, tt⟩ (walks_rng 0 _)
  · refine ⟨by rw [rng_length]; omega, ?_⟩
    refine loop_by (fun i e => ∃ x2 x3 x4 x5 x6 x7 x8 x9 x10 : Sv, e = [.un, .dat (.opq tok), x2, x3, x4, x5, x6, x7, x8, x9, x10]) ⟨.un, .un, .un, .un, .un, .un, .un, .un, .un, rfl⟩ (fun i dd env N hi ⟨x2, x3, x4, x5, x6, x7, x8, x9, x10, ee⟩ hN => ?_) (fun _ _ => trivial)
    subst ee
    clear sm n1 n2 n3 hS h63 tt ctr
    show sSeq _ _ _ _
    refine seq3 fun C1 h1 => ?_
    have hsl : 100000 < sizeLine := by rw [sizeLine_eq]; decide
    have fin : ∀ (text : Str) (one other : Int) (y3 y8 y9 : Sv), PyData.canLay0 (.str text) = true → C1 [Sv.un, Sv.dat (D.opq tok), Sv.dat dd, y3, x4, Sv.dat (D.str text), Sv.dat (D.int one), Sv.dat (D.int other), y8, y9, x10] { nx := N, rt := fun _ => False, bk := fun _ => True, ct := N } := fun text one other y3 y8 y9 ht => by
      subst h1
      walk_at "pl"
      have hc : ("CopyError" : Str) ∈ erNames := by decide +kernel
      refine ⟨by show 1 ≤ sizeLine; omega, _, _, _, _, rfl, EF.i _ hc, EG.v _ hc, ?_⟩
      dsimp only
      refine iteF' (by decide) ⟨_, _, _, rfl, hc, true, List.replicate 68 false, rfl, congrArg D.lst er_base, ?_⟩
      rw [er_no_base]
      dsimp only
      refine iteF' (by decide) ⟨text, one, other, rfl, ht, ?_⟩
      exact iteF' (by decide) (hN _ ⟨_, _, _, _, _, _, _, _, _, rfl⟩)
    have loop : ∀ (text : Str) (one other : Int), PyData.canLay0 (.str text) = true → S_l_er_made mg [.str text, .int one, .int other] fun d3 => True := fun _ _ _ _ => ⟨_, _, _, rfl, trivial⟩
    walk_at "pl"
    refine ⟨by omega, ?_⟩
    refine ⟨_, rfl, (fun z => nomatch z), (by show 4 < 1000000; decide), fun d hd => ?_⟩
    obtain ⟨text, rfl, ht⟩ : ∃ text : Str, d = .str text ∧ PyData.canLay0 (.str text) = true := by
      simp only [List.mem_cons, List.not_mem_nil, or_false] at hd
      rcases hd with rfl | rfl | rfl | rfl <;> exact ⟨_, rfl, by decide +kernel⟩
    clear hd
    refine ⟨(by unfold CPow; decide), _, rfl, by decide, by decide, fun one _ _ => ⟨_, rfl, by decide, by decide, fun other _ _ => ⟨text, one, other, rfl, ?_⟩⟩⟩
    dsimp only
    refine loop_by (fun i e => ∃ y8 y9 : Sv, e = [Sv.un, Sv.dat (D.opq tok), Sv.dat dd, Sv.dat (.lst (erMade mg text one other)), x4, Sv.dat (D.str text), Sv.dat (D.int one), Sv.dat (D.int other), y8, y9, x10]) ⟨_, _, rfl⟩ (fun i d1 e1 N1 hi1 ⟨y8, y9, ee⟩ hN1 => ?_) (fun e ⟨y8, y9, ee⟩ => by subst ee; exact fin text one other _ _ _ ht)
    subst ee
    have hi : i < 68 := by
      have := (List.getElem?_eq_some_iff.mp hi1).1
      rw [enumD_len, made_len] at this; exact this
    obtain ⟨x, ns, l, hx, hm, ha⟩ := made_at mg text one other hi
    rw [enumD_get hm] at hi1
    cases hi1
    walk_at "pl"
    refine ⟨rfl, trivial, _, _, _, _, rfl, EF.i _ hx, EG.c _ hx, ?_⟩
    dsimp only
    refine iteF' (by decide) ⟨_, _, _, _, rfl, EF.i _ hx, EG.v _ hx, ?_⟩
    dsimp only
    refine iteF' (by decide) ?_
    refine ⟨x, ns, l, rfl, hx, ?_⟩
    dsimp only
    rw [made_len]
    refine ⟨by omega, lcP_rngF (fun k => some (.bl (decide (k = i)))) 68 [] _ (fun j hj R hR => ?_) (by show 0 + 68 ≤ sizeLine; omega) ?_⟩
    · walk_at "pl"
      show R (some (D.bl (decide (((j : Nat) : Int) = ((0 + i : Nat) : Int)))))
      have e : decide (((j : Nat) : Int) = ((0 + i : Nat) : Int)) = decide (j = i) := by
        by_cases h : j = i
        · rw [decide_eq_true h, decide_eq_true (by omega)]
        · rw [decide_eq_false h, decide_eq_false (by omega)]
      rw [e]; exact hR
    · rw [ha, fm_some (fun k => D.bl (decide (k = i))), List.nil_append]
      refine ⟨(List.range 68).map fun k => decide (k = i), (List.range 68).map fun k => decide (k = i), by rw [List.map_map]; rfl, by rw [List.map_map]; rfl, ?_⟩
      rw [decide_eq_true rfl]
      dsimp only
      exact iteF' (by decide) (hN1 _ ⟨_, _, rfl⟩)

  · exact ⟨fun O' e' s' H' _ _ _ => kq H', fun _ _ _ _ _ _ q => q.elim, fun _ _ _ _ _ _ q => q.elim, fun _ _ _ _ _ _ q => q.elim, fun _ _ _ _ _ _ _ _ _ q => q.elim⟩
end
end W
end Law

namespace Law
namespace W
open PySem PySem.Spec PyProof.Rows L2 PL
/-- where a class of the module stands -/
def adr (K : PySem.W.Frag) (x : Str) : Addr := He.ga K x
def clsChk (K : PySem.W.Frag) (CE C : Addr) (x : Str) : Bool :=
  (PySem.W.nsIn K mainGlobals x == some (some (.ref C))) && (PySem.W.keepIn K (.ref C) && ((PySem.W.typeIn K (.ref C) == some (.type "type")) && ((PySem.W.subIn K (.ref C) (.type "BaseException") == some true) && ((PySem.W.subIn K (.ref C) (.ref CE) == some true) && ((PySem.W.clsIn K C).isSome && ((PySem.W.findIn K (.ref C) "__getattribute__" == some (some (.builtin "BaseException.__getattribute__"))) && ((PySem.W.findIn K (.ref C) "__getattr__" == some none) && ((PySem.W.findIn K (.ref C) "__class__" == some (some (.builtin "object.__class__"))) && ((PySem.W.mroIn K C (.type "object") == some true) && ((PySem.W.kitOne K (.ref C) (.ref CE) == some true) && (PySem.W.kitOne K (.ref C) (.type "ValueError") == some true)))))))))))
def erChk (K : PySem.W.Frag) : Bool := (erNames.all fun x => clsChk K (adr K "CopyError") (adr K x) x) && ((erX0.all fun x => PySem.W.excIn K (adr K x) [.type "ValueError", .type "Exception", .type "BaseException", .type "object"] "ValueError.__new__") &&
  ((erNames.map fun x => (x, adr K x)).all fun p => ((erFirst ++ erRest).map fun y => (y, adr K y)).all fun q => PySem.W.kitOne K (.ref p.2) (.ref q.2) == some (decide (p.1 = q.1))))
structure ClsF (K : PySem.W.Frag) (CE C : Addr) (x : Str) : Prop where
  n : PySem.W.nsIn K mainGlobals x = some (some (.ref C))
  k : PySem.W.keepIn K (.ref C) = true
  t : PySem.W.typeIn K (.ref C) = some (.type "type")
  b : PySem.W.subIn K (.ref C) (.type "BaseException") = some true
  s : PySem.W.subIn K (.ref C) (.ref CE) = some true
  i : (PySem.W.clsIn K C).isSome = true
  ga : PySem.W.findIn K (.ref C) "__getattribute__" = some (some (.builtin "BaseException.__getattribute__"))
  gg : PySem.W.findIn K (.ref C) "__getattr__" = some none
  ca : PySem.W.findIn K (.ref C) "__class__" = some (some (.builtin "object.__class__"))
  cm : PySem.W.mroIn K C (.type "object") = some true
  kc : PySem.W.kitOne K (.ref C) (.ref CE) = some true
  kv : PySem.W.kitOne K (.ref C) (.type "ValueError") = some true
theorem clsF_of {K : PySem.W.Frag} {CE C : Addr} {x : Str} (h : clsChk K CE C x = true) : ClsF K CE C x := by
  unfold clsChk at h
  simp only [Bool.and_eq_true] at h
  obtain ⟨h1, h2, h3, h4, h5, h6, h7, h8, h9, h10, h11, h12⟩ := h
  exact ⟨beq_iff_eq.mp h1, h2, beq_iff_eq.mp h3, beq_iff_eq.mp h4, beq_iff_eq.mp h5, h6, beq_iff_eq.mp h7, beq_iff_eq.mp h8, beq_iff_eq.mp h9, beq_iff_eq.mp h10, beq_iff_eq.mp h11, beq_iff_eq.mp h12⟩
section
variable {K : PySem.W.Frag} {mg : Str → Option Value} {h : Heap}
theorem er_all (X : K.In h) (G : h.Ns mainGlobals mg) (hA : erChk K = true) {x : Str} (hx : x ∈ erNames) : ClsF K (er mg "CopyError") (er mg x) x := by
  unfold erChk at hA
  rw [Bool.and_eq_true] at hA
  have q := clsF_of (List.all_eq_true.mp hA.1 x hx)
  have c := clsF_of (List.all_eq_true.mp hA.1 "CopyError" (by decide +kernel))
  rw [er_of (PySem.W.mg_of X G q.n), er_of (PySem.W.mg_of X G c.n)]
  exact q
theorem adr_er (X : K.In h) (G : h.Ns mainGlobals mg) (hA : erChk K = true) {x : Str} (hx : x ∈ erNames) : adr K x = er mg x := by
  unfold erChk at hA
  rw [Bool.and_eq_true] at hA
  have q := clsF_of (List.all_eq_true.mp hA.1 x hx)
  rw [er_of (PySem.W.mg_of X G q.n)]
theorem er_ef (X : K.In h) (G : h.Ns mainGlobals mg) (hA : erChk K = true) (cn : PySem.W.specialIn K (.builtin "object.__class__") "__get__" = some (some (.builtin "getset_descriptor.__get__"))) (ct : PySem.W.takesIn K (.builtin "object.__class__") = some true) : ErF K mg := by
  have hA' := hA
  unfold erChk at hA'
  rw [Bool.and_eq_true, Bool.and_eq_true] at hA'
  refine ⟨fun x hx => PySem.W.mg_of X G (er_all X G hA hx).n, fun x hx => ?_, fun x hx y hy => ?_⟩
  · have q := er_all X G hA hx
    exact ⟨q.i, q.ga, q.gg, q.b, q.ca, cn, ct, q.cm⟩
  · have q := List.all_eq_true.mp (List.all_eq_true.mp hA'.2.2 (x, adr K x) (List.mem_map.mpr ⟨x, hx, rfl⟩)) (y, adr K y) (List.mem_map.mpr ⟨y, hy, rfl⟩)
    rw [← adr_er X G hA hx, ← adr_er X G hA (nm_in y hy)]
    exact beq_iff_eq.mp q
theorem er_eg (X : K.In h) (G : h.Ns mainGlobals mg) (hA : erChk K = true) : ErG K mg := ⟨fun x hx => (er_all X G hA hx).kc, fun x hx => (er_all X G hA hx).kv⟩
theorem x0_in : ∀ x ∈ erX0, x ∈ erNames := by decide +kernel
theorem er_ex (X : K.In h) (G : h.Ns mainGlobals mg) (hA : erChk K = true) (EF : ErF K mg) (eb : PySem.W.subIn K (.ref (er mg "CopyError")) (.type "BaseException") = some true) (ed : PySem.W.hasDictIn K (er mg "CopyError") = true) (et : PySem.W.typeIn K (.ref (er mg "CopyError")) = some (.type "type")) : ∀ x ∈ erX0, Ex0 K mg x := fun x hx => by
  have hA' := hA
  unfold erChk at hA'
  rw [Bool.and_eq_true, Bool.and_eq_true] at hA'
  have q := er_all X G hA (x0_in x hx)
  have e := List.all_eq_true.mp hA'.2.1 x hx
  rw [adr_er X G hA (x0_in x hx)] at e
  exact ⟨EF.g x (x0_in x hx), q.k, e, q.t, EF.i x (x0_in x hx), PySem.W.exm_ref eb ed et q.s⟩
end
end W
end Law

/-! OT7E: the law's end where the head is told by facts: the part of the heap is whatever holds them. -/
namespace PL
open PySem PySem.Spec PyProof.Rows L2
theorem walk_ofGE {l : PySem.W.OpenLaw} {n k : Nat} {q : Program} {loose : List Str} {XP : (Str → Option Value) → Heap → Prop} {YP : World → Heap → Prop} {d : DefRec} {CX : World → CXT} {x : Str}
    (hn : l.most = some n) (hn2 : n ≤ sizeLine) (hdf : d.params.defaults = []) (hr : Room k callerA)
    (F : ∀ (w : World) (mg : Str → Option Value) (fa : Addr) (h : Heap), YP w h → h.Ns mainGlobals mg → mg d.name = some (.ref fa) → ∃ K : PySem.W.Frag, K.In h ∧ LawAtG l w K (CX w) k n x mg fa h)
    (hCX : ∀ (w : World) (H : Hp) (s : Shared) (e : Value) (s' : Shared), CX w [] H s (fun _ _ _ => False) e s' → False) :
    PySem.W.WalkO q loose XP YP l.row.toRowW d [] (fun f vs => PySem.call f vs) := by
  refine Att.attach_callB hn hdf fun w s₀ s₁ mg mb fa o pm cd doc a vs ns G Y ho hd hcd hmg hobj hints hlen _ hg => ?_
  obtain ⟨K, KX, fd, cs, sp, ⟨hT, nT, C⟩, hb, hsp, hF⟩ := F w mg fa _ Y G.T.g hmg
  exact law_callG KX G.T.g G.T.b G.T.builtins G.T.nolimit hg hT nT C G.T.bmain hobj hints (Nat.le_trans hlen hn2) hr hF hb (fun H hH hS => hsp H a ns hlen hH hS) fun H e s' => hCX w H s₁ e s'
end PL

namespace Law
namespace W
theorem erChk_of {K : PySem.W.Frag} (h : erA K = true ∧ erB K = true ∧ erC K = true) : erChk K = true := Bool.and_eq_true_iff.mpr ⟨h.1, Bool.and_eq_true_iff.mpr ⟨h.2.1, h.2.2⟩⟩
end W
end Law


namespace Law
open PySem PySem.Spec PyProof.Rows L2 PL
theorem _root_.PL.Pr.up {P : Program} {w : World} {K : PySem.W.Frag} {mg : Str → Option Value} {base : Heap} {x : Str} {j k : Nat} {ps : List Str} {sp : Sp} (h : Pr P w K mg base x j ps sp) (hk : j ≤ k) : Pr P w K mg base x k ps sp := by
  obtain ⟨f, fd, h1, h2, h3, h4⟩ := h.ex
  exact ⟨⟨f, fd, h1.mono hk, h2, h3, h4⟩⟩
theorem _root_.PL.PrK.up {P : Program} {w : World} {K : PySem.W.Frag} {mg : Str → Option Value} {base : Heap} {x : Str} {j k : Nat} {ps : List Str} {sp : Sp} (h : PrK P w K mg base x j ps sp) (hk : j ≤ k) : PrK P w K mg base x k ps sp := by
  obtain ⟨f, fd, h1, h2, h3, h4⟩ := h.ex
  exact ⟨⟨f, fd, h1.mono hk, h2, h3, h4⟩⟩
theorem _root_.PL.PrX.up {P : Program} {w : World} {K : PySem.W.Frag} {mg : Str → Option Value} {base : Heap} {x : Str} {j k : Nat} {ps : List Str} {sp : Sp} (h : PrX P w K mg base x j ps sp) (hk : j ≤ k) : PrX P w K mg base x k ps sp := by
  obtain ⟨f, fd, h1, h2, h3, h4, h5⟩ := h.ex
  exact ⟨⟨f, fd, h1.mono hk, h2, h3, h4, h5⟩⟩
theorem _root_.PL.MtP.up {P : Program} {w : World} {K : PySem.W.Frag} {mg : Str → Option Value} {base : Heap} {C : Addr} {x : Str} {j k : Nat} {ps : List Str} {sp : Sp} (h : MtP P w K mg base C x j ps sp) (hk : j ≤ k) : MtP P w K mg base C x k ps sp := by
  obtain ⟨f, fd, h1, h2, h3⟩ := h.ex
  exact ⟨⟨f, fd, h1.mono hk, h2, h3⟩⟩
theorem _root_.PL.MtX.up {P : Program} {w : World} {K : PySem.W.Frag} {mg : Str → Option Value} {base : Heap} {C : Addr} {x : Str} {j k : Nat} {ps : List Str} {sp : Sp} (h : MtX P w K mg base C x j ps sp) (hk : j ≤ k) : MtX P w K mg base C x k ps sp := by
  obtain ⟨f, fd, h1, h2, h3⟩ := h.ex
  exact ⟨⟨f, fd, h1.mono hk, h2, h3⟩⟩
def tabOf (K : PySem.W.Frag) (c : Addr) : Addr := match K.lookup c with
  | some ⟨_, _, .fields vs, _⟩ => (match (vs[11]? : Option Value) with | some (.ref P) => P | _ => 0)
  | _ => 0
abbrev si_BadDeed : Stmt := (C8.clsBody (top 9)).getD 0 (.Pass ⟨0, 0, 0, 0⟩)
abbrev si_BadEvents : Stmt := (C8.clsBody (top 14)).getD 0 (.Pass ⟨0, 0, 0, 0⟩)
abbrev si_BadPuts : Stmt := (C8.clsBody (top 38)).getD 0 (.Pass ⟨0, 0, 0, 0⟩)
abbrev si_BadText : Stmt := (C8.clsBody (top 49)).getD 0 (.Pass ⟨0, 0, 0, 0⟩)
abbrev si_Full : Stmt := (C8.clsBody (top 57)).getD 0 (.Pass ⟨0, 0, 0, 0⟩)
abbrev si_NoRecord : Stmt := (C8.clsBody (top 60)).getD 0 (.Pass ⟨0, 0, 0, 0⟩)
abbrev si_NoWay : Stmt := (C8.clsBody (top 61)).getD 0 (.Pass ⟨0, 0, 0, 0⟩)
abbrev si_NotNewest : Stmt := (C8.clsBody (top 64)).getD 0 (.Pass ⟨0, 0, 0, 0⟩)
abbrev si_TooPointed : Stmt := (C8.clsBody (top 68)).getD 0 (.Pass ⟨0, 0, 0, 0⟩)
abbrev si_Unknown : Stmt := (C8.clsBody (top 69)).getD 0 (.Pass ⟨0, 0, 0, 0⟩)
abbrev si_Stopped : Stmt := (C8.clsBody (top 66)).getD 0 (.Pass ⟨0, 0, 0, 0⟩)
theorem all_mk {l : PySem.W.OpenLaw} {w : World} {K : PySem.W.Frag} {h : Heap} {mg : Str → Option Value} {fa f0 f1 f2 f3 f4 f5 f6 f7 f8 : Addr} {od0 an0 od1 an1 od2 an2 od3 an3 od4 an4 od5 an5 od6 an6 od7 an7 od8 an8 : Option Addr} {sl0 sl1 sl2 sl3 sl4 sl5 sl6 sl7 sl8 : Array (Option Value)} {oc0 kV0 dc0 pm0 ct0 cd0 oc1 kV1 dc1 pm1 ct1 cd1 oc2 kV2 dc2 pm2 ct2 cd2 oc3 kV3 dc3 pm3 ct3 cd3 oc4 kV4 dc4 pm4 ct4 cd4 oc5 kV5 dc5 pm5 ct5 cd5 oc6 kV6 dc6 pm6 ct6 cd6 oc7 kV7 dc7 pm7 ct7 cd7 oc8 kV8 dc8 pm8 ct8 cd8 : Value} {CE C_BadDeed C_BadEvents C_BadPuts C_BadText C_Full C_NoRecord C_NoWay C_NotNewest C_TooPointed C_Unknown C_Stopped : Addr} {xn_BadDeed xq_BadDeed : Str} {xN_BadDeed fi_BadDeed : Addr} {xb_BadDeed xu_BadDeed : List Value} {xs_BadDeed : List Str} {xa_BadDeed : Bool} {xc_BadDeed : Option Bool} {xd_BadDeed iod_BadDeed ian_BadDeed : Option Addr} {x0_BadDeed x1_BadDeed x2_BadDeed x3_BadDeed x5_BadDeed : Option Value} {ioc_BadDeed ikV_BadDeed idc_BadDeed ipm_BadDeed icd_BadDeed ict_BadDeed : Value} {isl_BadDeed : Array (Option Value)} {xn_BadEvents xq_BadEvents : Str} {xN_BadEvents fi_BadEvents : Addr} {xb_BadEvents xu_BadEvents : List Value} {xs_BadEvents : List Str} {xa_BadEvents : Bool} {xc_BadEvents : Option Bool} {xd_BadEvents iod_BadEvents ian_BadEvents : Option Addr} {x0_BadEvents x1_BadEvents x2_BadEvents x3_BadEvents x5_BadEvents : Option Value} {ioc_BadEvents ikV_BadEvents idc_BadEvents ipm_BadEvents icd_BadEvents ict_BadEvents : Value} {isl_BadEvents : Array (Option Value)} {xn_BadPuts xq_BadPuts : Str} {xN_BadPuts fi_BadPuts : Addr} {xb_BadPuts xu_BadPuts : List Value} {xs_BadPuts : List Str} {xa_BadPuts : Bool} {xc_BadPuts : Option Bool} {xd_BadPuts iod_BadPuts ian_BadPuts : Option Addr} {x0_BadPuts x1_BadPuts x2_BadPuts x3_BadPuts x5_BadPuts : Option Value} {ioc_BadPuts ikV_BadPuts idc_BadPuts ipm_BadPuts icd_BadPuts ict_BadPuts : Value} {isl_BadPuts : Array (Option Value)} {xn_BadText xq_BadText : Str} {xN_BadText fi_BadText : Addr} {xb_BadText xu_BadText : List Value} {xs_BadText : List Str} {xa_BadText : Bool} {xc_BadText : Option Bool} {xd_BadText iod_BadText ian_BadText : Option Addr} {x0_BadText x1_BadText x2_BadText x3_BadText x5_BadText : Option Value} {ioc_BadText ikV_BadText idc_BadText ipm_BadText icd_BadText ict_BadText : Value} {isl_BadText : Array (Option Value)} {xn_Full xq_Full : Str} {xN_Full fi_Full : Addr} {xb_Full xu_Full : List Value} {xs_Full : List Str} {xa_Full : Bool} {xc_Full : Option Bool} {xd_Full iod_Full ian_Full : Option Addr} {x0_Full x1_Full x2_Full x3_Full x5_Full : Option Value} {ioc_Full ikV_Full idc_Full ipm_Full icd_Full ict_Full : Value} {isl_Full : Array (Option Value)} {xn_NoRecord xq_NoRecord : Str} {xN_NoRecord fi_NoRecord : Addr} {xb_NoRecord xu_NoRecord : List Value} {xs_NoRecord : List Str} {xa_NoRecord : Bool} {xc_NoRecord : Option Bool} {xd_NoRecord iod_NoRecord ian_NoRecord : Option Addr} {x0_NoRecord x1_NoRecord x2_NoRecord x3_NoRecord x5_NoRecord : Option Value} {ioc_NoRecord ikV_NoRecord idc_NoRecord ipm_NoRecord icd_NoRecord ict_NoRecord : Value} {isl_NoRecord : Array (Option Value)} {xn_NoWay xq_NoWay : Str} {xN_NoWay fi_NoWay : Addr} {xb_NoWay xu_NoWay : List Value} {xs_NoWay : List Str} {xa_NoWay : Bool} {xc_NoWay : Option Bool} {xd_NoWay iod_NoWay ian_NoWay : Option Addr} {x0_NoWay x1_NoWay x2_NoWay x3_NoWay x5_NoWay : Option Value} {ioc_NoWay ikV_NoWay idc_NoWay ipm_NoWay icd_NoWay ict_NoWay : Value} {isl_NoWay : Array (Option Value)} {xn_NotNewest xq_NotNewest : Str} {xN_NotNewest fi_NotNewest : Addr} {xb_NotNewest xu_NotNewest : List Value} {xs_NotNewest : List Str} {xa_NotNewest : Bool} {xc_NotNewest : Option Bool} {xd_NotNewest iod_NotNewest ian_NotNewest : Option Addr} {x0_NotNewest x1_NotNewest x2_NotNewest x3_NotNewest x5_NotNewest : Option Value} {ioc_NotNewest ikV_NotNewest idc_NotNewest ipm_NotNewest icd_NotNewest ict_NotNewest : Value} {isl_NotNewest : Array (Option Value)} {xn_TooPointed xq_TooPointed : Str} {xN_TooPointed fi_TooPointed : Addr} {xb_TooPointed xu_TooPointed : List Value} {xs_TooPointed : List Str} {xa_TooPointed : Bool} {xc_TooPointed : Option Bool} {xd_TooPointed iod_TooPointed ian_TooPointed : Option Addr} {x0_TooPointed x1_TooPointed x2_TooPointed x3_TooPointed x5_TooPointed : Option Value} {ioc_TooPointed ikV_TooPointed idc_TooPointed ipm_TooPointed icd_TooPointed ict_TooPointed : Value} {isl_TooPointed : Array (Option Value)} {xn_Unknown xq_Unknown : Str} {xN_Unknown fi_Unknown : Addr} {xb_Unknown xu_Unknown : List Value} {xs_Unknown : List Str} {xa_Unknown : Bool} {xc_Unknown : Option Bool} {xd_Unknown iod_Unknown ian_Unknown : Option Addr} {x0_Unknown x1_Unknown x2_Unknown x3_Unknown x5_Unknown : Option Value} {ioc_Unknown ikV_Unknown idc_Unknown ipm_Unknown icd_Unknown ict_Unknown : Value} {isl_Unknown : Array (Option Value)} {xn_Stopped xq_Stopped : Str} {xN_Stopped fi_Stopped : Addr} {xb_Stopped xu_Stopped : List Value} {xs_Stopped : List Str} {xa_Stopped : Bool} {xc_Stopped : Option Bool} {xd_Stopped iod_Stopped ian_Stopped : Option Addr} {x0_Stopped x1_Stopped x2_Stopped x3_Stopped x5_Stopped : Option Value} {ioc_Stopped ikV_Stopped idc_Stopped ipm_Stopped icd_Stopped ict_Stopped : Value} {isl_Stopped : Array (Option Value)} (X : K.In h) (G : h.Ns mainGlobals mg) (hfa : mg "law" = some (.ref fa))
    (a0 : PySem.W.nsIn K mainGlobals "_law_begun" = some (some (.ref f0)))
    (l0 : K.lookup f0 = some ⟨oc0, od0, .func (PySem.W.fnOf "_law_begun" "_law_begun" (defArgs s_l_begun) (defBody s_l_begun) (defScope s_l_begun) .none kV0 dc0 pm0 an0 cd0 ct0), sl0⟩)
    (c0 : PySem.W.codeIn K cd0 "_law_begun" = true)
    (k0 : PySem.W.keepIn K (.ref f0) = true)
    (a1 : PySem.W.nsIn K mainGlobals "_law_blended" = some (some (.ref f1)))
    (l1 : K.lookup f1 = some ⟨oc1, od1, .func (PySem.W.fnOf "_law_blended" "_law_blended" (defArgs s_l_blended) (defBody s_l_blended) (defScope s_l_blended) .none kV1 dc1 pm1 an1 cd1 ct1), sl1⟩)
    (c1 : PySem.W.codeIn K cd1 "_law_blended" = true)
    (k1 : PySem.W.keepIn K (.ref f1) = true)
    (a2 : PySem.W.nsIn K mainGlobals "_law_draw" = some (some (.ref f2)))
    (l2 : K.lookup f2 = some ⟨oc2, od2, .func (PySem.W.fnOf "_law_draw" "_law_draw" (defArgs s_l_draw) (defBody s_l_draw) (defScope s_l_draw) .none kV2 dc2 pm2 an2 cd2 ct2), sl2⟩)
    (c2 : PySem.W.codeIn K cd2 "_law_draw" = true)
    (k2 : PySem.W.keepIn K (.ref f2) = true)
    (a3 : PySem.W.nsIn K mainGlobals "_law_pick" = some (some (.ref f3)))
    (l3 : K.lookup f3 = some ⟨oc3, od3, .func (PySem.W.fnOf "_law_pick" "_law_pick" (defArgs s_l_pick) (defBody s_l_pick) (defScope s_l_pick) .none kV3 dc3 pm3 an3 cd3 ct3), sl3⟩)
    (c3 : PySem.W.codeIn K cd3 "_law_pick" = true)
    (k3 : PySem.W.keepIn K (.ref f3) = true)
    (a4 : PySem.W.nsIn K mainGlobals "_law_er_made" = some (some (.ref f4)))
    (l4 : K.lookup f4 = some ⟨oc4, od4, .func (PySem.W.fnOf "_law_er_made" "_law_er_made" (defArgs s_l_er_made) (defBody s_l_er_made) (defScope s_l_er_made) .none kV4 dc4 pm4 an4 cd4 ct4), sl4⟩)
    (c4 : PySem.W.codeIn K cd4 "_law_er_made" = true)
    (k4 : PySem.W.keepIn K (.ref f4) = true)
    (a5 : PySem.W.nsIn K mainGlobals "_law_er_first" = some (some (.ref f5)))
    (l5 : K.lookup f5 = some ⟨oc5, od5, .func (PySem.W.fnOf "_law_er_first" "_law_er_first" (defArgs s_l_er_first) (defBody s_l_er_first) (defScope s_l_er_first) .none kV5 dc5 pm5 an5 cd5 ct5), sl5⟩)
    (c5 : PySem.W.codeIn K cd5 "_law_er_first" = true)
    (k5 : PySem.W.keepIn K (.ref f5) = true)
    (a6 : PySem.W.nsIn K mainGlobals "_law_er_kinds" = some (some (.ref f6)))
    (l6 : K.lookup f6 = some ⟨oc6, od6, .func (PySem.W.fnOf "_law_er_kinds" "_law_er_kinds" (defArgs s_l_er_kinds) (defBody s_l_er_kinds) (defScope s_l_er_kinds) .none kV6 dc6 pm6 an6 cd6 ct6), sl6⟩)
    (c6 : PySem.W.codeIn K cd6 "_law_er_kinds" = true)
    (k6 : PySem.W.keepIn K (.ref f6) = true)
    (a7 : PySem.W.nsIn K mainGlobals "_law_er_told" = some (some (.ref f7)))
    (l7 : K.lookup f7 = some ⟨oc7, od7, .func (PySem.W.fnOf "_law_er_told" "_law_er_told" (defArgs s_l_er_told) (defBody s_l_er_told) (defScope s_l_er_told) .none kV7 dc7 pm7 an7 cd7 ct7), sl7⟩)
    (c7 : PySem.W.codeIn K cd7 "_law_er_told" = true)
    (k7 : PySem.W.keepIn K (.ref f7) = true)
    (a8 : PySem.W.nsIn K mainGlobals "law" = some (some (.ref f8)))
    (l8 : K.lookup f8 = some ⟨oc8, od8, .func (PySem.W.fnOf "law" "law" (defArgs s_law) (defBody s_law) (defScope s_law) .none kV8 dc8 pm8 an8 cd8 ct8), sl8⟩)
    (c8 : PySem.W.codeIn K cd8 "law" = true)
    (k8 : PySem.W.keepIn K (.ref f8) = true)
    (z0 : PySem.W.nsIn K mainGlobals "int" = some none)
    (z1 : PySem.W.nsIn K mainGlobals "len" = some none)
    (z2 : PySem.W.nsIn K mainGlobals "abs" = some none)
    (z3 : PySem.W.nsIn K mainGlobals "isinstance" = some none)
    (z4 : PySem.W.nsIn K mainGlobals "tuple" = some none)
    (z5 : PySem.W.nsIn K mainGlobals "list" = some none)
    (z6 : PySem.W.nsIn K mainGlobals "range" = some none)
    (z7 : PySem.W.nsIn K mainGlobals "min" = some none)
    (z8 : PySem.W.nsIn K mainGlobals "all" = some none)
    (z9 : PySem.W.nsIn K mainGlobals "sorted" = some none)
    (z10 : PySem.W.nsIn K mainGlobals "bool" = some none)
    (z11 : PySem.W.nsIn K mainGlobals "enumerate" = some none)
    (z12 : PySem.W.nsIn K mainGlobals "reversed" = some none)
    (z13 : PySem.W.nsIn K mainGlobals "zip" = some none)
    (z14 : PySem.W.nsIn K mainGlobals "str" = some none)
    (z15 : PySem.W.nsIn K mainGlobals "ValueError" = some none)
    (e_g : PySem.W.nsIn K mainGlobals "CopyError" = some (some (.ref CE)))
    (e_b : PySem.W.subIn K (.ref CE) (.type "BaseException") = some true)
    (e_d : PySem.W.hasDictIn K CE = true)
    (e_t : PySem.W.typeIn K (.ref CE) = some (.type "type"))
    (x_cn : PySem.W.specialIn K (.builtin "object.__class__") "__get__" = some (some (.builtin "getset_descriptor.__get__")))
    (x_ct : PySem.W.takesIn K (.builtin "object.__class__") = some true)
    (g_BadDeed : PySem.W.nsIn K mainGlobals "BadDeed" = some (some (.ref C_BadDeed)))
    (k_BadDeed : PySem.W.keepIn K (.ref C_BadDeed) = true)
    (y_BadDeed : PySem.W.typeIn K (.ref C_BadDeed) = some (.type "type"))
    (b_BadDeed : PySem.W.subIn K (.ref C_BadDeed) (.type "BaseException") = some true)
    (s_BadDeed : PySem.W.subIn K (.ref C_BadDeed) (.ref CE) = some true)
    (i_BadDeed : PySem.W.isClsIn K C_BadDeed = true)
    (ga_BadDeed : PySem.W.findIn K (.ref C_BadDeed) "__getattribute__" = some (some (.builtin "BaseException.__getattribute__")))
    (gg_BadDeed : PySem.W.findIn K (.ref C_BadDeed) "__getattr__" = some none)
    (ca_BadDeed : PySem.W.findIn K (.ref C_BadDeed) "__class__" = some (some (.builtin "object.__class__")))
    (cm_BadDeed : PySem.W.mroIn K C_BadDeed (.type "object") = some true)
    (x_BadDeed : K.lookup C_BadDeed = some (excClassObj xn_BadDeed xq_BadDeed C_BadDeed xN_BadDeed xb_BadDeed (.ref CE :: [.type "ValueError", .type "Exception", .type "BaseException", .type "object"]) true xs_BadDeed xu_BadDeed xa_BadDeed xc_BadDeed xd_BadDeed x0_BadDeed x1_BadDeed x2_BadDeed x3_BadDeed x5_BadDeed "ValueError.__new__"))
    (sa_BadDeed : PySem.W.findIn K (.ref C_BadDeed) "__setattr__" = some (some (.builtin "object.__setattr__")))
    (hd_BadDeed : PySem.W.hasDictIn K C_BadDeed = true)
    (no_BadDeed : PySem.W.findIn K (.ref C_BadDeed) "at" = some none)
    (in_BadDeed : PySem.W.findIn K (.ref C_BadDeed) "__init__" = some (some (.ref fi_BadDeed)))
    (it_BadDeed : PySem.W.typeIn K (.ref fi_BadDeed) = some (.type "function"))
    (il_BadDeed : K.lookup fi_BadDeed = some ⟨ioc_BadDeed, iod_BadDeed, .func (PySem.W.fnOf "__init__" "BadDeed.__init__" (defArgs si_BadDeed) (defBody si_BadDeed) (defScope si_BadDeed) .none ikV_BadDeed idc_BadDeed ipm_BadDeed ian_BadDeed icd_BadDeed ict_BadDeed), isl_BadDeed⟩)
    (ic_BadDeed : PySem.W.codeIn K icd_BadDeed "BadDeed.__init__" = true)
    (ik_BadDeed : PySem.W.keepIn K (.ref fi_BadDeed) = true)
    (g_BadEvents : PySem.W.nsIn K mainGlobals "BadEvents" = some (some (.ref C_BadEvents)))
    (k_BadEvents : PySem.W.keepIn K (.ref C_BadEvents) = true)
    (y_BadEvents : PySem.W.typeIn K (.ref C_BadEvents) = some (.type "type"))
    (b_BadEvents : PySem.W.subIn K (.ref C_BadEvents) (.type "BaseException") = some true)
    (s_BadEvents : PySem.W.subIn K (.ref C_BadEvents) (.ref CE) = some true)
    (i_BadEvents : PySem.W.isClsIn K C_BadEvents = true)
    (ga_BadEvents : PySem.W.findIn K (.ref C_BadEvents) "__getattribute__" = some (some (.builtin "BaseException.__getattribute__")))
    (gg_BadEvents : PySem.W.findIn K (.ref C_BadEvents) "__getattr__" = some none)
    (ca_BadEvents : PySem.W.findIn K (.ref C_BadEvents) "__class__" = some (some (.builtin "object.__class__")))
    (cm_BadEvents : PySem.W.mroIn K C_BadEvents (.type "object") = some true)
    (x_BadEvents : K.lookup C_BadEvents = some (excClassObj xn_BadEvents xq_BadEvents C_BadEvents xN_BadEvents xb_BadEvents (.ref CE :: [.type "ValueError", .type "Exception", .type "BaseException", .type "object"]) true xs_BadEvents xu_BadEvents xa_BadEvents xc_BadEvents xd_BadEvents x0_BadEvents x1_BadEvents x2_BadEvents x3_BadEvents x5_BadEvents "ValueError.__new__"))
    (sa_BadEvents : PySem.W.findIn K (.ref C_BadEvents) "__setattr__" = some (some (.builtin "object.__setattr__")))
    (hd_BadEvents : PySem.W.hasDictIn K C_BadEvents = true)
    (no_BadEvents : PySem.W.findIn K (.ref C_BadEvents) "at" = some none)
    (in_BadEvents : PySem.W.findIn K (.ref C_BadEvents) "__init__" = some (some (.ref fi_BadEvents)))
    (it_BadEvents : PySem.W.typeIn K (.ref fi_BadEvents) = some (.type "function"))
    (il_BadEvents : K.lookup fi_BadEvents = some ⟨ioc_BadEvents, iod_BadEvents, .func (PySem.W.fnOf "__init__" "BadEvents.__init__" (defArgs si_BadEvents) (defBody si_BadEvents) (defScope si_BadEvents) .none ikV_BadEvents idc_BadEvents ipm_BadEvents ian_BadEvents icd_BadEvents ict_BadEvents), isl_BadEvents⟩)
    (ic_BadEvents : PySem.W.codeIn K icd_BadEvents "BadEvents.__init__" = true)
    (ik_BadEvents : PySem.W.keepIn K (.ref fi_BadEvents) = true)
    (g_BadPuts : PySem.W.nsIn K mainGlobals "BadPuts" = some (some (.ref C_BadPuts)))
    (k_BadPuts : PySem.W.keepIn K (.ref C_BadPuts) = true)
    (y_BadPuts : PySem.W.typeIn K (.ref C_BadPuts) = some (.type "type"))
    (b_BadPuts : PySem.W.subIn K (.ref C_BadPuts) (.type "BaseException") = some true)
    (s_BadPuts : PySem.W.subIn K (.ref C_BadPuts) (.ref CE) = some true)
    (i_BadPuts : PySem.W.isClsIn K C_BadPuts = true)
    (ga_BadPuts : PySem.W.findIn K (.ref C_BadPuts) "__getattribute__" = some (some (.builtin "BaseException.__getattribute__")))
    (gg_BadPuts : PySem.W.findIn K (.ref C_BadPuts) "__getattr__" = some none)
    (ca_BadPuts : PySem.W.findIn K (.ref C_BadPuts) "__class__" = some (some (.builtin "object.__class__")))
    (cm_BadPuts : PySem.W.mroIn K C_BadPuts (.type "object") = some true)
    (x_BadPuts : K.lookup C_BadPuts = some (excClassObj xn_BadPuts xq_BadPuts C_BadPuts xN_BadPuts xb_BadPuts (.ref CE :: [.type "ValueError", .type "Exception", .type "BaseException", .type "object"]) true xs_BadPuts xu_BadPuts xa_BadPuts xc_BadPuts xd_BadPuts x0_BadPuts x1_BadPuts x2_BadPuts x3_BadPuts x5_BadPuts "ValueError.__new__"))
    (sa_BadPuts : PySem.W.findIn K (.ref C_BadPuts) "__setattr__" = some (some (.builtin "object.__setattr__")))
    (hd_BadPuts : PySem.W.hasDictIn K C_BadPuts = true)
    (no_BadPuts : PySem.W.findIn K (.ref C_BadPuts) "at" = some none)
    (in_BadPuts : PySem.W.findIn K (.ref C_BadPuts) "__init__" = some (some (.ref fi_BadPuts)))
    (it_BadPuts : PySem.W.typeIn K (.ref fi_BadPuts) = some (.type "function"))
    (il_BadPuts : K.lookup fi_BadPuts = some ⟨ioc_BadPuts, iod_BadPuts, .func (PySem.W.fnOf "__init__" "BadPuts.__init__" (defArgs si_BadPuts) (defBody si_BadPuts) (defScope si_BadPuts) .none ikV_BadPuts idc_BadPuts ipm_BadPuts ian_BadPuts icd_BadPuts ict_BadPuts), isl_BadPuts⟩)
    (ic_BadPuts : PySem.W.codeIn K icd_BadPuts "BadPuts.__init__" = true)
    (ik_BadPuts : PySem.W.keepIn K (.ref fi_BadPuts) = true)
    (g_BadText : PySem.W.nsIn K mainGlobals "BadText" = some (some (.ref C_BadText)))
    (k_BadText : PySem.W.keepIn K (.ref C_BadText) = true)
    (y_BadText : PySem.W.typeIn K (.ref C_BadText) = some (.type "type"))
    (b_BadText : PySem.W.subIn K (.ref C_BadText) (.type "BaseException") = some true)
    (s_BadText : PySem.W.subIn K (.ref C_BadText) (.ref CE) = some true)
    (i_BadText : PySem.W.isClsIn K C_BadText = true)
    (ga_BadText : PySem.W.findIn K (.ref C_BadText) "__getattribute__" = some (some (.builtin "BaseException.__getattribute__")))
    (gg_BadText : PySem.W.findIn K (.ref C_BadText) "__getattr__" = some none)
    (ca_BadText : PySem.W.findIn K (.ref C_BadText) "__class__" = some (some (.builtin "object.__class__")))
    (cm_BadText : PySem.W.mroIn K C_BadText (.type "object") = some true)
    (x_BadText : K.lookup C_BadText = some (excClassObj xn_BadText xq_BadText C_BadText xN_BadText xb_BadText (.ref CE :: [.type "ValueError", .type "Exception", .type "BaseException", .type "object"]) true xs_BadText xu_BadText xa_BadText xc_BadText xd_BadText x0_BadText x1_BadText x2_BadText x3_BadText x5_BadText "ValueError.__new__"))
    (sa_BadText : PySem.W.findIn K (.ref C_BadText) "__setattr__" = some (some (.builtin "object.__setattr__")))
    (hd_BadText : PySem.W.hasDictIn K C_BadText = true)
    (no_BadText : PySem.W.findIn K (.ref C_BadText) "line" = some none)
    (in_BadText : PySem.W.findIn K (.ref C_BadText) "__init__" = some (some (.ref fi_BadText)))
    (it_BadText : PySem.W.typeIn K (.ref fi_BadText) = some (.type "function"))
    (il_BadText : K.lookup fi_BadText = some ⟨ioc_BadText, iod_BadText, .func (PySem.W.fnOf "__init__" "BadText.__init__" (defArgs si_BadText) (defBody si_BadText) (defScope si_BadText) .none ikV_BadText idc_BadText ipm_BadText ian_BadText icd_BadText ict_BadText), isl_BadText⟩)
    (ic_BadText : PySem.W.codeIn K icd_BadText "BadText.__init__" = true)
    (ik_BadText : PySem.W.keepIn K (.ref fi_BadText) = true)
    (g_Full : PySem.W.nsIn K mainGlobals "Full" = some (some (.ref C_Full)))
    (k_Full : PySem.W.keepIn K (.ref C_Full) = true)
    (y_Full : PySem.W.typeIn K (.ref C_Full) = some (.type "type"))
    (b_Full : PySem.W.subIn K (.ref C_Full) (.type "BaseException") = some true)
    (s_Full : PySem.W.subIn K (.ref C_Full) (.ref CE) = some true)
    (i_Full : PySem.W.isClsIn K C_Full = true)
    (ga_Full : PySem.W.findIn K (.ref C_Full) "__getattribute__" = some (some (.builtin "BaseException.__getattribute__")))
    (gg_Full : PySem.W.findIn K (.ref C_Full) "__getattr__" = some none)
    (ca_Full : PySem.W.findIn K (.ref C_Full) "__class__" = some (some (.builtin "object.__class__")))
    (cm_Full : PySem.W.mroIn K C_Full (.type "object") = some true)
    (x_Full : K.lookup C_Full = some (excClassObj xn_Full xq_Full C_Full xN_Full xb_Full (.ref CE :: [.type "ValueError", .type "Exception", .type "BaseException", .type "object"]) true xs_Full xu_Full xa_Full xc_Full xd_Full x0_Full x1_Full x2_Full x3_Full x5_Full "ValueError.__new__"))
    (sa_Full : PySem.W.findIn K (.ref C_Full) "__setattr__" = some (some (.builtin "object.__setattr__")))
    (hd_Full : PySem.W.hasDictIn K C_Full = true)
    (no_Full : PySem.W.findIn K (.ref C_Full) "many" = some none)
    (in_Full : PySem.W.findIn K (.ref C_Full) "__init__" = some (some (.ref fi_Full)))
    (it_Full : PySem.W.typeIn K (.ref fi_Full) = some (.type "function"))
    (il_Full : K.lookup fi_Full = some ⟨ioc_Full, iod_Full, .func (PySem.W.fnOf "__init__" "Full.__init__" (defArgs si_Full) (defBody si_Full) (defScope si_Full) .none ikV_Full idc_Full ipm_Full ian_Full icd_Full ict_Full), isl_Full⟩)
    (ic_Full : PySem.W.codeIn K icd_Full "Full.__init__" = true)
    (ik_Full : PySem.W.keepIn K (.ref fi_Full) = true)
    (g_NoRecord : PySem.W.nsIn K mainGlobals "NoRecord" = some (some (.ref C_NoRecord)))
    (k_NoRecord : PySem.W.keepIn K (.ref C_NoRecord) = true)
    (y_NoRecord : PySem.W.typeIn K (.ref C_NoRecord) = some (.type "type"))
    (b_NoRecord : PySem.W.subIn K (.ref C_NoRecord) (.type "BaseException") = some true)
    (s_NoRecord : PySem.W.subIn K (.ref C_NoRecord) (.ref CE) = some true)
    (i_NoRecord : PySem.W.isClsIn K C_NoRecord = true)
    (ga_NoRecord : PySem.W.findIn K (.ref C_NoRecord) "__getattribute__" = some (some (.builtin "BaseException.__getattribute__")))
    (gg_NoRecord : PySem.W.findIn K (.ref C_NoRecord) "__getattr__" = some none)
    (ca_NoRecord : PySem.W.findIn K (.ref C_NoRecord) "__class__" = some (some (.builtin "object.__class__")))
    (cm_NoRecord : PySem.W.mroIn K C_NoRecord (.type "object") = some true)
    (x_NoRecord : K.lookup C_NoRecord = some (excClassObj xn_NoRecord xq_NoRecord C_NoRecord xN_NoRecord xb_NoRecord (.ref CE :: [.type "ValueError", .type "Exception", .type "BaseException", .type "object"]) true xs_NoRecord xu_NoRecord xa_NoRecord xc_NoRecord xd_NoRecord x0_NoRecord x1_NoRecord x2_NoRecord x3_NoRecord x5_NoRecord "ValueError.__new__"))
    (sa_NoRecord : PySem.W.findIn K (.ref C_NoRecord) "__setattr__" = some (some (.builtin "object.__setattr__")))
    (hd_NoRecord : PySem.W.hasDictIn K C_NoRecord = true)
    (no_NoRecord : PySem.W.findIn K (.ref C_NoRecord) "record" = some none)
    (in_NoRecord : PySem.W.findIn K (.ref C_NoRecord) "__init__" = some (some (.ref fi_NoRecord)))
    (it_NoRecord : PySem.W.typeIn K (.ref fi_NoRecord) = some (.type "function"))
    (il_NoRecord : K.lookup fi_NoRecord = some ⟨ioc_NoRecord, iod_NoRecord, .func (PySem.W.fnOf "__init__" "NoRecord.__init__" (defArgs si_NoRecord) (defBody si_NoRecord) (defScope si_NoRecord) .none ikV_NoRecord idc_NoRecord ipm_NoRecord ian_NoRecord icd_NoRecord ict_NoRecord), isl_NoRecord⟩)
    (ic_NoRecord : PySem.W.codeIn K icd_NoRecord "NoRecord.__init__" = true)
    (ik_NoRecord : PySem.W.keepIn K (.ref fi_NoRecord) = true)
    (g_NoWay : PySem.W.nsIn K mainGlobals "NoWay" = some (some (.ref C_NoWay)))
    (k_NoWay : PySem.W.keepIn K (.ref C_NoWay) = true)
    (y_NoWay : PySem.W.typeIn K (.ref C_NoWay) = some (.type "type"))
    (b_NoWay : PySem.W.subIn K (.ref C_NoWay) (.type "BaseException") = some true)
    (s_NoWay : PySem.W.subIn K (.ref C_NoWay) (.ref CE) = some true)
    (i_NoWay : PySem.W.isClsIn K C_NoWay = true)
    (ga_NoWay : PySem.W.findIn K (.ref C_NoWay) "__getattribute__" = some (some (.builtin "BaseException.__getattribute__")))
    (gg_NoWay : PySem.W.findIn K (.ref C_NoWay) "__getattr__" = some none)
    (ca_NoWay : PySem.W.findIn K (.ref C_NoWay) "__class__" = some (some (.builtin "object.__class__")))
    (cm_NoWay : PySem.W.mroIn K C_NoWay (.type "object") = some true)
    (x_NoWay : K.lookup C_NoWay = some (excClassObj xn_NoWay xq_NoWay C_NoWay xN_NoWay xb_NoWay (.ref CE :: [.type "ValueError", .type "Exception", .type "BaseException", .type "object"]) true xs_NoWay xu_NoWay xa_NoWay xc_NoWay xd_NoWay x0_NoWay x1_NoWay x2_NoWay x3_NoWay x5_NoWay "ValueError.__new__"))
    (sa_NoWay : PySem.W.findIn K (.ref C_NoWay) "__setattr__" = some (some (.builtin "object.__setattr__")))
    (hd_NoWay : PySem.W.hasDictIn K C_NoWay = true)
    (no_NoWay : PySem.W.findIn K (.ref C_NoWay) "at" = some none)
    (in_NoWay : PySem.W.findIn K (.ref C_NoWay) "__init__" = some (some (.ref fi_NoWay)))
    (it_NoWay : PySem.W.typeIn K (.ref fi_NoWay) = some (.type "function"))
    (il_NoWay : K.lookup fi_NoWay = some ⟨ioc_NoWay, iod_NoWay, .func (PySem.W.fnOf "__init__" "NoWay.__init__" (defArgs si_NoWay) (defBody si_NoWay) (defScope si_NoWay) .none ikV_NoWay idc_NoWay ipm_NoWay ian_NoWay icd_NoWay ict_NoWay), isl_NoWay⟩)
    (ic_NoWay : PySem.W.codeIn K icd_NoWay "NoWay.__init__" = true)
    (ik_NoWay : PySem.W.keepIn K (.ref fi_NoWay) = true)
    (g_NotNewest : PySem.W.nsIn K mainGlobals "NotNewest" = some (some (.ref C_NotNewest)))
    (k_NotNewest : PySem.W.keepIn K (.ref C_NotNewest) = true)
    (y_NotNewest : PySem.W.typeIn K (.ref C_NotNewest) = some (.type "type"))
    (b_NotNewest : PySem.W.subIn K (.ref C_NotNewest) (.type "BaseException") = some true)
    (s_NotNewest : PySem.W.subIn K (.ref C_NotNewest) (.ref CE) = some true)
    (i_NotNewest : PySem.W.isClsIn K C_NotNewest = true)
    (ga_NotNewest : PySem.W.findIn K (.ref C_NotNewest) "__getattribute__" = some (some (.builtin "BaseException.__getattribute__")))
    (gg_NotNewest : PySem.W.findIn K (.ref C_NotNewest) "__getattr__" = some none)
    (ca_NotNewest : PySem.W.findIn K (.ref C_NotNewest) "__class__" = some (some (.builtin "object.__class__")))
    (cm_NotNewest : PySem.W.mroIn K C_NotNewest (.type "object") = some true)
    (x_NotNewest : K.lookup C_NotNewest = some (excClassObj xn_NotNewest xq_NotNewest C_NotNewest xN_NotNewest xb_NotNewest (.ref CE :: [.type "ValueError", .type "Exception", .type "BaseException", .type "object"]) true xs_NotNewest xu_NotNewest xa_NotNewest xc_NotNewest xd_NotNewest x0_NotNewest x1_NotNewest x2_NotNewest x3_NotNewest x5_NotNewest "ValueError.__new__"))
    (sa_NotNewest : PySem.W.findIn K (.ref C_NotNewest) "__setattr__" = some (some (.builtin "object.__setattr__")))
    (hd_NotNewest : PySem.W.hasDictIn K C_NotNewest = true)
    (no_NotNewest : PySem.W.findIn K (.ref C_NotNewest) "newest" = some none)
    (in_NotNewest : PySem.W.findIn K (.ref C_NotNewest) "__init__" = some (some (.ref fi_NotNewest)))
    (it_NotNewest : PySem.W.typeIn K (.ref fi_NotNewest) = some (.type "function"))
    (il_NotNewest : K.lookup fi_NotNewest = some ⟨ioc_NotNewest, iod_NotNewest, .func (PySem.W.fnOf "__init__" "NotNewest.__init__" (defArgs si_NotNewest) (defBody si_NotNewest) (defScope si_NotNewest) .none ikV_NotNewest idc_NotNewest ipm_NotNewest ian_NotNewest icd_NotNewest ict_NotNewest), isl_NotNewest⟩)
    (ic_NotNewest : PySem.W.codeIn K icd_NotNewest "NotNewest.__init__" = true)
    (ik_NotNewest : PySem.W.keepIn K (.ref fi_NotNewest) = true)
    (g_TooPointed : PySem.W.nsIn K mainGlobals "TooPointed" = some (some (.ref C_TooPointed)))
    (k_TooPointed : PySem.W.keepIn K (.ref C_TooPointed) = true)
    (y_TooPointed : PySem.W.typeIn K (.ref C_TooPointed) = some (.type "type"))
    (b_TooPointed : PySem.W.subIn K (.ref C_TooPointed) (.type "BaseException") = some true)
    (s_TooPointed : PySem.W.subIn K (.ref C_TooPointed) (.ref CE) = some true)
    (i_TooPointed : PySem.W.isClsIn K C_TooPointed = true)
    (ga_TooPointed : PySem.W.findIn K (.ref C_TooPointed) "__getattribute__" = some (some (.builtin "BaseException.__getattribute__")))
    (gg_TooPointed : PySem.W.findIn K (.ref C_TooPointed) "__getattr__" = some none)
    (ca_TooPointed : PySem.W.findIn K (.ref C_TooPointed) "__class__" = some (some (.builtin "object.__class__")))
    (cm_TooPointed : PySem.W.mroIn K C_TooPointed (.type "object") = some true)
    (x_TooPointed : K.lookup C_TooPointed = some (excClassObj xn_TooPointed xq_TooPointed C_TooPointed xN_TooPointed xb_TooPointed (.ref CE :: [.type "ValueError", .type "Exception", .type "BaseException", .type "object"]) true xs_TooPointed xu_TooPointed xa_TooPointed xc_TooPointed xd_TooPointed x0_TooPointed x1_TooPointed x2_TooPointed x3_TooPointed x5_TooPointed "ValueError.__new__"))
    (sa_TooPointed : PySem.W.findIn K (.ref C_TooPointed) "__setattr__" = some (some (.builtin "object.__setattr__")))
    (hd_TooPointed : PySem.W.hasDictIn K C_TooPointed = true)
    (no_TooPointed : PySem.W.findIn K (.ref C_TooPointed) "record" = some none)
    (in_TooPointed : PySem.W.findIn K (.ref C_TooPointed) "__init__" = some (some (.ref fi_TooPointed)))
    (it_TooPointed : PySem.W.typeIn K (.ref fi_TooPointed) = some (.type "function"))
    (il_TooPointed : K.lookup fi_TooPointed = some ⟨ioc_TooPointed, iod_TooPointed, .func (PySem.W.fnOf "__init__" "TooPointed.__init__" (defArgs si_TooPointed) (defBody si_TooPointed) (defScope si_TooPointed) .none ikV_TooPointed idc_TooPointed ipm_TooPointed ian_TooPointed icd_TooPointed ict_TooPointed), isl_TooPointed⟩)
    (ic_TooPointed : PySem.W.codeIn K icd_TooPointed "TooPointed.__init__" = true)
    (ik_TooPointed : PySem.W.keepIn K (.ref fi_TooPointed) = true)
    (g_Unknown : PySem.W.nsIn K mainGlobals "Unknown" = some (some (.ref C_Unknown)))
    (k_Unknown : PySem.W.keepIn K (.ref C_Unknown) = true)
    (y_Unknown : PySem.W.typeIn K (.ref C_Unknown) = some (.type "type"))
    (b_Unknown : PySem.W.subIn K (.ref C_Unknown) (.type "BaseException") = some true)
    (s_Unknown : PySem.W.subIn K (.ref C_Unknown) (.ref CE) = some true)
    (i_Unknown : PySem.W.isClsIn K C_Unknown = true)
    (ga_Unknown : PySem.W.findIn K (.ref C_Unknown) "__getattribute__" = some (some (.builtin "BaseException.__getattribute__")))
    (gg_Unknown : PySem.W.findIn K (.ref C_Unknown) "__getattr__" = some none)
    (ca_Unknown : PySem.W.findIn K (.ref C_Unknown) "__class__" = some (some (.builtin "object.__class__")))
    (cm_Unknown : PySem.W.mroIn K C_Unknown (.type "object") = some true)
    (x_Unknown : K.lookup C_Unknown = some (excClassObj xn_Unknown xq_Unknown C_Unknown xN_Unknown xb_Unknown (.ref CE :: [.type "ValueError", .type "Exception", .type "BaseException", .type "object"]) true xs_Unknown xu_Unknown xa_Unknown xc_Unknown xd_Unknown x0_Unknown x1_Unknown x2_Unknown x3_Unknown x5_Unknown "ValueError.__new__"))
    (sa_Unknown : PySem.W.findIn K (.ref C_Unknown) "__setattr__" = some (some (.builtin "object.__setattr__")))
    (hd_Unknown : PySem.W.hasDictIn K C_Unknown = true)
    (no_Unknown : PySem.W.findIn K (.ref C_Unknown) "name" = some none)
    (in_Unknown : PySem.W.findIn K (.ref C_Unknown) "__init__" = some (some (.ref fi_Unknown)))
    (it_Unknown : PySem.W.typeIn K (.ref fi_Unknown) = some (.type "function"))
    (il_Unknown : K.lookup fi_Unknown = some ⟨ioc_Unknown, iod_Unknown, .func (PySem.W.fnOf "__init__" "Unknown.__init__" (defArgs si_Unknown) (defBody si_Unknown) (defScope si_Unknown) .none ikV_Unknown idc_Unknown ipm_Unknown ian_Unknown icd_Unknown ict_Unknown), isl_Unknown⟩)
    (ic_Unknown : PySem.W.codeIn K icd_Unknown "Unknown.__init__" = true)
    (ik_Unknown : PySem.W.keepIn K (.ref fi_Unknown) = true)
    (g_Stopped : PySem.W.nsIn K mainGlobals "Stopped" = some (some (.ref C_Stopped)))
    (n2_Stopped : PySem.W.findIn K (.ref C_Stopped) "steps" = some none)
    (k_Stopped : PySem.W.keepIn K (.ref C_Stopped) = true)
    (y_Stopped : PySem.W.typeIn K (.ref C_Stopped) = some (.type "type"))
    (b_Stopped : PySem.W.subIn K (.ref C_Stopped) (.type "BaseException") = some true)
    (s_Stopped : PySem.W.subIn K (.ref C_Stopped) (.ref CE) = some true)
    (i_Stopped : PySem.W.isClsIn K C_Stopped = true)
    (ga_Stopped : PySem.W.findIn K (.ref C_Stopped) "__getattribute__" = some (some (.builtin "BaseException.__getattribute__")))
    (gg_Stopped : PySem.W.findIn K (.ref C_Stopped) "__getattr__" = some none)
    (ca_Stopped : PySem.W.findIn K (.ref C_Stopped) "__class__" = some (some (.builtin "object.__class__")))
    (cm_Stopped : PySem.W.mroIn K C_Stopped (.type "object") = some true)
    (x_Stopped : K.lookup C_Stopped = some (excClassObj xn_Stopped xq_Stopped C_Stopped xN_Stopped xb_Stopped (.ref CE :: [.type "ValueError", .type "Exception", .type "BaseException", .type "object"]) true xs_Stopped xu_Stopped xa_Stopped xc_Stopped xd_Stopped x0_Stopped x1_Stopped x2_Stopped x3_Stopped x5_Stopped "ValueError.__new__"))
    (sa_Stopped : PySem.W.findIn K (.ref C_Stopped) "__setattr__" = some (some (.builtin "object.__setattr__")))
    (hd_Stopped : PySem.W.hasDictIn K C_Stopped = true)
    (no_Stopped : PySem.W.findIn K (.ref C_Stopped) "word" = some none)
    (in_Stopped : PySem.W.findIn K (.ref C_Stopped) "__init__" = some (some (.ref fi_Stopped)))
    (it_Stopped : PySem.W.typeIn K (.ref fi_Stopped) = some (.type "function"))
    (il_Stopped : K.lookup fi_Stopped = some ⟨ioc_Stopped, iod_Stopped, .func (PySem.W.fnOf "__init__" "Stopped.__init__" (defArgs si_Stopped) (defBody si_Stopped) (defScope si_Stopped) .none ikV_Stopped idc_Stopped ipm_Stopped ian_Stopped icd_Stopped ict_Stopped), isl_Stopped⟩)
    (ic_Stopped : PySem.W.codeIn K icd_Stopped "Stopped.__init__" = true)
    (ik_Stopped : PySem.W.keepIn K (.ref fi_Stopped) = true)
    (hA : W.erChk K = true) :
    PL.LawAtG l w K CX0 5 63 "script" mg fa h := by
  have e := hfa.symm.trans (PySem.W.mg_of X G a8)
  cases e
  have T : Bt mg := ⟨PySem.W.mg_none_of X G z0, PySem.W.mg_none_of X G z1, PySem.W.mg_none_of X G z2, PySem.W.mg_none_of X G z3, PySem.W.mg_none_of X G z4, PySem.W.mg_none_of X G z5, PySem.W.mg_none_of X G z6, PySem.W.mg_none_of X G z7, PySem.W.mg_none_of X G z8, PySem.W.mg_none_of X G z9, PySem.W.mg_none_of X G z10, PySem.W.mg_none_of X G z11, PySem.W.mg_none_of X G z12, PySem.W.mg_none_of X G z13, PySem.W.mg_none_of X G z14⟩
  refine ⟨PySem.W.fnOf "law" "law" (defArgs s_law) (defBody s_law) (defScope s_law) .none kV8 dc8 pm8 an8 cd8 ct8, [], spLawT K [], ⟨fun p hp => absurd hp List.not_mem_nil, fun p hp => absurd hp List.not_mem_nil, fun p hp => absurd hp List.not_mem_nil⟩, fun s v => .of_eq rfl, fun H a ns hl hH hS => ⟨a, ns, rfl, hS, hl, fun p hp => absurd hp List.not_mem_nil, fun _ => rfl⟩, fun base _ _ _ => ?_⟩
  have gE := PySem.W.mg_of X G e_g
  have IX_BadDeed : IsX K C_BadDeed := ⟨i_BadDeed, ga_BadDeed, gg_BadDeed, b_BadDeed, ca_BadDeed, x_cn, x_ct, cm_BadDeed⟩
  have EM_BadDeed : PySem.W.exmOne K (.ref C_BadDeed) (.ref CE) = some true := PySem.W.exm_ref e_b e_d e_t s_BadDeed
  have FI_BadDeed := fun_mk (st := si_BadDeed) il_BadDeed ic_BadDeed ik_BadDeed
  have OI_BadDeed := ok_init (P := l.prog) (w := w) (mg := mg) (base := base) FI_BadDeed ⟨rfl, rfl, rfl, by decide +kernel, rfl, by decide +kernel, by decide +kernel⟩ rfl (by decide +kernel) (by decide +kernel) (by decide) (by decide)
  have X_BadDeed : Ex1 l.prog w K mg base "BadDeed" "at" := ex1_mk (PySem.W.mg_of X G g_BadDeed) gE ⟨⟨_, _, _, _, _, _, _, _, _, _, _, _, _, _, _, x_BadDeed, rfl⟩, sa_BadDeed, b_BadDeed, y_BadDeed, k_BadDeed⟩ IX_BadDeed EM_BadDeed hd_BadDeed no_BadDeed in_BadDeed it_BadDeed OI_BadDeed (FI_BadDeed.binds (ps := ["self", "at"]) fun _ _ _ _ _ _ us hl => match us, hl with | [_, _], _ => rfl)
  have Y_BadDeed : Ex1K l.prog w K mg base "BadDeed" "at" := ⟨X_BadDeed, ⟨_, _, by rw [er_of (PySem.W.mg_of X G g_BadDeed)]; exact in_BadDeed, it_BadDeed, OI_BadDeed, kbM_mk FI_BadDeed (by decide) (fun _ _ _ _ _ _ us ws hu hl => match us, ws, hu, hl with | [_], [], _, hl => absurd hl (by simp [gM]) | [_], _ :: _, _, _ => rfl)⟩⟩
  have IX_BadEvents : IsX K C_BadEvents := ⟨i_BadEvents, ga_BadEvents, gg_BadEvents, b_BadEvents, ca_BadEvents, x_cn, x_ct, cm_BadEvents⟩
  have EM_BadEvents : PySem.W.exmOne K (.ref C_BadEvents) (.ref CE) = some true := PySem.W.exm_ref e_b e_d e_t s_BadEvents
  have FI_BadEvents := fun_mk (st := si_BadEvents) il_BadEvents ic_BadEvents ik_BadEvents
  have OI_BadEvents := ok_init (P := l.prog) (w := w) (mg := mg) (base := base) FI_BadEvents ⟨rfl, rfl, rfl, by decide +kernel, rfl, by decide +kernel, by decide +kernel⟩ rfl (by decide +kernel) (by decide +kernel) (by decide) (by decide)
  have X_BadEvents : Ex1 l.prog w K mg base "BadEvents" "at" := ex1_mk (PySem.W.mg_of X G g_BadEvents) gE ⟨⟨_, _, _, _, _, _, _, _, _, _, _, _, _, _, _, x_BadEvents, rfl⟩, sa_BadEvents, b_BadEvents, y_BadEvents, k_BadEvents⟩ IX_BadEvents EM_BadEvents hd_BadEvents no_BadEvents in_BadEvents it_BadEvents OI_BadEvents (FI_BadEvents.binds (ps := ["self", "at"]) fun _ _ _ _ _ _ us hl => match us, hl with | [_, _], _ => rfl)
  have Y_BadEvents : Ex1K l.prog w K mg base "BadEvents" "at" := ⟨X_BadEvents, ⟨_, _, by rw [er_of (PySem.W.mg_of X G g_BadEvents)]; exact in_BadEvents, it_BadEvents, OI_BadEvents, kbM_mk FI_BadEvents (by decide) (fun _ _ _ _ _ _ us ws hu hl => match us, ws, hu, hl with | [_], [], _, hl => absurd hl (by simp [gM]) | [_], _ :: _, _, _ => rfl)⟩⟩
  have IX_BadPuts : IsX K C_BadPuts := ⟨i_BadPuts, ga_BadPuts, gg_BadPuts, b_BadPuts, ca_BadPuts, x_cn, x_ct, cm_BadPuts⟩
  have EM_BadPuts : PySem.W.exmOne K (.ref C_BadPuts) (.ref CE) = some true := PySem.W.exm_ref e_b e_d e_t s_BadPuts
  have FI_BadPuts := fun_mk (st := si_BadPuts) il_BadPuts ic_BadPuts ik_BadPuts
  have OI_BadPuts := ok_init (P := l.prog) (w := w) (mg := mg) (base := base) FI_BadPuts ⟨rfl, rfl, rfl, by decide +kernel, rfl, by decide +kernel, by decide +kernel⟩ rfl (by decide +kernel) (by decide +kernel) (by decide) (by decide)
  have X_BadPuts : Ex1 l.prog w K mg base "BadPuts" "at" := ex1_mk (PySem.W.mg_of X G g_BadPuts) gE ⟨⟨_, _, _, _, _, _, _, _, _, _, _, _, _, _, _, x_BadPuts, rfl⟩, sa_BadPuts, b_BadPuts, y_BadPuts, k_BadPuts⟩ IX_BadPuts EM_BadPuts hd_BadPuts no_BadPuts in_BadPuts it_BadPuts OI_BadPuts (FI_BadPuts.binds (ps := ["self", "at"]) fun _ _ _ _ _ _ us hl => match us, hl with | [_, _], _ => rfl)
  have Y_BadPuts : Ex1K l.prog w K mg base "BadPuts" "at" := ⟨X_BadPuts, ⟨_, _, by rw [er_of (PySem.W.mg_of X G g_BadPuts)]; exact in_BadPuts, it_BadPuts, OI_BadPuts, kbM_mk FI_BadPuts (by decide) (fun _ _ _ _ _ _ us ws hu hl => match us, ws, hu, hl with | [_], [], _, hl => absurd hl (by simp [gM]) | [_], _ :: _, _, _ => rfl)⟩⟩
  have IX_BadText : IsX K C_BadText := ⟨i_BadText, ga_BadText, gg_BadText, b_BadText, ca_BadText, x_cn, x_ct, cm_BadText⟩
  have EM_BadText : PySem.W.exmOne K (.ref C_BadText) (.ref CE) = some true := PySem.W.exm_ref e_b e_d e_t s_BadText
  have FI_BadText := fun_mk (st := si_BadText) il_BadText ic_BadText ik_BadText
  have OI_BadText := ok_init (P := l.prog) (w := w) (mg := mg) (base := base) FI_BadText ⟨rfl, rfl, rfl, by decide +kernel, rfl, by decide +kernel, by decide +kernel⟩ rfl (by decide +kernel) (by decide +kernel) (by decide) (by decide)
  have X_BadText : Ex1 l.prog w K mg base "BadText" "line" := ex1_mk (PySem.W.mg_of X G g_BadText) gE ⟨⟨_, _, _, _, _, _, _, _, _, _, _, _, _, _, _, x_BadText, rfl⟩, sa_BadText, b_BadText, y_BadText, k_BadText⟩ IX_BadText EM_BadText hd_BadText no_BadText in_BadText it_BadText OI_BadText (FI_BadText.binds (ps := ["self", "line"]) fun _ _ _ _ _ _ us hl => match us, hl with | [_, _], _ => rfl)
  have Y_BadText : Ex1K l.prog w K mg base "BadText" "line" := ⟨X_BadText, ⟨_, _, by rw [er_of (PySem.W.mg_of X G g_BadText)]; exact in_BadText, it_BadText, OI_BadText, kbM_mk FI_BadText (by decide) (fun _ _ _ _ _ _ us ws hu hl => match us, ws, hu, hl with | [_], [], _, hl => absurd hl (by simp [gM]) | [_], _ :: _, _, _ => rfl)⟩⟩
  have IX_Full : IsX K C_Full := ⟨i_Full, ga_Full, gg_Full, b_Full, ca_Full, x_cn, x_ct, cm_Full⟩
  have EM_Full : PySem.W.exmOne K (.ref C_Full) (.ref CE) = some true := PySem.W.exm_ref e_b e_d e_t s_Full
  have FI_Full := fun_mk (st := si_Full) il_Full ic_Full ik_Full
  have OI_Full := ok_init (P := l.prog) (w := w) (mg := mg) (base := base) FI_Full ⟨rfl, rfl, rfl, by decide +kernel, rfl, by decide +kernel, by decide +kernel⟩ rfl (by decide +kernel) (by decide +kernel) (by decide) (by decide)
  have X_Full : Ex1 l.prog w K mg base "Full" "many" := ex1_mk (PySem.W.mg_of X G g_Full) gE ⟨⟨_, _, _, _, _, _, _, _, _, _, _, _, _, _, _, x_Full, rfl⟩, sa_Full, b_Full, y_Full, k_Full⟩ IX_Full EM_Full hd_Full no_Full in_Full it_Full OI_Full (FI_Full.binds (ps := ["self", "many"]) fun _ _ _ _ _ _ us hl => match us, hl with | [_, _], _ => rfl)
  have Y_Full : Ex1K l.prog w K mg base "Full" "many" := ⟨X_Full, ⟨_, _, by rw [er_of (PySem.W.mg_of X G g_Full)]; exact in_Full, it_Full, OI_Full, kbM_mk FI_Full (by decide) (fun _ _ _ _ _ _ us ws hu hl => match us, ws, hu, hl with | [_], [], _, hl => absurd hl (by simp [gM]) | [_], _ :: _, _, _ => rfl)⟩⟩
  have IX_NoRecord : IsX K C_NoRecord := ⟨i_NoRecord, ga_NoRecord, gg_NoRecord, b_NoRecord, ca_NoRecord, x_cn, x_ct, cm_NoRecord⟩
  have EM_NoRecord : PySem.W.exmOne K (.ref C_NoRecord) (.ref CE) = some true := PySem.W.exm_ref e_b e_d e_t s_NoRecord
  have FI_NoRecord := fun_mk (st := si_NoRecord) il_NoRecord ic_NoRecord ik_NoRecord
  have OI_NoRecord := ok_init (P := l.prog) (w := w) (mg := mg) (base := base) FI_NoRecord ⟨rfl, rfl, rfl, by decide +kernel, rfl, by decide +kernel, by decide +kernel⟩ rfl (by decide +kernel) (by decide +kernel) (by decide) (by decide)
  have X_NoRecord : Ex1 l.prog w K mg base "NoRecord" "record" := ex1_mk (PySem.W.mg_of X G g_NoRecord) gE ⟨⟨_, _, _, _, _, _, _, _, _, _, _, _, _, _, _, x_NoRecord, rfl⟩, sa_NoRecord, b_NoRecord, y_NoRecord, k_NoRecord⟩ IX_NoRecord EM_NoRecord hd_NoRecord no_NoRecord in_NoRecord it_NoRecord OI_NoRecord (FI_NoRecord.binds (ps := ["self", "record"]) fun _ _ _ _ _ _ us hl => match us, hl with | [_, _], _ => rfl)
  have Y_NoRecord : Ex1K l.prog w K mg base "NoRecord" "record" := ⟨X_NoRecord, ⟨_, _, by rw [er_of (PySem.W.mg_of X G g_NoRecord)]; exact in_NoRecord, it_NoRecord, OI_NoRecord, kbM_mk FI_NoRecord (by decide) (fun _ _ _ _ _ _ us ws hu hl => match us, ws, hu, hl with | [_], [], _, hl => absurd hl (by simp [gM]) | [_], _ :: _, _, _ => rfl)⟩⟩
  have IX_NoWay : IsX K C_NoWay := ⟨i_NoWay, ga_NoWay, gg_NoWay, b_NoWay, ca_NoWay, x_cn, x_ct, cm_NoWay⟩
  have EM_NoWay : PySem.W.exmOne K (.ref C_NoWay) (.ref CE) = some true := PySem.W.exm_ref e_b e_d e_t s_NoWay
  have FI_NoWay := fun_mk (st := si_NoWay) il_NoWay ic_NoWay ik_NoWay
  have OI_NoWay := ok_init (P := l.prog) (w := w) (mg := mg) (base := base) FI_NoWay ⟨rfl, rfl, rfl, by decide +kernel, rfl, by decide +kernel, by decide +kernel⟩ rfl (by decide +kernel) (by decide +kernel) (by decide) (by decide)
  have X_NoWay : Ex1 l.prog w K mg base "NoWay" "at" := ex1_mk (PySem.W.mg_of X G g_NoWay) gE ⟨⟨_, _, _, _, _, _, _, _, _, _, _, _, _, _, _, x_NoWay, rfl⟩, sa_NoWay, b_NoWay, y_NoWay, k_NoWay⟩ IX_NoWay EM_NoWay hd_NoWay no_NoWay in_NoWay it_NoWay OI_NoWay (FI_NoWay.binds (ps := ["self", "at"]) fun _ _ _ _ _ _ us hl => match us, hl with | [_, _], _ => rfl)
  have Y_NoWay : Ex1K l.prog w K mg base "NoWay" "at" := ⟨X_NoWay, ⟨_, _, by rw [er_of (PySem.W.mg_of X G g_NoWay)]; exact in_NoWay, it_NoWay, OI_NoWay, kbM_mk FI_NoWay (by decide) (fun _ _ _ _ _ _ us ws hu hl => match us, ws, hu, hl with | [_], [], _, hl => absurd hl (by simp [gM]) | [_], _ :: _, _, _ => rfl)⟩⟩
  have IX_NotNewest : IsX K C_NotNewest := ⟨i_NotNewest, ga_NotNewest, gg_NotNewest, b_NotNewest, ca_NotNewest, x_cn, x_ct, cm_NotNewest⟩
  have EM_NotNewest : PySem.W.exmOne K (.ref C_NotNewest) (.ref CE) = some true := PySem.W.exm_ref e_b e_d e_t s_NotNewest
  have FI_NotNewest := fun_mk (st := si_NotNewest) il_NotNewest ic_NotNewest ik_NotNewest
  have OI_NotNewest := ok_init (P := l.prog) (w := w) (mg := mg) (base := base) FI_NotNewest ⟨rfl, rfl, rfl, by decide +kernel, rfl, by decide +kernel, by decide +kernel⟩ rfl (by decide +kernel) (by decide +kernel) (by decide) (by decide)
  have X_NotNewest : Ex1 l.prog w K mg base "NotNewest" "newest" := ex1_mk (PySem.W.mg_of X G g_NotNewest) gE ⟨⟨_, _, _, _, _, _, _, _, _, _, _, _, _, _, _, x_NotNewest, rfl⟩, sa_NotNewest, b_NotNewest, y_NotNewest, k_NotNewest⟩ IX_NotNewest EM_NotNewest hd_NotNewest no_NotNewest in_NotNewest it_NotNewest OI_NotNewest (FI_NotNewest.binds (ps := ["self", "newest"]) fun _ _ _ _ _ _ us hl => match us, hl with | [_, _], _ => rfl)
  have Y_NotNewest : Ex1K l.prog w K mg base "NotNewest" "newest" := ⟨X_NotNewest, ⟨_, _, by rw [er_of (PySem.W.mg_of X G g_NotNewest)]; exact in_NotNewest, it_NotNewest, OI_NotNewest, kbM_mk FI_NotNewest (by decide) (fun _ _ _ _ _ _ us ws hu hl => match us, ws, hu, hl with | [_], [], _, hl => absurd hl (by simp [gM]) | [_], _ :: _, _, _ => rfl)⟩⟩
  have IX_TooPointed : IsX K C_TooPointed := ⟨i_TooPointed, ga_TooPointed, gg_TooPointed, b_TooPointed, ca_TooPointed, x_cn, x_ct, cm_TooPointed⟩
  have EM_TooPointed : PySem.W.exmOne K (.ref C_TooPointed) (.ref CE) = some true := PySem.W.exm_ref e_b e_d e_t s_TooPointed
  have FI_TooPointed := fun_mk (st := si_TooPointed) il_TooPointed ic_TooPointed ik_TooPointed
  have OI_TooPointed := ok_init (P := l.prog) (w := w) (mg := mg) (base := base) FI_TooPointed ⟨rfl, rfl, rfl, by decide +kernel, rfl, by decide +kernel, by decide +kernel⟩ rfl (by decide +kernel) (by decide +kernel) (by decide) (by decide)
  have X_TooPointed : Ex1 l.prog w K mg base "TooPointed" "record" := ex1_mk (PySem.W.mg_of X G g_TooPointed) gE ⟨⟨_, _, _, _, _, _, _, _, _, _, _, _, _, _, _, x_TooPointed, rfl⟩, sa_TooPointed, b_TooPointed, y_TooPointed, k_TooPointed⟩ IX_TooPointed EM_TooPointed hd_TooPointed no_TooPointed in_TooPointed it_TooPointed OI_TooPointed (FI_TooPointed.binds (ps := ["self", "record"]) fun _ _ _ _ _ _ us hl => match us, hl with | [_, _], _ => rfl)
  have Y_TooPointed : Ex1K l.prog w K mg base "TooPointed" "record" := ⟨X_TooPointed, ⟨_, _, by rw [er_of (PySem.W.mg_of X G g_TooPointed)]; exact in_TooPointed, it_TooPointed, OI_TooPointed, kbM_mk FI_TooPointed (by decide) (fun _ _ _ _ _ _ us ws hu hl => match us, ws, hu, hl with | [_], [], _, hl => absurd hl (by simp [gM]) | [_], _ :: _, _, _ => rfl)⟩⟩
  have IX_Unknown : IsX K C_Unknown := ⟨i_Unknown, ga_Unknown, gg_Unknown, b_Unknown, ca_Unknown, x_cn, x_ct, cm_Unknown⟩
  have EM_Unknown : PySem.W.exmOne K (.ref C_Unknown) (.ref CE) = some true := PySem.W.exm_ref e_b e_d e_t s_Unknown
  have FI_Unknown := fun_mk (st := si_Unknown) il_Unknown ic_Unknown ik_Unknown
  have OI_Unknown := ok_init (P := l.prog) (w := w) (mg := mg) (base := base) FI_Unknown ⟨rfl, rfl, rfl, by decide +kernel, rfl, by decide +kernel, by decide +kernel⟩ rfl (by decide +kernel) (by decide +kernel) (by decide) (by decide)
  have X_Unknown : Ex1 l.prog w K mg base "Unknown" "name" := ex1_mk (PySem.W.mg_of X G g_Unknown) gE ⟨⟨_, _, _, _, _, _, _, _, _, _, _, _, _, _, _, x_Unknown, rfl⟩, sa_Unknown, b_Unknown, y_Unknown, k_Unknown⟩ IX_Unknown EM_Unknown hd_Unknown no_Unknown in_Unknown it_Unknown OI_Unknown (FI_Unknown.binds (ps := ["self", "name"]) fun _ _ _ _ _ _ us hl => match us, hl with | [_, _], _ => rfl)
  have Y_Unknown : Ex1K l.prog w K mg base "Unknown" "name" := ⟨X_Unknown, ⟨_, _, by rw [er_of (PySem.W.mg_of X G g_Unknown)]; exact in_Unknown, it_Unknown, OI_Unknown, kbM_mk FI_Unknown (by decide) (fun _ _ _ _ _ _ us ws hu hl => match us, ws, hu, hl with | [_], [], _, hl => absurd hl (by simp [gM]) | [_], _ :: _, _, _ => rfl)⟩⟩
  have IX_Stopped : IsX K C_Stopped := ⟨i_Stopped, ga_Stopped, gg_Stopped, b_Stopped, ca_Stopped, x_cn, x_ct, cm_Stopped⟩
  have EM_Stopped : PySem.W.exmOne K (.ref C_Stopped) (.ref CE) = some true := PySem.W.exm_ref e_b e_d e_t s_Stopped
  have FI_Stopped := fun_mk (st := si_Stopped) il_Stopped ic_Stopped ik_Stopped
  have OI_Stopped := ok_init2 (P := l.prog) (w := w) (mg := mg) (base := base) FI_Stopped ⟨rfl, rfl, rfl, by decide +kernel, rfl, by decide +kernel, by decide +kernel⟩ rfl (by decide +kernel) (by decide +kernel) (by decide +kernel) (by decide) (by decide) (by decide) (by decide)
  have OX_Stopped : OexC K C_Stopped := ⟨⟨_, _, _, _, _, _, _, _, _, _, _, _, _, _, _, x_Stopped, rfl⟩, sa_Stopped, b_Stopped, y_Stopped, k_Stopped⟩
  have X_Stopped : Ex2 l.prog w K mg base "Stopped" "word" "steps" := ex2_mk (PySem.W.mg_of X G g_Stopped) gE OX_Stopped IX_Stopped EM_Stopped hd_Stopped no_Stopped n2_Stopped in_Stopped it_Stopped OI_Stopped (FI_Stopped.binds (ps := ["self", "word", "steps"]) fun _ _ _ _ _ _ us hl => match us, hl with | [_, _, _], _ => rfl)
  have Y_Stopped : Ex2K l.prog w K mg base "Stopped" "word" "steps" := ⟨X_Stopped, ⟨_, _, by rw [er_of (PySem.W.mg_of X G g_Stopped)]; exact in_Stopped, it_Stopped, OI_Stopped, kbM_mk FI_Stopped (by decide) (fun _ _ _ _ _ _ us ws hu hl => match us, ws, hu, hl with | [_], [], _, hl => absurd hl (by simp [gM]) | [_], [_], _, hl => absurd hl (by simp [gM]) | [_], _ :: _ :: _, _, _ => rfl), kbM_mk FI_Stopped (by decide) (fun _ _ _ _ _ _ us ws hu hl => match us, ws, hu, hl with | [_, _], [], _, hl => absurd hl (by simp [gM]) | [_, _], _ :: _, _, _ => rfl)⟩⟩
  have EF : W.ErF K mg := W.er_ef X G hA x_cn x_ct
  have EG : W.ErG K mg := W.er_eg X G hA
  have EX : ∀ x ∈ W.erX0, Ex0 K mg x := W.er_ex X G hA EF (by rw [er_of gE]; exact e_b) (by rw [er_of gE]; exact e_d) (by rw [er_of gE]; exact e_t)
  have F0 := fun_mk (st := s_l_begun) l0 c0 k0
  have P_l_begun : Pr l.prog w K mg base "_law_begun" 1 ["script"] (spBg K) := ⟨⟨_, _, ok_begun F0 T, PySem.W.mg_of X G a0, k0, F0.binds (ps := ["script"]) fun _ _ _ _ _ _ us hl => match us, hl with | [_], _ => rfl⟩⟩
  have F4 := fun_mk (st := s_l_er_made) l4 c4 k4
  have W_l_er_made : Pr l.prog w K mg base "_law_er_made" 3 ["text", "one", "other"] (spP CA 0 (W.S_l_er_made mg)) := ⟨⟨_, _, W.ok_l_er_made (k := 2) F4 T (hk2 := by decide) (EX := EX) (X_BadDeed := X_BadDeed) (X_BadEvents := X_BadEvents) (X_BadPuts := X_BadPuts) (X_BadText := X_BadText) (X_Full := X_Full) (X_NoRecord := X_NoRecord) (X_NoWay := X_NoWay) (X_NotNewest := X_NotNewest) (X_TooPointed := X_TooPointed) (X_Unknown := X_Unknown) (X_Stopped := X_Stopped) , PySem.W.mg_of X G a4, k4, F4.binds (ps := ["text", "one", "other"]) fun _ _ _ _ _ _ us hl => match us, hl with | [_, _, _], _ => rfl⟩⟩
  have F1 := fun_mk (st := s_l_blended) l1 c1 k1
  have P_l_blended : Pr l.prog w K mg base "_law_blended" 1 ["state"] (spT StW 1 SBl) := ⟨⟨_, _, ok_blended F1 T, PySem.W.mg_of X G a1, k1, F1.binds (ps := ["state"]) fun _ _ _ _ _ _ us hl => match us, hl with | [_], _ => rfl⟩⟩
  have F2 := fun_mk (st := s_l_draw) l2 c2 k2
  have P_l_draw : Pr l.prog w K mg base "_law_draw" 2 ["state", "size_here"] (spT StW 1 S_l_draw) := ⟨⟨_, _, ok_draw F2 T P_l_blended, PySem.W.mg_of X G a2, k2, F2.binds (ps := ["state", "size_here"]) fun _ _ _ _ _ _ us hl => match us, hl with | [_, _], _ => rfl⟩⟩
  have F3 := fun_mk (st := s_l_pick) l3 c3 k3
  have P_l_pick : Pr l.prog w K mg base "_law_pick" 3 ["state", "several"] (spT StW 1 S_l_pick) := ⟨⟨_, _, ok_l_pick (k := 2) F3 T (P_l_draw := P_l_draw.up (by decide)) , PySem.W.mg_of X G a3, k3, F3.binds (ps := ["state", "several"]) fun _ _ _ _ _ _ us hl => match us, hl with | [_, _], _ => rfl⟩⟩
  have F5 := fun_mk (st := s_l_er_first) l5 c5 k5
  have W_l_er_first : Pr l.prog w K mg base "_law_er_first" 1 ["error"] (spP CA 0 (W.S_l_er_first mg)) := ⟨⟨_, _, W.ok_l_er_first (k := 0) F5 T (EF := EF) , PySem.W.mg_of X G a5, k5, F5.binds (ps := ["error"]) fun _ _ _ _ _ _ us hl => match us, hl with | [_], _ => rfl⟩⟩
  have F6 := fun_mk (st := s_l_er_kinds) l6 c6 k6
  have W_l_er_kinds : Pr l.prog w K mg base "_law_er_kinds" 2 ["error"] (spP CA 0 (W.S_l_er_kinds mg)) := ⟨⟨_, _, W.ok_l_er_kinds (k := 1) F6 T (EF := EF) (P_l_er_first := W_l_er_first.up (by decide)) , PySem.W.mg_of X G a6, k6, F6.binds (ps := ["error"]) fun _ _ _ _ _ _ us hl => match us, hl with | [_], _ => rfl⟩⟩
  have F7 := fun_mk (st := s_l_er_told) l7 c7 k7
  have W_l_er_told : Pr l.prog w K mg base "_law_er_told" 3 ["text", "one", "other"] (spP CA 0 W.S_l_er_told) := ⟨⟨_, _, W.ok_l_er_told (k := 2) F7 T (hk2 := by decide) (Y_BadDeed := Y_BadDeed) (Y_BadEvents := Y_BadEvents) (Y_BadPuts := Y_BadPuts) (Y_BadText := Y_BadText) (Y_Full := Y_Full) (Y_NoRecord := Y_NoRecord) (Y_NoWay := Y_NoWay) (Y_NotNewest := Y_NotNewest) (Y_TooPointed := Y_TooPointed) (Y_Unknown := Y_Unknown) (Y_Stopped := Y_Stopped) , PySem.W.mg_of X G a7, k7, F7.binds (ps := ["text", "one", "other"]) fun _ _ _ _ _ _ us hl => match us, hl with | [_, _, _], _ => rfl⟩⟩
  exact W.ok_law (k := 3) (lk := l8) (hcd := c8) (T := T) (EX := EX) (EG := EG) (EF := EF) (hVE := PySem.W.mg_none_of X G z15) (P_l_begun := P_l_begun.up (by decide)) (P_l_er_made := W_l_er_made.up (by decide)) (P_l_pick := P_l_pick.up (by decide)) (P_l_draw := P_l_draw.up (by decide)) (P_l_er_kinds := W_l_er_kinds.up (by decide)) (P_l_er_told := W_l_er_told.up (by decide)) 
theorem dn_ {K : PySem.W.Frag} {x : Str} (h : (W.defNs.all fun x => (PySem.W.nsIn K mainGlobals x == some (some (.ref (He.ga K x)))) && PySem.W.keepIn K (.ref (He.ga K x))) = true) (hx : x ∈ W.defNs) : PySem.W.nsIn K mainGlobals x = some (some (.ref (He.ga K x))) ∧ PySem.W.keepIn K (.ref (He.ga K x)) = true := by
  have := List.all_eq_true.mp h x hx
  rw [Bool.and_eq_true] at this
  exact ⟨beq_iff_eq.mp this.1, this.2⟩
theorem fr_ {K : PySem.W.Frag} {x : Str} (h : (W.freeNs.all fun x => PySem.W.nsIn K mainGlobals x == some none) = true) (hx : x ∈ W.freeNs) : PySem.W.nsIn K mainGlobals x = some none := beq_iff_eq.mp (List.all_eq_true.mp h x hx)
theorem x1_ {K : PySem.W.Frag} {x : Str} {fs : List Str} (h : (W.x1L.all fun p => W.x1B K p.1 p.2) = true) (hx : (x, fs) ∈ W.x1L) : W.X1F K x fs := W.x1B_ok (List.all_eq_true.mp h (x, fs) hx)
theorem fn_ {K : PySem.W.Frag} (c : W.obsK K = (true, W.fnD.map He.FnD.val)) (i : Nat) {d : He.FnD} (h : W.fnD[i]? = some d) : ∃ oc od osl kV doc pm an cdv ct, K.lookup (He.fAd K d.at_) = some ⟨oc, od, .func (PySem.W.fnOf d.name d.qual d.params d.body d.scope .none kV doc pm an cdv ct), osl⟩ ∧ PySem.W.codeIn K cdv d.qual = true := by
  have c2 := (Bool.and_eq_true_iff.mp (show (W.bigB K && W.fnD.all fun d => (He.Fa.code d.at_ d.qual).ok K) = true from congrArg (fun z : He.Al => z.1) c)).2
  have e : W.fnD.map (fun d => He.fnObs K d.at_) = W.fnD.map He.FnD.val := congrArg (fun z : He.Al => z.2) c
  have e2 : (W.fnD.map fun d => He.fnObs K d.at_)[i]? = (W.fnD.map He.FnD.val)[i]? := by rw [e]
  rw [List.getElem?_map, List.getElem?_map, h] at e2
  exact He.fn_ok (Option.some.inj e2) (List.all_eq_true.mp c2 d (List.mem_of_getElem? h))
theorem facts {w : World} {K : PySem.W.Frag} {h : Heap} {mg : Str → Option Value} {fa : Addr} (KX : K.In h) (G : h.Ns mainGlobals mg) (hmg : mg "law" = some (.ref fa)) (c : W.obsK K = (true, W.fnD.map He.FnD.val)) : PL.LawAtG PySem.Challenge.rw_asifcopied_k06_errors_and_what_they_tell w K CX0 5 63 "script" mg fa h := by
  have c1 := (Bool.and_eq_true_iff.mp (show (W.bigB K && W.fnD.all fun d => (He.Fa.code d.at_ d.qual).ok K) = true from congrArg (fun z : He.Al => z.1) c)).1
  unfold W.bigB at c1
  simp only [Bool.and_eq_true] at c1
  have hD := c1
  have eE : PySem.W.subIn K (.ref (He.ga K "CopyError")) (.type "BaseException") = some true ∧ PySem.W.hasDictIn K (He.ga K "CopyError") = true ∧ PySem.W.typeIn K (.ref (He.ga K "CopyError")) = some (.type "type") ∧ PySem.W.specialIn K (.builtin "object.__class__") "__get__" = some (some (.builtin "getset_descriptor.__get__")) ∧ PySem.W.takesIn K (.builtin "object.__class__") = some true := by
    have := hD.2.2.1
    unfold W.eB at this
    simp only [Bool.and_eq_true] at this
    obtain ⟨h1, h2, h3, h4, h5⟩ := this
    exact ⟨beq_iff_eq.mp h1, h2, beq_iff_eq.mp h3, beq_iff_eq.mp h4, beq_iff_eq.mp h5⟩
  have hE := W.erChk_of hD.2.2.2.2
  unfold W.erChk at hE
  rw [Bool.and_eq_true] at hE
  have eC := W.clsF_of (List.all_eq_true.mp hE.1 "CopyError" (by decide +kernel))
  have q_BadDeed := W.clsF_of (List.all_eq_true.mp hE.1 "BadDeed" (by decide +kernel))
  have r_BadDeed := x1_ (x := "BadDeed") (fs := ["at"]) hD.2.2.2.1 (by decide +kernel)
  obtain ⟨_, _, _, _, _, _, _, _, _, _, _, _, _, _, ox_BadDeed⟩ := W.oexB_ok r_BadDeed.o
  have q_BadEvents := W.clsF_of (List.all_eq_true.mp hE.1 "BadEvents" (by decide +kernel))
  have r_BadEvents := x1_ (x := "BadEvents") (fs := ["at"]) hD.2.2.2.1 (by decide +kernel)
  obtain ⟨_, _, _, _, _, _, _, _, _, _, _, _, _, _, ox_BadEvents⟩ := W.oexB_ok r_BadEvents.o
  have q_BadPuts := W.clsF_of (List.all_eq_true.mp hE.1 "BadPuts" (by decide +kernel))
  have r_BadPuts := x1_ (x := "BadPuts") (fs := ["at"]) hD.2.2.2.1 (by decide +kernel)
  obtain ⟨_, _, _, _, _, _, _, _, _, _, _, _, _, _, ox_BadPuts⟩ := W.oexB_ok r_BadPuts.o
  have q_BadText := W.clsF_of (List.all_eq_true.mp hE.1 "BadText" (by decide +kernel))
  have r_BadText := x1_ (x := "BadText") (fs := ["line"]) hD.2.2.2.1 (by decide +kernel)
  obtain ⟨_, _, _, _, _, _, _, _, _, _, _, _, _, _, ox_BadText⟩ := W.oexB_ok r_BadText.o
  have q_Full := W.clsF_of (List.all_eq_true.mp hE.1 "Full" (by decide +kernel))
  have r_Full := x1_ (x := "Full") (fs := ["many"]) hD.2.2.2.1 (by decide +kernel)
  obtain ⟨_, _, _, _, _, _, _, _, _, _, _, _, _, _, ox_Full⟩ := W.oexB_ok r_Full.o
  have q_NoRecord := W.clsF_of (List.all_eq_true.mp hE.1 "NoRecord" (by decide +kernel))
  have r_NoRecord := x1_ (x := "NoRecord") (fs := ["record"]) hD.2.2.2.1 (by decide +kernel)
  obtain ⟨_, _, _, _, _, _, _, _, _, _, _, _, _, _, ox_NoRecord⟩ := W.oexB_ok r_NoRecord.o
  have q_NoWay := W.clsF_of (List.all_eq_true.mp hE.1 "NoWay" (by decide +kernel))
  have r_NoWay := x1_ (x := "NoWay") (fs := ["at"]) hD.2.2.2.1 (by decide +kernel)
  obtain ⟨_, _, _, _, _, _, _, _, _, _, _, _, _, _, ox_NoWay⟩ := W.oexB_ok r_NoWay.o
  have q_NotNewest := W.clsF_of (List.all_eq_true.mp hE.1 "NotNewest" (by decide +kernel))
  have r_NotNewest := x1_ (x := "NotNewest") (fs := ["newest"]) hD.2.2.2.1 (by decide +kernel)
  obtain ⟨_, _, _, _, _, _, _, _, _, _, _, _, _, _, ox_NotNewest⟩ := W.oexB_ok r_NotNewest.o
  have q_TooPointed := W.clsF_of (List.all_eq_true.mp hE.1 "TooPointed" (by decide +kernel))
  have r_TooPointed := x1_ (x := "TooPointed") (fs := ["record"]) hD.2.2.2.1 (by decide +kernel)
  obtain ⟨_, _, _, _, _, _, _, _, _, _, _, _, _, _, ox_TooPointed⟩ := W.oexB_ok r_TooPointed.o
  have q_Unknown := W.clsF_of (List.all_eq_true.mp hE.1 "Unknown" (by decide +kernel))
  have r_Unknown := x1_ (x := "Unknown") (fs := ["name"]) hD.2.2.2.1 (by decide +kernel)
  obtain ⟨_, _, _, _, _, _, _, _, _, _, _, _, _, _, ox_Unknown⟩ := W.oexB_ok r_Unknown.o
  have q_Stopped := W.clsF_of (List.all_eq_true.mp hE.1 "Stopped" (by decide +kernel))
  have r_Stopped := x1_ (x := "Stopped") (fs := ["word", "steps"]) hD.2.2.2.1 (by decide +kernel)
  obtain ⟨_, _, _, _, _, _, _, _, _, _, _, _, _, _, ox_Stopped⟩ := W.oexB_ok r_Stopped.o
  obtain ⟨_, _, _, _, _, _, _, _, _, lq0, cq0⟩ := fn_ c 0 rfl
  obtain ⟨_, _, _, _, _, _, _, _, _, lq1, cq1⟩ := fn_ c 1 rfl
  obtain ⟨_, _, _, _, _, _, _, _, _, lq2, cq2⟩ := fn_ c 2 rfl
  obtain ⟨_, _, _, _, _, _, _, _, _, lq3, cq3⟩ := fn_ c 3 rfl
  obtain ⟨_, _, _, _, _, _, _, _, _, lq4, cq4⟩ := fn_ c 4 rfl
  obtain ⟨_, _, _, _, _, _, _, _, _, lq5, cq5⟩ := fn_ c 5 rfl
  obtain ⟨_, _, _, _, _, _, _, _, _, lq6, cq6⟩ := fn_ c 6 rfl
  obtain ⟨_, _, _, _, _, _, _, _, _, lq7, cq7⟩ := fn_ c 7 rfl
  obtain ⟨_, _, _, _, _, _, _, _, _, lq8, cq8⟩ := fn_ c 8 rfl
  obtain ⟨_, _, _, _, _, _, _, _, _, lq9, cq9⟩ := fn_ c 9 rfl
  obtain ⟨_, _, _, _, _, _, _, _, _, lq10, cq10⟩ := fn_ c 10 rfl
  obtain ⟨_, _, _, _, _, _, _, _, _, lq11, cq11⟩ := fn_ c 11 rfl
  obtain ⟨_, _, _, _, _, _, _, _, _, lq12, cq12⟩ := fn_ c 12 rfl
  obtain ⟨_, _, _, _, _, _, _, _, _, lq13, cq13⟩ := fn_ c 13 rfl
  obtain ⟨_, _, _, _, _, _, _, _, _, lq14, cq14⟩ := fn_ c 14 rfl
  obtain ⟨_, _, _, _, _, _, _, _, _, lq15, cq15⟩ := fn_ c 15 rfl
  obtain ⟨_, _, _, _, _, _, _, _, _, lq16, cq16⟩ := fn_ c 16 rfl
  obtain ⟨_, _, _, _, _, _, _, _, _, lq17, cq17⟩ := fn_ c 17 rfl
  obtain ⟨_, _, _, _, _, _, _, _, _, lq18, cq18⟩ := fn_ c 18 rfl
  obtain ⟨_, _, _, _, _, _, _, _, _, lq19, cq19⟩ := fn_ c 19 rfl
  exact all_mk KX G hmg ((dn_ (x := "_law_begun") hD.1 (by decide +kernel)).1) (lq0) (cq0) ((dn_ (x := "_law_begun") hD.1 (by decide +kernel)).2) ((dn_ (x := "_law_blended") hD.1 (by decide +kernel)).1) (lq1) (cq1) ((dn_ (x := "_law_blended") hD.1 (by decide +kernel)).2) ((dn_ (x := "_law_draw") hD.1 (by decide +kernel)).1) (lq2) (cq2) ((dn_ (x := "_law_draw") hD.1 (by decide +kernel)).2) ((dn_ (x := "_law_pick") hD.1 (by decide +kernel)).1) (lq3) (cq3) ((dn_ (x := "_law_pick") hD.1 (by decide +kernel)).2) ((dn_ (x := "_law_er_made") hD.1 (by decide +kernel)).1) (lq4) (cq4) ((dn_ (x := "_law_er_made") hD.1 (by decide +kernel)).2) ((dn_ (x := "_law_er_first") hD.1 (by decide +kernel)).1) (lq5) (cq5) ((dn_ (x := "_law_er_first") hD.1 (by decide +kernel)).2) ((dn_ (x := "_law_er_kinds") hD.1 (by decide +kernel)).1) (lq6) (cq6) ((dn_ (x := "_law_er_kinds") hD.1 (by decide +kernel)).2) ((dn_ (x := "_law_er_told") hD.1 (by decide +kernel)).1) (lq7) (cq7) ((dn_ (x := "_law_er_told") hD.1 (by decide +kernel)).2) ((dn_ (x := "law") hD.1 (by decide +kernel)).1) (lq8) (cq8) ((dn_ (x := "law") hD.1 (by decide +kernel)).2) ((fr_ (x := "int") hD.2.1 (by decide +kernel))) ((fr_ (x := "len") hD.2.1 (by decide +kernel))) ((fr_ (x := "abs") hD.2.1 (by decide +kernel))) ((fr_ (x := "isinstance") hD.2.1 (by decide +kernel))) ((fr_ (x := "tuple") hD.2.1 (by decide +kernel))) ((fr_ (x := "list") hD.2.1 (by decide +kernel))) ((fr_ (x := "range") hD.2.1 (by decide +kernel))) ((fr_ (x := "min") hD.2.1 (by decide +kernel))) ((fr_ (x := "all") hD.2.1 (by decide +kernel))) ((fr_ (x := "sorted") hD.2.1 (by decide +kernel))) ((fr_ (x := "bool") hD.2.1 (by decide +kernel))) ((fr_ (x := "enumerate") hD.2.1 (by decide +kernel))) ((fr_ (x := "reversed") hD.2.1 (by decide +kernel))) ((fr_ (x := "zip") hD.2.1 (by decide +kernel))) ((fr_ (x := "str") hD.2.1 (by decide +kernel))) ((fr_ (x := "ValueError") hD.2.1 (by decide +kernel))) (eC.n) (eE.1) (eE.2.1) (eE.2.2.1) (eE.2.2.2.1) (eE.2.2.2.2) (q_BadDeed.n) (q_BadDeed.k) (q_BadDeed.t) (q_BadDeed.b) (q_BadDeed.s) (q_BadDeed.i) (q_BadDeed.ga) (q_BadDeed.gg) (q_BadDeed.ca) (q_BadDeed.cm) (ox_BadDeed) (r_BadDeed.sa) (r_BadDeed.hd) ((r_BadDeed.no _ (by simp))) (r_BadDeed.ini) (r_BadDeed.it) (lq9) (cq9) (r_BadDeed.ik) (q_BadEvents.n) (q_BadEvents.k) (q_BadEvents.t) (q_BadEvents.b) (q_BadEvents.s) (q_BadEvents.i) (q_BadEvents.ga) (q_BadEvents.gg) (q_BadEvents.ca) (q_BadEvents.cm) (ox_BadEvents) (r_BadEvents.sa) (r_BadEvents.hd) ((r_BadEvents.no _ (by simp))) (r_BadEvents.ini) (r_BadEvents.it) (lq10) (cq10) (r_BadEvents.ik) (q_BadPuts.n) (q_BadPuts.k) (q_BadPuts.t) (q_BadPuts.b) (q_BadPuts.s) (q_BadPuts.i) (q_BadPuts.ga) (q_BadPuts.gg) (q_BadPuts.ca) (q_BadPuts.cm) (ox_BadPuts) (r_BadPuts.sa) (r_BadPuts.hd) ((r_BadPuts.no _ (by simp))) (r_BadPuts.ini) (r_BadPuts.it) (lq11) (cq11) (r_BadPuts.ik) (q_BadText.n) (q_BadText.k) (q_BadText.t) (q_BadText.b) (q_BadText.s) (q_BadText.i) (q_BadText.ga) (q_BadText.gg) (q_BadText.ca) (q_BadText.cm) (ox_BadText) (r_BadText.sa) (r_BadText.hd) ((r_BadText.no _ (by simp))) (r_BadText.ini) (r_BadText.it) (lq12) (cq12) (r_BadText.ik) (q_Full.n) (q_Full.k) (q_Full.t) (q_Full.b) (q_Full.s) (q_Full.i) (q_Full.ga) (q_Full.gg) (q_Full.ca) (q_Full.cm) (ox_Full) (r_Full.sa) (r_Full.hd) ((r_Full.no _ (by simp))) (r_Full.ini) (r_Full.it) (lq13) (cq13) (r_Full.ik) (q_NoRecord.n) (q_NoRecord.k) (q_NoRecord.t) (q_NoRecord.b) (q_NoRecord.s) (q_NoRecord.i) (q_NoRecord.ga) (q_NoRecord.gg) (q_NoRecord.ca) (q_NoRecord.cm) (ox_NoRecord) (r_NoRecord.sa) (r_NoRecord.hd) ((r_NoRecord.no _ (by simp))) (r_NoRecord.ini) (r_NoRecord.it) (lq14) (cq14) (r_NoRecord.ik) (q_NoWay.n) (q_NoWay.k) (q_NoWay.t) (q_NoWay.b) (q_NoWay.s) (q_NoWay.i) (q_NoWay.ga) (q_NoWay.gg) (q_NoWay.ca) (q_NoWay.cm) (ox_NoWay) (r_NoWay.sa) (r_NoWay.hd) ((r_NoWay.no _ (by simp))) (r_NoWay.ini) (r_NoWay.it) (lq15) (cq15) (r_NoWay.ik) (q_NotNewest.n) (q_NotNewest.k) (q_NotNewest.t) (q_NotNewest.b) (q_NotNewest.s) (q_NotNewest.i) (q_NotNewest.ga) (q_NotNewest.gg) (q_NotNewest.ca) (q_NotNewest.cm) (ox_NotNewest) (r_NotNewest.sa) (r_NotNewest.hd) ((r_NotNewest.no _ (by simp))) (r_NotNewest.ini) (r_NotNewest.it) (lq16) (cq16) (r_NotNewest.ik) (q_TooPointed.n) (q_TooPointed.k) (q_TooPointed.t) (q_TooPointed.b) (q_TooPointed.s) (q_TooPointed.i) (q_TooPointed.ga) (q_TooPointed.gg) (q_TooPointed.ca) (q_TooPointed.cm) (ox_TooPointed) (r_TooPointed.sa) (r_TooPointed.hd) ((r_TooPointed.no _ (by simp))) (r_TooPointed.ini) (r_TooPointed.it) (lq17) (cq17) (r_TooPointed.ik) (q_Unknown.n) (q_Unknown.k) (q_Unknown.t) (q_Unknown.b) (q_Unknown.s) (q_Unknown.i) (q_Unknown.ga) (q_Unknown.gg) (q_Unknown.ca) (q_Unknown.cm) (ox_Unknown) (r_Unknown.sa) (r_Unknown.hd) ((r_Unknown.no _ (by simp))) (r_Unknown.ini) (r_Unknown.it) (lq18) (cq18) (r_Unknown.ik) (q_Stopped.n) ((r_Stopped.no "steps" (by simp))) (q_Stopped.k) (q_Stopped.t) (q_Stopped.b) (q_Stopped.s) (q_Stopped.i) (q_Stopped.ga) (q_Stopped.gg) (q_Stopped.ca) (q_Stopped.cm) (ox_Stopped) (r_Stopped.sa) (r_Stopped.hd) ((r_Stopped.no _ (by simp))) (r_Stopped.ini) (r_Stopped.it) (lq19) (cq19) (r_Stopped.ik) ((W.erChk_of hD.2.2.2.2))
end Law
open PySem PySem.W PyProof.Rows
set_option maxRecDepth 100000 in
set_option maxHeartbeats 0 in
theorem PySem.Challenge.cw_asifcopied_k06_errors_and_what_they_tell_holds : PySem.Challenge.rw_asifcopied_k06_errors_and_what_they_tell.Holds := by
  w_on; o_law
  refine HandSHeadRun.head_any (r := OpenLaw.row PySem.Challenge.rw_asifcopied_k06_errors_and_what_they_tell) (q := view (OpenLaw.row PySem.Challenge.rw_asifcopied_k06_errors_and_what_they_tell).prog [79]) (H := Law.W.hk) (ob := Law.W.ob) (M := 20000) (loose := Law.W.looseN) (d := HandSHeadRun.topDef (OpenLaw.row PySem.Challenge.rw_asifcopied_k06_errors_and_what_they_tell).prog 79) (kwd := []) Law.W.ob_eq
    (by kernel_rfl) (fun s => by kernel_rfl) Law.W.run (by kernel_rfl) (by kernel_rfl) (by kernel_rfl) (by rfl) (by first | assumption | decide +kernel) (by decide +kernel) ⟨rfl, rfl, rfl, rfl, rfl, by decide +kernel⟩ ?hw ?hc
  case hw => w_witness2
  case hc =>
    refine PL.walk_ofGE (l := PySem.Challenge.rw_asifcopied_k06_errors_and_what_they_tell) (n := 63) (k := 5) (x := "script") (CX := fun _ => L2.CX0) rfl (by decide) (by kernel_rfl) ⟨rfl, by decide, by decide⟩ ?F (fun _ _ _ _ _ z => z)
    intro w mg fa h Y G hmg0
    obtain ⟨K, KX, c⟩ := Y
    have hmg : mg ("law" : PySem.Str) = some (.ref fa) := by
      have e : (HandSHeadRun.topDef (OpenLaw.row PySem.Challenge.rw_asifcopied_k06_errors_and_what_they_tell).prog 79).name = ("law" : PySem.Str) := by kernel_rfl
      rw [← e]
      exact hmg0
    exact ⟨K, KX, Law.facts KX G hmg c⟩
#print axioms PySem.Challenge.cw_asifcopied_k06_errors_and_what_they_tell_holds
