import PyProof.Rows.All
import Wide.All
import OpenK.AllK
import Wide.FinOn
import KE.KStateDown
import HandS.Head0
import HandS.Head1
import HandS.Head2
import HandS.HeadEnd
import HandS.HeadHook1
import HandS.HeadHook2
import HandS.HeadHook4
import HandS.HeadNt
import HandS.Base
import HandS.Call
import HandS.List
import HandS.Comp
import HandS.Ends
import HandS.Words
import HandS.WordsList
import HandS.OwnEq
import PyProof.InstNe
import HandS.SetKeys
import PyProof.StrWalks
import PyProof.EnumMake
import HandS.Iter
import HandS.Text
import PyProof.ListStr
import PyProof.Draws
import PyProof.WalksEnum
import HandS.ForMost
import HandS.Property
import HandS.IsInst
import HandS.Codes
import HandS.ClsMeth
import HandS.Replace
import HandS.Flow
import HandS.Evl
import HandS.ForExc
import HandS.ExcInit
import HandS.ExcField
import HandS.ExcIs
import HandS.ExcValue
import HandS.MakeKw
import HandS.Exc
import HandS.ExcOwn
import PyProof.ReprRoads
import HandS.MakeKwOnly
import HandS.TupLe
import HandS.RaiseMore
import HandS.Style
import PyProof.NeKinds
import PyProof.CallFns
import KE.KRevSl
import PyProof.SliceStr2
import PyProof.StrLawsRepr
import HandS.WordsExc
import HandS.HeadWalk
import HandS.GenList
import PyProof.WalksMore
import PyProof.GenComp
import KE.KOpsOwn
import HandS.Small
import PyProof.Truth
import PyProof.StrLawsOcc
import PyProof.CallType
import PyProof.Conv_bool
import HandS.Dict
import HandS.WordsDict
import HandS.Walk
import HandS.IterVal
import KE.KOwnIter
import HandS.WideBits
import HandS.Zip
import KE.GoesMore
import HandS.Lambda
import KE.KCallOwn
import PyProof.StrOps2
import HandS.More
import HandS.Conv
import HandS.Sort
import PyProof.TupleOfStr
import HandS.TupAny
import PySem.Challenge.RW_linestrikes_k41_lines_joined
set_option Elab.async false
set_option linter.all false
set_option maxRecDepth 100000
set_option maxHeartbeats 4000000
namespace KR
open PySem L2 PyProof.Rows
/-! ### what is looked at behind the top of a program -/
def addM (seen : Nat) (acc : List Addr) : List Addr → Nat × List Addr
  | [] => (seen, acc)
  | a :: r => match Nat.testBit seen a with
    | true => addM seen acc r
    | false => addM (Nat.lor seen (Nat.shiftLeft 1 a)) (a :: acc) r
/-- one round: what the fresh ones name -/
def roundM (g : Addr → Option Obj) (seen : Nat) (acc : List Addr) : List Addr → Nat × List Addr
  | [] => (seen, acc)
  | a :: r => match g a with
    | some o => (match addM seen acc (He.refsD o) with
      | (s, c) => roundM g s c r)
    | none => roundM g seen acc r
def growM (g : Addr → Option Obj) : Nat → Nat → List Addr → List Addr → List Addr
  | 0, _, _, all => all
  | n + 1, seen, fresh, all => match roundM g seen [] fresh with
    | (s, c) => growM g n s c (c ++ all)
/-- what the module's names reach in n steps, the places seen being a mask -/
def asY (g : Addr → Option Obj) (n : Nat) : List Addr := growM g n (Nat.lor (Nat.shiftLeft 1 sysModules) (Nat.lor (Nat.shiftLeft 1 cStatics) (Nat.shiftLeft 1 mainGlobals))) [mainGlobals, cStatics] [mainGlobals, cStatics, sysModules]
def constB (K : PySem.W.Frag) (C : Addr) (f : Str) (i : Int) : Bool := match PySem.W.findCls K (.ref C) (.type "type") f with
  | some (.val (.int j _)) => decide (j = i)
  | _ => false
def textB (K : PySem.W.Frag) (n z0 : Str) : Bool := match PySem.W.nsIn K mainGlobals n with
  | some (some (.str z _)) => decide (z = z0)
  | _ => false
/-- a class right under object -/
def baseB (K : PySem.W.Frag) (C : Addr) : Bool := (PySem.W.clsIn K C).any fun cd => cd.mro == [.ref C, .type "object"]
/-- a property's function -/
def pgA (K : PySem.W.Frag) (p : Addr) : Addr := match PySem.W.recIn K p "property" with
  | some (.ref g :: _) => g
  | _ => 0
def recB (K : PySem.W.Frag) (p : Addr) : Bool := match PySem.W.recIn K p "property" with
  | some (.ref _ :: _) => true
  | _ => false
/-- a class of errors under ValueError -/
def newB (l : List (Option Value)) : Bool := match l with
  | [_, _, _, _, some (.builtin n), _] => decide (n = "ValueError.__new__")
  | _ => false
def mroB (C : Addr) (mro : List Value) (dl hd : Bool) (l : List (Option Value)) : Bool := match mro with
  | .ref D :: bm => decide (D = C) && (PySem.HandSPX.refsVE bm && (!dl && (hd && newB l)))
  | _ => false
def exB (K : PySem.W.Frag) (C : Addr) : Bool := match K.lookup C with
  | some ⟨.type t, _, .cls c, sl⟩ => decide (t = "type") && mroB C c.mro c.hasDel c.hasDict sl.toList
  | _ => false
def exkB (K : PySem.W.Frag) (C : Addr) : Bool := exB K C && (decide (PySem.W.findIn K (.ref C) "__getattribute__" = some (some (.builtin "BaseException.__getattribute__"))) && (decide (PySem.W.findIn K (.ref C) "__getattr__" = some none) &&
  (decide (PySem.W.subIn K (.ref C) (.type "BaseException") = some true) && (decide (PySem.W.hasDictIn K C = true) && (decide (PySem.W.findIn K (.ref C) "__class__" = some (some (.builtin "object.__class__"))) &&
  (decide (PySem.W.specialIn K (.builtin "object.__class__") "__get__" = some (some (.builtin "getset_descriptor.__get__"))) && (decide (PySem.W.takesIn K (.builtin "object.__class__") = some true) && (decide (PySem.W.mroIn K C (.type "object") = some true) &&
  (decide (PySem.W.findIn K (.ref C) "__setattr__" = some (some (.builtin "object.__setattr__"))) && (decide (PySem.W.typeIn K (.ref C) = some (.type "type")) && decide (PySem.W.keepIn K (.ref C) = true)))))))))))
/-- the table of modules is there -/
def sysB (K : PySem.W.Frag) : Bool := match K.lookup sysModules with
  | some o => decide (o.cls = .type "dict")
  | none => false
/-! ### the functions of properties -/
structure PrD where
  cls : Str
  name : Str
  qual : Str
  params : Arguments
  body : List Stmt
  scope : Scope
def PrD.at_ (K : PySem.W.Frag) (d : PrD) : Addr := pgA K (He.ma K (He.ga K d.cls) d.name)
def PrD.val (d : PrD) : He.FnW := some (d.name, d.qual, d.params, .stmts d.body, d.scope, mainGlobals, [], builtinsNs)
def fnAt (K : PySem.W.Frag) (a : Addr) : He.FnW := match K.lookup a with
  | some ⟨_, _, .func fd, _⟩ => some (fd.name, fd.qualname, fd.params, fd.body, fd.scope, fd.globals, fd.closure, fd.builtins)
  | _ => none
def isNon (v : Value) : Bool := match v with
  | .none => true
  | _ => false
def okAt (K : PySem.W.Frag) (a : Addr) (qual : Str) : Bool := PySem.W.keepIn K (.ref a) && (match K.lookup a with
  | some ⟨_, _, .func fd, _⟩ => PySem.W.codeIn K fd.code qual && isNon fd.defaults
  | _ => false)
def obsP (pf : List PrD) (K : PySem.W.Frag) : He.AlD := (pf.all fun d => okAt K (d.at_ K) d.qual, pf.map fun d => fnAt K (d.at_ K))
def valP (pf : List PrD) : He.AlD := (true, pf.map PrD.val)
/-! ### the Hook -/
/-- what is known of K at the heap h: the defs, the Bools, the tables of tf: empty, not in K -/
structure SaysY (fn : List He.DefD) (pf : List PrD) (tf : List He.Defn) (ex : PySem.W.Frag → Bool) (h : Heap) (K : PySem.W.Frag) : Prop where
  d : He.SaysD [] fn K
  p : obsP pf K = valP pf
  ex : ex K = true
  hd : ∀ p ∈ tf, PySem.W.codeHdIn K (He.cT K p).1 (He.cT K p).2 = true
  out : ∀ p ∈ tf, K.lookup (He.cT K p).2 = none
  empty : ∀ p ∈ tf, h.get? (He.cT K p).2 = some { cls := .none, data := .fields #[] }
abbrev AlY : Type := (He.AlD × He.AlD) × Bool
def frY (n : Nat) (g : Addr → Option Obj) : PySem.W.Frag := He.frT g (asY g n)
def obsA (n : Nat) (fn : List He.DefD) (pf : List PrD) (g : Addr → Option Obj) : He.AlD × He.AlD := (He.obsD [] fn (frY n g), obsP pf (frY n g))
def obsB (n : Nat) (tf : List He.Defn) (ex : PySem.W.Frag → Bool) (g : Addr → Option Obj) : Bool := ex (frY n g) && He.tabsB g tf (frY n g)
def obsY (n : Nat) (fn : List He.DefD) (pf : List PrD) (tf : List He.Defn) (ex : PySem.W.Frag → Bool) (g : Addr → Option Obj) : AlY := (obsA n fn pf g, obsB n tf ex g)
theorem saysY_of {n : Nat} {fn : List He.DefD} {pf : List PrD} {tf : List He.Defn} {ex : PySem.W.Frag → Bool} {h : Heap} (e : obsY n fn pf tf ex h.get? = ((He.valD fn, valP pf), true)) : SaysY fn pf tf ex h (frY n h.get?) := by
  have e1 : obsA n fn pf h.get? = (He.valD fn, valP pf) := congrArg Prod.fst e
  have e2 : obsB n tf ex h.get? = true := congrArg Prod.snd e
  obtain ⟨h1, h2⟩ := He.ba e2
  have all : ∀ p ∈ tf, PySem.W.codeHdIn (frY n h.get?) (He.cT (frY n h.get?) p).1 (He.cT (frY n h.get?) p).2 = true ∧ ∃ o, h.get? (He.cT (frY n h.get?) p).2 = some o ∧ He.emptyTab o = true := by
    intro p hp
    obtain ⟨h3, h4⟩ := He.ba (List.all_eq_true.mp h2 p hp)
    refine ⟨h3, ?_⟩
    split at h4
    · rename_i o q; exact ⟨o, q, h4⟩
    · cases h4
  refine ⟨congrArg Prod.fst e1, congrArg Prod.snd e1, h1, fun p hp => (all p hp).1, fun p hp => ?_, fun p hp => ?_⟩
  · obtain ⟨_, o, q, z⟩ := all p hp
    exact He.frT_none q z
  · obtain ⟨_, o, q, z⟩ := all p hp
    rw [q, He.emptyTab_eq z]
def hookY (n : Nat) (fn : List He.DefD) (pf : List PrD) (tf : List He.Defn) (ex : PySem.W.Frag → Bool) : PySem.W.Hook where
  α := AlY
  obs := fun s => obsY n fn pf tf ex s.heap.get?
  val := fun _ => ((He.valD fn, valP pf), true)
  says := fun _ h => ∃ K : PySem.W.Frag, K.In h ∧ SaysY fn pf tf ex h K
  of := fun _ _ e => ⟨_, He.frT_in, saysY_of e⟩
  keeps := fun _ _ _ ⟨K, hK, c⟩ k => ⟨K, PySem.W.Frag.In.keeps hK k, ⟨c.d, c.p, c.ex, c.hd, c.out, fun p hp => k _ _ (c.empty p hp)⟩⟩
def ob (n : Nat) (fn : List He.DefD) (pf : List PrD) (tf : List He.Defn) (ex : PySem.W.Frag → Bool) (s : PySem.W.SharedT) : AlY := obsY n fn pf tf ex (HandSHeadRun.getT s)
theorem ob_eq {n : Nat} {fn : List He.DefD} {pf : List PrD} {tf : List He.Defn} {ex : PySem.W.Frag → Bool} (s : PySem.W.SharedT) : ob n fn pf tf ex s = (hookY n fn pf tf ex).obs s.abs := by
  have e : HandSHeadRun.getT s = s.abs.heap.get? := funext (HandSHeadRun.getT_eq s)
  show obsY n fn pf tf ex (HandSHeadRun.getT s) = obsY n fn pf tf ex s.abs.heap.get?
  rw [e]
theorem pairUp {σ α β γ δ : Type} {e : Option σ} {f : σ → α} {g : σ → β} {p : σ → γ} {q : σ → δ} {a : α} {b : β} {c : γ} {d : δ} (h : e.map (fun s => (f s, g s, p s)) = some (a, b, c)) (k : e.map q = some d) : e.map (fun s => (f s, g s, (p s, q s))) = some (a, b, (c, d)) := by
  cases e with
  | none => cases h
  | some s =>
    injection h with h
    injection h with h1 h
    injection h with h2 h3
    injection k with k
    show some (f s, g s, (p s, q s)) = _
    rw [h1, h2, h3, k]
end KR

namespace K41q
open PySem L2 PyProof.Rows KR
def top (i : Nat) : Stmt := PySem.Challenge.pw_linestrikes_k41_lines_joined.main.body.getD i (.Pass ⟨0, 0, 0, 0⟩)
abbrev s_is_letter_of : Stmt := top 18
abbrev s_are_unlike_letters : Stmt := top 25
abbrev s_are_values_letters : Stmt := top 24
abbrev s_CellDD_initDD : Stmt := inClass (top 23) 0
abbrev s_ValuesDD_initDD : Stmt := inClass (top 22) 1
abbrev s_is_integer : Stmt := top 15
abbrev s_is_from : Stmt := top 16
abbrev s_ValuesDD_eqDD : Stmt := inClass (top 22) 4
abbrev s_same_values : Stmt := top 19
abbrev s_Values_numbered : Stmt := inClass (top 22) 8
abbrev s_number_of_letters : Stmt := top 26
abbrev s_Values_cell : Stmt := inClass (top 22) 7
abbrev s_ValuesDD_lenDD : Stmt := inClass (top 22) 2
abbrev s_cell_from : Stmt := top 27
abbrev s_is_row : Stmt := top 17
abbrev s_CellDD_orDD : Stmt := inClass (top 23) 9
abbrev s_CellDD_containsDD : Stmt := inClass (top 23) 6
abbrev s_CellDD_eqDD : Stmt := inClass (top 23) 2
abbrev s_CellDD_andDD : Stmt := inClass (top 23) 8
abbrev s_LineDD_initDD : Stmt := inClass (top 41) 1
abbrev s_numbers_of : Stmt := top 28
abbrev s_LineDD_iterDD : Stmt := inClass (top 41) 10
abbrev s_same_form : Stmt := top 43
abbrev s_LineDD_orDD : Stmt := inClass (top 41) 17
abbrev s_LineDD_getitemDD : Stmt := inClass (top 41) 11
abbrev s_Line_cells : Stmt := inClass (top 41) 5
abbrev s_LineDD_lenDD : Stmt := inClass (top 41) 9
abbrev s_LineDD_eqDD : Stmt := inClass (top 41) 14
abbrev s_LineDD_setitemDD : Stmt := inClass (top 41) 12
abbrev s_line_of : Stmt := top 45
abbrev s_NothingToldDD_initDD : Stmt := inClass (top 13) 0
abbrev s_UnlikeDD_initDD : Stmt := inClass (top 10) 0
abbrev s_law_pen : Stmt := top 49
abbrev s_law_draw : Stmt := top 50
abbrev s_law_pick : Stmt := top 51
abbrev s_law_text : Stmt := top 52
abbrev s_law_cell : Stmt := top 53
abbrev s_law_row : Stmt := top 54
abbrev s_law_line : Stmt := top 55
abbrev s_law_shown : Stmt := top 56
abbrev s_law_due : Stmt := top 58
abbrev s_join : Stmt := top 47
abbrev s_law_heard : Stmt := top 57
abbrev s_law_mixed_right : Stmt := top 59
abbrev s_law : Stmt := top 60
def ex0 (K : PySem.W.Frag) : List Bool := [
  decide (PySem.W.nsIn K mainGlobals "len" = some none),
  decide (PySem.W.nsIn K mainGlobals "list" = some none),
  decide (PySem.W.nsIn K mainGlobals "tuple" = some none),
  decide (PySem.W.nsIn K mainGlobals "int" = some none),
  decide (PySem.W.nsIn K mainGlobals "str" = some none),
  decide (PySem.W.nsIn K mainGlobals "bool" = some none),
  decide (PySem.W.nsIn K mainGlobals "abs" = some none),
  decide (PySem.W.nsIn K mainGlobals "sum" = some none),
  decide (PySem.W.nsIn K mainGlobals "all" = some none),
  decide (PySem.W.nsIn K mainGlobals "set" = some none),
  decide (PySem.W.nsIn K mainGlobals "range" = some none),
  decide (PySem.W.nsIn K mainGlobals "enumerate" = some none),
  decide (PySem.W.nsIn K mainGlobals "isinstance" = some none),
  decide (PySem.W.nsIn K mainGlobals "any" = some none),
  decide (PySem.W.nsIn K mainGlobals "zip" = some none),
  decide (PySem.W.nsIn K mainGlobals "iter" = some none),
  decide (PySem.W.nsIn K mainGlobals "Values" = some (some (.ref (He.ga K "Values")))),
  decide (PySem.W.makesIn K (He.ga K "Values") = true),
  decide (PySem.W.keepIn K (.ref (He.ga K "Values")) = true),
  decide (PySem.W.plainGet K (He.ga K "Values") Str.empty = true)]
def ex1 (K : PySem.W.Frag) : List Bool := [
  decide (PySem.W.hasDictIn K (He.ga K "Values") = true),
  decide (PySem.W.plainOver K (He.ga K "Values") = true),
  decide (PySem.W.findIn K (.ref (He.ga K "Values")) "__setattr__" = some (some (.builtin "object.__setattr__"))),
  decide (PySem.W.nsIn K mainGlobals "Cell" = some (some (.ref (He.ga K "Cell")))),
  decide (PySem.W.makesIn K (He.ga K "Cell") = true),
  decide (PySem.W.keepIn K (.ref (He.ga K "Cell")) = true),
  decide (PySem.W.plainGet K (He.ga K "Cell") Str.empty = true),
  decide (PySem.W.hasDictIn K (He.ga K "Cell") = true),
  decide (PySem.W.plainOver K (He.ga K "Cell") = true),
  decide (PySem.W.findIn K (.ref (He.ga K "Cell")) "__setattr__" = some (some (.builtin "object.__setattr__"))),
  decide (PySem.W.nsIn K mainGlobals "Line" = some (some (.ref (He.ga K "Line")))),
  decide (PySem.W.makesIn K (He.ga K "Line") = true),
  decide (PySem.W.keepIn K (.ref (He.ga K "Line")) = true),
  decide (PySem.W.plainGet K (He.ga K "Line") Str.empty = true),
  decide (PySem.W.hasDictIn K (He.ga K "Line") = true),
  decide (PySem.W.plainOver K (He.ga K "Line") = true),
  decide (PySem.W.findIn K (.ref (He.ga K "Line")) "__setattr__" = some (some (.builtin "object.__setattr__"))),
  decide (PySem.W.findIn K (.ref (He.ga K "Values")) "letters" = some none),
  decide (PySem.W.findIn K (.ref (He.ga K "Values")) "by_number" = some none),
  decide (PySem.W.findIn K (.ref (He.ga K "Cell")) "alphabet" = some none)]
def ex2 (K : PySem.W.Frag) : List Bool := [
  decide (PySem.W.findIn K (.ref (He.ga K "Cell")) "number" = some none),
  decide (PySem.W.findIn K (.ref (He.ga K "Cell")) "letters" = some none),
  decide (PySem.W.findIn K (.ref (He.ga K "Line")) "alphabet" = some none),
  decide (PySem.W.findIn K (.ref (He.ga K "Line")) "held" = some none),
  decide (PySem.W.readsIn K (He.ga K "Values") (.type "type") = true),
  decide (PySem.W.specialIn K (.ref (He.ga K "Values")) "__getattribute__" = some (some (.builtin "type.__getattribute__"))),
  decide (PySem.W.readsIn K (He.ga K "Line") (.type "type") = true),
  decide (PySem.W.specialIn K (.ref (He.ga K "Line")) "__getattribute__" = some (some (.builtin "type.__getattribute__"))),
  constB K (He.ga K "Values") "MOST" 4,
  textB K "SMALL_LETTERS" ("abcdefghijklmnopqrstuvwxyz" : PySem.Str),
  decide ((He.ga K "Values") ≠ (He.ga K "Cell")),
  constB K (He.ga K "Line") "LONGEST" 4001,
  decide (PySem.W.findIn K (.ref (He.ga K "Values")) "__class__" = some (some (.builtin "object.__class__"))),
  decide (PySem.W.specialIn K (.builtin "object.__class__") "__get__" = some (some (.builtin "getset_descriptor.__get__"))),
  decide (PySem.W.takesIn K (.builtin "object.__class__") = some true),
  decide (PySem.W.mroIn K (He.ga K "Values") (.type "object") = some true),
  decide (PySem.W.findIn K (.ref (He.ga K "Cell")) "__class__" = some (some (.builtin "object.__class__"))),
  decide (PySem.W.mroIn K (He.ga K "Cell") (.type "object") = some true),
  decide (PySem.W.kitOne K (.ref (He.ga K "Values")) (.ref (He.ga K "Values")) = some true),
  decide (PySem.W.kitOne K (.ref (He.ga K "Cell")) (.ref (He.ga K "Cell")) = some true)]
def ex3 (K : PySem.W.Frag) : List Bool := [
  decide (PySem.W.kitOne K (.type "str") (.ref (He.ga K "Cell")) = some false),
  decide (PySem.W.findIn K (.ref (He.ga K "Values")) "__ne__" = some (some (.builtin "object.__ne__"))),
  decide (PySem.W.subIn K (.ref (He.ga K "Values")) (.type "object") = some true),
  decide (PySem.W.selfFirst K (He.ga K "Cell") = true),
  decide (PySem.W.nsIn K mainGlobals "NothingTold" = some (some (.ref (He.ga K "NothingTold")))),
  decide (PySem.W.nsIn K mainGlobals "Unlike" = some (some (.ref (He.ga K "Unlike")))),
  decide (PySem.W.nsIn K mainGlobals "LineError" = some (some (.ref (He.ga K "LineError")))),
  decide (PySem.W.noSeq K (He.ga K "Line") = true),
  decide (PySem.W.exmOne K (.ref (He.ga K "NothingTold")) (.ref (He.ga K "LineError")) = some true),
  decide (PySem.W.exmOne K (.ref (He.ga K "Unlike")) (.ref (He.ga K "LineError")) = some true),
  decide (PySem.W.kitOne K (.ref (He.ga K "NothingTold")) (.ref (He.ga K "NothingTold")) = some true),
  decide (PySem.W.kitOne K (.ref (He.ga K "Unlike")) (.ref (He.ga K "NothingTold")) = some false),
  decide (PySem.W.kitOne K (.ref (He.ga K "Unlike")) (.ref (He.ga K "Unlike")) = some true),
  decide ((He.cT K ("_law_mixed_right", none)).2 ≠ (He.cT K ("law", none)).2),
  decide (PySem.W.nsIn K mainGlobals "is_letter_of" = some (some (.ref (He.ga K "is_letter_of")))),
  decide (PySem.W.nsIn K mainGlobals "are_unlike_letters" = some (some (.ref (He.ga K "are_unlike_letters")))),
  decide (PySem.W.nsIn K mainGlobals "are_values_letters" = some (some (.ref (He.ga K "are_values_letters")))),
  decide (PySem.W.findIn K (.ref (He.ga K "Cell")) "__init__" = some (some (.ref (He.ma K (He.ga K "Cell") "__init__")))),
  decide (PySem.W.isFn K (.ref (He.ma K (He.ga K "Cell") "__init__")) = true),
  decide (PySem.W.findIn K (.ref (He.ga K "Values")) "__init__" = some (some (.ref (He.ma K (He.ga K "Values") "__init__"))))]
def ex4 (K : PySem.W.Frag) : List Bool := [
  decide (PySem.W.isFn K (.ref (He.ma K (He.ga K "Values") "__init__")) = true),
  decide (PySem.W.nsIn K mainGlobals "is_integer" = some (some (.ref (He.ga K "is_integer")))),
  decide (PySem.W.nsIn K mainGlobals "is_from" = some (some (.ref (He.ga K "is_from")))),
  decide (PySem.W.findIn K (.ref (He.ga K "Values")) "__eq__" = some (some (.ref (He.ma K (He.ga K "Values") "__eq__")))),
  decide (PySem.W.isFn K (.ref (He.ma K (He.ga K "Values") "__eq__")) = true),
  decide (PySem.W.nsIn K mainGlobals "same_values" = some (some (.ref (He.ga K "same_values")))),
  decide (PySem.W.findIn K (.ref (He.ga K "Values")) "numbered" = some (some (.ref (He.ma K (He.ga K "Values") "numbered")))),
  decide (PySem.W.isFn K (.ref (He.ma K (He.ga K "Values") "numbered")) = true),
  decide (PySem.W.nsIn K mainGlobals "number_of_letters" = some (some (.ref (He.ga K "number_of_letters")))),
  decide (PySem.W.findIn K (.ref (He.ga K "Values")) "cell" = some (some (.ref (He.ma K (He.ga K "Values") "cell")))),
  decide (PySem.W.isFn K (.ref (He.ma K (He.ga K "Values") "cell")) = true),
  decide (PySem.W.findIn K (.ref (He.ga K "Values")) "__len__" = some (some (.ref (He.ma K (He.ga K "Values") "__len__")))),
  decide (PySem.W.isFn K (.ref (He.ma K (He.ga K "Values") "__len__")) = true),
  decide (PySem.W.nsIn K mainGlobals "cell_from" = some (some (.ref (He.ga K "cell_from")))),
  decide (PySem.W.nsIn K mainGlobals "is_row" = some (some (.ref (He.ga K "is_row")))),
  decide (PySem.W.findIn K (.ref (He.ga K "Cell")) "__or__" = some (some (.ref (He.ma K (He.ga K "Cell") "__or__")))),
  decide (PySem.W.isFn K (.ref (He.ma K (He.ga K "Cell") "__or__")) = true),
  decide (PySem.W.findIn K (.ref (He.ga K "Cell")) "__contains__" = some (some (.ref (He.ma K (He.ga K "Cell") "__contains__")))),
  decide (PySem.W.isFn K (.ref (He.ma K (He.ga K "Cell") "__contains__")) = true),
  decide (PySem.W.findIn K (.ref (He.ga K "Cell")) "__eq__" = some (some (.ref (He.ma K (He.ga K "Cell") "__eq__"))))]
def ex5 (K : PySem.W.Frag) : List Bool := [
  decide (PySem.W.isFn K (.ref (He.ma K (He.ga K "Cell") "__eq__")) = true),
  decide (PySem.W.findIn K (.ref (He.ga K "Cell")) "__and__" = some (some (.ref (He.ma K (He.ga K "Cell") "__and__")))),
  decide (PySem.W.isFn K (.ref (He.ma K (He.ga K "Cell") "__and__")) = true),
  decide (PySem.W.findIn K (.ref (He.ga K "Line")) "__init__" = some (some (.ref (He.ma K (He.ga K "Line") "__init__")))),
  decide (PySem.W.isFn K (.ref (He.ma K (He.ga K "Line") "__init__")) = true),
  decide (PySem.W.nsIn K mainGlobals "numbers_of" = some (some (.ref (He.ga K "numbers_of")))),
  decide (PySem.W.findIn K (.ref (He.ga K "Line")) "__iter__" = some (some (.ref (He.ma K (He.ga K "Line") "__iter__")))),
  decide (PySem.W.isFn K (.ref (He.ma K (He.ga K "Line") "__iter__")) = true),
  decide (PySem.W.nsIn K mainGlobals "same_form" = some (some (.ref (He.ga K "same_form")))),
  decide (PySem.W.findIn K (.ref (He.ga K "Line")) "__or__" = some (some (.ref (He.ma K (He.ga K "Line") "__or__")))),
  decide (PySem.W.isFn K (.ref (He.ma K (He.ga K "Line") "__or__")) = true),
  decide (PySem.W.findIn K (.ref (He.ga K "Line")) "__getitem__" = some (some (.ref (He.ma K (He.ga K "Line") "__getitem__")))),
  decide (PySem.W.isFn K (.ref (He.ma K (He.ga K "Line") "__getitem__")) = true),
  decide (PySem.W.findIn K (.ref (He.ga K "Line")) "cells" = some (some (.ref (He.ma K (He.ga K "Line") "cells")))),
  decide (PySem.W.specialIn K (.ref (He.ma K (He.ga K "Line") "cells")) "__get__" = some (some (.builtin "property.__get__"))),
  decide (PySem.W.takesIn K (.ref (He.ma K (He.ga K "Line") "cells")) = some true),
  recB K (He.ma K (He.ga K "Line") "cells"),
  decide (PySem.W.findIn K (.ref (He.ga K "Line")) "__len__" = some (some (.ref (He.ma K (He.ga K "Line") "__len__")))),
  decide (PySem.W.isFn K (.ref (He.ma K (He.ga K "Line") "__len__")) = true),
  decide (PySem.W.findIn K (.ref (He.ga K "Line")) "__class__" = some (some (.builtin "object.__class__")))]
def ex6 (K : PySem.W.Frag) : List Bool := [
  decide (PySem.W.mroIn K (He.ga K "Line") (.type "object") = some true),
  decide (PySem.W.kitOne K (.ref (He.ga K "Line")) (.ref (He.ga K "Line")) = some true),
  decide (PySem.W.findIn K (.ref (He.ga K "Line")) "__eq__" = some (some (.ref (He.ma K (He.ga K "Line") "__eq__")))),
  decide (PySem.W.isFn K (.ref (He.ma K (He.ga K "Line") "__eq__")) = true),
  decide (PySem.W.findIn K (.ref (He.ga K "Line")) "__setitem__" = some (some (.ref (He.ma K (He.ga K "Line") "__setitem__")))),
  decide (PySem.W.isFn K (.ref (He.ma K (He.ga K "Line") "__setitem__")) = true),
  decide (PySem.W.nsIn K mainGlobals "line_of" = some (some (.ref (He.ga K "line_of")))),
  exkB K (He.ga K "NothingTold"),
  decide (PySem.W.findIn K (.ref (He.ga K "NothingTold")) "__init__" = some (some (.ref (He.ma K (He.ga K "NothingTold") "__init__")))),
  decide (PySem.W.typeIn K (.ref (He.ma K (He.ga K "NothingTold") "__init__")) = some (.type "function")),
  decide (PySem.W.findIn K (.ref (He.ga K "NothingTold")) "what" = some none),
  exkB K (He.ga K "Unlike"),
  decide (PySem.W.findIn K (.ref (He.ga K "Unlike")) "__init__" = some (some (.ref (He.ma K (He.ga K "Unlike") "__init__")))),
  decide (PySem.W.typeIn K (.ref (He.ma K (He.ga K "Unlike") "__init__")) = some (.type "function")),
  decide (PySem.W.findIn K (.ref (He.ga K "Unlike")) "part" = some none),
  decide (PySem.W.nsIn K mainGlobals "_law_pen" = some (some (.ref (He.ga K "_law_pen")))),
  decide (PySem.W.nsIn K mainGlobals "_law_draw" = some (some (.ref (He.ga K "_law_draw")))),
  decide (PySem.W.nsIn K mainGlobals "_law_pick" = some (some (.ref (He.ga K "_law_pick")))),
  decide (PySem.W.nsIn K mainGlobals "_law_text" = some (some (.ref (He.ga K "_law_text")))),
  decide (PySem.W.nsIn K mainGlobals "_law_cell" = some (some (.ref (He.ga K "_law_cell"))))]
def ex7 (K : PySem.W.Frag) : List Bool := [
  decide (PySem.W.nsIn K mainGlobals "_law_row" = some (some (.ref (He.ga K "_law_row")))),
  decide (PySem.W.nsIn K mainGlobals "_law_line" = some (some (.ref (He.ga K "_law_line")))),
  decide (PySem.W.nsIn K mainGlobals "_law_shown" = some (some (.ref (He.ga K "_law_shown")))),
  decide (PySem.W.nsIn K mainGlobals "_law_due" = some (some (.ref (He.ga K "_law_due")))),
  decide (PySem.W.nsIn K mainGlobals "join" = some (some (.ref (He.ga K "join")))),
  decide (PySem.W.nsIn K mainGlobals "_law_heard" = some (some (.ref (He.ga K "_law_heard")))),
  decide (PySem.W.nsIn K mainGlobals "_law_mixed_right" = some (some (.ref (He.ga K "_law_mixed_right")))),
  decide (PySem.W.nsIn K mainGlobals "law" = some (some (.ref (He.ga K "law"))))]
def exl (K : PySem.W.Frag) : List Bool := ex0 K ++ ex1 K ++ ex2 K ++ ex3 K ++ ex4 K ++ ex5 K ++ ex6 K ++ ex7 K
def ex (K : PySem.W.Frag) : Bool := (exl K).all id
def fn0 : List He.DefD := [
  ⟨("is_letter_of", none), "is_letter_of", "is_letter_of", defArgs s_is_letter_of, defBody s_is_letter_of, defScope s_is_letter_of, [], []⟩,
  ⟨("are_unlike_letters", none), "are_unlike_letters", "are_unlike_letters", defArgs s_are_unlike_letters, defBody s_are_unlike_letters, defScope s_are_unlike_letters, [], []⟩,
  ⟨("are_values_letters", none), "are_values_letters", "are_values_letters", defArgs s_are_values_letters, defBody s_are_values_letters, defScope s_are_values_letters, [], []⟩,
  ⟨("Cell", some "__init__"), "__init__", "Cell.__init__", defArgs s_CellDD_initDD, defBody s_CellDD_initDD, defScope s_CellDD_initDD, [], []⟩,
  ⟨("Values", some "__init__"), "__init__", "Values.__init__", defArgs s_ValuesDD_initDD, defBody s_ValuesDD_initDD, defScope s_ValuesDD_initDD, [], []⟩,
  ⟨("is_integer", none), "is_integer", "is_integer", defArgs s_is_integer, defBody s_is_integer, defScope s_is_integer, [], []⟩,
  ⟨("is_from", none), "is_from", "is_from", defArgs s_is_from, defBody s_is_from, defScope s_is_from, [], []⟩,
  ⟨("Values", some "__eq__"), "__eq__", "Values.__eq__", defArgs s_ValuesDD_eqDD, defBody s_ValuesDD_eqDD, defScope s_ValuesDD_eqDD, [], []⟩,
  ⟨("same_values", none), "same_values", "same_values", defArgs s_same_values, defBody s_same_values, defScope s_same_values, [], []⟩,
  ⟨("Values", some "numbered"), "numbered", "Values.numbered", defArgs s_Values_numbered, defBody s_Values_numbered, defScope s_Values_numbered, [], []⟩,
  ⟨("number_of_letters", none), "number_of_letters", "number_of_letters", defArgs s_number_of_letters, defBody s_number_of_letters, defScope s_number_of_letters, [], []⟩,
  ⟨("Values", some "cell"), "cell", "Values.cell", defArgs s_Values_cell, defBody s_Values_cell, defScope s_Values_cell, [], []⟩,
  ⟨("Values", some "__len__"), "__len__", "Values.__len__", defArgs s_ValuesDD_lenDD, defBody s_ValuesDD_lenDD, defScope s_ValuesDD_lenDD, [], []⟩,
  ⟨("cell_from", none), "cell_from", "cell_from", defArgs s_cell_from, defBody s_cell_from, defScope s_cell_from, [], []⟩,
  ⟨("is_row", none), "is_row", "is_row", defArgs s_is_row, defBody s_is_row, defScope s_is_row, [], []⟩]
def fn1 : List He.DefD := [
  ⟨("Cell", some "__or__"), "__or__", "Cell.__or__", defArgs s_CellDD_orDD, defBody s_CellDD_orDD, defScope s_CellDD_orDD, [], []⟩,
  ⟨("Cell", some "__contains__"), "__contains__", "Cell.__contains__", defArgs s_CellDD_containsDD, defBody s_CellDD_containsDD, defScope s_CellDD_containsDD, [], []⟩,
  ⟨("Cell", some "__eq__"), "__eq__", "Cell.__eq__", defArgs s_CellDD_eqDD, defBody s_CellDD_eqDD, defScope s_CellDD_eqDD, [], []⟩,
  ⟨("Cell", some "__and__"), "__and__", "Cell.__and__", defArgs s_CellDD_andDD, defBody s_CellDD_andDD, defScope s_CellDD_andDD, [], []⟩,
  ⟨("Line", some "__init__"), "__init__", "Line.__init__", defArgs s_LineDD_initDD, defBody s_LineDD_initDD, defScope s_LineDD_initDD, [], []⟩,
  ⟨("numbers_of", none), "numbers_of", "numbers_of", defArgs s_numbers_of, defBody s_numbers_of, defScope s_numbers_of, [], []⟩,
  ⟨("Line", some "__iter__"), "__iter__", "Line.__iter__", defArgs s_LineDD_iterDD, defBody s_LineDD_iterDD, defScope s_LineDD_iterDD, [], []⟩,
  ⟨("same_form", none), "same_form", "same_form", defArgs s_same_form, defBody s_same_form, defScope s_same_form, [], []⟩,
  ⟨("Line", some "__or__"), "__or__", "Line.__or__", defArgs s_LineDD_orDD, defBody s_LineDD_orDD, defScope s_LineDD_orDD, [], []⟩,
  ⟨("Line", some "__getitem__"), "__getitem__", "Line.__getitem__", defArgs s_LineDD_getitemDD, defBody s_LineDD_getitemDD, defScope s_LineDD_getitemDD, [], []⟩,
  ⟨("Line", some "__len__"), "__len__", "Line.__len__", defArgs s_LineDD_lenDD, defBody s_LineDD_lenDD, defScope s_LineDD_lenDD, [], []⟩,
  ⟨("Line", some "__eq__"), "__eq__", "Line.__eq__", defArgs s_LineDD_eqDD, defBody s_LineDD_eqDD, defScope s_LineDD_eqDD, [], []⟩,
  ⟨("Line", some "__setitem__"), "__setitem__", "Line.__setitem__", defArgs s_LineDD_setitemDD, defBody s_LineDD_setitemDD, defScope s_LineDD_setitemDD, [], []⟩,
  ⟨("line_of", none), "line_of", "line_of", defArgs s_line_of, defBody s_line_of, defScope s_line_of, [], []⟩,
  ⟨("NothingTold", some "__init__"), "__init__", "NothingTold.__init__", defArgs s_NothingToldDD_initDD, defBody s_NothingToldDD_initDD, defScope s_NothingToldDD_initDD, [], []⟩]
def fn2 : List He.DefD := [
  ⟨("Unlike", some "__init__"), "__init__", "Unlike.__init__", defArgs s_UnlikeDD_initDD, defBody s_UnlikeDD_initDD, defScope s_UnlikeDD_initDD, [], []⟩,
  ⟨("_law_pen", none), "_law_pen", "_law_pen", defArgs s_law_pen, defBody s_law_pen, defScope s_law_pen, [], []⟩,
  ⟨("_law_draw", none), "_law_draw", "_law_draw", defArgs s_law_draw, defBody s_law_draw, defScope s_law_draw, [], []⟩,
  ⟨("_law_pick", none), "_law_pick", "_law_pick", defArgs s_law_pick, defBody s_law_pick, defScope s_law_pick, [], []⟩,
  ⟨("_law_text", none), "_law_text", "_law_text", defArgs s_law_text, defBody s_law_text, defScope s_law_text, [], []⟩,
  ⟨("_law_cell", none), "_law_cell", "_law_cell", defArgs s_law_cell, defBody s_law_cell, defScope s_law_cell, [], []⟩,
  ⟨("_law_row", none), "_law_row", "_law_row", defArgs s_law_row, defBody s_law_row, defScope s_law_row, [], []⟩,
  ⟨("_law_line", none), "_law_line", "_law_line", defArgs s_law_line, defBody s_law_line, defScope s_law_line, [], []⟩,
  ⟨("_law_shown", none), "_law_shown", "_law_shown", defArgs s_law_shown, defBody s_law_shown, defScope s_law_shown, [], []⟩,
  ⟨("_law_due", none), "_law_due", "_law_due", defArgs s_law_due, defBody s_law_due, defScope s_law_due, [], []⟩,
  ⟨("join", none), "join", "join", defArgs s_join, defBody s_join, defScope s_join, [], []⟩,
  ⟨("_law_heard", none), "_law_heard", "_law_heard", defArgs s_law_heard, defBody s_law_heard, defScope s_law_heard, [], []⟩,
  ⟨("_law_mixed_right", none), "_law_mixed_right", "_law_mixed_right", defArgs s_law_mixed_right, defBody s_law_mixed_right, defScope s_law_mixed_right, [], []⟩,
  ⟨("law", none), "law", "law", defArgs s_law, defBody s_law, defScope s_law, [], []⟩]
def fn : List He.DefD := fn0 ++ fn1 ++ fn2
def pf : List PrD := [
  ⟨"Line", "cells", "Line.cells", defArgs s_Line_cells, defBody s_Line_cells, defScope s_Line_cells⟩]
abbrev tf : List He.Defn := [("_law_mixed_right", none), ("law", none)]
abbrev R : PySem.W.OpenRow := PySem.W.OpenLaw.row PySem.Challenge.rw_linestrikes_k41_lines_joined
def names0 : List PySem.Str := ["_wall", "LineError", "BadInput", "NoAnswer", "BadValues", "BadCell", "BadLine", "BadNumber", "NoCell", "Unlike", "BadText", "Clash", "NothingTold", "is_integer", "is_from", "is_row", "is_letter_of", "same_values", "SMALL_LETTERS", "Values", "Cell", "are_values_letters", "are_unlike_letters", "number_of_letters", "cell_from", "numbers_of", "Cursor", "each_word", "living_states", "living_ahead"]
def names1 : List PySem.Str := ["columns_of", "complete_path", "turn_path", "living_value", "Narrower", "Line", "Attempt", "same_form", "common_cells", "line_of", "join", "_law_pen", "_law_draw", "_law_pick", "_law_text", "_law_cell", "_law_row", "_law_line", "_law_shown", "_law_heard", "_law_due", "_law_mixed_right"]
def names : List PySem.Str := names0 ++ names1
abbrev Q : Program := PySem.W.view R.prog [60]
open HandSHeadRun PySem.W in
theorem runA (w : World) (os : OsState) : (endF (stepQ (denQ tabQ) R.prog w) 60000 R.prog w os).map (fun s => (looksF R.prog (boot_heap w.params) s.abs, seenQ Q names (importedModules R.prog.main.body) (fun s => xlAt Q [] s && recOk R.toRowW.records s) s.abs, obsA 5 fn pf (getT s))) = some (true, openGood Q names, (He.valD fn, valP pf)) := by
  kernel_rfl
open HandSHeadRun PySem.W in
theorem runB (w : World) (os : OsState) : (endF (stepQ (denQ tabQ) R.prog w) 60000 R.prog w os).map (fun s => obsB 5 tf ex (getT s)) = some true := by
  kernel_rfl
theorem run (w : World) : HandSHeadRun.RunEq R Q (hookY 5 fn pf tf ex) (ob 5 fn pf tf ex) 60000 names w := fun os => pairUp (runA w os) (runB w os)
end K41q

namespace PySem.W
open PySem PySem.Calls PyProof.Rows Builtin
section
variable {prog : Program} {w : World} {A : Around} {E : Value → Shared → Prop} {s : Shared} {K : Frag} {x C L f : Addr} {h₀ : Heap} {m : Str → Option Value} {ox : Obj} {od : Option Obj}
theorem slotBound_K {M : Model} {name : Str} {id : String} {args : List Value} {Q : Option Value → Shared → Prop} (X : K.In s.heap) (I : InstAt s.heap x ox C od) (hs : findIn K (.ref C) name = some (some (.builtin id)))
    (hb : ∀ v, bindSpecial (.builtin id) v = pure (.builtin id, [v]))
    (h : wpAny M A (call (.builtin id) (.ref x :: args)) (fun v => Q (some v)) E s) : wpAny M A (callSpecialIfBound? (.ref x) name args) Q E s := by
  simp only [callSpecialIfBound?, bindSpecialIfBound?]
  refine wpAny_holding (wpAny_bind (wpAny_bind (wpAny_bind (I.type.here ((looks_findIn X hs).here ?_)))))
  simp only [hb]
  refine wpAny_bind (wpAny_askSetting (wpAny_ite ?_))
  have fin : wpAny M A (call (.builtin id) ([.ref x] ++ args) >>= fun v => pure (some v)) Q E s := wpAny_bind (wpAny_mono h (fun v s' h' => wpAny_pure h') fun _ _ h' => h')
  split
  · exact wpAny_bind (wpAny_pure (wpAny_pure fin))
  · exact wpAny_tryCatch (wpAny_bind (wpAny_pure (wpAny_pure fin)))
theorem objNe_K {b : Value} {Q : Fin → Shared → Prop} (X : K.In s.heap) (I : InstAt s.heap x ox C od) (hu : A.units < cLine) (hs : findIn K (.ref C) "__eq__" = some (some (.ref f))) (hf : isFn K (.ref f) = true)
    (hcall : wpAny (model prog w) A (call (.ref f) [.ref x, b]) (fun v s' => ∃ k, v = .bool k ∧ Q (.done (.ret (.bool (!k)))) s') E s) :
    wpAny (model prog w) A (Builtin.«object.__ne__» ⟨[.ref x, b], []⟩) Q E s := by
  unfold Builtin.«object.__ne__»
  have hc : wpAny (model prog w) A (callSpecialIfBound? (.ref x) (Str.ofString "__eq__") [b]) (fun r s' => ∃ k, r = some (.bool k) ∧ Q (.done (.ret (.bool (!k)))) s') E s :=
    ifBound_K X I hs hf (wpAny_mono hcall (fun v s' hv => by obtain ⟨k, rfl, q⟩ := hv; exact ⟨k, rfl, q⟩) fun _ _ e => e)
  repeat (first
    | with_reducible refine wpAny_cRoomFor hu ?_
    | (refine wpAny_bind (m := callSpecialIfBound? (.ref x) (Str.ofString "__eq__") [b]) (wpAny_mono hc (fun r s' hr => by
          obtain ⟨k, rfl, hq⟩ := hr
          repeat (first | exact hq | exact wpAny_pure hq | exact wpAny_truthy_bool hq | (refine wpAny_bind (m := truthy (.bool _)) (wpAny_truthy_bool ?_)) | wp_step)) fun _ _ e => e))
    | wp_step)
theorem ne_K {b : Value} {tb : Value} {Q : Value → Shared → Prop} (hu : A.units + 1 < cLine) (F : Fr h₀ L s.heap m) (X₀ : K.In h₀) (I : InstAt s.heap x ox C od) (hb : Looks (model prog w) s.heap (typeOf b) tb) (hn : notFirst K C tb = true)
    (hne : findIn K (.ref C) "__ne__" = some (some (.builtin "object.__ne__"))) (ho : subIn K (.ref C) (.type "object") = some true)
    (hs : findIn K (.ref C) "__eq__" = some (some (.ref f))) (hf : isFn K (.ref f) = true)
    (h : wpAny (model prog w) A.in1 (call (.ref f) [.ref x, b]) (fun v s' => ∃ k, v = .bool k ∧ Q (.bool (!k)) s') E s) : wpAny (model prog w) A (richCompare .NotEq (.ref x) b) Q E s := by
  have X := X₀.keeps F.keep
  have one : wpAny (model prog w) A (tryCompare (.ref x) "__ne__" b) (fun r s' => ∃ v, r = some v ∧ Q v s') E s := by
    unfold tryCompare
    refine wpAny_bind (slotBound_K X I hne PySem.F.cmp_object.ne.bind (wpAny_call (codeAny_call_builtin PySem.F.cmp_object.ne.plain PySem.F.cmpEntry_ne ?_)))
    simp only [checkBuiltinCall, PySem.F.cmpKind_ne, PySem.F.cmpSplit_ne]
    refine wpAny_bind ?_
    unfold isInstance
    refine wpAny_bind (I.type.here ((looks_subIn X ho).here ?_))
    have ha := PySem.F.cmpArgs_ne (.ref x) b
    rw [if_neg (by decide)]
    have fin : wpAny (model prog w) A.in1 (Builtin.«object.__ne__» ⟨[.ref x, b], []⟩) (fun fin s' => match fin with
          | Fin.done f => (match (Except.ok f : Except Value Flow) with
            | Except.ok (Flow.ret v) => wpAny (model prog w) A (match (some v : Option Value) with | some Value.notImplemented => pure none | none => pure none | some v => pure (some v)) (fun r s' => ∃ v, r = some v ∧ Q v s') E s'
            | Except.ok _ => False
            | Except.error e => E e s')
          | Fin.again c' => c'.quiet = true ∧ codeAny (model prog w) A c' (fun r s' => match r with
                  | Except.ok (Flow.ret v) => wpAny (model prog w) A (match (some v : Option Value) with | some Value.notImplemented => pure none | none => pure none | some v => pure (some v)) (fun r s' => ∃ v, r = some v ∧ Q v s') E s'
                  | Except.ok _ => False
                  | Except.error e => E e s') s') (fun e s' => E e s') s := by
      refine objNe_K X I hu hs hf (wpAny_mono h (fun v s' hv => ?_) fun _ _ e => e)
      obtain ⟨k, rfl, q⟩ := hv
      exact ⟨k, rfl, wpAny_pure ⟨_, rfl, q⟩⟩
    cases hsig : Manifest.signature? "object.__ne__" with
    | none => exact wpAny_pure fin
    | some sig =>
      simp only [argsOk, hsig] at ha
      have h2 : Bind.checkArgs "object.__ne__" sig ⟨[.ref x, b], []⟩ = pure () := ha
      show wpAny _ _ (Bind.checkArgs "object.__ne__" sig ⟨[.ref x, b], []⟩) _ _ _
      rw [h2]; exact wpAny_pure fin
  unfold richCompare
  simp only [oneThing_ref]
  refine wpAny_holding (wpAny_bind (wpAny_cRoomFor (Nat.lt_of_succ_lt hu) ?_))
  refine wpAny_bind (I.type.here (wpAny_bind (hb.here ?_)))
  split
  · rename_i q
    have e : subIn K tb (.ref C) = some false := by
      rcases Bool.or_eq_true_iff.mp hn with e | e
      · rw [beq_iff_eq.mp e] at q; simp at q
      · exact beq_iff_eq.mp e
    refine wpAny_bind ((looks_subIn X e).here ?_)
    simp only [Bool.false_eq_true, if_false]
    refine wpAny_bind (wpAny_mono one (fun r s' z => ?_) fun _ _ e => e)
    obtain ⟨v, rfl, hq⟩ := z
    exact wpAny_pure hq
  · refine wpAny_bind (wpAny_pure ?_)
    simp only [Bool.false_eq_true, if_false]
    refine wpAny_bind (wpAny_mono one (fun r s' z => ?_) fun _ _ e => e)
    obtain ⟨v, rfl, hq⟩ := z
    exact wpAny_pure hq
end
end PySem.W

namespace LB
open PySem L2 PyProof.Rows
section
variable {X : Cx} {CX : CXT} {k : Nat} {f C : Addr} {fd : FuncData} {ps : List Str} {sp : Sp} {E : XK}
theorem relV_ne {v : V} {u : Value} (r : RelV v u) : u ≠ .notImplemented := by
  intro e
  subst e
  cases v with
  | non => cases r
  | bl _ => cases r
  | int _ => obtain ⟨t, e⟩ := r; cases e
  | str _ => obtain ⟨t, e⟩ := r; cases e
  | byt _ => obtain ⟨t, e⟩ := r; cases e
  | flt _ => obtain ⟨t, e⟩ := r; cases e
  | ref _ => cases r
  | ty _ => cases r
theorem cmpBack_of {pins : List (Addr × Obj)} {σ : L2.St} {Q : VK} {u : Value} {s : Shared} (h : EP X pins σ Q u s) : PySem.W.CmpBack (EP X pins σ Q) u s := by
  have hn : u ≠ .notImplemented := by
    obtain ⟨v, H', I, r, q⟩ := h
    exact relV_ne r
  cases u <;> first | exact absurd rfl hn | exact h
/-- a def of the class under a special name -/
structure Own (K : PySem.W.Frag) (C f : Addr) (nm : Str) : Prop where
  at_ : PySem.W.findIn K (.ref C) nm = some (some (.ref f))
  fn : PySem.W.isFn K (.ref f) = true
/-- the callee runs, somewhere below -/
theorem run_in1 {pins : List (Addr × Obj)} {σ : L2.St} {H : Hp} {s : Shared} {Q : VK} {us : List Value} {vs : List V} (F : FnOk X.prog X.w X.K X.mg X.base CX k f fd ps sp) (hr : Room (k + 1) X.A) (hb : Binds X.K fd ps []) (hx : Passes CX X E)
    (I : Inv X pins σ H s) (r : Vals vs us) (h : sp vs H Q E) : wpAny (model X.prog X.w) X.A.in1 (call (.ref f) us) (EP X pins σ Q) X.xe s := by
  have hl : us.length = ps.length := by rw [← r.length]; exact F.len _ _ _ _ h
  have hb' := hb s us I.kIn (by rw [List.append_nil]; exact hl)
  rw [List.append_nil] at hb'
  refine wpAny_call (codeAny_mono (F.run X.A.in1 X.stack s H ⟨us, []⟩ us vs Q E hr.in1 I.env0.in1 hb' r h) fun r s' hq => ?_)
  cases r with
  | error e => exact hx pins σ H s e s' I hq
  | ok fl =>
    cases fl with
    | ret u => exact I.after hq
    | next => exact False.elim hq
    | brk => exact False.elim hq
    | cont => exact False.elim hq
theorem inst_of {pins : List (Addr × Obj)} {σ : L2.St} {H : Hp} {s : Shared} {a dx : Addr} {fs : List (Str × V)} (I : Inv X pins σ H s) (ha : H a = some (.ins C dx fs)) :
    ∃ od, PySem.W.InstAt s.heap a (PySem.W.instObj C dx) C (some od) := by
  obtain ⟨mA, J, _⟩ := ins_get I.hok ha
  obtain ⟨od, J, _⟩ := J.look
  exact ⟨od, J⟩
/-- what an own operator of two instances asks -/
def rOwn2 (C D : Addr) (sp : Sp) (E : XK) : R2 := fun x y H Q => ∃ a b dx dy fs gs, x = .ref a ∧ y = .ref b ∧ H a = some (.ins C dx fs) ∧ H b = some (.ins D dy gs) ∧ sp [x, y] H Q E
theorem op_bin {op : Operator} (F : FnOk X.prog X.w X.K X.mg X.base CX k f fd ps sp) (hr : Room k X.A) (hb : Binds X.K fd ps []) (hx : Passes CX X E) (hc : PySem.W.selfFirst X.K C = true)
    (ho : Own X.K C f (PySem.dunder op.info.2)) : OpR X (binaryOp op) (rOwn2 C C sp E) := by
  intro pins s σ H x y v u Q I rx ry hq
  obtain ⟨a, b, dx, dy, fs, gs, rfl, rfl, ha, hb', h⟩ := hq
  cases rx
  cases ry
  obtain ⟨od, J⟩ := inst_of I ha
  obtain ⟨od', J'⟩ := inst_of I hb'
  obtain ⟨m, hF⟩ := I.fr
  refine PySem.W.binop_K hF I.ok.mod.kin J J'.type hc ho.at_ ho.fn (thn ?_ fun _ _ z => cmpBack_of z)
  exact run_fn (us := [.ref a, .ref b]) (vs := [.ref a, .ref b]) (dvs := []) (ds := []) F hr hb .nil hx I (.cons rfl (.cons rfl .nil)) h
theorem op_eqOwn (F : FnOk X.prog X.w X.K X.mg X.base CX k f fd ps sp) (hr : Room k X.A) (hb : Binds X.K fd ps []) (hx : Passes CX X E) (ho : Own X.K C f "__eq__") : OpR X (compareOp .Eq) (rOwn2 C C sp E) := by
  intro pins s σ H x y v u Q I rx ry hq
  obtain ⟨a, b, dx, dy, fs, gs, rfl, rfl, ha, hb', h⟩ := hq
  cases rx
  cases ry
  obtain ⟨od, J⟩ := inst_of I ha
  obtain ⟨od', J'⟩ := inst_of I hb'
  obtain ⟨m, hF⟩ := I.fr
  show wpAny (model X.prog X.w) X.A (richCompare .Eq (.ref a) (.ref b)) (EP X pins σ Q) X.xe s
  refine PySem.W.cmp_K (op := .Eq) (tb := .ref C) hr.units0 hF I.ok.mod.kin J J'.type (by simp [PySem.W.notFirst]) ho.at_ ho.fn (thn ?_ fun _ _ z => cmpBack_of z)
  exact run_fn (us := [.ref a, .ref b]) (vs := [.ref a, .ref b]) (dvs := []) (ds := []) F hr hb .nil hx I (.cons rfl (.cons rfl .nil)) h
/-- what a class must have for != by its own == -/
structure NeOwn (K : PySem.W.Frag) (C : Addr) : Prop where
  ne : PySem.W.findIn K (.ref C) "__ne__" = some (some (.builtin "object.__ne__"))
  sub : PySem.W.subIn K (.ref C) (.type "object") = some true
theorem op_neOwn (F : FnOk X.prog X.w X.K X.mg X.base CX k f fd ps sp) (hr : Room (k + 1) X.A) (hb : Binds X.K fd ps []) (hx : Passes CX X E) (ho : Own X.K C f "__eq__") (hn : NeOwn X.K C) :
    OpR X (compareOp .NotEq) (fun x y H Q => ∃ a b dx dy fs gs, x = .ref a ∧ y = .ref b ∧ H a = some (.ins C dx fs) ∧ H b = some (.ins C dy gs) ∧ sp [x, y] H (fun z H' => ∃ c, z = .bl c ∧ Q (.bl (!c)) H') E) := by
  intro pins s σ H x y v u Q I rx ry hq
  obtain ⟨a, b, dx, dy, fs, gs, rfl, rfl, ha, hb', h⟩ := hq
  cases rx
  cases ry
  obtain ⟨od, J⟩ := inst_of I ha
  obtain ⟨od', J'⟩ := inst_of I hb'
  obtain ⟨m, hF⟩ := I.fr
  show wpAny (model X.prog X.w) X.A (richCompare .NotEq (.ref a) (.ref b)) (EP X pins σ Q) X.xe s
  refine PySem.W.ne_K (tb := .ref C) (Nat.lt_of_le_of_lt (Nat.add_le_add_left (by decide : 1 ≤ 64) _) hr.units) hF I.ok.mod.kin J J'.type (by simp [PySem.W.notFirst]) hn.ne hn.sub ho.at_ ho.fn
    (thn (run_in1 (us := [.ref a, .ref b]) (vs := [.ref a, .ref b]) F hr hb hx I (.cons rfl (.cons rfl .nil)) h) fun u s' z => ?_)
  obtain ⟨w, H', I', r, c, rfl, q⟩ := z
  cases r
  exact ⟨c, rfl, .bl (!c), H', I', rfl, q⟩
theorem un_own {op : UnaryOp} (F : FnOk X.prog X.w X.K X.mg X.base CX k f fd ps sp) (hr : Room k X.A) (hb : Binds X.K fd ps []) (hx : Passes CX X E) (ho : Own X.K C f "__invert__") :
    UnR X (unaryOp .Invert) (fun x H Q => ∃ a dx fs, x = .ref a ∧ H a = some (.ins C dx fs) ∧ sp [x] H Q E) := by
  intro pins s σ H x v Q I rx hq
  obtain ⟨a, dx, fs, rfl, ha, h⟩ := hq
  cases rx
  obtain ⟨od, J⟩ := inst_of I ha
  obtain ⟨m, hF⟩ := I.fr
  refine PySem.W.ksp_inv hF I.ok.mod.kin J ho.at_ ho.fn ?_
  exact run_fn (us := [.ref a]) (vs := [.ref a]) (dvs := []) (ds := []) F hr hb .nil hx I (.cons rfl .nil) h
theorem un_negOwn {op : UnaryOp} (F : FnOk X.prog X.w X.K X.mg X.base CX k f fd ps sp) (hr : Room k X.A) (hb : Binds X.K fd ps []) (hx : Passes CX X E) (ho : Own X.K C f "__neg__") :
    UnR X (unaryOp .USub) (fun x H Q => ∃ a dx fs, x = .ref a ∧ H a = some (.ins C dx fs) ∧ sp [x] H Q E) := by
  intro pins s σ H x v Q I rx hq
  obtain ⟨a, dx, fs, rfl, ha, h⟩ := hq
  cases rx
  obtain ⟨od, J⟩ := inst_of I ha
  obtain ⟨m, hF⟩ := I.fr
  refine PySem.W.ksp_neg hF I.ok.mod.kin J ho.at_ ho.fn ?_
  exact run_fn (us := [.ref a]) (vs := [.ref a]) (dvs := []) (ds := []) F hr hb .nil hx I (.cons rfl .nil) h
/-- e in o, o an instance with its own __contains__ -/
def rIn (C : Addr) (sp : Sp) (E : XK) (g : Bool → Bool) : R2 := fun x y H Q => ∃ b dy gs, y = .ref b ∧ H b = some (.ins C dy gs) ∧ sp [y, x] H (fun z H' => ∃ c, z = .bl c ∧ Q (.bl (g c)) H') E
theorem op_inOwn (F : FnOk X.prog X.w X.K X.mg X.base CX k f fd ps sp) (hr : Room k X.A) (hb : Binds X.K fd ps []) (hx : Passes CX X E) (ho : Own X.K C f "__contains__") : OpR X (compareOp .In) (rIn C sp E id) := by
  intro pins s σ H x y v u Q I rx ry hq
  obtain ⟨b, dy, gs, rfl, hb', h⟩ := hq
  cases ry
  obtain ⟨od', J'⟩ := inst_of I hb'
  obtain ⟨m, hF⟩ := I.fr
  refine PySem.W.in_K hF I.ok.mod.kin J' ho.at_ ho.fn (thn (run_fn (us := [.ref b, v]) (vs := [.ref b, x]) (dvs := []) (ds := []) F hr hb .nil hx I (.cons rfl (.cons rx .nil)) h) fun u s' z => ?_)
  obtain ⟨w, H', I', r, c, rfl, q⟩ := z
  cases r
  exact wpAny_truthy_bool ⟨.bl c, H', I', rfl, q⟩
theorem op_notInOwn (F : FnOk X.prog X.w X.K X.mg X.base CX k f fd ps sp) (hr : Room k X.A) (hb : Binds X.K fd ps []) (hx : Passes CX X E) (ho : Own X.K C f "__contains__") : OpR X (compareOp .NotIn) (rIn C sp E not) := by
  intro pins s σ H x y v u Q I rx ry hq
  obtain ⟨b, dy, gs, rfl, hb', h⟩ := hq
  cases ry
  obtain ⟨od', J'⟩ := inst_of I hb'
  obtain ⟨m, hF⟩ := I.fr
  refine PySem.W.notIn_K hF I.ok.mod.kin J' ho.at_ ho.fn (thn (run_fn (us := [.ref b, v]) (vs := [.ref b, x]) (dvs := []) (ds := []) F hr hb .nil hx I (.cons rfl (.cons rx .nil)) h) fun u s' z => ?_)
  obtain ⟨w, H', I', r, c, rfl, q⟩ := z
  cases r
  exact wpAny_truthy_bool ⟨.bl (!c), H', I', rfl, q⟩
theorem call_lenOwn (F : FnOk X.prog X.w X.K X.mg X.base CX k f fd ps sp) (hr : Room (k + 1) X.A) (hb : Binds X.K fd ps []) (hx : Passes CX X E) (ho : Own X.K C f "__len__") :
    CallR X (.builtin "len") (fun xs H Q => ∃ a dx fs, xs = [.ref a] ∧ H a = some (.ins C dx fs) ∧ sp xs H (fun z H' => ∃ n : Int, z = .int n ∧ 0 ≤ n ∧ n < 2 ^ 63 ∧ Q (.int n) H') E) := by
  intro pins s σ H xs us Q I rx hq
  obtain ⟨a, dx, fs, rfl, ha, h⟩ := hq
  obtain ⟨u, rfl, ru⟩ := vals1 rx
  cases ru
  obtain ⟨od, J⟩ := inst_of I ha
  obtain ⟨m, hF⟩ := I.fr
  refine PySem.W.len_K hF I.ok.mod.kin J ho.at_ ho.fn (thn (run_in1 (us := [.ref a]) (vs := [.ref a]) F hr hb hx I (.cons rfl .nil) h) fun u s' z => ?_)
  obtain ⟨w, H', I', r, n, rfl, h0, h1, q⟩ := z
  obtain ⟨t, rfl⟩ := r
  exact ⟨⟨h0, h1⟩, .int n, H', I'.tok _, ⟨_, rfl⟩, q⟩
/-- the truth of an instance with its own __bool__ -/
def rTruOwn (C : Addr) (sp : Sp) (E : XK) : V → Hp → (Bool → Hp → Prop) → Prop := fun x H Q => ∃ a dx fs, x = .ref a ∧ H a = some (.ins C dx fs) ∧ sp [x] H (fun z H' => ∃ c, z = .bl c ∧ Q c H') E
theorem tru_own (F : FnOk X.prog X.w X.K X.mg X.base CX k f fd ps sp) (hr : Room k X.A) (hb : Binds X.K fd ps []) (hx : Passes CX X E) (ho : Own X.K C f "__bool__") : TruR X (rTruOwn C sp E) := by
  intro pins s σ H x v Q I rx hq
  obtain ⟨a, dx, fs, rfl, ha, h⟩ := hq
  cases rx
  obtain ⟨od, J⟩ := inst_of I ha
  obtain ⟨m, hF⟩ := I.fr
  refine PySem.W.truthy_K hF I.ok.mod.kin J ho.at_ ho.fn (thn (run_fn (us := [.ref a]) (vs := [.ref a]) (dvs := []) (ds := []) F hr hb .nil hx I (.cons rfl .nil) h) fun u s' z => ?_)
  obtain ⟨w, H', I', r, c, rfl, q⟩ := z
  cases r
  exact ⟨H', I', q⟩
/-- a test by a value's truth, whatever rule says it -/
theorem pt_tru {a : Expr} {ta : TE} {r : V → Hp → (Bool → Hp → Prop) → Prop} (hT : TruR X r) (ha : PE X a ta) (he : ∀ whole, isTrue a X.env whole = (do let v ← whole; standAt a.pos; holding [v] (truthy v)) := by intro _; rfl) :
    PT X a (fun σ H Q => ta σ H fun x H1 => r x H1 Q) := by
  refine ⟨fun pins s σ H Q I hw => ?_⟩
  refine isTrue_plain (thn (ha.run pins s σ H _ I hw) fun v s1 ⟨x, H1, I1, r1, q1⟩ => ?_) (he _)
  exact hT pins s1 σ H1 x v Q I1 r1 q1
/-- not e as a value, by e's truth -/
theorem pe_notTru {a : Expr} {ta : TE} {pos : Pos} {r : V → Hp → (Bool → Hp → Prop) → Prop} (hT : TruR X r) (ha : PE X a ta) : PE X (.UnaryOp .Not a pos) (fun σ H Q => ta σ H fun x H1 => r x H1 fun c H2 => Q (.bl (!c)) H2) := by
  refine ⟨fun pins s σ H Q I h => ?_⟩
  refine UnaryOp_ (thn (ha.run pins s σ H _ I h) fun v s1 ⟨x, H1, I1, r1, q1⟩ => ?_)
  exact not_of (thn (hT pins s1 σ H1 x v _ I1 r1 q1) fun c s2 ⟨H2, I2, q2⟩ => ⟨.bl (!c), H2, I2, rfl, q2⟩)
end
end LB

namespace LB
open PySem PyProof.Rows
/-! ### what of a list is met first -/
section
variable {K : Type} [DecidableEq K]
def ddStep (acc : List K) (x : K) : List K := if x ∈ acc then acc else acc ++ [x]
def dd (l : List K) : List K := l.foldl ddStep []
theorem dd_snoc (l : List K) (x : K) : dd (l ++ [x]) = ddStep (dd l) x := by
  unfold dd
  rw [List.foldl_append]
  rfl
theorem dd_mem (l : List K) (k : K) : k ∈ dd l ↔ k ∈ l := by
  suffices h : ∀ (r acc : List K), k ∈ r.foldl ddStep acc ↔ k ∈ acc ∨ k ∈ r by
    have := h l []
    simpa [dd] using this
  intro r
  induction r with
  | nil => intro acc; simp
  | cons a t ih =>
    intro acc
    rw [List.foldl_cons, ih]
    unfold ddStep
    split
    · rename_i h
      constructor
      · rintro (h1 | h1)
        · exact .inl h1
        · exact .inr (List.mem_cons_of_mem _ h1)
      · rintro (h1 | h1)
        · exact .inl h1
        · rcases List.mem_cons.mp h1 with e | h2
          · subst e; exact .inl h
          · exact .inr h2
    · simp only [List.mem_append, List.mem_cons, List.not_mem_nil, or_false, or_assoc]
theorem dd_len_le (l : List K) : (dd l).length ≤ l.length := by
  suffices h : ∀ (r acc : List K), (r.foldl ddStep acc).length ≤ acc.length + r.length by
    simpa [dd] using h l []
  intro r
  induction r with
  | nil => intro acc; simp
  | cons a t ih =>
    intro acc
    rw [List.foldl_cons]
    refine Nat.le_trans (ih _) ?_
    unfold ddStep
    split
    · simp only [List.length_cons]; omega
    · simp only [List.length_append, List.length_cons, List.length_nil]; omega
theorem dd_nodup {l : List K} (h : l.Nodup) : dd l = l := by
  suffices hh : ∀ (r acc : List K), (acc ++ r).Nodup → r.foldl ddStep acc = acc ++ r by
    simpa [dd] using hh l [] (by simpa using h)
  intro r
  induction r with
  | nil => intro acc _; simp
  | cons a t ih =>
    intro acc hn
    rw [List.foldl_cons]
    have ha : a ∉ acc := fun hm => by
      have := List.nodup_append.mp hn
      exact this.2.2 a hm a List.mem_cons_self rfl
    have e : ddStep acc a = acc ++ [a] := if_neg ha
    rw [e, ih _ (by simpa using hn)]
    simp
theorem dd_len_lt {l : List K} (h : ¬ l.Nodup) : (dd l).length < l.length := by
  suffices hh : ∀ (r acc : List K), acc.Nodup → ¬ (acc ++ r).Nodup → (r.foldl ddStep acc).length < acc.length + r.length by
    have := hh l [] (by simp) (by simpa using h)
    simpa [dd] using this
  intro r
  induction r with
  | nil => intro acc h1 h2; simp at h2; exact absurd h1 h2
  | cons a t ih =>
    intro acc h1 h2
    rw [List.foldl_cons]
    by_cases ha : a ∈ acc
    · have e : ddStep acc a = acc := if_pos ha
      rw [e]
      have := (show ∀ (r acc : List K), (r.foldl ddStep acc).length ≤ acc.length + r.length from by
        intro r
        induction r with
        | nil => intro acc; simp
        | cons a t ih =>
          intro acc
          rw [List.foldl_cons]
          refine Nat.le_trans (ih _) ?_
          unfold ddStep
          split
          · simp only [List.length_cons]; omega
          · simp only [List.length_append, List.length_cons, List.length_nil]; omega) t acc
      simp only [List.length_cons]
      omega
    · have e : ddStep acc a = acc ++ [a] := if_neg ha
      rw [e]
      have := ih (acc ++ [a]) (by
        refine List.nodup_append.mpr ⟨h1, by simp, ?_⟩
        intro x hx y hy q
        simp at hy
        subst hy; subst q
        exact ha hx) (by simpa using h2)
      simp only [List.length_append, List.length_cons, List.length_nil] at this ⊢
      omega
theorem dd_any [BEq K] [LawfulBEq K] (l : List K) (k v : K) : (ddStep l v).any (· == k) = (l.any (· == k) || decide (k = v)) := by
  unfold ddStep
  split
  · rename_i h
    by_cases e : k = v
    · subst e
      simp only [decide_true, Bool.or_true]
      exact List.any_eq_true.mpr ⟨k, h, by simp⟩
    · simp [e]
  · rw [List.any_append]
    congr 1
    by_cases e : k = v
    · subst e; simp
    · have e' : (v == k) = false := by simpa using fun q => e q.symm
      simp [e, e']
theorem dd_len [BEq K] [LawfulBEq K] (l : List K) (v : K) : (ddStep l v).length = if l.any (· == v) = true then l.length else l.length + 1 := by
  unfold ddStep
  by_cases h : v ∈ l
  · rw [if_pos h, if_pos (List.any_eq_true.mpr ⟨v, h, by simp⟩)]
  · rw [if_neg h, if_neg (fun q => by obtain ⟨x, hx, e⟩ := List.any_eq_true.mp q; exact h (by rw [← eq_of_beq e]; exact hx))]
    simp
end
section
variable {prog : Program} {w : World} {A : Around} {R : Result → Shared → Prop} {I : Addr} {fp wr : List Addr} {G : Array GenState → Array GenState → Prop} {n : Nat} {P : Nat → Value → Prop} {St : Nat → Shared → Prop}
theorem set_loop (W : WalksS prog w A.in1 I fp wr G n P St) (S : Addr) (hSf : S ∉ fp)
    (vals : List Str) (hval : ∀ i v, P i v → ∃ k t, vals[i]? = some k ∧ v = .str k t) (hvn : vals.length = n) (hb : n + 1 < scanBound) :
    ∀ (k i : Nat) (s : Shared), n - i = k → i ≤ n → St i s →
      s.heap.SetOf (strKind prog w) S (fun k' => (dd (vals.take i)).any (· == k')) (dd (vals.take i)).length →
      (∀ s', Moved (S :: wr) G s s' → s'.heap.SetOf (strKind prog w) S (fun k' => (dd vals).any (· == k')) (dd vals).length → R (.ok (.ret .none)) s') →
      codeAny (model prog w) A (.builtin "set.update.loop" ⟨[.ref S, .ref I], []⟩) R s := by
  have hSw : S ∉ wr := fun h => hSf (W.sub _ h)
  have hsub : ∀ b ∈ wr, b ∈ S :: wr := fun b hb => List.mem_cons_of_mem _ hb
  intro k
  induction k with
  | zero =>
    intro i s hk hi hst hS hR
    have hin : i = n := by omega
    subst hin
    refine codeAny_builtin PyProof.Rows.F.entry_set_update_loop ?_
    rw [Around.under_plainId PyProof.Rows.F.plain_set_update_loop _]
    show wpAny _ A.in1 (pyNext (.ref I) >>= _) _ _ s
    refine wpAny_bind (W.done s _ _ hst fun s' hm => ?_)
    show wpAny _ A.in1 (ret Value.none) _ _ s'
    exact wpAny_pure (hR s' (hm.mono hsub) (by
      rw [← hvn, List.take_length] at hS
      obtain ⟨o, es, ep, t, ho, rest⟩ := hS
      exact ⟨o, es, ep, t, hm.heap S _ hSw ho, rest⟩))
  | succ k ih =>
    intro i s hk hi hst hS hR
    have hlt : i < n := by omega
    refine codeAny_builtin PyProof.Rows.F.entry_set_update_loop ?_
    rw [Around.under_plainId PyProof.Rows.F.plain_set_update_loop _]
    show wpAny _ A.in1 (pyNext (.ref I) >>= _) _ _ s
    refine wpAny_bind (W.item i s _ _ hlt hst fun v s' hP hst' hm => ?_)
    obtain ⟨y, t, hy, rfl⟩ := hval i v hP
    have hS' : s'.heap.SetOf (strKind prog w) S (fun k' => (dd (vals.take i)).any (· == k')) (dd (vals.take i)).length := by
      obtain ⟨o, es, ep, tb, ho, rest⟩ := hS
      exact ⟨o, es, ep, tb, hm.heap S _ hSw ho, rest⟩
    show wpAny _ A.in1 (holding [Value.str y t] (setAdd S (.str y t)) >>= _) _ _ s'
    refine wpAny_bind (wpAny_holding ?_)
    unfold setAdd
    refine wpAny_holding ?_
    refine wpAny_bind ((strKind prog w).pyHash (k := y) (by simp [PySem.strKind, Value.isStrOf]) ?_)
    have hroom : (dd (vals.take i)).length + 1 < scanBound := by have := dd_len_le (vals.take i); have := List.length_take_le i vals; omega
    refine wpAny_setAddHashed_of (knd := strKind prog w) (s := { s' with toks := s'.toks + 1 }) (by simp [PySem.strKind, Value.isStrOf]) rfl hS' hroom fun h' hsb hS2 => ?_
    have hstep : vals.take (i + 1) = vals.take i ++ [y] := by
      have hi' := List.getElem?_eq_some_iff.mp hy
      obtain ⟨h1, e1⟩ := hi'
      rw [List.take_succ_eq_append_getElem h1, e1]
    have hSi : h'.SetOf (strKind prog w) S (fun k' => (dd (vals.take (i + 1))).any (· == k')) (dd (vals.take (i + 1))).length :=
      PyProof.Rows.SetOf_congr hS2 (fun k' => by rw [hstep, dd_snoc, dd_any]) (by rw [hstep, dd_snoc, dd_len])
    refine wpAny_pure ⟨plainId_quiet PyProof.Rows.F.plain_set_update_loop _, ih (i + 1) _ (by omega) hlt (W.frame _ s' _ _ hst' (Nat.le_succ _) fun b hb o e => ?_) hSi fun s'' hm'' hS'' => ?_⟩
    · rw [hsb.2 b (fun h : b = S => hSf (by rw [← h]; exact hb))]; exact e
    · refine hR s'' (Moved.trans W.gtrans ((hm.mono hsub).then_heap (Nat.le_succ _) fun b o hb e => ?_) hm'') hS''
      rw [hsb.2 b (fun h : b = S => hb (by rw [h]; exact List.mem_cons_self))]; exact e
end

theorem str_not_set : isSubtype (.type "str") (.type "set") = pure false := by rw [isSubtype_type]; kernel_rfl
theorem str_not_frozenset : isSubtype (.type "str") (.type "frozenset") = pure false := by rw [isSubtype_type]; kernel_rfl
def signs (x : Str) : List Str := x.cps.toList.map fun c => (⟨#[c]⟩ : Str)
theorem signs_len (x : Str) : (signs x).length = x.cps.size := by simp [signs]
theorem signs_at {x : Str} {i : Nat} {c : Nat} (h : x.cps[i]? = some c) : (signs x)[i]? = some ⟨#[c]⟩ := by
  unfold signs
  rw [List.getElem?_map, Array.getElem?_toList, h]
  rfl
section
variable {prog : Program} {w : World} {A : Around} {E : Value → Shared → Prop} {s : Shared}
/-- set(x), x any thing that is walked as texts -/
theorem call_set_gen {v : Value} {vals : List Str} {Q : Value → Shared → Prop} (hh : A.handled = none) (hb : vals.length + 1 < scanBound)
    (hinit : ∀ (led : Bool) (R : Result → Shared → Prop), 
      (∀ s', (∀ b o, b < s.heap.objs.size → s.heap.get? b = some o → s'.heap.get? b = some o) → s'.gens = s.gens → s'.drawn = s.drawn → s'.os = s.os →
        s'.heap.SetOf (PySem.strKind prog w) s.heap.objs.size (fun k' => (dd vals).any (· == k')) (dd vals).length → R (.ok (.ret .none)) s') →
      (∀ e s', R (.error e) s' = E e s') →
      wpAny (model prog w) A.in1.in1 (Builtin.«set.__init__» ⟨[.ref s.heap.objs.size, v], []⟩) (fun fin s' => match fin with
        | .done f => R (.ok f) s' | .again c' => c'.quiet = true ∧ codeAny (model prog w) A.in1 c' R s') (fun e s' => R (.error e) s') 
        { s with heap := s.heap.push { cls := .type "set", dict := none, data := .set #[] 0 (.fresh 0 0 led) } })
    (h : ∀ (h' : Heap) (tk : Nat), h'.SetOf (PySem.strKind prog w) s.heap.objs.size (fun k' => (dd vals).any (· == k')) (dd vals).length →
      (∀ b o, b < s.heap.objs.size → s.heap.get? b = some o → h'.get? b = some o) → Q (.ref s.heap.objs.size) { s with heap := h', toks := tk }) :
    wpAny (model prog w) A (call (.type "set") [v]) Q E s := by
  obtain ⟨c, tl, hmro⟩ := PySem.F.called_set.mro
  have hmade := PySem.F.called_set.made
  have hsub := PySem.F.called_set.sub
  refine wpAny_call (codeAny_of_tree ?_)
  show wpAny _ _ (callAny (.type "set") _) _ _ _
  refine wpAny_pure ⟨Code.quiet_builtin _ (by decide +kernel), codeAny_builtin PySem.F.entry_type_call ?_⟩
  rw [Around.under_plain (weight_type_call_type "set" [v] []) rfl]
  have h1 := PySem.F.called_set.notType
  have h2 := PySem.F.called_set.canCreate
  have hct := PySem.F.typeCall_set_1 v
  repeat (any_goals (first | assumption | wp_step))

  refine codeAny_mono (code_set_new_1 v (E := E) (Q₁ := fun obj s₁ => ∃ led : Bool, obj = .ref s.heap.objs.size ∧ s₁ = { s with heap := s.heap.push { cls := .type "set", dict := none, data := .set #[] 0 (.fresh 0 0 led) } }) fun led => ⟨led, rfl, rfl⟩) fun r s₁ hr => ?_
  cases r with
  | error e => exact hr
  | ok fl =>
    cases fl with
    | ret obj =>
      obtain ⟨led, rfl, rfl⟩ := hr
      have hS : (s.heap.push { cls := .type "set", dict := none, data := .set #[] 0 (.fresh 0 0 led) }).get? s.heap.objs.size = some { cls := .type "set", dict := none, data := .set #[] 0 (.fresh 0 0 led) } := Heap.get?_push_size _ rfl
      have hT : Shared.TypeIs { s with heap := s.heap.push { cls := .type "set", dict := none, data := .set #[] 0 (.fresh 0 0 led) } } (.ref s.heap.objs.size) "set" := ⟨_, hS, rfl⟩
      have hli := PySem.F.called_set.init.lookup
      have hbi := PySem.F.called_set.init.bind (.ref s.heap.objs.size)
      repeat (any_goals (first | assumption | wp_step))

      refine codeAny_mono (codeAny_call_builtin (R := wants (fun r s₂ => r = .none ∧ (∀ b o, b < s.heap.objs.size → s.heap.get? b = some o → s₂.heap.get? b = some o) ∧ s₂.gens = s.gens ∧ s₂.drawn = s.drawn ∧ s₂.os = s.os ∧
          s₂.heap.SetOf (PySem.strKind prog w) s.heap.objs.size (fun k' => (dd vals).any (· == k')) (dd vals).length) E) PySem.F.called_set.init.plain PySem.F.entry_set_init (check_set_init_1 hT ?_)) fun r₂ s₂ hr₂ => ?_
      · exact hinit led _ (fun s' k g d o S => ⟨rfl, k, g, d, o, S⟩) fun _ _ => rfl
      · cases r₂ with
        | error e => exact hr₂
        | ok fl₂ =>
          cases fl₂ with
          | ret r =>
            obtain ⟨rfl, hk', g1, d1, o1, hS'⟩ := hr₂
            obtain ⟨h', g', d', tk', os'⟩ := s₂
            have eg : g' = s.gens := g1
            have ed : d' = s.drawn := d1
            have eo : os' = s.os := o1
            subst eg; subst ed; subst eo
            repeat (any_goals (first | assumption | wp_step))
            exact h _ _ hS' hk'
          | _ => exact hr₂.elim
    | _ => exact hr.elim
theorem call_set_text {x : Str} {u : Tok} {Q : Value → Shared → Prop} (hh : A.handled = none) (hb : x.cps.size + 1 < scanBound)
    (h : ∀ (h' : Heap) (tk : Nat), h'.SetOf (PySem.strKind prog w) s.heap.objs.size (fun k' => (dd (signs x)).any (· == k')) (dd (signs x)).length →
      (∀ b o, b < s.heap.objs.size → s.heap.get? b = some o → h'.get? b = some o) → Q (.ref s.heap.objs.size) { s with heap := h', toks := tk }) :
    wpAny (model prog w) A (call (.type "set") [.str x u]) Q E s := by
  refine call_set_gen hh (by rw [signs_len]; exact hb) (fun led R hR he => ?_) h
  have hsls := str_not_set
  have hslf := str_not_frozenset
  have hne : (Value.type "str" == Value.type "dict") = false := by decide
  have hS : (s.heap.push { cls := .type "set", dict := none, data := .set #[] 0 (.fresh 0 0 led) }).get? s.heap.objs.size = some { cls := .type "set", dict := none, data := .set #[] 0 (.fresh 0 0 led) } := Heap.get?_push_size _ rfl
  unfold Builtin.«set.__init__» noKeywords Builtin.Frozenset.updateFrom
  generalize hPI : pyIter = PI
  wp_walk
  subst hPI
  have hget : ∀ T : String, ((s.heap.push { cls := .type "set", dict := none, data := .set #[] 0 (.fresh 0 0 led) }).push { cls := .type T, data := .fields #[.str x u, .int 0 0] }).get? s.heap.objs.size
      = some { cls := .type "set", dict := none, data := .set #[] 0 (.fresh 0 0 led) } := fun T => Heap.get?_push_of_some _ hS
  have hsz1 : (s.heap.push { cls := .type "set", dict := none, data := .set #[] 0 (.fresh 0 0 led) }).objs.size = s.heap.objs.size + 1 := Heap.size_push _ _
  have hh3 : A.in1.in1.in1.handled = none := by simp [hh]
  have hSf : s.heap.objs.size ∉ [(s.heap.push { cls := .type "set", dict := none, data := .set #[] 0 (.fresh 0 0 led) }).objs.size] := by
    rw [hsz1]; simp
  have hval : ∀ (i : Nat) (v : Value), SignAt x i v → ∃ k t, (signs x)[i]? = some k ∧ v = .str k t := fun i v ⟨c, u, h1, h2⟩ => ⟨_, u, signs_at h1, h2⟩
  have fin : ∀ (T : String) (s' : Shared), Moved [s.heap.objs.size, (s.heap.push { cls := .type "set", dict := none, data := .set #[] 0 (.fresh 0 0 led) }).objs.size] (fun a b => b = a) { s with heap := (s.heap.push { cls := .type "set", dict := none, data := .set #[] 0 (.fresh 0 0 led) }).push { cls := .type T, data := .fields #[.str x u, .int 0 0] } } s' →
      s'.heap.SetOf (PySem.strKind prog w) s.heap.objs.size (fun k' => (dd (signs x)).any (· == k')) (dd (signs x)).length →
      wpAny (model prog w) A.in1.in1 (pure ()) (fun a s' => wpAny (model prog w) A.in1.in1 ((fun _ => ret Value.none) a) (fun fin s' => match fin with
              | Fin.done f => R (Except.ok f) s'
              | Fin.again c' => c'.quiet = true ∧ codeAny (model prog w) A.in1 c' R s') (fun e s' => R (Except.error e) s') s') (fun e s' => R (Except.error e) s') s' := fun T s' hm hS' => by
    refine wpAny_pure ?_
    show wpAny _ _ (ret Value.none) _ _ _
    refine wpAny_pure (hR s' (fun b o hb e => ?_) hm.gens hm.drawn hm.os hS')
    have hb1 : b ≠ s.heap.objs.size := Nat.ne_of_lt hb
    have hb2 : b ≠ (s.heap.push { cls := .type "set", dict := none, data := .set #[] 0 (.fresh 0 0 led) }).objs.size := by rw [hsz1]; exact Nat.ne_of_lt (Nat.lt_succ_of_lt hb)
    exact hm.heap b o (by simp only [List.mem_cons, List.not_mem_nil, or_false, not_or]; exact ⟨hb1, hb2⟩) (Heap.get?_push_of_some _ (Heap.get?_push_of_some _ e))
  have hS0 : ∀ T : String, ((s.heap.push { cls := .type "set", dict := none, data := .set #[] 0 (.fresh 0 0 led) }).push { cls := .type T, data := .fields #[.str x u, .int 0 0] }).SetOf (PySem.strKind prog w) s.heap.objs.size (fun k' => (dd ((signs x).take 0)).any (· == k')) (dd ((signs x).take 0)).length := fun T =>
    PyProof.Rows.SetOf_congr ((PyProof.Rows.setObjOf_fresh (knd := PySem.strKind prog w) led).setOf (hget T) (by unfold scanBound; omega)) (fun _ => rfl) rfl
  refine wpAny_pyIter_strU ?_
  refine wpAny_bind (wpAny_runValue ?_)
  cases ha : x.cps.all (· < 128)
  · have e : strIterType x = "str_iterator" := by simp [strIterType, ha]
    rw [e]
    exact set_loop ((Walks.strWide hh3 _ x u).toS) s.heap.objs.size hSf (signs x) hval (signs_len x) hb (x.cps.size - 0) 0 _ (by omega) (Nat.zero_le _) ⟨_, Heap.get?_push_size _ rfl, rfl, rfl⟩ (hS0 _) (fun s' hm hS' => fin "str_iterator" s' hm hS')
  · have e : strIterType x = "str_ascii_iterator" := by simp [strIterType, ha]
    rw [e]
    exact set_loop ((Walks.strAscii hh3 _ x u).toS) s.heap.objs.size hSf (signs x) hval (signs_len x) hb (x.cps.size - 0) 0 _ (by omega) (Nat.zero_le _) ⟨_, Heap.get?_push_size _ rfl, rfl, rfl⟩ (hS0 _) (fun s' hm hS' => fin "str_ascii_iterator" s' hm hS')
theorem strs_at2 : ∀ {us : List Value} {xs : List Str}, L2.Vals (xs.map L2.V.str) us → ∀ (i : Nat) (v : Value), us[i]? = some v → ∃ k t, xs[i]? = some k ∧ v = .str k t := fun {us xs} r i v hv => by
  have hl := r.length
  have hi : i < us.length := (List.getElem?_eq_some_iff.mp hv).1
  have hx : i < xs.length := by rw [List.length_map] at hl; omega
  obtain ⟨u, hu, t, e⟩ := r.get (i := i) (x := L2.V.str xs[i]) (by rw [List.getElem?_map, List.getElem?_eq_getElem hx] <;> rfl)
  rw [hv] at hu
  cases hu
  exact ⟨xs[i], t, List.getElem?_eq_getElem hx, e⟩
theorem call_set_listT {l : Addr} {items : Array Value} {xs : List Str} {Q : Value → Shared → Prop} (hh : A.handled = none) (hl : s.heap.IsList l items) (hi : L2.Vals (xs.map L2.V.str) items.toList) (hb : xs.length + 1 < scanBound)
    (h : ∀ (h' : Heap) (tk : Nat), h'.SetOf (PySem.strKind prog w) s.heap.objs.size (fun k' => (dd xs).any (· == k')) (dd xs).length →
      (∀ b o, b < s.heap.objs.size → s.heap.get? b = some o → h'.get? b = some o) → Q (.ref s.heap.objs.size) { s with heap := h', toks := tk }) :
    wpAny (model prog w) A (call (.type "set") [.ref l]) Q E s := by
  refine call_set_gen hh hb (fun led R hR he => ?_) h
  obtain ⟨ol, hol, hcl, nl, hdl⟩ := hl
  obtain ⟨ocls, odict, odata, oslots⟩ := ol
  simp only at hcl hdl
  subst hcl; subst hdl
  have hol' : (s.heap.push { cls := .type "set", dict := none, data := .set #[] 0 (.fresh 0 0 led) }).get? l = some { cls := .type "list", dict := odict, data := .seq items nl, slots := oslots } := Heap.get?_push_of_some _ hol
  have hsls := PySem.F.sub_list_set
  have hslf := PySem.F.sub_list_frozenset
  have hne : (Value.type "list" == Value.type "dict") = false := by decide
  have hl1 : (s.heap.push { cls := .type "set", dict := none, data := .set #[] 0 (.fresh 0 0 led) }).IsList l items := ⟨_, hol', rfl, nl, rfl⟩
  have hS : (s.heap.push { cls := .type "set", dict := none, data := .set #[] 0 (.fresh 0 0 led) }).get? s.heap.objs.size = some { cls := .type "set", dict := none, data := .set #[] 0 (.fresh 0 0 led) } := Heap.get?_push_size _ rfl
  unfold Builtin.«set.__init__» noKeywords Builtin.Frozenset.updateFrom
  generalize hPI : pyIter = PI
  wp_walk
  subst hPI
  refine wpAny_pyIter_list hl1 ?_
  refine wpAny_bind (wpAny_runValue ?_)
  have hlS : l < s.heap.objs.size := Heap.lt_size hol
  have hh3 : A.in1.in1.in1.handled = none := by simp [hh]
  have hsz1 : (s.heap.push { cls := .type "set", dict := none, data := .set #[] 0 (.fresh 0 0 led) }).objs.size = s.heap.objs.size + 1 := Heap.size_push _ _
  have hneI : l ≠ (s.heap.push { cls := .type "set", dict := none, data := .set #[] 0 (.fresh 0 0 led) }).objs.size := by
    rw [hsz1]; exact Nat.ne_of_lt (Nat.lt_succ_of_lt hlS)
  have hSf : s.heap.objs.size ∉ [(s.heap.push { cls := .type "set", dict := none, data := .set #[] 0 (.fresh 0 0 led) }).objs.size, l] := by
    rw [hsz1]; simp only [List.mem_cons, List.not_mem_nil, or_false, not_or]
    exact ⟨Nat.ne_of_lt (Nat.lt_succ_self _), Nat.ne_of_gt hlS⟩
  have hsz : xs.length = items.size := by have := hi.length; rw [List.length_map] at this; simpa using this
  have hget : ((s.heap.push { cls := .type "set", dict := none, data := .set #[] 0 (.fresh 0 0 led) }).push { cls := .type "list_iterator", data := .fields #[.ref l, .int 0 0] }).get? s.heap.objs.size
      = some { cls := .type "set", dict := none, data := .set #[] 0 (.fresh 0 0 led) } := Heap.get?_push_of_some _ hS
  refine set_loop ((Walks.list hh3 _ l hneI items).toS) s.heap.objs.size hSf xs (fun i v hv => strs_at2 hi i v (by rw [Array.getElem?_toList]; exact hv)) hsz (by rw [← hsz]; exact hb) (items.size - 0) 0 _ (by omega) (Nat.zero_le _)
    ⟨⟨_, Heap.get?_push_size _ rfl, rfl, rfl⟩, (hl1.push _)⟩ ?hS0 ?hR
  case hS0 => exact PyProof.Rows.SetOf_congr ((PyProof.Rows.setObjOf_fresh (knd := PySem.strKind prog w) led).setOf hget (by unfold scanBound; omega)) (fun _ => rfl) rfl
  case hR =>
    intro s' hm hS'
    refine wpAny_pure ?_
    show wpAny _ _ (ret Value.none) _ _ _
    refine wpAny_pure (hR s' (fun b o hb e => ?_) hm.gens hm.drawn hm.os hS')
    have hb1 : b ≠ s.heap.objs.size := Nat.ne_of_lt hb
    have hb2 : b ≠ (s.heap.push { cls := .type "set", dict := none, data := .set #[] 0 (.fresh 0 0 led) }).objs.size := by rw [hsz1]; exact Nat.ne_of_lt (Nat.lt_succ_of_lt hb)
    exact hm.heap b o (by simp only [List.mem_cons, List.not_mem_nil, or_false, not_or]; exact ⟨hb1, hb2⟩) (Heap.get?_push_of_some _ (Heap.get?_push_of_some _ e))
end
section
open L2
variable {X : Cx}
/-- len(set(e)), e a text, or a list of texts -/
def tLenSetT (K : PySem.W.Frag) (ta : TE) : TE := fun σ H Q => ta σ H fun x H1 => (∃ z, x = .str z ∧ z.cps.size ≤ 4000 ∧ Q (.int (dd (signs z)).length) H1) ∨
  (∃ (l : Addr) (xs : List Str), x = .ref l ∧ SqL K H1 l (xs.map V.str) ∧ xs.length ≤ 4000 ∧ Q (.int (dd xs).length) H1)
theorem pe_lenSetT {a : Expr} {ta : TE} {p p2 q pos : Pos} (hc : X.calm = true) (hg : Gl X "len") (hm : X.mg "len" = none) (hg2 : Gl X "set") (hm2 : X.mg "set" = none) (ha : PE X a ta)
    (na : starEach [a] X.env = (false, eval a X.env) :: starEach [] X.env := by rfl) : PE X (.Call (.Name "len" p) [.Call (.Name "set" p2) [a] [] q] [] pos) (tLenSetT X.K ta) := by
  refine ⟨fun pins s σ H Q I h => ?_⟩
  refine Call_ (ld_blt I hg hm boot_len ?_)
  refine PyProof.Rows.callWith_builtin1 (PyProof.Rows.args_cons ?_ rfl) rfl rfl
  refine Call_ (ld_blt I hg2 hm2 boot_set ?_)
  refine PyProof.Rows.callWith_type1 (PyProof.Rows.args_cons (thn (ha.run pins s σ H _ I h) fun v s1 ⟨x, H1, I1, r1, q1⟩ => PyProof.Rows.args_nil ?_) na) na rfl
  have fin : ∀ (vals : List Str), vals.length ≤ 4000 → Q (.int (dd vals).length) H1 → ∀ (h' : Heap) (tk : Nat), h'.SetOf (PySem.strKind X.prog X.w) s1.heap.objs.size (fun k' => (dd vals).any (· == k')) (dd vals).length →
      (∀ b o, b < s1.heap.objs.size → s1.heap.get? b = some o → h'.get? b = some o) →
      wpAny (model X.prog X.w) X.A (spliced (backTo pos (starEach [] X.env))) (fun vs s₂ => wpAny (model X.prog X.w) X.A (call (.builtin "len") (Value.ref s1.heap.objs.size :: vs)) (EP X pins σ Q) X.xe s₂) X.xe { s1 with heap := h', toks := tk } := fun vals hv q h' tk hS hk => by
    refine PyProof.Rows.args_nil ?_
    have hl := dd_len_le vals
    obtain ⟨o, es, ep, t, ho, hex, hd, _, _, _, hf, hn⟩ := hS
    have I2 : Inv X pins σ H1 { s1 with heap := h', toks := tk } := I1.kept fun b o e => hk b o (Heap.lt_size e) e
    refine call_len_set ho hex hd hf (by rw [hn] <;> omega) ⟨.int (dd vals).length, H1, I2.tok _, ⟨_, by rw [hn]⟩, q⟩
  rcases q1 with ⟨z, rfl, hz, q1⟩ | ⟨l, xs, rfl, hq, hz, q1⟩
  · obtain ⟨t, rfl⟩ := r1
    exact call_set_text (I1.ok.hd hc) (by unfold scanBound; omega) fun h' tk hS hk => fin _ (by rw [signs_len]; exact hz) q1 h' tk hS hk
  · cases r1
    obtain ⟨its, r, pl, _⟩ := I1.list hq
    exact call_set_listT (I1.ok.hd hc) pl.isList (by simpa using r) (by unfold scanBound; omega) fun h' tk hS hk => fin _ hz q1 h' tk hS hk
end
end LB

namespace LB
open PySem L2 PyProof.Rows
section
variable {X : Cx}
/-- list(x), x a text -/
theorem call_list_text (hc : X.calm = true) : CallR X (.type "list") (fun xs H Q => ∃ z : Str, xs = [.str z] ∧ z.cps.size ≤ sizeLine ∧ ∀ p, H p = none → Q (.ref p) (upd H p (.lst ((signs z).map V.str)))) := by
  intro pins s σ H xs us Q I rx hq
  obtain ⟨z, rfl, hz, q⟩ := hq
  obtain ⟨u, rfl, t, rfl⟩ := vals1 rx
  refine call_list_str (I.ok.hd hc) z t (fun h' tk acc' c' hk hS hacc => ?_) hz
  obtain ⟨hsz, hat⟩ := hacc
  have gen : ∀ (cs : List Nat) (us : List Value), cs.length = us.length → (∀ (i : Nat) (c : Nat) (u : Value), cs[i]? = some c → us[i]? = some u → ∃ t, u = Value.str ⟨#[c]⟩ t) → Vals ((cs.map fun c => (⟨#[c]⟩ : Str)).map V.str) us := by
    intro cs
    induction cs with
    | nil => intro us hl _; cases us with
      | nil => exact .nil
      | cons _ _ => simp at hl
    | cons c r ih => intro us hl h; cases us with
      | nil => simp at hl
      | cons u us =>
        refine .cons ?_ (ih us (by simpa using hl) fun i c' u' h1 h2 => h (i + 1) c' u' (by simpa using h1) (by simpa using h2))
        obtain ⟨t, e⟩ := h 0 c u rfl rfl
        exact ⟨t, e⟩
  have rv : Vals ((signs z).map V.str) acc'.toList := gen z.cps.toList acc'.toList (by simp [hsz]) fun i c u h1 h2 => by
    obtain ⟨c', u', h3, h4⟩ := hat i u (by rw [← Array.getElem?_toList]; exact h2)
    rw [← Array.getElem?_toList, h1] at h3
    cases h3
    exact ⟨u', h4⟩
  have new : ObjOk X.prog X.w (upd H s.heap.objs.size (.lst ((signs z).map V.str))) h' s.heap.objs.size (.lst ((signs z).map V.str)) :=
    ⟨by rw [List.length_map, signs_len]; exact hz, acc'.toList, c', rv, by rw [hS]⟩
  exact ⟨.ref s.heap.objs.size, _, I.laid (t' := tk) hk (Nat.le_refl _) new, rfl, q _ (I.hok.fresh (Nat.le_refl _))⟩
/-! ### enumerate(text) -/
/-- the i-th sign of x, in a new pair -/
def IteS (x : Str) : It :=
  ⟨fun i _ => i < x.cps.size, fun i H v H' => ∃ T c, v = .ref T ∧ H T = none ∧ x.cps[i]? = some c ∧ H' = upd H T (.tup [.int (i : Nat), .str ⟨#[c]⟩]), fun i _ => x.cps.size ≤ i⟩
theorem draws_of {prog : Program} {w : World} {A : Around} (hh : A.handled = none) (it : Addr) (x : Str) (t : Tok) {ty : String} (hty : ty = "str_ascii_iterator" ∨ ty = "str_iterator") :
    Draws prog w A it [it] x.cps.size (SignAt x) (fun i h => h.IsStrIter it ty x t i) := by
  rcases hty with e | e
  · rw [e]; exact Draws.strAscii hh it x t
  · rw [e]; exact Draws.strWide hh it x t
theorem turn_enumS {P : Program} {w : World} {K : PySem.W.Frag} {elts : List Expr} {kk : Nat} {tpos : Pos} (x : Str) (t : Tok) (e it : Addr) {ty : String} (hty : ty = "str_ascii_iterator" ∨ ty = "str_iterator") :
    Turn P w K (.Tuple elts kk tpos) (IteS x) [e, it] e (fun i h => (∃ old, IsEnum h e it ((i : Nat) : Int) old) ∧ (i ≤ x.cps.size ∧ h.IsStrIter it ty x t i) ∧ e ≠ it) where
  mem := by simp
  obj := fun i h st b hb => by
    obtain ⟨⟨old, he⟩, ⟨_, o, ho, hc, hd⟩, _⟩ := st
    have e' : b = e ∨ b = it := by simpa using hb
    rcases e' with z | z
    · rw [z]; exact ⟨_, he, fun v q => nomatch q⟩
    · rw [z]; exact ⟨o, ho, fun v q => by rw [hd] at q; cases q⟩
  keep := fun i h h' st k => let ⟨⟨old, he⟩, ⟨hle, o, ho, r⟩, hne⟩ := st; ⟨⟨old, k e (by simp) _ he⟩, ⟨hle, o, k it (by simp) o ho, r⟩, hne⟩
  item := by
    intro X hP hw hK hc i pins s σ H E I hf st hg
    subst hP hw hK
    obtain ⟨⟨old, he⟩, ⟨_, hit⟩, hne⟩ := st
    have hlt : i < x.cps.size := hg
    have hel : e < s.heap.objs.size := Heap.lt_size he
    have hil : it < s.heap.objs.size := by obtain ⟨_, q, _⟩ := hit; exact Heap.lt_size q
    refine wpAny_pyNext_enum_itemD (draws_of (by simpa using I.ok.hd hc) it x t hty) he hit hlt hne (by simpa using hne) fun y h' tk hy ho hit' hT hsz hk => ?_
    obtain ⟨c, u, hcx, rfl⟩ := hy
    refine ⟨_, rfl, wpAny_letOwnedTupleGo_enum (s := { s with heap := h', toks := tk + 1 }) ho fun h'' he' sb => ?_⟩
    have hT2 : h''.get? s.heap.objs.size = some { cls := .type "tuple", data := .seq #[.int i tk, .str ⟨#[c]⟩ u] } := (sb.2 _ (Nat.ne_of_gt hel)).trans hT
    have new : ObjOk X.prog X.w (upd H s.heap.objs.size (.tup [.int (i : Nat), .str ⟨#[c]⟩])) h'' s.heap.objs.size (.tup [.int (i : Nat), .str ⟨#[c]⟩]) :=
      ⟨by show 2 ≤ sizeLine; decide, [.int i tk, .str ⟨#[c]⟩ u], .cons ⟨_, rfl⟩ (.cons ⟨_, rfl⟩ .nil), ⟨_, hT2, rfl, _, rfl⟩⟩
    have I1 : Inv X pins σ (upd H s.heap.objs.size (.tup [.int (i : Nat), .str ⟨#[c]⟩])) { s with heap := h'', toks := tk + 1 } :=
      I.turnedNew (ch := [e, it]) (fun b ob hb q => (sb.2 b (fun z => hb (by simp [z]))).trans (hk b ob (fun z => hb (by simp [z])) (fun z => hb (by simp [z])) q)) hf (Nat.le_refl _) new
    obtain ⟨oi, hoi, ri⟩ := hit'
    refine ⟨.ref s.heap.objs.size, _, I1, rfl, ⟨_, c, rfl, I.hok.fresh (Nat.le_refl _), hcx, rfl⟩, ⟨⟨Value.str ⟨#[c]⟩ u, ?_⟩, ⟨hlt, oi, (sb.2 it (Ne.symm hne)).trans hoi, ri⟩, hne⟩, fun b hb => ?_⟩
    · have e1 : ((i + 1 : Nat) : Int) = (i : Int) + 1 := by omega
      rw [e1]; exact he'
    · have hb' : b < s.heap.objs.size := by
        have e' : b = e ∨ b = it := by simpa using hb
        rcases e' with z | z
        · rw [z]; exact hel
        · rw [z]; exact hil
      rw [upd_ne (Nat.ne_of_lt hb')]
      exact (hf b hb).1
  done := by
    intro X hP hw hK hc i pins s σ H E I hf st hg
    subst hP hw hK
    obtain ⟨⟨old, he⟩, ⟨hle, hit⟩, hne⟩ := st
    have e1 : i = x.cps.size := Nat.le_antisymm hle hg
    subst e1
    obtain ⟨f0, f1, f2, f3, f4, f5⟩ := hf it (by simp)
    exact wpAny_pyNext_enum_endD (draws_of (by simpa using I.ok.hd hc) it x t hty) he hit fun h' eb => ⟨rfl, I.turned (t' := s.toks) (fun b o hb q => eb b o hb q) f0 f1 f3 f4 f5⟩
  self := fun A i s Q E st h => let ⟨⟨_, he⟩, _⟩ := st; wpAny_pyIter_enum he h
def iEnumS (ta : TA) : TI := fun σ H R => ta σ H fun vs H1 => ∃ x, vs = [.str x] ∧ R (IteS x) H1
theorem pi_enumS {X : Cx} {e : Expr} {ta : TA} {p pos tpos : Pos} {elts : List Expr} {kk : Nat} (hg : Gl X "enumerate") (hm : X.mg "enumerate" = none) (ha : PA X [e] ta) (hs : starEach [e] X.env = [(false, eval e X.env)] := by rfl) :
    PI X (.Tuple elts kk tpos) (.Call (.Name "enumerate" p) [e] [] pos) (iEnumS ta) := by
  refine ⟨fun pins s σ H R I h => ?_⟩
  refine Call_ (ld_blt I hg hm boot_enumerate (PyProof.Rows.callWith_type1 (thn (ha.run pos pins s σ H _ I h) fun us s1 ⟨vs, H1, I1, r1, q1⟩ => ?_) hs rfl))
  obtain ⟨x, ex, q⟩ := q1
  subst ex
  cases r1 with
  | cons r rr =>
    cases rr
    obtain ⟨t, rfl⟩ := r
    refine call_enumerate_str fun h' he hit hsz hk => wpAny_pyIter_enum he ?_
    have I2 : Inv X pins σ H1 { s1 with heap := h' } := I1.kept (t' := s1.toks) hk
    have hty : strIterType x = "str_ascii_iterator" ∨ strIterType x = "str_iterator" := by
      unfold strIterType
      split
      · exact .inl rfl
      · exact .inr rfl
    refine ⟨s1.heap.objs.size + 1, [s1.heap.objs.size + 1, s1.heap.objs.size], _, _, H1, rfl, I2, turn_enumS x t (s1.heap.objs.size + 1) s1.heap.objs.size hty, ⟨⟨.none, he⟩, ⟨Nat.zero_le _, hit⟩, Nat.succ_ne_self _⟩, fun b hb => ?_, q⟩
    have e' : b = s1.heap.objs.size + 1 ∨ b = s1.heap.objs.size := by simpa using hb
    have hle : s1.heap.objs.size ≤ b := by
      rcases e' with z | z
      · rw [z]; exact Nat.le_add_right _ _
      · rw [z]; exact Nat.le_refl _
    exact I1.fpOk hle (I1.hok.fresh hle)
/-- the reading of a comprehension over enumerate(text) -/
theorem lc_enumS {x : Str} {g : TG} {tt : TT} {te : TE} {vs : List Nat} {σ : L2.St} {H1 : Hp} {D : Addr} {Qd : Hp → Prop} (Pv : Nat → Hp → Prop) (h0 : Pv 0 (upd H1 D (.lst [])))
    (hs : ∀ i c T H, x.cps[i]? = some c → Pv i H → H T = none → g (.ref T) (wipe σ vs) (upd H T (.tup [.int (i : Nat), .str ⟨#[c]⟩])) fun σ2 H2 => wipe σ2 vs = wipe σ vs ∧ tt σ2 H2 fun b H3 =>
      if b = true then te σ2 H3 fun y H4 => ∃ acc, H4 D = some (.lst acc) ∧ acc.length < sizeLine ∧ Pv (i + 1) (upd H4 D (.lst (acc ++ [y]))) else Pv (i + 1) H3) (hd : ∀ H, Pv x.cps.size H → Qd H) :
    ∃ W : Nat → Nat → Hp → Prop, (∃ m, W 0 m (upd H1 D (.lst []))) ∧ ∀ i m H, W i m H →
      ((IteS x).stop i H ∧ Qd H) ∨ ((IteS x).go i H ∧ ∃ Nx : Hp → Prop, (∀ H', Nx H' → ∃ m', m' < m ∧ W (i + 1) m' H') ∧ ∀ y H', (IteS x).yld i H y H' → g y (wipe σ vs) H' fun σ2 H2 => wipe σ2 vs = wipe σ vs ∧ tt σ2 H2 fun b H3 =>
        if b = true then te σ2 H3 fun y H4 => ∃ acc, H4 D = some (.lst acc) ∧ acc.length < sizeLine ∧ Nx (upd H4 D (.lst (acc ++ [y]))) else Nx H3) := by
  refine ⟨fun i m H => m = x.cps.size - i ∧ i ≤ x.cps.size ∧ Pv i H, ⟨x.cps.size, by simp, Nat.zero_le _, h0⟩, ?_⟩
  rintro i m H ⟨rfl, hi, p⟩
  by_cases hlt : i < x.cps.size
  · refine .inr ⟨hlt, Pv (i + 1), fun H' p' => ⟨x.cps.size - (i + 1), by omega, rfl, hlt, p'⟩, fun y H' yl => ?_⟩
    obtain ⟨T, c, e, hT, hc, eH⟩ := yl
    subst e; subst eH
    exact hs i c T H hc p hT
  · have e : i = x.cps.size := by omega
    subst e
    exact .inl ⟨Nat.le_refl _, hd H p⟩
/-- the reading of a comprehension over a text's signs -/
theorem lc_str {x : Str} {g : TG} {tt : TT} {te : TE} {vs : List Nat} {σ : L2.St} {H1 : Hp} {D : Addr} {Qd : Hp → Prop} (Pv : Nat → Hp → Prop) (h0 : Pv 0 (upd H1 D (.lst [])))
    (hs : ∀ i c H, x.cps[i]? = some c → Pv i H → g (.str ⟨#[c]⟩) (wipe σ vs) H fun σ2 H2 => wipe σ2 vs = wipe σ vs ∧ tt σ2 H2 fun b H3 =>
      if b = true then te σ2 H3 fun y H4 => ∃ acc, H4 D = some (.lst acc) ∧ acc.length < sizeLine ∧ Pv (i + 1) (upd H4 D (.lst (acc ++ [y]))) else Pv (i + 1) H3) (hd : ∀ H, Pv x.cps.size H → Qd H) :
    ∃ W : Nat → Nat → Hp → Prop, (∃ m, W 0 m (upd H1 D (.lst []))) ∧ ∀ i m H, W i m H →
      ((Its x).stop i H ∧ Qd H) ∨ ((Its x).go i H ∧ ∃ Nx : Hp → Prop, (∀ H', Nx H' → ∃ m', m' < m ∧ W (i + 1) m' H') ∧ ∀ y H', (Its x).yld i H y H' → g y (wipe σ vs) H' fun σ2 H2 => wipe σ2 vs = wipe σ vs ∧ tt σ2 H2 fun b H3 =>
        if b = true then te σ2 H3 fun y H4 => ∃ acc, H4 D = some (.lst acc) ∧ acc.length < sizeLine ∧ Nx (upd H4 D (.lst (acc ++ [y]))) else Nx H3) := by
  refine ⟨fun i m H => m = x.cps.size - i ∧ i ≤ x.cps.size ∧ Pv i H, ⟨x.cps.size, by simp, Nat.zero_le _, h0⟩, ?_⟩
  rintro i m H ⟨rfl, hi, p⟩
  by_cases hlt : i < x.cps.size
  · refine .inr ⟨hlt, Pv (i + 1), fun H' p' => ⟨x.cps.size - (i + 1), by omega, rfl, hlt, p'⟩, fun y H' yl => ?_⟩
    obtain ⟨eH, c, hc, e⟩ := yl
    subst e; subst eH
    exact hs i c _ hc p
  · have e : i = x.cps.size := by omega
    subst e
    exact .inl ⟨Nat.le_refl _, hd H p⟩
end
end LB

namespace LB
open PySem L2 PyProof.Rows
/-! ### defs as they stand, defs that keep a promise -/
/-- the def stands in the module under its name, and binds as many arguments as it has parameters -/
def RawFn (K : PySem.W.Frag) (mg : Str → Option Value) (x : Str) (st : Stmt) (ps : List Str) : Prop :=
  ∃ (f : Addr) (fd : FuncData), Fun K x x st f fd ∧ mg x = some (.ref f) ∧ Binds K fd ps []
/-- .. in the class at C -/
def RawMe (K : PySem.W.Frag) (C : Addr) (x qual : Str) (st : Stmt) (ps : List Str) : Prop :=
  ∃ (f : Addr) (fd : FuncData), Fun K x qual st f fd ∧ Own K C f x ∧ Binds K fd ps []
/-- .. as a property of the class at C -/
def RawPr (K : PySem.W.Frag) (C : Addr) (x qual : Str) (st : Stmt) (ps : List Str) : Prop :=
  ∃ (p f : Addr) (fd : FuncData), Fun K x qual st f fd ∧ PropOf K C x p f ∧ Binds K fd ps []
section
variable (P : Program) (w : World) (K : PySem.W.Frag) (mg : Str → Option Value) (base : Heap) (CX : CXT) (k : Nat)
def HasFn (x : Str) (ps : List Str) (sp : Sp) : Prop :=
  ∃ (f : Addr) (fd : FuncData), FnOk P w K mg base CX k f fd ps sp ∧ mg x = some (.ref f) ∧ PySem.W.keepIn K (.ref f) = true ∧ Binds K fd ps []
def HasMe (C : Addr) (x : Str) (ps : List Str) (sp : Sp) : Prop :=
  ∃ (f : Addr) (fd : FuncData), FnOk P w K mg base CX k f fd ps sp ∧ Own K C f x ∧ PySem.W.keepIn K (.ref f) = true ∧ Binds K fd ps []
def HasPr (C : Addr) (x : Str) (ps : List Str) (sp : Sp) : Prop :=
  ∃ (p f : Addr) (fd : FuncData), FnOk P w K mg base CX k f fd ps sp ∧ PropOf K C x p f ∧ Binds K fd ps []
/-- a class whose __init__ keeps a promise -/
def HasMk (C : Addr) (x : Str) (ps : List Str) (sp : Sp) : Prop :=
  ∃ (f : Addr) (fd : FuncData), FnOk P w K mg base CX k f fd ps sp ∧ Mk K C f ∧ mg x = some (.ref C) ∧ Binds K fd ps []
end
section
variable {X : Cx} {CX : CXT} {k : Nat} {C : Addr} {ps : List Str} {sp : Sp} {E : XK} {x m : Str} {p pos apos : Pos} {e o : Expr} {es : List Expr} {ta : TE} {t : TA}
theorem pe_fn (h : HasFn X.prog X.w X.K X.mg X.base CX k x ps sp) (hr : Room k X.A) (hx : Passes CX X E) (ha : PA X (e :: es) t) (hg : Gl X x := by rfl) (hdb : (x == ("__debug__" : Str)) = false := by decide)
    (he : starEach (e :: es) X.env = (false, eval e X.env) :: starEach es X.env := by rfl) (hpl : (backTo pos (starEach es X.env)).any (·.1) = false := by rfl) : PE X (.Call (.Name x p) (e :: es) [] pos) (tCall sp [] E t) := by
  obtain ⟨f, fd, F, hm, hk, hb⟩ := h
  exact pe_call F hr hg hm hk hb .nil hx ha hdb he hpl
theorem pe_mk (h : HasMk X.prog X.w X.K X.mg X.base CX k C x ps sp) (hr : Room (k + 1) X.A) (hx : Passes CX X E) (ha : PA X (e :: es) t) (hg : Gl X x := by rfl) (hdb : (x == ("__debug__" : Str)) = false := by decide)
    (he : starEach (e :: es) X.env = (false, eval e X.env) :: starEach es X.env := by rfl) (hpl : (backTo pos (starEach es X.env)).any (·.1) = false := by rfl) : PE X (.Call (.Name x p) (e :: es) [] pos) (tMake C sp [] E t) := by
  obtain ⟨f, fd, F, M, hm, hb⟩ := h
  exact pe_make M F hr hg hm hb .nil hx ha hdb he hpl
theorem pe_me {pl : Sem Bool} (he : PE X o ta) (h : HasMe X.prog X.w X.K X.mg X.base CX k C m ps sp) (c : Cls X.K C) (hr : Room k X.A) (hx : Passes CX X E) (ha : PA X (e :: es) t)
    (hst : starEach (e :: es) X.env = (false, eval e X.env) :: starEach es X.env := by rfl) (hpl : (backTo pos (starEach es X.env)).any (·.1) = false := by rfl)
    (ht : eval (.Call (.Attribute o m apos) (e :: es) [] pos) X.env = (do
      let ov ← eval o X.env
      standAt apos.atName
      let (f, first) ← holding [ov] (getMethod ov m pl)
      callWith pos f first (backTo pos (starEach (e :: es) X.env)) (backToKw pos (keywordEach [] X.env))) := by rfl) : PE X (.Call (.Attribute o m apos) (e :: es) [] pos) (tMeth C m sp [] E ta t) := by
  obtain ⟨f, fd, F, O, hk, hb⟩ := h
  exact pe_meth he c ⟨O.at_, O.fn, hk⟩ F hr hb .nil hx ha hst hpl ht
theorem pe_pr (he : PE X o ta) (h : HasPr X.prog X.w X.K X.mg X.base CX k C m ps sp) (c : Cls X.K C) (hr : Room (k + 1) X.A) (hx : Passes CX X.nox E) (hab : attributeBase o m X.env (eval o X.env) = eval o X.env) : PE X (.Attribute o m pos) (tProp C sp [] E ta) := by
  obtain ⟨p, f, fd, F, hp, hb⟩ := h
  exact L2.pe_prop he c hp F hr hb .nil hx hab
end
/-- the built-in names that the module does not have -/
structure Blt (mg : Str → Option Value) : Prop where
  n_len : mg "len" = none
  n_list : mg "list" = none
  n_tuple : mg "tuple" = none
  n_int : mg "int" = none
  n_str : mg "str" = none
  n_bool : mg "bool" = none
  n_abs : mg "abs" = none
  n_sum : mg "sum" = none
  n_all : mg "all" = none
  n_set : mg "set" = none
  n_range : mg "range" = none
  n_enumerate : mg "enumerate" = none
  n_isinstance : mg "isinstance" = none
end LB

namespace LB
open PySem L2 PyProof.Rows
/-! ### the drawing of a law -/
/-- the pen at p: its script's list at q, the turn, what is left of a great number -/
structure PenAt (H : Hp) (p q : Addr) (ns : List Int) (i r : Int) : Prop where
  pen : H p = some (.lst [.ref q, .int i, .int r])
  lst : H q = some (.lst (ns.map V.int))
  i0 : 0 ≤ i
  ne : p ≠ q
/-- all but the pen is as it was -/
def But (p : Addr) (H H' : Hp) : Prop := ∀ b o, H b = some o → b ≠ p → H' b = some o
theorem But.refl {p : Addr} {H : Hp} : But p H H := fun _ _ h _ => h
theorem But.trans {p : Addr} {H H1 H2 : Hp} (a : But p H H1) (b : But p H1 H2) : But p H H2 := fun c o h n => b c o (a c o h n) n
theorem But.of_same {p : Addr} {H H' : Hp} (s : Same H H') : But p H H' := fun b o h _ => s b o h
theorem But.upd {p : Addr} {o : HO} {H : Hp} : But p H (upd H p o) := fun b u h n => by rw [upd_ne n]; exact h
theorem But.new {p a : Addr} {o : HO} {H : Hp} (n : H a = none) : But p H (L2.upd H a o) := fun b u h _ => by rw [upd_ne (ne_of_none h n)]; exact h
theorem But.free {p : Addr} {H H' : Hp} (e : But p H H') {l : Addr} (h : H' l = none) (hl : l ≠ p) : H l = none := by
  cases q : H l with
  | none => rfl
  | some o =>
    rw [e l o q hl] at h
    cases h
def spPen (K : PySem.W.Frag) : Sp := fun vs H Q _ => ∃ (a : Addr) (ns : List Int), vs = [.ref a] ∧ SqL K H a (ns.map V.int) ∧
  ∀ (p q : Addr) (ms : List Int) (H' : Hp), Same H H' → H p = none → PenAt H' p q ms 0 0 → Q (.ref p) H'
def spDraw : Sp := fun vs H Q _ => ∃ (p q : Addr) (ns : List Int) (i r n : Int), vs = [.ref p, .int n] ∧ PenAt H p q ns i r ∧ 0 < n ∧ n < 1000000 ∧ i < 1000000 ∧
  ∀ (d i' r' : Int) (H' : Hp), 0 ≤ d → d < n → i' ≤ i + 1 → PenAt H' p q ns i' r' → But p H H' → Q (.int d) H'
theorem cut_ints (ns : List Int) (a b : Option Int) : ∃ ms : List Int, cutV (ns.map V.int) a b = ms.map V.int :=
  ⟨(ns.drop (HT.sIx (ns.map V.int).length 0 a)).take (HT.sIx (ns.map V.int).length (ns.map V.int).length b - HT.sIx (ns.map V.int).length 0 a), by
    unfold cutV
    rw [List.map_take, List.map_drop]⟩
theorem mixA {x m c e i : Int} (hm : 0 < m) (hm2 : m < 4294967296) (hi : 0 ≤ i) (hi2 : i < 1000000) (hc : 0 ≤ c) (hc2 : c < 1000000) (he : 0 ≤ e) (he2 : e < 1000000) : (x % m + c * i + e).natAbs < 2 ^ 64 := by
  have h1 := Int.emod_nonneg x (Int.ne_of_gt hm)
  have h2 := Int.emod_lt_of_pos x hm
  have h3 : 0 ≤ c * i := Int.mul_nonneg hc hi
  have h4 : c * i ≤ 1000000 * i := Int.mul_le_mul_of_nonneg_right (by omega) hi
  omega
theorem mixB {x m a b c e i : Int} (hm : 0 < m) (hm2 : m < 4294967296) (hi : 0 ≤ i) (hi2 : i < 1000000) (ha : 0 ≤ a) (ha2 : a < 100) (hb : 0 ≤ b) (hb2 : b < 1000000) (hc : 0 ≤ c) (hc2 : c < 1000000) (he : 0 ≤ e) (he2 : e < 1000000) :
    (x % m * (a * i + b) + c * i * i + e).natAbs < 2 ^ 64 := by
  have h1 := Int.emod_nonneg x (Int.ne_of_gt hm)
  have h2 := Int.emod_lt_of_pos x hm
  generalize x % m = y at h1 h2 ⊢
  have h3 : 0 ≤ a * i := Int.mul_nonneg ha hi
  have h4 : a * i ≤ 100 * i := Int.mul_le_mul_of_nonneg_right (by omega) hi
  generalize a * i = z at h3 h4 ⊢
  have h5 : 0 ≤ y * (z + b) := Int.mul_nonneg h1 (by omega)
  have h6 : y * (z + b) ≤ 4294967296 * (z + b) := Int.mul_le_mul_of_nonneg_right (by omega) (by omega)
  have h7 : 0 ≤ c * i := Int.mul_nonneg hc hi
  have h8 : c * i ≤ 1000000 * i := Int.mul_le_mul_of_nonneg_right (by omega) hi
  generalize c * i = u at h7 h8 ⊢
  have h9 : 0 ≤ u * i := Int.mul_nonneg h7 hi
  have h10 : u * i ≤ u * 1000000 := Int.mul_le_mul_of_nonneg_left (by omega) h7
  omega
theorem mixC {c i : Int} (hi : 0 ≤ i) (hi2 : i < 1000000) (hc : 0 ≤ c) (hc2 : c < 1000000) : CMul (c * i) i := by
  have h7 : 0 ≤ c * i := Int.mul_nonneg hc hi
  have h8 : c * i ≤ 1000000 * i := Int.mul_le_mul_of_nonneg_right (by omega) hi
  exact .inl ⟨by omega, by omega⟩
theorem mixD {x m y : Int} (hm : 0 < m) (hm2 : m < 4294967296) : CMul (x % m) y := by
  have h1 := Int.emod_nonneg x (Int.ne_of_gt hm)
  have h2 := Int.emod_lt_of_pos x hm
  exact .inl ⟨by omega, by omega⟩
theorem PenAt.one {H : Hp} {p q : Addr} {ns : List Int} {i r i' r' : Int} (h : PenAt H p q ns i r) (h0 : 0 ≤ i') : PenAt (upd H p (.lst [.ref q, .int i', .int r'])) p q ns i' r' :=
  ⟨upd_same, by rw [upd_ne h.ne.symm]; exact h.lst, h0, h.ne⟩
theorem PenAt.same {H H' : Hp} {p q : Addr} {ns : List Int} {i r : Int} (h : PenAt H p q ns i r) (s : Same H H') : PenAt H' p q ns i r := ⟨s _ _ h.pen, s _ _ h.lst, h.i0, h.ne⟩
theorem same_new {H : Hp} {a : Addr} {o : HO} (n : H a = none) : Same H (upd H a o) := fun b u h => by rw [upd_ne (ne_of_none h n)]; exact h
theorem dp_ints {K : PySem.W.Frag} {H : Hp} {q : Addr} {ns : List Int} (h : SqL K H q (ns.map V.int)) : Dp K H (.ref q) (.list (ns.map PyData.int)) := by
  refine Dp.lst h ?_
  clear h
  induction ns with
  | nil => exact .nil
  | cons a r ih => exact .cons (.int a) ih
theorem shaped_ints (ns : List Int) : SeqAt.shaped (.list (ns.map PyData.int)) = true := by
  have h1 : ∀ ns : List Int, PyData.canLayAll0 (ns.map PyData.int) = true := fun ns => by
    induction ns with
    | nil => rfl
    | cons a r ih => exact ih
  have h2 : ∀ ns : List Int, PyData.depthAll (ns.map PyData.int) = 0 := fun ns => by
    induction ns with
    | nil => rfl
    | cons a r ih => show max 0 (PyData.depthAll (r.map PyData.int)) = 0; rw [ih]; rfl
  unfold SeqAt.shaped
  show (PyData.canLayAll0 (ns.map PyData.int) && decide (PyData.depthAll (ns.map PyData.int) + 1 ≤ 64)) = true
  rw [h1, h2]
  rfl
/-- an item at a rest -/
theorem at_rest {ns : List Int} {i : Int} (h : ns ≠ []) : ∃ d, atI (ns.map V.int) (i % ((ns.map V.int).length : Int)) = some (.int d) := by
  have hl : 0 < (ns.map V.int).length := by
    rw [List.length_map]
    exact List.length_pos_iff.mpr h
  have h1 := Int.emod_nonneg i (b := ((ns.map V.int).length : Int)) (by omega)
  have h2 := Int.emod_lt_of_pos i (b := ((ns.map V.int).length : Int)) (by omega)
  obtain ⟨j, ej⟩ : ∃ j : Nat, i % ((ns.map V.int).length : Int) = (j : Int) := ⟨(i % ((ns.map V.int).length : Int)).toNat, by omega⟩
  have hj : j < ns.length := by rw [List.length_map] at h2 ej; omega
  exact ⟨ns[j], at_of ej (by rw [List.getElem?_map, List.getElem?_eq_getElem hj]; rfl)⟩
end LB

namespace PySem.HandSPX
open PySem PySem.W
section
variable {prog : Program} {w : World} {A : Around} {E : Value → Shared → Prop} {R : Result → Shared → Prop} {h : Heap} {g : Array GenState} {d : Drawn} {t : Nat} {os : OsState}
variable {nm q : Str} {C N : Addr} {bs bm bmB : List Value} {hdct : Bool} {sn : List Str} {sub : List Value} {ab : Bool} {col : Option Bool} {dd : Option Addr} {k0 k1 k2 k3 k5 : Option Value} {B newId initId : String}
/-- an own class's new exception, whatever the names of what it is given -/
theorem lbx_check {M : Model} (F : ExcBaseFacts B newId initId bmB) (hT : ∀ X : String, bm.contains (.type X) = bmB.contains (.type X)) {rest : List Value} {kw : List (Str × Value)} {Q : Unit → Shared → Prop}
    (hC : h.get? C = some (excClassObj nm q C N bs bm hdct sn sub ab col dd k0 k1 k2 k3 k5 newId)) (hq : Q () ⟨h, g, d, t, os⟩) : wpAny M A (checkBuiltinCall newId ⟨.ref C :: rest, kw⟩) Q E ⟨h, g, d, t, os⟩ := by
  have hcont : (Value.ref C :: bm).contains (.type B) = true := by rw [List.contains_cons, hT, F.hasB, Bool.or_true]
  have hstar := F.noStar
  simp only [checkBuiltinCall, F.newKind, F.newSplit, F.newRow]
  repeat (first | refine wpAny_loadPart_at hC ?_ | (refine wpAny_isSubtype_exc hC ?_; rw [hcont]) | refine wpAny_staticBase_exc hC ?_ | refine wpAny_madeBy_exc hC ?_ | simp only [bne_self_eq_false, Bool.false_eq_true, if_false] | wp_step)
  exact hq
theorem lbx_new (F : ExcBaseFacts B newId initId bmB) (hT : ∀ X : String, bm.contains (.type X) = bmB.contains (.type X)) {rest : List Value} {kw : List (Str × Value)}
    (hC : h.get? C = some (excClassObj nm q C N bs bm hdct sn sub ab col dd k0 k1 k2 k3 k5 newId))
    (hq : R (.ok (.ret (.ref (h.objs.size + 1)))) ⟨(h.push (W.kdv_tup rest)).push (excO C h.objs.size), g, d, t, os⟩) (hrest : rest.length ≤ sizeLine) :
    codeAny (model prog w) A (.builtin newId ⟨.ref C :: rest, kw⟩) R ⟨h, g, d, t, os⟩ := by
  have hends := F.ends
  have hcB : (Value.ref C :: bm).contains (.type B) = true := by rw [List.contains_cons, hT, F.hasB, Bool.or_true]
  have hcA : (Value.ref C :: bm).contains (.type "AttributeError") = false := by rw [List.contains_cons, hT, F.noAttr]; rfl
  have hcN : (Value.ref C :: bm).contains (.type "NameError") = false := by rw [List.contains_cons, hT, F.noName]; rfl
  refine codeAny_builtinAt F.entry ?_
  unfold Builtin.«BaseException.__new__»
  refine wpAt_bind ?_
  show wpAt _ _ _ (stack >>= _) _ _ _
  refine wpAt_bind (wpAt_stack fun p below => wpAt_of_wpAny ?_)
  wp_walk
  refine wpAt_of_wpAny ?_
  rw [F.owner]
  repeat (first | with_reducible refine wpAny_madeHere_exc F.canon hC ?_ | with_reducible refine wpAny_loadPart_at hC ?_ | (with_reducible refine wpAny_isSubtype_exc hC ?_; first | rw [hcB] | rw [hcA] | rw [hcN]) | wp_step)
  show R _ _
  rw [Heap.size_push]
  exact hq
theorem lbx_type_call (F : ExcBaseFacts B newId initId bmB) (hT : ∀ X : String, bm.contains (.type X) = bmB.contains (.type X)) {rest : List Value} {kw : List (Str × Value)} {fI : Addr} {Q : Fin → Shared → Prop}
    (hC : h.get? C = some (excClassObj nm q C N bs bm hdct sn sub ab col dd k0 k1 k2 k3 k5 newId))
    (hi : W.Looks (model prog w) h (typeLookup (.ref C) "__init__") (some (.ref fI))) (hb : ∀ self, W.Looks (model prog w) h (bindSpecial (.ref fI) self) (.ref fI, [self])) (hrest : rest.length ≤ sizeLine)
    (hq : codeAny (model prog w) A (.call (.ref fI) ⟨.ref (h.objs.size + 1) :: rest, kw⟩)
      (fun r s' => match r with | .ok (.ret v) => v = .none ∧ Q (.done (.ret (.ref (h.objs.size + 1)))) s' | .ok _ => False | .error e => E e s')
      ⟨(h.push (W.kdv_tup rest)).push (excO C h.objs.size), g, d, t, os⟩) :
    wpAny (model prog w) A (Builtin.«type.__call__» ⟨.ref C :: rest, kw⟩) Q E ⟨h, g, d, t, os⟩ := by
  repeat (first | with_reducible refine wpAny_loadPart_at hC ?_ | with_reducible refine wpAny_madeBy_exc hC ?_ | wp_step)
  refine codeAny_call_builtin_code (Code.quiet_builtin _ F.quiet) (lbx_check F hT hC ?_)
  refine lbx_new F hT hC ?_ hrest
  show wpAny _ _ _ _ _ _
  have k : ∀ b o, h.get? b = some o → ((h.push (W.kdv_tup rest)).push (excO C h.objs.size)).get? b = some o := fun b o e => Heap.get?_push_of_some _ (Heap.get?_push_of_some _ e)
  have hC₁ := k _ _ hC
  have hget : ((h.push (W.kdv_tup rest)).push (excO C h.objs.size)).get? (h.objs.size + 1) = some (excO C h.objs.size) := by heap_get
  have hcC : (Value.ref C :: bm).contains (.ref C) = true := by simp
  have i1 := hi.keeps k
  have b1 := (hb (.ref (h.objs.size + 1))).keeps k
  unfold isInstance
  repeat (first | with_reducible refine wpAny_loadPart_at hget ?_ | (with_reducible refine wpAny_isSubtype_exc hC₁ ?_; rw [hcC]) | wp_step)
  show wpAny _ _ (typeLookup (.ref C) _) _ _ _
  refine i1.at ?_
  refine wpAny_holding (wpAny_bind (b1.at ?_))
  refine wpAny_bind (wpAny_call (codeAny_mono hq fun r s' z => ?_))
  rcases r with e | (v | _ | _ | _) <;> first | exact z | exact z.elim | skip
  obtain ⟨rfl, z⟩ := z
  first
    | exact wpAny_pure (wpAny_pure z)
    | (wp_walk; exact z)
theorem lbx_call (F : ExcBaseFacts B newId initId bmB) (hT : ∀ X : String, bm.contains (.type X) = bmB.contains (.type X)) {rest : List Value} {kw : List (Str × Value)} {fI : Addr}
    (hC : h.get? C = some (excClassObj nm q C N bs bm hdct sn sub ab col dd k0 k1 k2 k3 k5 newId))
    (hi : W.Looks (model prog w) h (typeLookup (.ref C) "__init__") (some (.ref fI))) (hb : ∀ self, W.Looks (model prog w) h (bindSpecial (.ref fI) self) (.ref fI, [self])) (hrest : rest.length ≤ sizeLine)
    (hq : codeAny (model prog w) (A.under (.builtin "type.__call__" ⟨.ref C :: rest, kw⟩)) (.call (.ref fI) ⟨.ref (h.objs.size + 1) :: rest, kw⟩) (W.InitBack (h.objs.size + 1) R)
      ⟨(h.push (W.kdv_tup rest)).push (excO C h.objs.size), g, d, t, os⟩) :
    codeAny (model prog w) A (.call (.ref C) ⟨rest, kw⟩) R ⟨h, g, d, t, os⟩ := by
  have f1 := tc_lookup
  have f2 := tc_bind (.ref C)
  have hTy : (⟨h, g, d, t, os⟩ : Shared).TypeIs (.ref C) "type" := ⟨_, hC, rfl⟩
  refine codeAny_of_tree ?_
  show wpAny _ _ (callAny (.ref C) _) _ _ _
  repeat (any_goals (first | assumption | with_reducible refine wpAny_loadPart_at hC ?_ | wp_step))
  refine ⟨rfl, ?_⟩
  refine codeAny_call_builtin_at (Code.quiet_builtin _ (by decide +kernel)) entry_typeCall (wpAny_check_type_call_sub hC (lbx_type_call F hT hC hi hb hrest ?_))
  refine codeAny_mono hq fun r s' z => ?_
  rcases r with e | (v | _ | _ | _) <;> exact z
end
end PySem.HandSPX

namespace PySem.W
open PySem Builtin
section
variable {prog : Program} {w : World} {A : Around} {E : Value → Shared → Prop} {s : Shared} {K : Frag} {x D : Addr} {ox : Obj} {od : Option Obj}
theorem lbx_class {Q : Option Value → Shared → Prop} (hga : findIn K (.ref D) "__getattribute__" = some (some (.builtin "BaseException.__getattribute__"))) (hgt : findIn K (.ref D) "__getattr__" = some none) (hsub : subIn K (.ref D) (.type "BaseException") = some true)
    (hdct : hasDictIn K D = true) (ha : findIn K (.ref D) "__class__" = some (some (.builtin "object.__class__")))
    (hn : specialIn K (.builtin "object.__class__") "__get__" = some (some (.builtin "getset_descriptor.__get__"))) (htk : takesIn K (.builtin "object.__class__") = some true) (hm : mroIn K D (.type "object") = some true)
    (X : K.In s.heap) (I : InstAt s.heap x ox D od) (h : Q (some (.ref D)) { s with toks := s.toks + 1 }) : wpAny (model prog w) A (getAttr? (.ref x) "__class__") Q E s := by
  have hf : findObj K D od "__class__" = some (.bind (.builtin "getset_descriptor.__get__") (.builtin "object.__class__")) := by
    have hc : (clsIn K D).isSome = true := by obtain ⟨cd, hc, _⟩ := any_some hdct; rw [hc]; rfl
    cases od with
    | none => exact findObj_dataN hc ha hn htk
    | some _ => exact findObj_data hc ha hn htk
  obtain ⟨hp, g, d, t, os⟩ := s
  have L0 := I.type (M := model prog w)
  have L1 := looks_findIn (M := model prog w) X hga
  have L2 := looks_findIn (M := model prog w) X hgt
  have L3 := looks_find (M := model prog w) X I hf
  have sub : Looks (model prog w) hp (isInstance (.ref x) (.type "BaseException")) true := L0.andThen (looks_subIn X hsub)
  have hx0 : (false && onTheHeap (Value.builtin "BaseException.__getattribute__")) = false := rfl
  have hx2 : (Value.builtin "BaseException.__getattribute__" == Value.builtin "object.__getattribute__") = false := by decide +kernel
  have hx1 : (onTheHeap (Value.ref D) && Value.builtin "BaseException.__getattribute__" == Value.builtin "object.__getattribute__") = false := by rw [hx2]; rfl
  unfold getAttr? getAttrBy? getAttrBy
  refine wpAny_bind (wpAny_mkText (wpAny_bind (wpAny_attempt (wpAny_holding (wpAny_bind (L0.at (wpAny_bind (L1.at ?_))))))))
  show wpAny _ _ (if (onTheHeap (Value.ref D) && Value.builtin "BaseException.__getattribute__" == Value.builtin "object.__getattribute__") = true then _ else _) _ _ _
  rw [hx1, if_neg Bool.false_ne_true]
  unfold getAttrByItsOwn hookBefore
  refine wpAny_bind ?_
  rw [if_pos (show onTheHeap (Value.ref D) = true from rfl)]
  refine L2.at ?_
  refine wpAny_bind (wpAny_attempt (wpAny_holding ?_))
  unfold callGetattribute
  rw [hx0, if_neg Bool.false_ne_true]
  unfold boundAndCalled
  rw [PySem.F.excAttr_ValueError.ga.bind (.ref x)]
  refine wpAny_bind (wpAny_pure ?_)
  show wpAny _ _ (call (.builtin "BaseException.__getattribute__") [.ref x, .str "__class__" t]) _ _ _
  refine wpAny_call (codeAny_call_builtin PySem.F.excAttr_ValueError.ga.plain PySem.F.entry_bexc_ga ?_)
  refine @check_slot (model prog w) _ _ ⟨hp, g, d, t + 1, os⟩ "BaseException.__getattribute__" "BaseException" "__getattribute__" (.ref x) [.str "__class__" t] [] _ (by decide +kernel) (by decide +kernel) sub (PySem.F.args_bexc_ga (.ref x) (.str "__class__" t)) ?_
  unfold Builtin.«object.__getattribute__»
  refine wpAny_bind (wpAny_of_eq (a := ((Value.ref x : Value), [Value.str "__class__" t])) (by first | rfl | (simp only [slotArgs]; rfl)) ?_)
  refine wpAny_bind (wpAny_pure (wpAny_bind (L0.at (wpAny_bind (L3.at ?_)))))
  show wpAny _ _ (holding [Value.builtin "object.__class__"] (call (.builtin "getset_descriptor.__get__") [.builtin "object.__class__", .ref x, .ref D]) >>= ret) _ _ _
  refine wpAny_bind (wpAny_holding (wpAny_call (class_get (s := ⟨hp, g, d, t + 1, os⟩) (ox := ox) (od := od) X I hm ?_)))
  refine wpAny_pure ?_
  show wpAny _ _ (handedOut (.ref D)) _ _ _
  rw [handedOut_of (v := .ref D) rfl]
  first
    | exact wpAny_pure (wpAny_pure h)
    | exact wpAny_pure h
    | exact wpAny_pure (wpAny_bind (wpAny_pure (wpAny_pure h)))
theorem lbx_kit (hga : findIn K (.ref D) "__getattribute__" = some (some (.builtin "BaseException.__getattribute__"))) (hgt : findIn K (.ref D) "__getattr__" = some none) (hsub : subIn K (.ref D) (.type "BaseException") = some true) (hdct : hasDictIn K D = true) (ha : findIn K (.ref D) "__class__" = some (some (.builtin "object.__class__")))
    (hn : specialIn K (.builtin "object.__class__") "__get__" = some (some (.builtin "getset_descriptor.__get__"))) (htk : takesIn K (.builtin "object.__class__") = some true) (hm : mroIn K D (.type "object") = some true) :
    KitX K (.ref x) (.ref D) (fun h => InstAt h x ox D od) where
  ty := fun _ _ _ I => I.type
  it := fun _ _ X _ => by
    obtain ⟨cdD, hcD, _⟩ := any_some hdct
    unfold clsIn at hcD
    split at hcD
    · rename_i c' d' cd' sl' ho
      intro A' Q' E' s' k q
      unfold isType loadHead
      exact wpAny_bind (wpAny_loadPart (k _ _ (X _ _ ho)) (wpAny_pure q))
    · cases hcD
  ne := fun h tp dd its n sl X htp => by
    obtain ⟨cdD, hcD, _⟩ := any_some hdct
    refine Bool.eq_false_iff.mpr fun q => ?_
    have e : D = tp := Value.ref.inj (beq_iff_eq.mp q)
    subst e
    unfold clsIn at hcD
    split at hcD
    · rename_i c' d' cd' sl' ho
      have z := (X _ _ ho).symm.trans htp
      cases z
    · cases hcD
  ca := fun X I k => lbx_class hga hgt hsub hdct ha hn htk hm X I k
end
end PySem.W

namespace PySem.HandSPX
open PySem PySem.W
section
variable {prog : Program} {w : World} {A : Around} {E : Value → Shared → Prop} {R : Result → Shared → Prop} {h : Heap} {g : Array GenState} {d : Drawn} {t : Nat} {os : OsState}
variable {nm q : Str} {C N : Addr} {bs bm bmB : List Value} {hdct : Bool} {sn : List Str} {sub : List Value} {ab : Bool} {col : Option Bool} {dd : Option Addr} {k0 k1 k2 k3 k5 : Option Value} {B newId initId : String}
/-- a class without an __init__ of its own, called with nothing -/
theorem lbx_type_call0 (F : ExcBaseFacts B newId initId bmB) (hT : ∀ X : String, bm.contains (.type X) = bmB.contains (.type X)) {Q : Fin → Shared → Prop}
    (hC : h.get? C = some (excClassObj nm q C N bs bm hdct sn sub ab col dd k0 k1 k2 k3 k5 newId))
    (hi : W.Looks (model prog w) h (typeLookup (.ref C) "__init__") (some (.builtin initId)))
    (hq : ∀ h' t1, (∀ b o, h.get? b = some o → h'.get? b = some o) → h'.get? (h.objs.size + 1) = some (excO C t1) → Q (.done (.ret (.ref (h.objs.size + 1)))) ⟨h', g, d, t, os⟩) :
    wpAny (model prog w) A (Builtin.«type.__call__» ⟨[.ref C], []⟩) Q E ⟨h, g, d, t, os⟩ := by
  repeat (first | with_reducible refine wpAny_loadPart_at hC ?_ | with_reducible refine wpAny_madeBy_exc hC ?_ | wp_step)
  refine codeAny_call_builtin_code (Code.quiet_builtin _ F.quiet) (lbx_check F hT hC ?_)
  refine lbx_new (rest := []) F hT hC ?_ (Nat.zero_le _)
  show wpAny _ _ _ _ _ _
  have k : ∀ b o, h.get? b = some o → ((h.push (W.kdv_tup [])).push (excO C h.objs.size)).get? b = some o := fun b o e => Heap.get?_push_of_some _ (Heap.get?_push_of_some _ e)
  have hC₁ := k _ _ hC
  have hget : ((h.push (W.kdv_tup [])).push (excO C h.objs.size)).get? (h.objs.size + 1) = some (excO C h.objs.size) := by heap_get
  have hcC : (Value.ref C :: bm).contains (.ref C) = true := by simp
  have i1 := hi.keeps k
  have b1 := F.init.bind (.ref (h.objs.size + 1))
  unfold isInstance
  repeat (first | with_reducible refine wpAny_loadPart_at hget ?_ | (with_reducible refine wpAny_isSubtype_exc hC₁ ?_; rw [hcC]) | wp_step)
  show wpAny _ _ (typeLookup (.ref C) _) _ _ _
  refine i1.at ?_
  refine wpAny_holding ?_
  simp only [b1]
  refine wpAny_bind (wpAny_pure ?_)
  have fin : codeAny (model prog w) A (.call (.builtin initId) ⟨[.ref (h.objs.size + 1)], []⟩) (fun r s' => match r with | .ok (.ret v) => v = .none ∧ Q (.done (.ret (.ref (h.objs.size + 1)))) s' | .ok _ => False | .error e => E e s')
      ⟨(h.push (W.kdv_tup [])).push (excO C h.objs.size), g, d, t, os⟩ :=
    init_base (rest := []) F hT hC₁ hget (Nat.zero_le _) fun h' t1 k2 he => ⟨rfl, hq h' t1 (fun b o e => k2 b o (Nat.ne_of_lt (Nat.lt_succ_of_lt (Heap.lt_size e))) (k b o e)) he⟩
  refine wpAny_bind (wpAny_call (codeAny_mono fin fun r s' z => ?_))
  rcases r with e | (v | _ | _ | _) <;> first | exact z | exact z.elim | skip
  obtain ⟨rfl, z⟩ := z
  first
    | exact wpAny_pure (wpAny_pure z)
    | (wp_walk; exact z)
theorem lbx_call0 (F : ExcBaseFacts B newId initId bmB) (hT : ∀ X : String, bm.contains (.type X) = bmB.contains (.type X))
    (hC : h.get? C = some (excClassObj nm q C N bs bm hdct sn sub ab col dd k0 k1 k2 k3 k5 newId))
    (hi : W.Looks (model prog w) h (typeLookup (.ref C) "__init__") (some (.builtin initId)))
    (hq : ∀ h' t1, (∀ b o, h.get? b = some o → h'.get? b = some o) → h'.get? (h.objs.size + 1) = some (excO C t1) → R (.ok (.ret (.ref (h.objs.size + 1)))) ⟨h', g, d, t, os⟩) :
    codeAny (model prog w) A (.call (.ref C) ⟨[], []⟩) R ⟨h, g, d, t, os⟩ := by
  have f1 := tc_lookup
  have f2 := tc_bind (.ref C)
  have hTy : (⟨h, g, d, t, os⟩ : Shared).TypeIs (.ref C) "type" := ⟨_, hC, rfl⟩
  refine codeAny_of_tree ?_
  show wpAny _ _ (callAny (.ref C) _) _ _ _
  repeat (any_goals (first | assumption | with_reducible refine wpAny_loadPart_at hC ?_ | wp_step))
  refine ⟨rfl, ?_⟩
  exact codeAny_call_builtin_at (Code.quiet_builtin _ (by decide +kernel)) entry_typeCall (wpAny_check_type_call_sub hC (lbx_type_call0 F hT hC hi hq))
end
end PySem.HandSPX
namespace LB
open PySem L2 PyProof.Rows
section
variable {X : Cx} {CX : CXT} {x : Str} {C fI : Addr} {k : Nat} {fd : FuncData} {ps ks : List Str} {sp : Sp} {e : Expr} {es : List Expr} {kws : List Keyword} {ta tk : TA} {p pos : Pos}
/-- an own class of errors whose __init__ is a def of the text that keeps sp -/
def HasEx (P : Program) (w : World) (K : PySem.W.Frag) (mg : Str → Option Value) (base : Heap) (CX : CXT) (k : Nat) (C : Addr) (x : Str) (ps : List Str) (sp : Sp) : Prop :=
  ∃ (f : Addr) (fd : FuncData), OexC K C ∧ PySem.W.findIn K (.ref C) "__init__" = some (some (.ref f)) ∧ PySem.W.typeIn K (.ref f) = some (.type "function") ∧ FnOk P w K mg base CX k f fd ps sp ∧ mg x = some (.ref C) ∧
    (∀ us : List Value, us.length = ps.length → bindArgs fd ⟨us, []⟩ = pure (ps.zip us)) ∧ Binds K fd ps []
/-- C(e, ..) as a value -/
def tExV (C : Addr) (sp : Sp) (ta : TA) : TE := fun σ H Q => ta σ H fun vs H1 => vs.length ≤ 1000 ∧ ∀ a, H1 a = none → sp (.ref a :: vs) (upd H1 a (exo a C none)) (fun v H2 => v = .non ∧ Q (.ref a) H2) E0
theorem pe_exv (h : HasEx X.prog X.w X.K X.mg X.base CX0 k C x ps sp) (hr : Room (k + 1) X.A) (ha : PA X (e :: es) ta) (hg : Gl X x := by rfl)
    (hdb : (x == ("__debug__" : Str)) = false := by decide) (he : starEach (e :: es) X.env = (false, eval e X.env) :: starEach es X.env := by rfl) (hpl : (backTo pos (starEach es X.env)).any (·.1) = false := by rfl) :
    PE X (.Call (.Name x p) (e :: es) [] pos) (tExV C sp ta) := by
  obtain ⟨f, fd, T, iC, tI, F1, hm, _, hb⟩ := h
  refine ⟨fun pins s σ H Q I h => ?_⟩
  obtain ⟨nm, q, N, bs, bm, sn, sub, ab, col, dd, k0, k1, k2, k3, k5, hC, hbm⟩ := T.cls
  refine wpAny_Call_Name_kw (ld_glob I hg hm ?_ hdb)
  refine PySem.W.callWith_K (h₀ := X.base) I.ok.mod.kin T.kC (thn (ha.run pos pins s σ H _ I h) fun us s1 ⟨vs, H1, I1, r1, hz, q1⟩ => ⟨I1.kIn, ?_⟩) he hpl
  obtain ⟨hp, g, dr, tk, os⟩ := s1
  have hsz : hp.objs.size ≤ hp.objs.size + 1 := Nat.le_succ _
  have hn : H1 (hp.objs.size + 1) = none := I1.hok.fresh hsz
  have hq := q1 (hp.objs.size + 1) hn
  have kk : ∀ b o, hp.get? b = some o → ((hp.push (PySem.W.kdv_tup us)).push (PySem.HandSPX.excO C hp.objs.size)).get? b = some o := fun b o e => Heap.get?_push_of_some _ (Heap.get?_push_of_some _ e)
  have hget : ((hp.push (PySem.W.kdv_tup us)).push (PySem.HandSPX.excO C hp.objs.size)).get? (hp.objs.size + 1) = some (PySem.HandSPX.excO C hp.objs.size) := by heap_get
  have I2 : Inv X pins σ (upd H1 (hp.objs.size + 1) (exo (hp.objs.size + 1) C none)) ⟨(hp.push (PySem.W.kdv_tup us)).push (PySem.HandSPX.excO C hp.objs.size), g, dr, tk, os⟩ := I1.laid (t' := tk) kk hsz (exo_ok hget)
  have r2 : Vals (V.ref (hp.objs.size + 1) :: vs) (Value.ref (hp.objs.size + 1) :: us) := .cons rfl r1
  have hl : (Value.ref (hp.objs.size + 1) :: us).length = ps.length := by
    rw [← r2.length]
    exact F1.len _ _ _ _ hq
  have hus : us.length ≤ sizeLine := by
    rw [← Paired.length r1, sizeLine_eq]
    omega
  have hb' := hb _ (Value.ref (hp.objs.size + 1) :: us) I2.kIn (by rw [List.append_nil]; exact hl)
  rw [List.append_nil] at hb'
  refine wpAny_call (PySem.HandSPX.lbx_call (kw := []) F.excBase_ValueError (fun Y => PySem.HandSPX.refsVE_contains Y bm hbm) (I1.kIn _ _ hC) (PySem.W.looks_findIn I1.kIn iC) (fun self => PySem.W.bind_fn I1.kIn self tI) hus
    (codeAny_mono (F1.run _ X.stack _ _ ⟨Value.ref (hp.objs.size + 1) :: us, []⟩ (Value.ref (hp.objs.size + 1) :: us) _ _ E0 (hr.make C us []) (I2.env0.make C us []) hb' r2 hq) fun r s' hq' => ?_))
  cases r with
  | error er => exact False.elim hq'
  | ok fl =>
    cases fl with
    | ret u =>
      obtain ⟨v, H', I', rv, ev, q2⟩ := I2.after hq'
      subst ev
      cases rv
      exact ⟨rfl, .ref (hp.objs.size + 1), H', I', rfl, q2⟩
    | next => exact False.elim hq'
    | brk => exact False.elim hq'
    | cont => exact False.elim hq'
/-- how the names that are given stand in the parameters' order -/
def swapIf {α : Type} (b : Bool) : List α → List α
  | [x, y] => if b then [y, x] else [x, y]
  | l => l
theorem swapIf_rel {b : Bool} {zs : List V} {ws : List Value} (r : Vals zs ws) : Vals (swapIf b zs) (swapIf b ws) := by
  cases r with
  | nil => exact .nil
  | cons r1 t =>
    cases t with
    | nil => exact .cons r1 .nil
    | cons r2 t2 =>
      cases t2 with
      | nil => cases b with
        | true => exact .cons r2 (.cons r1 .nil)
        | false => exact .cons r1 (.cons r2 .nil)
      | cons r3 t3 => exact .cons r1 (.cons r2 (.cons r3 t3))
/-- .. and its __init__ takes these names so -/
def HasExK (P : Program) (w : World) (K : PySem.W.Frag) (mg : Str → Option Value) (base : Heap) (CX : CXT) (k : Nat) (C : Addr) (x : Str) (ps ks : List Str) (b : Bool) (sp : Sp) : Prop :=
  ∃ (f : Addr) (fd : FuncData), OexC K C ∧ PySem.W.findIn K (.ref C) "__init__" = some (some (.ref f)) ∧ PySem.W.typeIn K (.ref f) = some (.type "function") ∧ FnOk P w K mg base CX k f fd ps sp ∧ mg x = some (.ref C) ∧
    (∀ (self : Value) (ws : List Value), ws.length = ks.length → bindArgs fd ⟨[self], ks.zip ws⟩ = pure (ps.zip (self :: swapIf b ws)))
def tExVK (C : Addr) (b : Bool) (n : Nat) (sp : Sp) (tk : TA) : TE := fun σ H Q => tk σ H fun zs H1 => zs.length = n ∧ ∀ a, H1 a = none → sp (.ref a :: swapIf b zs) (upd H1 a (exo a C none)) (fun v H2 => v = .non ∧ Q (.ref a) H2) E0
theorem pe_exvK {b : Bool} (h : HasExK X.prog X.w X.K X.mg X.base CX0 k C x ps ks b sp) (hr : Room (k + 1) X.A) (hkw : PK X kws tk) (hg : Gl X x := by rfl) (hall : (backToKw pos (keywordEach kws X.env)).all (·.1.isSome) = true := by rfl) (hks : (backToKw pos (keywordEach kws X.env)).filterMap (·.1) = ks := by rfl)
    (hdb : (x == ("__debug__" : Str)) = false := by decide) (hpl : ((backTo pos (starEach [] X.env)).any (·.1) || (backToKw pos (keywordEach kws X.env)).any (·.1.isNone)) = false := by rfl) :
    PE X (.Call (.Name x p) [] kws pos) (tExVK C b ks.length sp tk) := by
  obtain ⟨f, fd, T, iC, tI, F1, hm, hb⟩ := h
  refine ⟨fun pins s σ H Q I h => ?_⟩
  obtain ⟨nm, q, N, bs, bm, sn, sub, ab, col, dd, k0, k1, k2, k3, k5, hC, hbm⟩ := T.cls
  refine wpAny_Call_Name_kw (ld_glob I hg hm ?_ hdb)
  refine PySem.W.callWith_KW0 (h₀ := X.base) I.ok.mod.kin T.kC hall (thn (hkw.run pos pins s σ H _ I h) fun us s1 ⟨vs, H1, I1, r1, hz, q1⟩ => ⟨I1.kIn, ?_⟩) hpl
  rw [hks]
  obtain ⟨hp, g, dr, tk, os⟩ := s1
  have hsz : hp.objs.size ≤ hp.objs.size + 1 := Nat.le_succ _
  have hn : H1 (hp.objs.size + 1) = none := I1.hok.fresh hsz
  have hq := q1 (hp.objs.size + 1) hn
  have kk : ∀ b o, hp.get? b = some o → ((hp.push (PySem.W.kdv_tup [])).push (PySem.HandSPX.excO C hp.objs.size)).get? b = some o := fun b o e => Heap.get?_push_of_some _ (Heap.get?_push_of_some _ e)
  have hget : ((hp.push (PySem.W.kdv_tup [])).push (PySem.HandSPX.excO C hp.objs.size)).get? (hp.objs.size + 1) = some (PySem.HandSPX.excO C hp.objs.size) := by heap_get
  have I2 : Inv X pins σ (upd H1 (hp.objs.size + 1) (exo (hp.objs.size + 1) C none)) ⟨(hp.push (PySem.W.kdv_tup [])).push (PySem.HandSPX.excO C hp.objs.size), g, dr, tk, os⟩ := I1.laid (t' := tk) kk hsz (exo_ok hget)
  have r2 : Vals (V.ref (hp.objs.size + 1) :: swapIf b vs) (Value.ref (hp.objs.size + 1) :: swapIf b us) := .cons rfl (swapIf_rel r1)
  have hb' := hb (Value.ref (hp.objs.size + 1)) us (by rw [← Paired.length r1]; exact hz)
  refine wpAny_call (PySem.HandSPX.lbx_call (rest := []) (kw := ks.zip us) F.excBase_ValueError (fun Y => PySem.HandSPX.refsVE_contains Y bm hbm) (I1.kIn _ _ hC) (PySem.W.looks_findIn I1.kIn iC) (fun self => PySem.W.bind_fn I1.kIn self tI) (Nat.zero_le _)
    (codeAny_mono (F1.run _ X.stack _ _ ⟨[Value.ref (hp.objs.size + 1)], ks.zip us⟩ (Value.ref (hp.objs.size + 1) :: swapIf b us) _ _ E0 (hr.make C [] (ks.zip us)) (I2.env0.make C [] (ks.zip us)) (.of_eq hb') r2 hq) fun r s' hq' => ?_))
  cases r with
  | error er => exact False.elim hq'
  | ok fl =>
    cases fl with
    | ret u =>
      obtain ⟨v, H', I', rv, ev, q2⟩ := I2.after hq'
      subst ev
      cases rv
      exact ⟨rfl, .ref (hp.objs.size + 1), H', I', rfl, q2⟩
    | next => exact False.elim hq'
    | brk => exact False.elim hq'
    | cont => exact False.elim hq'
/-- a class of errors without an __init__ of its own, called with nothing -/
def HasEx0 (K : PySem.W.Frag) (mg : Str → Option Value) (C : Addr) (x : Str) : Prop :=
  OexC K C ∧ PySem.W.findIn K (.ref C) "__init__" = some (some (.builtin "ValueError.__init__")) ∧ mg x = some (.ref C)
def tExV0 (C : Addr) : TE := fun _ H Q => ∀ a, H a = none → Q (.ref a) (upd H a (exo a C none))
theorem pe_exv0 (h : HasEx0 X.K X.mg C x) (hg : Gl X x := by rfl) (hdb : (x == ("__debug__" : Str)) = false := by decide) : PE X (.Call (.Name x p) [] [] pos) (tExV0 C) := by
  obtain ⟨T, iC, hm⟩ := h
  refine ⟨fun pins s σ H Q I h => ?_⟩
  obtain ⟨nm, q, N, bs, bm, sn, sub, ab, col, dd, k0, k1, k2, k3, k5, hC, hbm⟩ := T.cls
  refine wpAny_Call_Name_kw (ld_glob I hg hm ?_ hdb)
  refine PySem.W.callWith_K0 I.kIn T.kC ?_
  show wpAny _ _ (call (.ref C) []) _ _ _
  obtain ⟨hp, g, dr, tk, os⟩ := s
  have hsz : hp.objs.size ≤ hp.objs.size + 1 := Nat.le_succ _
  refine wpAny_call (PySem.HandSPX.lbx_call0 F.excBase_ValueError (fun Y => PySem.HandSPX.refsVE_contains Y bm hbm) (I.kIn _ _ hC) (PySem.W.looks_findIn I.kIn iC) fun h' t1 k he => ?_)
  exact ⟨.ref (hp.objs.size + 1), _, I.laid (t' := tk) k hsz (exo_ok he), rfl, h _ (I.hok.fresh hsz)⟩
/-! ### isinstance of an error, its fields -/
/-- what is asked of a class of errors -/
structure ExK (K : PySem.W.Frag) (C : Addr) : Prop extends ExcC K C, OexC K C
theorem exo_inst {pins : List (Addr × Obj)} {σ : L2.St} {H : Hp} {s : Shared} {a : Addr} {d : Option Addr} (I : Inv X pins σ H s) (ha : H a = some (exo a C d)) (hd : ∀ dd, d = some dd → ∃ fs, H dd = some (exd dd fs)) :
    ∃ ox od, PySem.W.InstAt s.heap a ox C od := by
  obtain ⟨t1, he⟩ := exo_at I.hok ha
  cases d with
  | none => exact ⟨_, none, he, rfl, rfl, trivial⟩
  | some dd =>
    obtain ⟨fs, hf⟩ := hd dd rfl
    obtain ⟨mA, hns, _⟩ := exd_at I.hok hf
    obtain ⟨od, ho, _⟩ := lookIn_ns hns
    exact ⟨_, some od, he, rfl, rfl, ho⟩
def rIsO (K : PySem.W.Frag) (C : Addr) : List V → Hp → VK → Prop := fun xs H Q => ∃ (a : Addr) (d : Option Addr) (c : V) (cv : Value) (b : Bool), xs = [.ref a, c] ∧ H a = some (exo a C d) ∧ (∀ dd, d = some dd → ∃ fs, H dd = some (exd dd fs)) ∧
  ClsV c cv ∧ PySem.W.kitOne K (.ref C) cv = some b ∧ Q (.bl b) H
theorem call_isO : CallR X (.builtin "isinstance") (fun xs H Q => ∃ C, ExK X.K C ∧ rIsO X.K C xs H Q) := by
  intro pins s σ H xs us Q I r h
  obtain ⟨C, T, a, d, c, cv, b, rfl, ha, hd, hc, e, q⟩ := h
  obtain ⟨u1, u2, rfl, r1, r2⟩ := vals2 r
  cases r1
  have e2 := hc.eq r2
  subst e2
  obtain ⟨ox, od, J⟩ := exo_inst I ha hd
  exact PySem.W.kia_one (PySem.W.lbx_kit T.hg T.hk T.hs T.hd T.ha T.hn T.ht T.hm) I.kIn J e (fun z => nomatch z) fun tk => ⟨.bl b, H, I.tok tk, rfl, q⟩
theorem call_isOT : CallR X (.builtin "isinstance") (fun xs H Q => ∃ (C : Addr) (a : Addr) (d : Option Addr) (tp : Addr) (cs : List V) (ws : List Value) (b : Bool), ExK X.K C ∧ xs = [.ref a, .ref tp] ∧ H a = some (exo a C d) ∧ (∀ dd, d = some dd → ∃ fs, H dd = some (exd dd fs)) ∧
    H tp = some (.tup cs) ∧ Paired ClsV cs ws ∧ PySem.W.kitAny X.K (.ref C) ws = some b ∧ Q (.bl b) H) := by
  intro pins s σ H xs us Q I r h
  obtain ⟨C, a, d, tp, cs, ws, b, T, rfl, ha, hd, hT, k, e, q⟩ := h
  obtain ⟨u1, u2, rfl, r1, r2⟩ := vals2 r
  cases r1
  cases r2
  obtain ⟨ox, od, J⟩ := exo_inst I ha hd
  obtain ⟨_, its, rv, o, h1, h2, n, h3⟩ := (show ObjOk X.prog X.w H s.heap tp (.tup cs) from I.hok tp _ hT)
  have e3 := ClsV.all k rv
  subst e3
  obtain ⟨oc, od', dt, sl⟩ := o
  simp only at h2 h3
  subst h2 h3
  exact PySem.W.kia_tup (PySem.W.lbx_kit T.hg T.hk T.hs T.hd T.ha T.hn T.ht T.hm) I.kIn J h1 e (fun z => nomatch z) fun tk => ⟨.bl b, H, I.tok tk, rfl, q⟩
/-- e.n, e an error -/
def tExF (K : PySem.W.Frag) (n : Str) (te : TE) : TE := fun σ H Q => te σ H fun x H1 => ∃ (a C dd : Addr) (fs : List (Str × V)) (v : V), x = .ref a ∧ ExK K C ∧ PySem.W.findIn K (.ref C) n = some none ∧ H1 a = some (exo a C (some dd)) ∧ H1 dd = some (exd dd fs) ∧ fs.lookup n = some v ∧ Q v H1
theorem pe_exf {n : Str} {o : Expr} {te : TE} (he : PE X o te) (hb : attributeBase o n X.env (eval o X.env) = eval o X.env := by rfl) : PE X (.Attribute o n pos) (tExF X.K n te) := by
  refine ⟨fun pins s σ H Q I h => ?_⟩
  refine attr_of hb (thn (he.run pins s σ H _ I h) fun u s1 hh => ?_)
  obtain ⟨x, H1, I1, rx, a, C, dd, fs, v, ex, T, hno, ha, hf, l, q⟩ := hh
  subst ex
  obtain rfl : u = Value.ref a := rx
  obtain ⟨t1, hee⟩ := exo_at I1.hok ha
  obtain ⟨mA, hns, hr⟩ := exd_at I1.hok hf
  obtain ⟨od, ho, hl⟩ := lookIn_ns hns
  obtain ⟨u, hu, ru⟩ := RelO.some_of (v := v) (o := mA n) (by rw [← l]; exact hr n)
  have J : PySem.W.InstAt s1.heap a _ C (some od) := ⟨hee, rfl, rfl, ho⟩
  exact HandSPX.exc_get I1.kIn J T.hg T.hk T.hs (PySem.W.findObj_own T.hd hno rfl (by rw [hl, hu])) (handed_of ru) ⟨v, H1, I1.tok _, ru, q⟩
end
end LB

namespace LB
open PySem L2 PyProof.Rows
/-! ### values and cells -/
/-- the letters a to z -/
def small : List Nat := (List.range 26).map (· + 97)
/-- two to four different letters a to z -/
structure Good (z : Str) : Prop where
  lo : 2 ≤ z.cps.size
  hi : z.cps.size ≤ 4
  az : ∀ c ∈ z.cps.toList, c ∈ small
  nd : z.cps.toList.Nodup
/-- the letters of a cell: those at the bits of its number -/
def subL (z : Str) (n i : Nat) : List Nat := ((List.range i).filter fun k => n.testBit k).map fun k => z.cps.getD k 0
def cellT (z : Str) (n : Nat) : Str := ⟨(subL z n z.cps.size).toArray⟩
/-- the attributes of a cell, of values -/
def cellF (p : Addr) (n : Int) (t : Str) : List (Str × V) := putF "letters" (.str t) (putF "number" (.int n) (putF "alphabet" (.ref p) []))
def valF (z : Str) (t : Addr) : List (Str × V) := putF "by_number" (.ref t) (putF "letters" (.str z) [])
theorem cellF_let {p : Addr} {n : Int} {t : Str} : (cellF p n t).lookup ("letters" : Str) = some (.str t) := by
  unfold cellF; rw [lookup_putF, if_pos rfl]
theorem cellF_num {p : Addr} {n : Int} {t : Str} : (cellF p n t).lookup ("number" : Str) = some (.int n) := by
  unfold cellF; rw [lookup_putF, if_neg (by decide +kernel), lookup_putF, if_pos rfl]
theorem cellF_alp {p : Addr} {n : Int} {t : Str} : (cellF p n t).lookup ("alphabet" : Str) = some (.ref p) := by
  unfold cellF; rw [lookup_putF, if_neg (by decide +kernel), lookup_putF, if_neg (by decide +kernel), lookup_putF, if_pos rfl]
theorem valF_let {z : Str} {t : Addr} : (valF z t).lookup ("letters" : Str) = some (.str z) := by
  unfold valF; rw [lookup_putF, if_neg (by decide +kernel), lookup_putF, if_pos rfl]
theorem valF_by {z : Str} {t : Addr} : (valF z t).lookup ("by_number" : Str) = some (.ref t) := by
  unfold valF; rw [lookup_putF, if_pos rfl]
theorem cellF_no {p : Addr} {n : Int} {t m : Str} (h1 : ¬ m = "letters") (h2 : ¬ m = "number") (h3 : ¬ m = "alphabet") : (cellF p n t).lookup m = none := by
  unfold cellF; rw [lookup_putF, if_neg h1, lookup_putF, if_neg h2, lookup_putF, if_neg h3]; rfl
theorem valF_no {z m : Str} {t : Addr} (h1 : ¬ m = "by_number") (h2 : ¬ m = "letters") : (valF z t).lookup m = none := by
  unfold valF; rw [lookup_putF, if_neg h1, lookup_putF, if_neg h2]; rfl
/-- a cell at c: of the values at p with the letters z, the one of the number n; CC: the class -/
def CellAt (CC : Addr) (H : Hp) (c p : Addr) (z : Str) (n : Nat) : Prop := ∃ dc, H c = some (.ins CC dc (cellF p n (cellT z n)))
/-- values at p with the letters z, their cells at cs -/
structure ValsAt (CV CC : Addr) (H : Hp) (p : Addr) (z : Str) (cs : List Addr) : Prop where
  ob : ∃ dx t, H p = some (.ins CV dx (valF z t)) ∧ H t = some (.tup (cs.map V.ref))
  good : Good z
  len : cs.length = 2 ^ z.cps.size
  cell : ∀ i c, cs[i]? = some c → CellAt CC H c p z i
theorem CellAt.same {CC : Addr} {H H' : Hp} {c p : Addr} {z : Str} {n : Nat} (h : CellAt CC H c p z n) (s : Same H H') : CellAt CC H' c p z n := let ⟨dc, e⟩ := h; ⟨dc, s _ _ e⟩
theorem ValsAt.same {CV CC : Addr} {H H' : Hp} {p : Addr} {z : Str} {cs : List Addr} (h : ValsAt CV CC H p z cs) (s : Same H H') : ValsAt CV CC H' p z cs :=
  ⟨let ⟨dx, t, e1, e2⟩ := h.ob; ⟨dx, t, s _ _ e1, s _ _ e2⟩, h.good, h.len, fun i c e => (h.cell i c e).same s⟩
theorem subL_succ (z : Str) (n i : Nat) : subL z n (i + 1) = subL z n i ++ (if n.testBit i then [z.cps.getD i 0] else []) := by
  unfold subL
  rw [List.range_succ, List.filter_append, List.map_append]
  congr 1
  by_cases h : n.testBit i = true
  · rw [if_pos h, List.filter_cons, if_pos h]; rfl
  · rw [if_neg h, List.filter_cons, if_neg h]; rfl
theorem subL_len (z : Str) (n i : Nat) : (subL z n i).length ≤ i := by
  unfold subL
  rw [List.length_map]
  exact Nat.le_trans (List.length_filter_le _ _) (by rw [List.length_range]; exact Nat.le_refl _)
/-- the signs of codes -/
def sgs (l : List Nat) : List Str := l.map fun c => (⟨#[c]⟩ : Str)
theorem sgs_append (a b : List Nat) : sgs (a ++ b) = sgs a ++ sgs b := by simp [sgs]
theorem join_sgs (l : List Nat) : Txt.join Str.empty (sgs l) = ⟨l.toArray⟩ := by
  show PySem.Builtin.Str.glued Str.empty (sgs l) = _
  unfold PySem.Builtin.Str.glued
  have go : ∀ (r : List Nat) (acc : Array Nat), (sgs r).foldl (fun acc p => acc ++ (Str.empty : Str).cps ++ p.cps) acc = acc ++ r.toArray := by
    intro r
    induction r with
    | nil => intro acc; simp [sgs]
    | cons c r ih =>
      intro acc
      show (sgs r).foldl _ (acc ++ (#[] : Array Nat) ++ #[c]) = _
      rw [ih, Array.append_empty]
      simp
  congr 1
  cases l with
  | nil => rfl
  | cons c r =>
    show (sgs r).foldl _ #[c] = _
    rw [go]
    simp
/-- a bit of a number, as the program asks it -/
theorem bit_shift (n k : Nat) : Builtin.bitAnd ((n : Int) / 2 ^ ((k : Int)).toNat) 1 = if n.testBit k then 1 else 0 := by
  have e : ((n : Int) / 2 ^ ((k : Int)).toNat) = ((n / 2 ^ k : Nat) : Int) := by
    rw [Int.toNat_natCast]
    exact (Int.natCast_ediv n (2 ^ k)).symm ▸ by simp
  rw [e, PyProof.Rows.bitAnd_pp (Int.natCast_nonneg _) (by omega), Int.toNat_natCast]
  show (((n / 2 ^ k) &&& 1 : Nat) : Int) = _
  rw [Nat.and_one_is_mod]
  have h := Nat.testBit_eq_decide_div_mod_eq (x := n) (i := k)
  by_cases hb : n.testBit k = true
  · rw [if_pos hb]
    rw [hb] at h
    have := of_decide_eq_true h.symm
    rw [this]; rfl
  · rw [if_neg hb]
    have hb' : n.testBit k = false := by simpa using hb
    rw [hb'] at h
    have := of_decide_eq_false h.symm
    have h2 : n / 2 ^ k % 2 = 0 := by omega
    rw [h2]; rfl
end LB

namespace LB
open PySem L2 PyProof.Rows
/-! ### rules inside of a comprehension: what they read is read in the def around it -/
def tTr (K : PySem.W.Frag) (ta : TE) : TT := fun σ H Q => ta σ H fun x H' => ∃ k, TruV K x H' k ∧ Q k H'
section
variable {X : Cx} {s : Shared} {H : Hp} {sc : Scope} {ev : Env} {fp : List Addr} {a b o e : Expr} {ta tb te : TE} {pos : Pos} {f : Str}
theorem pg_tupB {es : List Expr} {k : Nat} {t : TGs} {n : Nat} (hc : (X.blk s H sc ev fp).calm = true) (h : PGs (X.blk s H sc ev fp) es t)
    (hn : (assignEach es (X.blk s H sc ev fp).env).length = n := by rfl) (hst : (assignEach es (X.blk s H sc ev fp).env).findIdx? (·.1) = none := by rfl) : PG (X.blk s H sc ev fp) (.Tuple es k pos) (gTup X.K n t) := pg_tup hc h hn hst
theorem pt_truthB (ha : PE (X.blk s H sc ev fp) a ta) (he : ∀ whole, isTrue a (X.blk s H sc ev fp).env whole = (do let v ← whole; standAt a.pos; holding [v] (truthy v))) :
    PT (X.blk s H sc ev fp) a (tTr X.K ta) := pt_truth ha he
theorem pe_fldB (he : PE (X.blk s H sc ev fp) e ta) (hb : attributeBase e f (X.blk s H sc ev fp).env (eval e (X.blk s H sc ev fp).env) = eval e (X.blk s H sc ev fp).env) : PE (X.blk s H sc ev fp) (.Attribute e f pos) (tFld X.K ta f) := pe_fld he hb
theorem ix_listB : IxR (X.blk s H sc ev fp) (rIxL X.K) := ix_list
theorem ix_tupB : IxR (X.blk s H sc ev fp) (rIxT X.K) := ix_tup
theorem sl_listB : SlR (X.blk s H sc ev fp) (rSlL X.K) := sl_list
theorem call_lenB : CallR (X.blk s H sc ev fp) (.builtin "len") (fun xs H Q => ∃ x n, xs = [x] ∧ LenV X.K x H n ∧ Q (.int n) H) := call_len
theorem call_isiB : CallR (X.blk s H sc ev fp) (.builtin "isinstance") (rIsi X.K) := call_isi
theorem call_isOB : CallR (X.blk s H sc ev fp) (.builtin "isinstance") (fun xs H Q => ∃ C, ExK X.K C ∧ rIsO X.K C xs H Q) := call_isO
theorem op_eqDB (hu : X.A.units + 64 < cLine) : OpR (X.blk s H sc ev fp) (compareOp .Eq) (rEqD X.K) := op_eqD hu
theorem op_neDB (hu : X.A.units + 64 < cLine) : OpR (X.blk s H sc ev fp) (compareOp .NotEq) (rNeD X.K) := op_neD hu
end
end LB

namespace LB
open PySem L2 PyProof.Rows
/-! ### == of lists whose items are the same -/
def DRef : Eqv := fun x y _ => ∃ a, x = .ref a ∧ y = .ref a
theorem eqG_ref {X : Cx} : EqG X 0 DRef := by
  intro A pins s σ H x y u v sb I rx ry d
  obtain ⟨a, rfl, rfl⟩ := d
  cases rx
  cases ry
  exact PySem.SeqAt.EqAt.same _ X.prog X.w X.xe _ ⟨rfl, H, I, Ext.rfl'⟩
def DSm : Eqv := fun x y H => DFlat x y H ∨ DRef x y H
theorem mon_sm : Mon DSm := Mon.or mon_flat fun _ _ _ _ _ d => d
theorem op_eqSm {X : Cx} (hr : Room 1 X.A) : OpR X (compareOp .Eq) (rEqG (DList DSm)) := op_eqG (rcG_list mon_sm (eqG_flat.or eqG_ref)) hr
theorem eqV_refl {x : V} (h : flatV x = true) : eqV x x = true := by
  cases x <;> first | rfl | exact beq_self_eq_true _ | cases h
theorem prs_same {xs : List V} {H : Hp} (h : ∀ x ∈ xs, flatV x = true ∨ ∃ a, x = .ref a) : Prs DSm xs xs H :=
  ⟨rfl, fun i x y h1 h2 => by
    rw [h1] at h2
    cases h2
    rcases h x (List.mem_of_getElem? h1) with f | ⟨a, e⟩
    · exact .inl ⟨f, f, eqV_refl f⟩
    · exact .inr ⟨a, e, e⟩⟩
/-! ### values that may stand in an error -/
theorem TyX.keep {K : PySem.W.Frag} {H H' : Hp} {a : Addr} {t : Value} (h : TyX K H (.ref a) t) (k : ∀ o, H a = some o → H' a = some o) : TyX K H' (.ref a) t := by
  cases h with
  | base b =>
    cases b with
    | lst e => exact .base (.lst (k _ e))
    | frz e => exact .base (.frz (k _ e))
    | tup e => exact .base (.tup (k _ e))
    | dK e => exact .base (.dK (k _ e))
    | dT e => exact .base (.dT (k _ e))
    | ins e cl ha hn htk hm => exact .base (.ins (k _ e) cl ha hn htk hm)
  | set e => exact .set (k _ e)
  | kList e c => exact .kList e c
  | kTuple e c => exact .kTuple e c
  | kDict e c => exact .kDict e c
  | fTuple e => exact .fTuple (k _ e)
  | fDict e => exact .fDict (k _ e)
/-- a value of which it is known whether it is a bool -/
def Tame (K : PySem.W.Frag) (p : Addr) (H : Hp) (x : V) : Prop := (flatV x = true ∨ ∃ a, x = .ref a ∧ a ≠ p) ∧ ∃ t b, TyX K H x t ∧ PySem.W.kitOne K t (.type "bool") = some b
theorem Tame.but {K : PySem.W.Frag} {p : Addr} {H H' : Hp} {x : V} (h : Tame K p H x) (b : But p H H') : Tame K p H' x := by
  obtain ⟨f, t, c, ty, k⟩ := h
  refine ⟨f, t, c, ?_, k⟩
  rcases f with f | ⟨a, rfl, n⟩
  · cases x with
    | non => cases ty with | base b => cases b; exact .base .non
    | bl y => cases ty with | base b => cases b; exact .base (.bl y)
    | int y => cases ty with | base b => cases b; exact .base (.int y)
    | str y => cases ty with | base b => cases b; exact .base (.str y)
    | byt y => cases f
    | flt y => cases f
    | ref y => cases f
    | ty y => cases f
  · exact LB.TyX.keep ty fun o e => b _ _ e n
theorem Tame.flat {K : PySem.W.Frag} {p : Addr} {H : Hp} {x : V} (h : Tame K p H x) : flatV x = true ∨ ∃ a, x = .ref a := h.1.imp id fun ⟨a, e, _⟩ => ⟨a, e⟩
/-! ### errors on the abstract heap -/
/-- an error of the class C at a, with these attributes (the last one first) -/
def ErrAt (H : Hp) (a C : Addr) (fs : List (Str × V)) : Prop := ∃ d, H a = some (exo a C d) ∧ ((d = none ∧ fs = []) ∨ ∃ dd, d = some dd ∧ H dd = some (exd dd fs))
theorem ErrAt.same {H H' : Hp} {a C : Addr} {fs : List (Str × V)} (h : ErrAt H a C fs) (s : Same H H') : ErrAt H' a C fs :=
  let ⟨d, e, k⟩ := h
  ⟨d, s _ _ e, k.imp id fun ⟨dd, e1, e2⟩ => ⟨dd, e1, s _ _ e2⟩⟩
theorem ErrAt.dd {H : Hp} {a C : Addr} {fs : List (Str × V)} (h : ErrAt H a C fs) : ∃ d, H a = some (exo a C d) ∧ ∀ dd, d = some dd → ∃ fs, H dd = some (exd dd fs) :=
  let ⟨d, e, k⟩ := h
  ⟨d, e, fun dd q => by
    rcases k with ⟨e1, _⟩ | ⟨d1, e1, e2⟩
    · rw [e1] at q; cases q
    · rw [e1] at q; cases q; exact ⟨fs, e2⟩⟩
theorem ErrAt.fld {H : Hp} {a C : Addr} {f : Str} {v : V} {fs : List (Str × V)} (h : ErrAt H a C ((f, v) :: fs)) : ∃ dd, H a = some (exo a C (some dd)) ∧ H dd = some (exd dd ((f, v) :: fs)) :=
  let ⟨d, e, k⟩ := h
  k.elim (fun ⟨_, z⟩ => by cases z) fun ⟨dd, e1, e2⟩ => ⟨dd, e1 ▸ e, e2⟩
/-- C.__init__(self, f), C.__init__(self, f, g) -/
def spE1 (C : Addr) (f : Str) : Sp := fun vs H Q _ => ∃ a x, vs = [.ref a, x] ∧ H a = some (exo a C none) ∧ ∀ H', But a H H' → ErrAt H' a C [(f, x)] → Q .non H'
def spE2 (C : Addr) (f g : Str) : Sp := fun vs H Q _ => ∃ a x y, vs = [.ref a, x, y] ∧ H a = some (exo a C none) ∧ ∀ H', But a H H' → ErrAt H' a C [(g, y), (f, x)] → Q .non H'
end LB

namespace LB
open PySem L2 PySem.Spec PyProof.Rows
/-! ### an error that is kept behind the clause that caught it -/
/-- at e: an error of the class at C that has been raised, its dict at d -/
def exr (e C : Addr) (d : Option Addr) : HO := .ext fun h => ∃ (o : Obj) (vs : Array Value), h.get? e = some o ∧ o.cls = .ref C ∧ o.dict = d ∧ o.data = .fields vs
theorem exr_ok {P : Program} {w : World} {H : Hp} {h : Heap} {e C : Addr} {d : Option Addr} {o : Obj} {vs : Array Value} (he : h.get? e = some o) (h1 : o.cls = .ref C) (h2 : o.dict = d) (h3 : o.data = .fields vs) : ObjOk P w H h e (exr e C d) :=
  ⟨⟨o, vs, he, h1, h2, h3⟩, ⟨o, he⟩, fun _ _ z k => let ⟨o', vs', q, r⟩ := z; ⟨o', vs', k _ q, r⟩⟩
theorem exr_at {P : Program} {w : World} {H : Hp} {h : Heap} {e C : Addr} {d : Option Addr} (hok : HOk P w H h) (he : H e = some (exr e C d)) : ∃ (o : Obj) (vs : Array Value), h.get? e = some o ∧ o.cls = .ref C ∧ o.dict = d ∧ o.data = .fields vs := by
  have x : ObjOk P w H h e (.ext fun h => ∃ (o : Obj) (vs : Array Value), h.get? e = some o ∧ o.cls = .ref C ∧ o.dict = d ∧ o.data = .fields vs) := hok e _ he
  exact x.1
section
variable {X : Cx} {pins : List (Addr × Obj)} {σ : L2.St} {H : Hp} {s : Shared}
/-- a pinned error that is newer than the body is tracked -/
theorem track {a C : Addr} {oe : Obj} {d : Option Addr} {vs : Array Value} (I : Inv X ((a, oe) :: pins) σ H s) (hc : oe.cls = .ref C) (hdd : oe.dict = d) (hv : oe.data = .fields vs) (new : X.s_0.heap.get? a = none) (fresh : ∀ p ∈ X.pn ++ pins, p.1 ≠ a) :
    Inv X pins σ (upd H a (exr a C d)) s := by
  obtain ⟨ea, na, nL, nF, _⟩ := I.pin (a, oe) (List.mem_append_right _ List.mem_cons_self)
  have old : ∀ {b o}, X.s_0.heap.get? b = some o → b ≠ a := fun {b o} e z => by rw [z, new] at e; cases e
  have trk : ∀ {b o}, H b = some o → b ≠ a := fun {b o} e => ne_of_none e na
  refine ⟨I.ok, I.os, I.bare, ⟨I.base.keep, I.base.slot, fun b o e n x => ?_, I.base.there, fun b xs e => ?_, fun b o u e => ?_, fun b ps e => ?_⟩, I.loc, I.cell, ?_, fun x c e => ?_, fun p hp => ?_, fun b u e => ?_, I.len⟩
  · rw [upd_ne (old e)]; exact I.base.free b o e n x
  · have q := I.base.tups b xs e
    rw [upd_ne (trk q)]; exact q
  · have q := I.base.frzs b o u e
    rw [upd_ne (trk q)]; exact q
  · obtain ⟨more, q⟩ := I.base.tbls b ps e
    exact ⟨more, by rw [upd_ne (trk q)]; exact q⟩
  · rw [upd_ne nL.symm]; exact I.free
  · have cne : c ≠ a := fun z => by
      obtain ⟨v, q⟩ := I.cell x c e
      subst z
      have q' := q
      rw [Heap.IsCell, ea] at q'
      obtain ⟨o', q1, q2⟩ := q'
      cases q1
      have q3 : oe.data = .cell v := q2
      rw [q3] at hv
      cases hv
    rw [upd_ne cne]; exact I.freeC x c e
  · obtain ⟨q1, q2, q3⟩ := I.pin p (by
      rcases List.mem_append.mp hp with h | h
      · exact List.mem_append_left _ h
      · exact List.mem_append_right _ (List.mem_cons_of_mem _ h))
    exact ⟨q1, by rw [upd_ne (fresh p hp)]; exact q2, q3⟩
  · by_cases hb : b = a
    · subst hb
      rw [upd_same] at e
      cases e
      exact exr_ok ea hc hdd hv
    · rw [upd_ne hb] at e
      exact (I.hok b u e).stay (fun _ _ _ q => q) (fun c q => by rw [upd_ne (trk q)]; exact q) fun c xs q => by rw [upd_ne (trk q)]; exact q
end
/-- what is asked of each error of the body: the clause takes it; behind its suite the error stands at its address -/
def wKp (K : PySem.W.Frag) (c : Value) (i : Nat) (ts : Addr → Value → Option Addr → TS) (D : Ends) : WX := fun cls d σ H => PySem.W.exmOne K cls c = some true ∧ ∃ C, cls = .ref C ∧
  ∀ a, H a = none → ts a cls d { nx := fun σ' H' => D.nx (σ'.set i none) (upd H' a (exr a C d)), rt := fun _ _ => False, bk := fun _ _ => False, ct := fun _ _ => False } (σ.set i (some (.ref a))) H
section
variable {X : Cx} {x n : Str} {c : Value} {i : Nat} {body suite : List Stmt} {b0 : Stmt} {np pos pos' : Pos} {tb : WX → TS} {ts : Addr → Value → Option Addr → TS}
theorem ps_try_keep (hst : X.stack = X.env :: X.outer) (hfrm : X.env.frame = some X.env.locals) (nex : X.ex = []) (nd : X.N.Nodup) (hi : X.N[i]? = some n) (hloc : X.env.kindOf n = some .local) (nm : Names X x c)
    (hbody : ∀ (W : WX) (pn : List (Addr × Obj)) (xe : Value → Shared → Prop), Takes (X.tr pn xe) W → PassesOwn (model X.prog X.w) X.A X.env xe → PSs (X.tr pn xe) body (tb W))
    (hsuite : ∀ (a : Addr) (oe : Obj) (cls : Value) (d : Option Addr) (pn : List (Addr × Obj)), Zc cls d oe → (∃ vs, oe.data = .fields vs) → PSs (X.suite a ((a, oe) :: pn)) (b0 :: suite) (ts a cls d)) :
    PS X (.Try body [.ExceptHandler (some (.Name x np)) (some n) (b0 :: suite) pos'] [] [] pos) (fun D σ H => tb (wKp X.K c i ts D) D σ H) := by
  refine ⟨fun pins s σ H D I hh => wpAny_Try_except ?_⟩
  have stk : X.A.frames = some (X.env :: X.outer) := by rw [I.ok.frames, hst]
  refine wpAny_mono ((hbody (wKp X.K c i ts D) (X.pn ++ pins) _ (fun u s' raised => ?_) PassesOwn.looking).run [] s σ H D (I.toTry _) hh) (fun f s1 r => ?_) (fun e s1 z => z)
  · obtain ⟨a, B, sI, p0, σ', H', cls, d, rfl, Jt, ground, grow, sky, na, os, bare, hex, C, rfl, cont⟩ := raised
    have J : Inv X pins σ' H' sI := Jt.ofTry I.ok
    rw [show (X.tr (X.pn ++ pins) _).stack = X.env :: X.outer from hst] at sky
    refine Sky.land Zc.steady stk hfrm sky fun h3 fl3 g3 => ?_
    have J3 : Inv X pins σ' H' { s' with heap := h3 } := J.landed ground fl3.1 (grow.trans g3) os bare
    obtain ⟨o3, v3, e3, z3, d3⟩ := fl3.there
    have out : ∀ {o : Obj} {vs : Array Value} {h : Heap}, HandSPX.FlyingZ B (X.env :: X.outer) a (Zc (.ref C) d) h → h.get? a = some o → o.data = .fields vs → a ∉ frs (X.env :: X.outer) := fun {o vs h} fl e dd hm => by
      obtain ⟨_, o', e', q⟩ := fl.2.2.1.mem hm
      rw [e] at e'
      cases e'
      exact q _ dd
    have nfr := out fl3 e3 d3
    have nL : a ≠ X.env.locals := fun z => nfr (List.mem_filterMap.mpr ⟨X.env, List.mem_cons_self, by rw [hfrm, z]⟩)
    have nF : a ∉ X.fs := fun hm => by
      obtain ⟨e, he, q⟩ := List.mem_filterMap.mp hm
      exact nfr (List.mem_filterMap.mpr ⟨e, List.mem_cons_of_mem _ he, q⟩)
    -- the error is newer than the state the body left
    have newI : sI.heap.get? a = none := by
      cases e : sI.heap.get? a with
      | none => rfl
      | some o =>
        have := ground a o e (by rw [show (X.tr (X.pn ++ pins) _).stack = X.env :: X.outer from hst]; exact nfr)
        rw [fl3.2.1] at this
        cases this
    have new0 : X.s_0.heap.get? a = none := by
      cases e : X.s_0.heap.get? a with
      | none => rfl
      | some o =>
        by_cases hx : a ∈ X.ex
        · rw [nex] at hx
          cases hx
        · obtain ⟨o', q⟩ := J.base.there a o e hx
          rw [newI] at q
          cases q
    have freshp : ∀ p ∈ X.pn ++ pins, p.1 ≠ a := fun p hp z => by
      have q := (J.pin p hp).1
      rw [z, newI] at q
      cases q
    have S3 := J3.suite e3 d3 na nL nF
    have LT : PySem.W.Looks (model X.prog X.w) h3 (typeOf (.ref a)) (.ref C) := fun A Q E s k q => wpAny_typeOf_ref (k _ _ e3) (by rw [z3.1]; exact q)
    refine wpAny_handleBy_cons (codeAny_handlers_test ?_) (by intro q; cases q)
    have test : ∀ {Q : Value → Shared → Prop} {E : Value → Shared → Prop}, Q c { s' with heap := h3 } → wpAny (model X.prog X.w) (X.A.mark (some (.ref a))) (eval (.Name x np) X.env) Q E { s' with heap := h3 } := fun {Q E} q => by
      obtain ⟨hg, hdb, hm⟩ := nm
      rcases hm with hm | ⟨hm, hv, hnn⟩
      · exact ld_glob (X := X.suite a ((a, o3) :: (X.pn ++ pins))) S3 hg hm q hdb
      · exact ld_blt (X := X.suite a ((a, o3) :: (X.pn ++ pins))) S3 hg hm hv q hnn hdb
    refine test ((PySem.W.exm_one (M := model X.prog X.w) J3.kIn LT hex).here ?_)
    refine codeAny_handlers_suite_as (HandSPX.lands_againZ fl3 fun h4 fl4 g4 => ?_)
    have J4 : Inv X pins σ' H' { s' with heap := h4 } := J.landed ground fl4.1 ((grow.trans g3).trans g4) os bare
    obtain ⟨o4, v4, e4, z4, d4⟩ := fl4.there
    refine store_ok (X := X.suite a ((a, o4) :: (X.pn ++ pins))) (v := .ref a) (J4.suite e4 d4 na nL nF) nd hi (.inl hloc) rfl (fun s5 S5 => ?_) (.inr hloc)
    refine wpAny_mono ((hsuite a o4 (.ref C) d (X.pn ++ pins) z4 ⟨_, d4⟩).run [] s5 _ H' _ S5 (cont a na)) (fun f s6 r => ?_) (fun _ _ z => False.elim z)
    cases f with
    | brk => exact False.elim (let ⟨_, _, _, q⟩ := r; q)
    | cont => exact False.elim (let ⟨_, _, _, q⟩ := r; q)
    | ret u => exact False.elim (let ⟨_, _, _, _, _, q⟩ := r; q)
    | next =>
      obtain ⟨σ6, H6, S6, q6⟩ := r
      have K6 : Inv X ((a, o4) :: pins) σ6 H6 s6 := ⟨I.ok, S6.os, S6.bare, S6.base, S6.loc, S6.cell, S6.free, S6.freeC, fun p hp => S6.pin p (List.mem_append_left _ (by
        rcases List.mem_append.mp hp with h | h
        · exact List.mem_cons_of_mem _ (List.mem_append_left _ h)
        · rcases List.mem_cons.mp h with h | h
          · rw [h]; exact List.mem_cons_self
          · exact List.mem_cons_of_mem _ (List.mem_append_right _ h))), S6.hok, S6.len⟩
      exact gone_ok K6 nd hi hloc fun s7 J7 => ⟨_, _, track J7 z4.1 z4.2 d4 new0 freshp, q6⟩
  · cases f with
    | next =>
      obtain ⟨σ', H', J', q⟩ := r
      exact wpAny_execs_nil ⟨σ', H', J'.ofTry I.ok, q⟩
    | brk =>
      obtain ⟨σ', H', J', q⟩ := r
      exact ⟨σ', H', J'.ofTry I.ok, q⟩
    | cont =>
      obtain ⟨σ', H', J', q⟩ := r
      exact ⟨σ', H', J'.ofTry I.ok, q⟩
    | ret u =>
      obtain ⟨v, σ', H', J', rr, q⟩ := r
      exact ⟨v, σ', H', J'.ofTry I.ok, rr, q⟩
end
section
variable {X : Cx}
/-- a kept error of the class C at a: its attributes fs, none where d is none -/
def KeptAt (H : Hp) (a C : Addr) (d : Option Addr) (fs : List (Str × V)) : Prop := H a = some (exr a C d) ∧ ((d = none ∧ fs = []) ∨ ∃ dd, d = some dd ∧ H dd = some (.xd fs))
theorem KeptAt.same {H H' : Hp} {a C : Addr} {d : Option Addr} {fs : List (Str × V)} (h : KeptAt H a C d fs) (s : Same H H') : KeptAt H' a C d fs := ⟨s _ _ h.1, h.2.imp id fun ⟨dd, e1, e2⟩ => ⟨dd, e1, s _ _ e2⟩⟩
theorem kept_inst {pins : List (Addr × Obj)} {σ : L2.St} {H : Hp} {s : Shared} {a C : Addr} {d : Option Addr} {fs : List (Str × V)} (I : Inv X pins σ H s) (h : KeptAt H a C d fs) : ∃ ox od, PySem.W.InstAt s.heap a ox C od := by
  obtain ⟨o, vs, he, h1, h2, h3⟩ := exr_at I.hok h.1
  have hn : PySem.W.notCls o = true := by unfold PySem.W.notCls; rw [h3]
  rcases h.2 with ⟨rfl, _⟩ | ⟨dd, rfl, hf⟩
  · exact ⟨o, none, he, h1, hn, by rw [h2]; trivial⟩
  · obtain ⟨mA, hns, _⟩ := (show ∃ mA, s.heap.Ns1 dd mA ∧ ∀ f, RelO (fs.lookup f) (mA f) from I.hok dd _ hf)
    obtain ⟨od, ho, _⟩ := lookIn_ns hns
    exact ⟨o, some od, he, h1, hn, by rw [h2]; exact ho⟩
def rIsR (K : PySem.W.Frag) : List V → Hp → VK → Prop := fun xs H Q => ∃ (C a : Addr) (d : Option Addr) (fs : List (Str × V)) (c : V) (cv : Value) (b : Bool), ExK K C ∧ xs = [.ref a, c] ∧ KeptAt H a C d fs ∧ ClsV c cv ∧ PySem.W.kitOne K (.ref C) cv = some b ∧ Q (.bl b) H
theorem call_isR : CallR X (.builtin "isinstance") (rIsR X.K) := by
  intro pins s σ H xs us Q I r h
  obtain ⟨C, a, d, fs, c, cv, b, T, rfl, ha, hc, e, q⟩ := h
  obtain ⟨u1, u2, rfl, r1, r2⟩ := vals2 r
  cases r1
  have e2 := hc.eq r2
  subst e2
  obtain ⟨ox, od, J⟩ := kept_inst I ha
  exact PySem.W.kia_one (PySem.W.lbx_kit T.hg T.hk T.hs T.hd T.ha T.hn T.ht T.hm) I.kIn J e (fun z => nomatch z) fun tk => ⟨.bl b, H, I.tok tk, rfl, q⟩
def rIsRT (K : PySem.W.Frag) : List V → Hp → VK → Prop := fun xs H Q => ∃ (C a : Addr) (d : Option Addr) (fs : List (Str × V)) (tp : Addr) (cs : List V) (ws : List Value) (b : Bool), ExK K C ∧ xs = [.ref a, .ref tp] ∧ KeptAt H a C d fs ∧ H tp = some (.tup cs) ∧ Paired ClsV cs ws ∧ PySem.W.kitAny K (.ref C) ws = some b ∧ Q (.bl b) H
theorem call_isRT : CallR X (.builtin "isinstance") (rIsRT X.K) := by
  intro pins s σ H xs us Q I r h
  obtain ⟨C, a, d, fs, tp, cs, ws, b, T, rfl, ha, hT, k, e, q⟩ := h
  obtain ⟨u1, u2, rfl, r1, r2⟩ := vals2 r
  cases r1
  cases r2
  obtain ⟨ox, od, J⟩ := kept_inst I ha
  obtain ⟨_, its, rv, o, h1, h2, n, h3⟩ := (show ObjOk X.prog X.w H s.heap tp (.tup cs) from I.hok tp _ hT)
  have e3 := ClsV.all k rv
  subst e3
  obtain ⟨oc, od', dt, sl⟩ := o
  simp only at h2 h3
  subst h2 h3
  exact PySem.W.kia_tup (PySem.W.lbx_kit T.hg T.hk T.hs T.hd T.ha T.hn T.ht T.hm) I.kIn J h1 e (fun z => nomatch z) fun tk => ⟨.bl b, H, I.tok tk, rfl, q⟩
/-- e.n, e a kept error -/
def tExR (K : PySem.W.Frag) (n : Str) (te : TE) : TE := fun σ H Q => te σ H fun x H1 => ∃ (a C dd : Addr) (fs : List (Str × V)) (v : V), x = .ref a ∧ ExK K C ∧ PySem.W.findIn K (.ref C) n = some none ∧ H1 a = some (exr a C (some dd)) ∧ H1 dd = some (.xd fs) ∧ fs.lookup n = some v ∧ Q v H1
theorem pe_exr {n : Str} {o : Expr} {te : TE} {pos : Pos} (he : PE X o te) (hb : attributeBase o n X.env (eval o X.env) = eval o X.env := by rfl) : PE X (.Attribute o n pos) (tExR X.K n te) := by
  refine ⟨fun pins s σ H Q I h => ?_⟩
  refine attr_of hb (thn (he.run pins s σ H _ I h) fun u s1 hh => ?_)
  obtain ⟨x, H1, I1, rx, a, C, dd, fs, v, ex, T, hno, ha, hf, l, q⟩ := hh
  subst ex
  obtain rfl : u = Value.ref a := rx
  obtain ⟨o1, vs, hee, h1, h2, h3⟩ := exr_at I1.hok ha
  obtain ⟨mA, hns, hr⟩ := (show ∃ mA, s1.heap.Ns1 dd mA ∧ ∀ f, RelO (fs.lookup f) (mA f) from I1.hok dd _ hf)
  obtain ⟨od, ho, hl⟩ := lookIn_ns hns
  obtain ⟨u, hu, ru⟩ := RelO.some_of (v := v) (o := mA n) (by rw [← l]; exact hr n)
  have hn : PySem.W.notCls o1 = true := by unfold PySem.W.notCls; rw [h3]
  have J : PySem.W.InstAt s1.heap a o1 C (some od) := ⟨hee, h1, hn, by rw [h2]; exact ho⟩
  exact HandSPX.exc_get I1.kIn J T.hg T.hk T.hs (PySem.W.findObj_own T.hd hno rfl (by rw [hl, hu])) (handed_of ru) ⟨v, H1, I1.tok _, ru, q⟩
end
end LB

namespace LB
open PySem L2 PySem.Spec PyProof.Rows
/-! ### calls that may raise, inside of a try or on the way out; raising an own error -/
section
variable {X : Cx} {CX : CXT} {k : Nat} {C : Addr} {ps : List Str} {sp : Sp} {E : L2.St → XK} {x : Str} {p pos : Pos} {e : Expr} {es : List Expr} {t : TA}
theorem pe_fnS (h : HasFn X.prog X.w X.K X.mg X.base CX k x ps sp) (hr : Room k X.A) (hx : ∀ σ, PassesAt CX X σ (E σ)) (ha : PA X (e :: es) t) (hg : Gl X x := by rfl) (hdb : (x == ("__debug__" : Str)) = false := by decide)
    (he : starEach (e :: es) X.env = (false, eval e X.env) :: starEach es X.env := by rfl) (hpl : (backTo pos (starEach es X.env)).any (·.1) = false := by rfl) : PE X (.Call (.Name x p) (e :: es) [] pos) (tCallS sp E t) := by
  obtain ⟨f, fd, F, hm, hk, hb⟩ := h
  exact pe_callS F hr hg hm hk hb hx ha hdb he hpl
/-- C(..) of a class whose __init__ may raise -/
def tMakeS (C : Addr) (sp : Sp) (E : L2.St → XK) (t : TA) : TE := fun σ H Q => t σ H fun vs H1 => ∀ x dx, H1 x = none → H1 dx = none → dx ≠ x → sp (.ref x :: vs) (upd (upd H1 dx (.own x)) x (.ins C dx [])) (fun v H2 => v = .non ∧ Q (.ref x) H2) (E σ)
theorem pe_mkS (h : HasMk X.prog X.w X.K X.mg X.base CX k C x ps sp) (hr : Room (k + 1) X.A) (hx : ∀ σ, PassesAt CX X σ (E σ)) (ha : PA X (e :: es) t) (hg : Gl X x := by rfl) (hdb : (x == ("__debug__" : Str)) = false := by decide)
    (he : starEach (e :: es) X.env = (false, eval e X.env) :: starEach es X.env := by rfl) (hpl : (backTo pos (starEach es X.env)).any (·.1) = false := by rfl) : PE X (.Call (.Name x p) (e :: es) [] pos) (tMakeS C sp E t) := by
  obtain ⟨f, fd, F, M, hm, hb⟩ := h
  refine ⟨fun pins s σ H Q I hw => wpAny_Call_Name_kw (ld_glob I hg hm (PySem.W.callWith_K (h₀ := X.base) I.ok.mod.kin M.kp (thn (ha.run pos pins s σ H _ I hw) fun us s1 ⟨vs, H1, I1, r, q⟩ => ⟨I1.kIn, ?_⟩) he hpl) hdb)⟩
  have n1 := I1.hok.fresh (a := s1.heap.objs.size + 1) (Nat.le_succ _)
  have n0 := I1.hok.fresh (a := s1.heap.objs.size) (Nat.le_refl _)
  have pre := q _ _ n1 n0 (Nat.ne_of_lt (Nat.lt_succ_self _))
  have J := Inv.made (C := C) I1
  have rr : Vals (V.ref (s1.heap.objs.size + 1) :: vs) (Value.ref (s1.heap.objs.size + 1) :: us) := .cons rfl r
  have nn : (Value.ref (s1.heap.objs.size + 1) :: us).length = ps.length := rr.length.symm.trans (F.len _ _ _ _ pre)
  have bb := hb _ (Value.ref (s1.heap.objs.size + 1) :: us) J.kIn (by rw [List.append_nil]; exact nn)
  rw [List.append_nil] at bb
  have go := F.run _ X.stack _ _ ⟨Value.ref (s1.heap.objs.size + 1) :: us, []⟩ (Value.ref (s1.heap.objs.size + 1) :: us) _ _ (E σ) (hr.make C us []) (J.env0.make C us []) bb rr pre
  refine wpAny_call (make_map (f := f) I1.kIn M.makes M.init (beq_iff_eq.mp M.fn) (codeAny_mono go fun o s2 end_ => ?_))
  cases o with
  | error er => exact hx σ pins _ _ er s2 J end_
  | ok fl =>
    cases fl with
    | next => exact False.elim end_
    | brk => exact False.elim end_
    | cont => exact False.elim end_
    | ret u =>
      obtain ⟨v, H3, J3, rv, ev, z⟩ := J.after end_
      subst ev
      exact ⟨rv, V.ref (s1.heap.objs.size + 1), H3, J3, rfl, z⟩
/-- C.__init__(self, f), the error's dict being new -/
def spX1 (C : Addr) (f : Str) : Sp := fun vs H Q _ => ∃ a x, vs = [.ref a, x] ∧ H a = some (exo a C none) ∧ ∀ H' d, But a H H' → H d = none → d ≠ a → H' a = some (exo a C (some d)) → H' d = some (exd d [(f, x)]) → Q .non H'
/-- raise C(e), C's own __init__ keeping spX1: the error's dict and its attribute -/
theorem ps_raise1 {W : WX} {n : Str} (h : HasEx X.prog X.w X.K X.mg X.base CX0 k C x ps (spX1 C n)) (hc : X.calm = true) (tk : Takes X W) (hr : Room (k + 1) X.A) (ha : PA X [e] t) (hm1 : ∀ (σ : L2.St) (H : Hp) (Q R : List V → Hp → Prop), (∀ vs H1, Q vs H1 → R vs H1) → t σ H Q → t σ H R) {ppos : Pos} (hg : Gl X x := by rfl)
    (hdb : (x == ("__debug__" : Str)) = false := by decide) (he : starEach [e] X.env = (false, eval e X.env) :: starEach [] X.env := by rfl) (hpl : (backTo pos (starEach [] X.env)).any (·.1) = false := by rfl) :
    PS X (.Raise (some (.Call (.Name x p) [e] [] pos)) none ppos) (fun _ σ H => t σ H fun vs H1 => ∃ v, vs = [v] ∧ ∀ d H', Same H1 H' → H' d = some (.xd [(n, v)]) → W (.ref C) (some d) σ H') := by
  obtain ⟨f, fd, T, iC, tI, F1, hm, _, hb⟩ := h
  refine ⟨fun pins s σ H D I hw => (ps_raise hc tk (pmk_oex (dvs := []) T iC tI F1 hr hb .nil pass0 hg hm ha hdb he hpl)).run pins s σ H D I (hm1 σ H _ _ (fun vs H1 z => ?_) hw)⟩
  obtain ⟨v, rfl, q⟩ := z
  refine ⟨by show 1 ≤ 1000; decide, fun a na => ⟨a, v, rfl, upd_same, fun H2 d b nd ne ea ed => ⟨rfl, d, _, ea, ed, ?_, ?_⟩⟩⟩
  · rw [upd_ne ne] at nd
    exact nd
  · refine q d _ (fun c o e => ?_) upd_same
    rw [upd_ne ne] at nd
    have n1 : c ≠ a := ne_of_none e na
    rw [upd_ne (ne_of_none e nd), del_ne n1]
    exact b c o (by rw [upd_ne n1]; exact e) n1
end
end LB

namespace LB
open PySem L2 PyProof.Rows
section
variable {X : Cx} {s : Shared} {H : Hp} {sc : Scope} {ev : Env} {fp : List Addr} {o e : Expr} {es : List Expr} {to : TE} {t : TA} {name : Str} {apos cpos : Pos} {T id : String} {r : V → List V → Hp → VK → Prop}
/-- o.name(e, ..) inside of a comprehension -/
theorem pe_bmB (pa : PlainAttrs T) (slot : Slot T name id) (hty : typeOf (.builtin id) = pure (.type "method_descriptor")) (hm : MtR (X.blk s H sc ev fp) id r) (ho : PE (X.blk s H sc ev fp) o to) (ha : PA (X.blk s H sc ev fp) (e :: es) t)
    (h1 : attributeBase o name (X.blk s H sc ev fp).env (eval o (X.blk s H sc ev fp).env) = eval o (X.blk s H sc ev fp).env := by rfl)
    (h2 : ((backTo cpos (starEach (e :: es) (X.blk s H sc ev fp).env)).all (fun x => !x.1) && (backToKw cpos (keywordEach [] (X.blk s H sc ev fp).env)).all (fun x => x.1.isSome) && decide ((e :: es).length + ([] : List Keyword).length + (if ([] : List Keyword).isEmpty then 0 else 1) < 30)) = true := by rfl)
    (h3 : (apos.endLine == cpos.line) = true := by rfl) (h4 : starEach (e :: es) (X.blk s H sc ev fp).env = (false, eval e (X.blk s H sc ev fp).env) :: starEach es (X.blk s H sc ev fp).env := by rfl) (h5 : (backTo cpos (starEach es (X.blk s H sc ev fp).env)).any (·.1) = false := by rfl) :
    PE (X.blk s H sc ev fp) (.Call (.Attribute o name apos) (e :: es) [] cpos) (tBM X.K T r to t) := pe_bm pa slot hty hm ho ha h1 h2 h3 h4 h5
end
end LB

namespace LB
open PySem L2 PyProof.Rows
/-! ### repr of lists, tuples and what they hold; defs that ask it -/
section
variable {X : Cx}
/-- repr(x), x data; nothing else is being shown -/
theorem call_reprD (hg : X.A.guards = some []) (hu : X.A.units + 64 < cLine) : CallR X (.builtin "repr") (fun xs H Q => ∃ (a : Addr) (d : PyData), xs = [.ref a] ∧ Dp X.K H (.ref a) d ∧ d.showable = true ∧ d.hasDict = false ∧ d.depth ≤ 50 ∧ d.shown.length ≤ sizeLine ∧ Q (.str d.shown) H) := by
  intro pins s σ H xs us Q I r h
  obtain ⟨a, d, rfl, dp, hs, hd, hz, hl, q⟩ := h
  obtain ⟨u, rfl, ru⟩ := vals1 r
  cases ru
  obtain ⟨as, rd⟩ := Dp.reads I d _ _ dp rfl
  exact repr_of_reads' rd hs (fun e => by rw [hd] at e; cases e) hg (by omega) (fun _ _ e => e) (fun h' u tk k => ⟨.str d.shown, H, I.kept k, ⟨u, rfl⟩, q⟩) hl
end
/-- what FnOk says, where nothing is being shown around the call -/
structure FnG (P : Program) (w : World) (K : PySem.W.Frag) (mg : Str → Option Value) (base : Heap) (CX : CXT) (k : Nat) (f : Addr) (fd : FuncData) (ps : List Str) (sp : Sp) : Prop where
  size : ∀ vs H Q E, sp vs H Q E → vs.length = ps.length
  goes : ∀ (A : Around) (outer : List Env) (s : Shared) (H : Hp) (args : Args) (us : List Value) (vs : List V) (Q : VK) (E : XK), Room k A → A.guards = some [] → Env0 P w K mg base A outer s H → BindsTo s fd args (ps.zip us) → Vals vs us → sp vs H Q E →
    codeAny (model P w) A (.call (.ref f) args) (CR CX outer P w H s Q E) s
theorem FnG.of {P : Program} {w : World} {K : PySem.W.Frag} {mg : Str → Option Value} {base : Heap} {CX : CXT} {k : Nat} {f : Addr} {fd : FuncData} {ps : List Str} {sp : Sp} (F : FnOk P w K mg base CX k f fd ps sp) : FnG P w K mg base CX k f fd ps sp :=
  ⟨F.len, fun A outer s H args us vs Q E hr _ e b r h => F.run A outer s H args us vs Q E hr e b r h⟩
section
variable {X : Cx} {CX : CXT} {k : Nat} {f : Addr} {fd : FuncData} {ps : List Str} {sp : Sp} {E : XK} {x : Str} {p pos : Pos} {e : Expr} {es : List Expr} {t : TA}
theorem run_fnG {pins : List (Addr × Obj)} {σ : L2.St} {H : Hp} {s : Shared} {Q : VK} {us : List Value} {vs : List V} (F : FnG X.prog X.w X.K X.mg X.base CX k f fd ps sp) (hr : Room k X.A) (hg : X.A.guards = some []) (hb : Binds X.K fd ps []) (hx : Passes CX X E)
    (I : Inv X pins σ H s) (r : Vals vs us) (h : sp vs H Q E) : wpAny (model X.prog X.w) X.A (call (.ref f) us) (EP X pins σ Q) X.xe s := by
  have hl : us.length = ps.length := r.length.symm.trans (F.size _ _ _ _ h)
  have bb := hb s us I.kIn (by rw [List.append_nil]; exact hl)
  rw [List.append_nil] at bb
  refine wpAny_call (codeAny_mono (F.goes X.A X.stack s H ⟨us, []⟩ us vs Q E hr hg I.env0 bb r h) fun o s2 end_ => ?_)
  cases o with
  | error er => exact hx pins σ H s er s2 I end_
  | ok fl =>
    cases fl with
    | ret u => exact I.after end_
    | next => exact False.elim end_
    | brk => exact False.elim end_
    | cont => exact False.elim end_
/-- a def of which FnG is known -/
def HasFnG (P : Program) (w : World) (K : PySem.W.Frag) (mg : Str → Option Value) (base : Heap) (CX : CXT) (k : Nat) (x : Str) (ps : List Str) (sp : Sp) : Prop :=
  ∃ (f : Addr) (fd : FuncData), FnG P w K mg base CX k f fd ps sp ∧ mg x = some (.ref f) ∧ PySem.W.keepIn K (.ref f) = true ∧ Binds K fd ps []
theorem pe_fnG (h : HasFnG X.prog X.w X.K X.mg X.base CX k x ps sp) (hr : Room k X.A) (hgd : X.A.guards = some []) (hx : Passes CX X E) (ha : PA X (e :: es) t) (hg : Gl X x := by rfl) (hdb : (x == ("__debug__" : Str)) = false := by decide)
    (he : starEach (e :: es) X.env = (false, eval e X.env) :: starEach es X.env := by rfl) (hpl : (backTo pos (starEach es X.env)).any (·.1) = false := by rfl) : PE X (.Call (.Name x p) (e :: es) [] pos) (tCall sp [] E t) := by
  obtain ⟨f, fd, F, hm, hk, hb⟩ := h
  refine ⟨fun pins s σ H Q I hw => wpAny_Call_Name_kw (ld_glob I hg hm (PySem.W.callWith_K (h₀ := X.base) I.ok.mod.kin hk (thn (ha.run pos pins s σ H _ I hw) fun us s1 ⟨vs, H1, I1, r, q⟩ => ⟨I1.kIn, ?_⟩) he hpl) hdb)⟩
  exact run_fnG F hr hgd hb hx I1 r (by have q' : sp (vs ++ []) H1 Q E := q; rw [List.append_nil] at q'; exact q')
end
/-- a def as it stands keeps FnG: its body is read with the guards known -/
theorem okG {P : Program} {w : World} {K : PySem.W.Frag} {mg : Str → Option Value} {base : Heap} {x qual : Str} {st : Stmt} {f : Addr} {fd : FuncData} {N ps : List Str} {k : Nat} {sp : Sp} (F : Fun K x qual st f fd) (S : FnScope N ps (defScope st)) (len : ∀ vs H Q E, sp vs H Q E → vs.length = ps.length)
    (hbody : ∀ (cdv : Value) (A : Around) (outer : List Env) (s : Shared) (H : Hp) (vs : List V) (Q : VK) (E : XK), Room k (A.deeper (envOfC qual (defScope st) s.heap.objs.size f cdv)) → A.guards = some [] → sp vs H Q E →
      ∃ t, PSs (cxOf CX0 P w K mg base N qual (defScope st) f cdv A outer s H E).nox (defBody st) t ∧ t { nx := fun _ H' => Q .non H', rt := Q } (start N vs) H) : FnG P w K mg base CX0 (k + 1) f fd ps sp := by
  obtain ⟨oc, od, kV, doc, pm, an, cdv, ct, osl, rfl, lk, hcd⟩ := F.ex
  refine ⟨len, fun A outer s H args us vs Q E hr hg e0 hb r hsp => ?_⟩
  have nn := len _ _ _ _ hsp
  have up : ∀ b o, base.get? b = some o → s.heap.get? b = some o := fun b o e => (e0.bs b o e).1
  have KX : K.In s.heap := e0.mod.kin.keeps up
  refine codeAny_call_function hr.depth (KX _ _ lk) rfl S.co S.gen rfl (PySem.W.codeRec_of KX hcd) (hb _ _ _ _ ?_)
  refine wpAny_newFunctionEnv_cells S.kind (fun y hy => (S.par y.1 (List.of_mem_zip (a := y.1) (b := y.2) hy).1).imp id fun q => ⟨q, PySem.W.cellsFrom_some _ _ _ (.inl q)⟩) fun env he s1 sb => ?_
  subst he
  refine ⟨(e0.mod.nolimit.keeps up).keeps sb.toInCall.keep, codeAny_func ?_⟩
  obtain ⟨t, body, reading⟩ := hbody cdv A outer s H vs Q E (hr.deeper _) hg hsp
  have I := inv_start (CX := CX0) (mg := mg) (E := E) S hr.hd e0 nn r sb
  refine wpAny_mono (body.nox.run [] s1 (start N vs) H _ I reading) (fun fl s2 z => ?_) fun _ _ z => z
  cases fl with
  | brk => exact False.elim (let ⟨_, _, _, q⟩ := z; q)
  | cont => exact False.elim (let ⟨_, _, _, q⟩ := z; q)
  | next =>
    obtain ⟨σ2, H2, J, q⟩ := z
    exact ⟨V.non, H2, J.os, J.bare, J.base, J.hok, rfl, q⟩
  | ret u =>
    obtain ⟨v, σ2, H2, J, rv, q⟩ := z
    exact ⟨v, H2, J.os, J.bare, J.base, J.hok, rv, q⟩
end LB

namespace LB
open PySem L2 PySem.Spec PyProof.Rows
/-! ### the law's head, from a promise whose guards are known -/
/-- the call of the law at a heap H in which at most the script is tracked -/
theorem head_core {P : Program} {w : World} {K : PySem.W.Frag} {mg mb : Str → Option Value} {k : Nat} {fa a : Addr} {fd : FuncData} {x : Str} {sp : Sp} {s1 : Shared} {vs : List Value} {H : Hp}
    (kin : K.In s1.heap) (gl : s1.heap.Ns mainGlobals mg) (bl : s1.heap.Ns builtinsNs mb) (bb : ∀ y : Str, y ≠ "__name__" → mb y = bootBuiltins y) (nolim : s1.heap.NoLimit) (gens : s1.gens = #[]) (room : Room k callerA)
    (script : s1.heap.get? a = some { cls := .type "list", data := .seq vs.toArray })
    (F : ∀ base : Heap, K.In base → base.Ns mainGlobals mg → FnG P w K mg base CX0 k fa fd [x] sp) (binds : ∀ (s : Shared) (u : Value), BindsTo s fd ⟨[u], []⟩ [(x, u)])
    (only : Only H) (promise : sp [.ref a] H (fun v _ => v = .bl true) E0) (ok : HOk P w H s1.heap) (track : ∀ b, H b ≠ none → b = a) (free : H a ≠ none → K.lookup a = none) :
    codeAny (model P w) callerA (.call (.ref fa) ⟨[.ref a], []⟩) (fun r s' => r = .ok (.ret (.bool true)) ∧ OldK s1.heap s'.heap ∧ s'.os = s1.os ∧ AllBare s'.gens) s1 := by
  have un : ∀ {b}, b ≠ a → H b = none := fun {b} n => Classical.byContradiction fun z => n (track b z)
  have hid : ∀ {b o}, s1.heap.get? b = some o → H b = none → (hidT s1.heap H).get? b = some o := fun e n => hidT_get e n
  have ns : ∀ {b : Addr} {m : Str → Option Value}, s1.heap.Ns b m → (hidT s1.heap H).Ns b m := fun {b m} ⟨o, es, ep, e, d, r⟩ =>
    ⟨o, es, ep, hid e (un fun z => by rw [z, script] at e; cases e; cases (show Data.seq vs.toArray _ = Data.dict es ep from d)), d, r⟩
  have kb : K.In (hidT s1.heap H) := fun b o e => hid (kin b o e) (Classical.byContradiction fun z => by
    have eb := track b z
    rw [eb] at z e
    rw [free z] at e
    cases e)
  have md : Mod K mg (hidT s1.heap H) := ⟨kb, ns gl, ⟨mb, ns bl, bb⟩, let ⟨mc, q1, q2⟩ := nolim; ⟨mc, ns q1, q2⟩⟩
  have env : Env0 P w K mg (hidT s1.heap H) callerA [] s1 H := ⟨rfl, md, fun b o e => of_hidT e, Nat.le_of_eq (hidT_size _ _), trivial, fun b hb => (List.not_mem_nil hb).elim, ok, .of_eq gens⟩
  have go := (F _ kb (ns gl)).goes callerA [] s1 H ⟨[.ref a], []⟩ [.ref a] [.ref a] _ _ room rfl env (binds s1 (.ref a)) (.cons rfl .nil) promise
  refine codeAny_mono go fun r s' z => ?_
  match r, z with
  | .error e, z => exact z.elim
  | .ok .next, z => exact False.elim z
  | .ok .brk, z => exact False.elim z
  | .ok .cont, z => exact False.elim z
  | .ok (.ret u), z =>
    obtain ⟨v, H', os, bare, base, ok', rv, rfl⟩ := z
    obtain rfl : u = Value.bool true := rv
    refine ⟨rfl, OldK.of_keep fun b o e => ?_, os, bare⟩
    rcases only b with n | ⟨ob, xs, n⟩
    · exact base.keep b o e n (fun z => List.not_mem_nil z) (by simp)
    · obtain ⟨e1, _⟩ := ok b _ n
      obtain ⟨e2, _⟩ := ok' b _ (base.frzs b ob _ n)
      rw [e] at e1
      cases e1
      exact e2
/-- .. at the heap behind the top: the script is tracked, or it is an object of the module -/
theorem head_call {P : Program} {w : World} {K : PySem.W.Frag} {mg mb : Str → Option Value} {k : Nat} {fa a : Addr} {fd : FuncData} {x : Str} {sp : Sp} {s1 : Shared} {vs : List Value} {ns : List Int}
    (kin : K.In s1.heap) (gl : s1.heap.Ns mainGlobals mg) (bl : s1.heap.Ns builtinsNs mb) (bb : ∀ y : Str, y ≠ "__name__" → mb y = bootBuiltins y) (nolim : s1.heap.NoLimit) (gens : s1.gens = #[]) (room : Room k callerA)
    (script : s1.heap.get? a = some { cls := .type "list", data := .seq vs.toArray }) (are : IntsAre vs ns) (few : ns.length ≤ sizeLine)
    (F : ∀ base : Heap, K.In base → base.Ns mainGlobals mg → FnG P w K mg base CX0 k fa fd [x] sp) (binds : ∀ (s : Shared) (u : Value), BindsTo s fd ⟨[u], []⟩ [(x, u)])
    (promise : ∀ H : Hp, Only H → SqL K H a (ns.map V.int) → sp [.ref a] H (fun v _ => v = .bl true) E0) :
    codeAny (model P w) callerA (.call (.ref fa) ⟨[.ref a], []⟩) (fun r s' => r = .ok (.ret (.bool true)) ∧ OldK s1.heap s'.heap ∧ s'.os = s1.os ∧ AllBare s'.gens) s1 := by
  have rv := vals_ints are
  by_cases hk : K.lookup a = none
  · let H : Hp := fun b => if b = a then some (.frz { cls := .type "list", data := .seq vs.toArray } (.lst (ns.map V.int))) else none
    have at_ : H a = some (.frz { cls := .type "list", data := .seq vs.toArray } (.lst (ns.map V.int))) := if_pos rfl
    have else_ : ∀ {b}, b ≠ a → H b = none := fun n => if_neg n
    have only : Only H := fun b => by
      by_cases e : b = a
      · rw [e]; exact .inr ⟨_, _, at_⟩
      · exact .inl (else_ e)
    refine head_core kin gl bl bb nolim gens room script F binds only (promise H only (.inl (.inr ⟨_, at_⟩))) (fun b u e => ?_) (fun b n => Classical.byContradiction fun z => n (else_ z)) fun _ => hk
    by_cases eb : b = a
    · subst eb
      rw [at_] at e
      cases e
      exact ⟨script, by rw [List.length_map]; exact few, vs, _, rv, script⟩
    · rw [else_ eb] at e
      cases e
  · obtain ⟨o, ho⟩ := Option.ne_none_iff_exists'.mp hk
    have e := kin a o ho
    rw [script] at e
    cases e
    have only : Only fun _ => none := fun _ => .inl rfl
    exact head_core kin gl bl bb nolim gens room script F binds only (promise _ only (.inr ⟨_, vs.toArray, _, ho, rfl, rfl, rfl, by rw [List.size_toArray, are.length]; exact few, by simpa using rv⟩)) (fun b u z => by cases z) (fun b z => absurd rfl z) fun z => absurd rfl z
/-- the goal that k_head leaves, from a promise whose guards are known -/
theorem walk_ofG {l : PySem.W.OpenLaw} {n k : Nat} {q : Program} {loose : List Str} {XP : (Str → Option Value) → Heap → Prop} {YP : World → Heap → Prop} {d : DefRec} {K : Params → PySem.W.Frag} {sp : World → Sp} {x : Str}
    (most : l.most = some n) (few : n ≤ sizeLine) (plain : d.params.defaults = []) (room : Room k callerA) (kin : ∀ (w : World) (h : Heap), YP w h → (K w.params).In h)
    (F : ∀ (w : World) (mg : Str → Option Value) (fa : Addr) (h : Heap), (K w.params).In h → h.Ns mainGlobals mg → mg d.name = some (.ref fa) →
      ∃ fd : FuncData, (∀ (s : Shared) (u : Value), BindsTo s fd ⟨[u], []⟩ [(x, u)]) ∧ ∀ base : Heap, (K w.params).In base → base.Ns mainGlobals mg → FnG l.prog w (K w.params) mg base CX0 k fa fd [x] (sp w))
    (promise : ∀ (w : World) (H : Hp) (a : Addr) (ns : List Int), ns.length ≤ n → Only H → SqL (K w.params) H a (ns.map V.int) → sp w [.ref a] H (fun v _ => v = .bl true) E0) :
    PySem.W.WalkO q loose XP YP l.row.toRowW d [] (fun f vs => PySem.call f vs) :=
  Att.attach_call most plain fun w s0 s1 mg mb fa o pm cd doc a vs ns G Y ho hd hcd hmg hobj hints hlen hg => by
    obtain ⟨fd, hb, hF⟩ := F w mg fa _ (kin w _ Y) G.T.g hmg
    exact head_call (kin w _ Y) G.T.g G.T.b G.T.builtins G.T.nolimit hg room hobj hints (Nat.le_trans hlen few) hF hb fun H hO hS => promise w H a ns hlen hO hS
end LB

namespace LB
open PySem L2 PySem.Spec PyProof.Rows
/-! ### what k01 and k04 still ask -/
theorem passC {X : Cx} : Passes (L2.CX X.prog X.w) X E0 := fun _ _ _ _ _ _ _ h => let ⟨_, _, _, _, _, _, _, _, _, _, _, _, e⟩ := h; e.elim
section
variable {X : Cx}
/-- repr of a bool -/
theorem call_repr_bl : CallR X (.builtin "repr") (fun xs H Q => ∃ b : Bool, xs = [.bl b] ∧ Q (.str (if b then "True" else "False")) H) := by
  intro pins s σ H xs us Q I r h
  obtain ⟨b, rfl, q⟩ := h
  obtain ⟨u, rfl, ru⟩ := vals1 r
  cases ru
  exact PySem.P.repr_of_bool ⟨.str _, H, I.tok _, ⟨_, rfl⟩, q⟩
/-- an instance with its own == against a text or None -/
theorem op_eqOwnX {CX : CXT} {k : Nat} {f C : Addr} {fd : FuncData} {ps : List Str} {sp : Sp} {E : XK} (F : FnOk X.prog X.w X.K X.mg X.base CX k f fd ps sp) (hr : Room k X.A) (hb : Binds X.K fd ps []) (hx : Passes CX X E) (ho : Own X.K C f "__eq__")
    (ns : PySem.W.notFirst X.K C (.type "str") = true) (nn : PySem.W.notFirst X.K C (.type "NoneType") = true) :
    OpR X (compareOp .Eq) (fun x y H Q => ∃ a dx fs, x = .ref a ∧ H a = some (.ins C dx fs) ∧ ((∃ z, y = .str z) ∨ y = .non) ∧ sp [x, y] H Q E) := by
  intro pins s σ H x y v u Q I rx ry hq
  obtain ⟨a, dx, fs, rfl, ha, hy, h⟩ := hq
  cases rx
  obtain ⟨od, J⟩ := inst_of I ha
  obtain ⟨m, hF⟩ := I.fr
  show wpAny (model X.prog X.w) X.A (richCompare .Eq (.ref a) u) (EP X pins σ Q) X.xe s
  rcases hy with ⟨z, rfl⟩ | rfl
  · obtain ⟨t, rfl⟩ := ry
    refine PySem.W.cmp_K (op := .Eq) (tb := .type "str") hr.units0 hF I.ok.mod.kin J (PySem.W.Looks.of_pure rfl) ns ho.at_ ho.fn (thn ?_ fun _ _ z => cmpBack_of z)
    exact run_fn (us := [.ref a, .str z t]) (vs := [.ref a, .str z]) (dvs := []) (ds := []) F hr hb .nil hx I (.cons rfl (.cons ⟨t, rfl⟩ .nil)) h
  · cases ry
    refine PySem.W.cmp_K (op := .Eq) (tb := .type "NoneType") hr.units0 hF I.ok.mod.kin J (PySem.W.Looks.of_pure rfl) nn ho.at_ ho.fn (thn ?_ fun _ _ z => cmpBack_of z)
    exact run_fn (us := [.ref a, .none]) (vs := [.ref a, .non]) (dvs := []) (ds := []) F hr hb .nil hx I (.cons rfl (.cons rfl .nil)) h
/-- (x,) != (x,), x a scalar or an object -/
theorem op_neT1 (hu : X.A.units + 64 < cLine) : OpR X (compareOp .NotEq) (fun x y H Q => ∃ a b z, x = .ref a ∧ y = .ref b ∧ SqT X.K H a [z] ∧ SqT X.K H b [z] ∧ (flatV z = true ∨ ∃ c, z = .ref c) ∧ Q (.bl false) H) := by
  intro pins s σ H x y v u Q I rx ry hq
  obtain ⟨a, b, z, rfl, rfl, ha, hb, hz, q⟩ := hq
  cases rx
  cases ry
  obtain ⟨its, r, e, _⟩ := I.tuple ha
  obtain ⟨its2, r2, e2, _⟩ := I.tuple hb
  obtain ⟨u1, rfl, ru1⟩ := vals1 r
  obtain ⟨u2, rfl, ru2⟩ := vals1 r2
  have he : SeqAt.EqAt X.A.in1 s u1 u2 true := by
    rcases hz with f | ⟨c, rfl⟩
    · have := eqAt_V (A := X.A.in1) (s := s) ru1 ru2 f f
      rw [eqV_refl f] at this
      exact this
    · cases ru1
      cases ru2
      exact SeqAt.EqAt.same _
  refine SeqAt.RcNeAt.tuples e e2 (by omega) (e := fun _ => true) (fun j h1 h2 => ?_) X.prog X.w X.xe _ ?_
  · have : j = 0 := by
      have : j < 1 := h1
      omega
    subst this
    exact he
  · exact ⟨.bl false, H, I, rfl, q⟩
end
/-- a class whose __init__ keeps a promise, made with keywords alone -/
def HasMkK (P : Program) (w : World) (K : PySem.W.Frag) (mg : Str → Option Value) (base : Heap) (CX : CXT) (k : Nat) (C : Addr) (x : Str) (ps ks : List Str) (g : List Value → List Value → List Value) (gV : List V → List V → List V) (sp : Sp) : Prop :=
  ∃ (f : Addr) (fd : FuncData), FnOk P w K mg base CX k f fd ps sp ∧ Mk K C f ∧ mg x = some (.ref C) ∧ KBn K fd ps 1 ks g gV
section
variable {X : Cx} {CX : CXT} {k : Nat} {C : Addr} {ps ks : List Str} {sp : Sp} {E : XK} {x : Str} {p pos : Pos} {kws : List Keyword} {tk : TA} {g : List Value → List Value → List Value} {gV : List V → List V → List V}
theorem pe_mkK0 (h : HasMkK X.prog X.w X.K X.mg X.base CX k C x ps ks g gV sp) (hr : Room (k + 1) X.A) (hx : Passes CX X E) (hkw : PK X kws tk) (hg : Gl X x := by rfl)
    (hall : (backToKw pos (keywordEach kws X.env)).all (·.1.isSome) = true := by rfl) (hks : (backToKw pos (keywordEach kws X.env)).filterMap (·.1) = ks := by rfl) (hdb : (x == ("__debug__" : Str)) = false := by decide)
    (hpl : ((backTo pos (starEach [] X.env)).any (·.1) || (backToKw pos (keywordEach kws X.env)).any (·.1.isNone)) = false := by rfl) :
    PE X (.Call (.Name x p) [] kws pos) (tMakeK C 0 ks.length sp gV E tNil tk) := by
  obtain ⟨f, fd, F, M, hm, hb⟩ := h
  exact pe_makeK0 M F hr hg hm hb hx hkw hall hks hdb hpl
end
/-! ### text[::-1] -/
def revS (z : Str) : Str := ⟨z.cps.toList.reverse.toArray⟩
theorem rev_indices (n : Nat) : Builtin.Str.strSliceIndices none none (-1) n = (List.range n).reverse := by
  show PySem.sliceRange ((n : Int) - 1) (-1) (-1) = _
  rw [PySem.W.krv_sliceRange, PySem.W.krv_range]
theorem rev_pick (z : Str) : (⟨((Builtin.Str.strSliceIndices none none (-1) z.length).filterMap (z.cps[·]?)).toArray⟩ : Str) = revS z := by
  unfold revS
  show (⟨((Builtin.Str.strSliceIndices none none (-1) z.cps.size).filterMap (z.cps[·]?)).toArray⟩ : Str) = _
  rw [rev_indices, List.filterMap_reverse, PySem.W.krv_all]
def tRevS (te : TE) : TE := fun σ H Q => te σ H fun x H1 => ∃ z : Str, x = .str z ∧ z.length ≤ sizeLine ∧ Q (.str (revS z)) H1
theorem pe_revS {X : Cx} {e : Expr} {te : TE} {k : Nat} {p1 p2 p3 pos : Pos} (he : PE X e te) : PE X (.Subscript e (.Slice none none (some (.UnaryOp .USub (.Constant (.int 1) k p1) p2)) p3) pos) (tRevS te) := by
  refine ⟨fun pins s σ H Q I h => ?_⟩
  refine Subscript_ (thn (he.run pins s σ H _ I h) fun v s1 ⟨x, H1, I1, r1, q1⟩ => ?_)
  obtain ⟨z, ex, hz, q⟩ := q1
  subst ex
  obtain ⟨tz, rfl⟩ := r1
  have hst : PO X (some (.UnaryOp .USub (.Constant (.int 1) k p1) p2)) (tPart (tUn (rU fun i => .int (-i)) (tC (.int 1)))) := po_some (pe_un un_neg pe_int)
  refine wpAny_Slice (thn (po_none.run pins s1 σ H1 (fun o H2 => o = none ∧ H2 = H1) I1 ⟨rfl, rfl⟩) fun vl s2 ⟨l, H2, I2, pl, el, e2⟩ => ?_)
  subst el e2
  refine thn (po_none.run pins s2 σ H2 (fun o H3 => o = none ∧ H3 = H2) I2 ⟨rfl, rfl⟩) fun vu s3 ⟨u, H3, I3, pu, eu, e3⟩ => ?_
  subst eu e3
  refine thn (hst.run pins s3 σ H3 (fun o H4 => o = some (-1) ∧ H4 = H3) I3 ⟨1, rfl, -1, rfl, rfl, rfl⟩) fun vs s4 ⟨o, H4, I4, ps, eo, e4⟩ => ?_
  subst eo e4
  have I5 : Inv X pins σ H4 { s4 with heap := s4.heap.push { cls := .type "slice", data := .fields #[vl, vu, vs] } } := I4.kept (t' := s4.toks) fun b ob q => Heap.get?_push_of_some _ q
  obtain ⟨l, rfl, hl⟩ := IsPart.raw pl
  obtain ⟨u, rfl, hu⟩ := IsPart.raw pu
  obtain ⟨st, rfl, hs⟩ := IsPart.raw ps
  obtain ⟨ts, rfl⟩ : ∃ ts, st = some (-1, ts) := by
    rcases st with _ | ⟨i, ts⟩
    · cases hs
    · obtain rfl : i = -1 := by injection hs
      exact ⟨ts, rfl⟩
  have el : l = none := by cases l <;> first | rfl | cases hl
  have eu : u = none := by cases u <;> first | rfl | cases hu
  subst el eu
  show wpAny (model X.prog X.w) X.A (subscriptTail e (.Slice none none (some (.UnaryOp .USub (.Constant (.int 1) k p1) p2)) p3) (.str z tz) (.ref s4.heap.objs.size)) (EP X pins σ Q) X.xe _
  refine tail_any (ops := [.str z tz, .ref s4.heap.objs.size]) (typeIs_str _ _ _) (F.slot_str_getitem.lookup) ?_ (by with_unfolding_all rfl)
  refine wpAny_getItem_str_slice (l := none) (u := none) (st := some (-1, ts)) ⟨_, Heap.get?_push_size _ rfl, rfl, rfl⟩ rfl ?_
  show Made.post (if ((-1 : Int) == 1 && (Builtin.Str.strSliceIndices none none (-1) z.length).length == z.length) = true then Made.val (.str z tz)
    else Made.str ⟨((Builtin.Str.strSliceIndices none none (-1) z.length).filterMap (z.cps[·]?)).toArray⟩) (EP X pins σ Q) _
  rw [if_neg (by simp), rev_pick]
  refine ⟨?_, .str _, H4, I5.tok _, ⟨_, rfl⟩, q⟩
  show (z.cps.toList.reverse.toArray).size ≤ sizeLine
  have : z.cps.size ≤ sizeLine := hz
  simpa using this
end LB

namespace LB
open PySem L2 PySem.Spec PyProof.Rows
/-! ### own methods under special names, from HasMe -/
section
variable {X : Cx} {CX : CXT} {k : Nat} {C : Addr} {ps : List Str} {sp : Sp} {E : XK}
theorem call_lenMe (h : HasMe X.prog X.w X.K X.mg X.base CX k C "__len__" ps sp) (hr : Room (k + 1) X.A) (hx : Passes CX X E) :
    CallR X (.builtin "len") (fun xs H Q => ∃ a dx fs, xs = [.ref a] ∧ H a = some (.ins C dx fs) ∧ sp xs H (fun z H' => ∃ n : Int, z = .int n ∧ 0 ≤ n ∧ n < 2 ^ 63 ∧ Q (.int n) H') E) := by
  obtain ⟨f, fd, F, O, _, hb⟩ := h
  exact call_lenOwn F hr hb hx O
theorem op_inMe (h : HasMe X.prog X.w X.K X.mg X.base CX k C "__contains__" ps sp) (hr : Room k X.A) (hx : Passes CX X E) : OpR X (compareOp .In) (rIn C sp E id) := by
  obtain ⟨f, fd, F, O, _, hb⟩ := h
  exact op_inOwn F hr hb hx O
theorem op_notInMe (h : HasMe X.prog X.w X.K X.mg X.base CX k C "__contains__" ps sp) (hr : Room k X.A) (hx : Passes CX X E) : OpR X (compareOp .NotIn) (rIn C sp E not) := by
  obtain ⟨f, fd, F, O, _, hb⟩ := h
  exact op_notInOwn F hr hb hx O
theorem op_eqMe (h : HasMe X.prog X.w X.K X.mg X.base CX k C "__eq__" ps sp) (hr : Room k X.A) (hx : Passes CX X E) : OpR X (compareOp .Eq) (rOwn2 C C sp E) := by
  obtain ⟨f, fd, F, O, _, hb⟩ := h
  exact op_eqOwn F hr hb hx O
theorem op_eqMeX (h : HasMe X.prog X.w X.K X.mg X.base CX k C "__eq__" ps sp) (hr : Room k X.A) (hx : Passes CX X E) (ns : PySem.W.notFirst X.K C (.type "str") = true) (nn : PySem.W.notFirst X.K C (.type "NoneType") = true) :
    OpR X (compareOp .Eq) (fun x y H Q => ∃ a dx fs, x = .ref a ∧ H a = some (.ins C dx fs) ∧ ((∃ z, y = .str z) ∨ y = .non) ∧ sp [x, y] H Q E) := by
  obtain ⟨f, fd, F, O, _, hb⟩ := h
  exact op_eqOwnX F hr hb hx O ns nn
theorem op_neMe (h : HasMe X.prog X.w X.K X.mg X.base CX k C "__eq__" ps sp) (hr : Room (k + 1) X.A) (hx : Passes CX X E) (hn : NeOwn X.K C) :
    OpR X (compareOp .NotEq) (fun x y H Q => ∃ a b dx dy fs gs, x = .ref a ∧ y = .ref b ∧ H a = some (.ins C dx fs) ∧ H b = some (.ins C dy gs) ∧ sp [x, y] H (fun z H' => ∃ c, z = .bl c ∧ Q (.bl (!c)) H') E) := by
  obtain ⟨f, fd, F, O, _, hb⟩ := h
  exact op_neOwn F hr hb hx O hn
end
/-- for over a text -/
theorem for_str {x : Str} {g : TG} {tb : TS} {D : Ends} {σ : L2.St} {H : Hp} (Pv : Nat → L2.St → Hp → Prop) (h0 : Pv 0 σ H)
    (hs : ∀ (i : Nat) (c : Nat) σ H, x.cps[i]? = some c → Pv i σ H → g (.str ⟨#[c]⟩) σ H fun σ2 H2 => tb { D with nx := Pv (i + 1), ct := Pv (i + 1), bk := D.nx } σ2 H2) (hd : ∀ σ H, Pv x.cps.size σ H → D.nx σ H) :
    ∃ W : Nat → Nat → L2.St → Hp → Prop, (∃ m, W 0 m σ H) ∧ ∀ i m σ H, W i m σ H →
      ((Its x).stop i H ∧ D.nx σ H) ∨ ((Its x).go i H ∧ ∃ N : L2.St → Hp → Prop, (∀ σ' H', N σ' H' → ∃ m', m' < m ∧ W (i + 1) m' σ' H') ∧ ∀ v H', (Its x).yld i H v H' → g v σ H' fun σ2 H2 => tb { D with nx := N, ct := N, bk := D.nx } σ2 H2) := by
  refine ⟨fun i m σ H => m = x.cps.size - i ∧ i ≤ x.cps.size ∧ Pv i σ H, ⟨x.cps.size, by simp, Nat.zero_le _, h0⟩, ?_⟩
  rintro i m σ H ⟨rfl, hi, p⟩
  by_cases hlt : i < x.cps.size
  · refine .inr ⟨hlt, Pv (i + 1), fun σ' H' p' => ⟨x.cps.size - (i + 1), by omega, rfl, hlt, p'⟩, fun v H' y => ?_⟩
    obtain ⟨e, c, hc, ev⟩ := y
    subst e ev
    exact hs i c σ _ hc p
  · have e : i = x.cps.size := by omega
    subst e
    exact .inl ⟨Nat.le_refl _, hd σ H p⟩
/-! ### how long a repr is -/
theorem repr_len {z : Str} (h : PyData.strOk z = true) : (reprText z).length ≤ 10 * z.length + 2 := StrLaws.reprText_len z fun c hc => by
  unfold PyData.strOk at h
  rw [← Array.all_toList, List.all_eq_true] at h
  have := h c hc
  have : c < 1114112 := by simpa using this
  exact Nat.lt_of_lt_of_le this (by decide)
theorem dig1_len (n : Nat) (h : n < 10) : ((toString (n : Int) : String) : Str).length = 1 := by
  match n, h with
  | 0, _ => rfl
  | 1, _ => rfl
  | 2, _ => rfl
  | 3, _ => rfl
  | 4, _ => rfl
  | 5, _ => rfl
  | 6, _ => rfl
  | 7, _ => rfl
  | 8, _ => rfl
  | 9, _ => rfl
end LB

namespace LB
open PySem L2 PySem.Spec PyProof.Rows
/-! ### from facts of the written part to what the defs promise -/
def FnX (K : PySem.W.Frag) (f : Addr) (x qual : Str) (st : Stmt) : Prop := (∃ (oc : Value) (od : Option Addr) (kV dc pm : Value) (an : Option Addr) (cd ct : Value) (sl : Array (Option Value)),
  K.lookup f = some ⟨oc, od, .func (PySem.W.fnOf x qual (defArgs st) (defBody st) (defScope st) .none kV dc pm an cd ct), sl⟩ ∧ PySem.W.codeIn K cd qual = true) ∧ PySem.W.keepIn K (.ref f) = true
theorem FnX.mk {K : PySem.W.Frag} {f : Addr} {x qual : Str} {st : Stmt} {oc : Value} {od : Option Addr} {kV dc pm : Value} {an : Option Addr} {cd ct : Value} {sl : Array (Option Value)}
    (l : K.lookup f = some ⟨oc, od, .func (PySem.W.fnOf x qual (defArgs st) (defBody st) (defScope st) .none kV dc pm an cd ct), sl⟩) (c : PySem.W.codeIn K cd qual = true) (k : PySem.W.keepIn K (.ref f) = true) : FnX K f x qual st := ⟨⟨_, _, _, _, _, _, _, _, _, l, c⟩, k⟩
def MostX (K : PySem.W.Frag) (CV : Addr) : Prop := ∃ t, PySem.W.findCls K (.ref CV) (.type "type") "MOST" = some (.val (.int 4 t))
theorem MostX.mk {K : PySem.W.Frag} {CV : Addr} {t : Tok} (h : PySem.W.findCls K (.ref CV) (.type "type") "MOST" = some (.val (.int 4 t))) : MostX K CV := ⟨t, h⟩
def TextX (K : PySem.W.Frag) (n z0 : Str) : Prop := ∃ z t, PySem.W.nsIn K mainGlobals n = some (some (.str z t)) ∧ z = z0
theorem TextX.mk {K : PySem.W.Frag} {n z0 z : Str} {t : Tok} (h : PySem.W.nsIn K mainGlobals n = some (some (.str z t))) (e : z = z0) : TextX K n z0 := ⟨z, t, h, e⟩
def RecX (K : PySem.W.Frag) (p g : Addr) : Prop := ∃ rest, PySem.W.recIn K p "property" = some (.ref g :: rest)
theorem RecX.mk {K : PySem.W.Frag} {p g : Addr} {rest : List Value} (h : PySem.W.recIn K p "property" = some (.ref g :: rest)) : RecX K p g := ⟨rest, h⟩
theorem ExX.mk {K : PySem.W.Frag} {C : Addr} {nm q : Str} {N : Addr} {bs bm : List Value} {sn : List Str} {sub : List Value} {ab : Bool} {col : Option Bool} {dd : Option Addr} {k0 k1 k2 k3 k5 : Option Value}
    (hg : PySem.W.findIn K (.ref C) "__getattribute__" = some (some (.builtin "BaseException.__getattribute__")))
    (hk : PySem.W.findIn K (.ref C) "__getattr__" = some none)
    (hs : PySem.W.subIn K (.ref C) (.type "BaseException") = some true)
    (hd : PySem.W.hasDictIn K C = true)
    (ha : PySem.W.findIn K (.ref C) "__class__" = some (some (.builtin "object.__class__")))
    (hn : PySem.W.specialIn K (.builtin "object.__class__") "__get__" = some (some (.builtin "getset_descriptor.__get__")))
    (ht : PySem.W.takesIn K (.builtin "object.__class__") = some true)
    (hm : PySem.W.mroIn K C (.type "object") = some true)
    (x1 : K.lookup C = some (excClassObj nm q C N bs bm true sn sub ab col dd k0 k1 k2 k3 k5 "ValueError.__new__")) (x2 : PySem.HandSPX.refsVE bm = true)
    (sa : PySem.W.findIn K (.ref C) "__setattr__" = some (some (.builtin "object.__setattr__"))) (e1 : PySem.W.subIn K (.ref C) (.type "BaseException") = some true) (e2 : PySem.W.typeIn K (.ref C) = some (.type "type")) (e3 : PySem.W.keepIn K (.ref C) = true) : ExK K C :=
  ⟨⟨hg, hk, hs, hd, ha, hn, ht, hm⟩, ⟨⟨_, _, _, _, _, _, _, _, _, _, _, _, _, _, _, x1, x2⟩, sa, e1, e2, e3⟩⟩
section
variable {P : Program} {w : World} {K : PySem.W.Frag} {mg : Str → Option Value} {base : Heap} {h : Heap} {CX : CXT}
theorem FnX.get {f : Addr} {x qual : Str} {st : Stmt} (F : FnX K f x qual st) : ∃ fd, Fun K x qual st f fd := let ⟨⟨_, _, _, _, _, _, _, _, _, l, c⟩, k⟩ := F; ⟨_, fun_mk l c k⟩
theorem FnX.kp {f : Addr} {x qual : Str} {st : Stmt} (F : FnX K f x qual st) : PySem.W.keepIn K (.ref f) = true := F.2
theorem has_fn {f : Addr} {x : Str} {st : Stmt} {ps : List Str} {k : Nat} {sp : Sp} (X : K.In h) (G : h.Ns mainGlobals mg) (a : PySem.W.nsIn K mainGlobals x = some (some (.ref f))) (F : FnX K f x x st)
    (hb : ∀ (kV doc pm : Value) (an : Option Addr) (cdv ct : Value) (us : List Value), us.length = ps.length → bindArgs (PySem.W.fnOf x x (defArgs st) (defBody st) (defScope st) .none kV doc pm an cdv ct) ⟨us, []⟩ = pure (ps.zip us))
    (ok : ∀ fd, Fun K x x st f fd → FnOk P w K mg base CX k f fd ps sp) : HasFn P w K mg base CX k x ps sp :=
  let ⟨fd, F'⟩ := F.get
  ⟨f, fd, ok fd F', PySem.W.mg_of X G a, F.kp, F'.binds hb⟩
theorem has_mk {C f : Addr} {x qual : Str} {st : Stmt} {ps : List Str} {k : Nat} {sp : Sp} (X : K.In h) (G : h.Ns mainGlobals mg) (g : PySem.W.nsIn K mainGlobals x = some (some (.ref C))) (a : PySem.W.findIn K (.ref C) "__init__" = some (some (.ref f)))
    (i : PySem.W.isFn K (.ref f) = true) (m : PySem.W.makesIn K C = true) (kc : PySem.W.keepIn K (.ref C) = true) (F : FnX K f "__init__" qual st)
    (hb : ∀ (kV doc pm : Value) (an : Option Addr) (cdv ct : Value) (us : List Value), us.length = ps.length → bindArgs (PySem.W.fnOf "__init__" qual (defArgs st) (defBody st) (defScope st) .none kV doc pm an cdv ct) ⟨us, []⟩ = pure (ps.zip us))
    (ok : ∀ fd, Fun K "__init__" qual st f fd → FnOk P w K mg base CX k f fd ps sp) : HasMk P w K mg base CX k C x ps sp :=
  let ⟨fd, F'⟩ := F.get
  ⟨f, fd, ok fd F', ⟨m, a, i, kc⟩, PySem.W.mg_of X G g, F'.binds hb⟩
theorem has_pr {C p f : Addr} {x qual : Str} {st : Stmt} {ps : List Str} {k : Nat} {sp : Sp} (q : PropOf K C x p f) (F : FnX K f x qual st)
    (hb : ∀ (kV doc pm : Value) (an : Option Addr) (cdv ct : Value) (us : List Value), us.length = ps.length → bindArgs (PySem.W.fnOf x qual (defArgs st) (defBody st) (defScope st) .none kV doc pm an cdv ct) ⟨us, []⟩ = pure (ps.zip us))
    (ok : ∀ fd, Fun K x qual st f fd → FnOk P w K mg base CX k f fd ps sp) : HasPr P w K mg base CX k C x ps sp :=
  let ⟨fd, F'⟩ := F.get
  ⟨p, f, fd, ok fd F', q, F'.binds hb⟩
theorem has_ex {C f : Addr} {x qual : Str} {st : Stmt} {ps ks : List Str} {b : Bool} {k : Nat} {sp : Sp} (X : K.In h) (G : h.Ns mainGlobals mg) (g : PySem.W.nsIn K mainGlobals x = some (some (.ref C))) (T : ExK K C) (a : PySem.W.findIn K (.ref C) "__init__" = some (some (.ref f)))
    (t : PySem.W.typeIn K (.ref f) = some (.type "function")) (F : FnX K f "__init__" qual st)
    (hb : ∀ (kV doc pm : Value) (an : Option Addr) (cdv ct : Value) (us : List Value), us.length = ps.length → bindArgs (PySem.W.fnOf "__init__" qual (defArgs st) (defBody st) (defScope st) .none kV doc pm an cdv ct) ⟨us, []⟩ = pure (ps.zip us))
    (hk : ∀ (kV doc pm : Value) (an : Option Addr) (cdv ct : Value) (self : Value) (ws : List Value), ws.length = ks.length → bindArgs (PySem.W.fnOf "__init__" qual (defArgs st) (defBody st) (defScope st) .none kV doc pm an cdv ct) ⟨[self], ks.zip ws⟩ = pure (ps.zip (self :: swapIf b ws)))
    (ok : ∀ fd, Fun K "__init__" qual st f fd → FnOk P w K mg base CX0 k f fd ps sp) : HasEx P w K mg base CX0 k C x ps sp ∧ HasExK P w K mg base CX0 k C x ps ks b sp := by
  obtain ⟨⟨oc, od, kV, dc, pm, an, cd, ct, sl, l, c⟩, kp⟩ := F
  have F' := fun_mk (st := st) l c kp
  exact ⟨⟨f, _, T.toOexC, a, t, ok _ F', PySem.W.mg_of X G g, fun us hl => hb kV dc pm an cd ct us hl, F'.binds hb⟩, ⟨f, _, T.toOexC, a, t, ok _ F', PySem.W.mg_of X G g, fun self ws hl => hk kV dc pm an cd ct self ws hl⟩⟩
theorem has_fnG {f : Addr} {x : Str} {st : Stmt} {ps : List Str} {k : Nat} {sp : Sp} (X : K.In h) (G : h.Ns mainGlobals mg) (a : PySem.W.nsIn K mainGlobals x = some (some (.ref f))) (F : FnX K f x x st)
    (hb : ∀ (kV doc pm : Value) (an : Option Addr) (cdv ct : Value) (us : List Value), us.length = ps.length → bindArgs (PySem.W.fnOf x x (defArgs st) (defBody st) (defScope st) .none kV doc pm an cdv ct) ⟨us, []⟩ = pure (ps.zip us))
    (ok : ∀ fd, Fun K x x st f fd → FnG P w K mg base CX k f fd ps sp) : HasFnG P w K mg base CX k x ps sp :=
  let ⟨fd, F'⟩ := F.get
  ⟨f, fd, ok fd F', PySem.W.mg_of X G a, F.kp, F'.binds hb⟩
theorem has_me {C f : Addr} {x qual : Str} {st : Stmt} {ps : List Str} {k : Nat} {sp : Sp} (a : PySem.W.findIn K (.ref C) x = some (some (.ref f))) (i : PySem.W.isFn K (.ref f) = true) (F : FnX K f x qual st)
    (hb : ∀ (kV doc pm : Value) (an : Option Addr) (cdv ct : Value) (us : List Value), us.length = ps.length → bindArgs (PySem.W.fnOf x qual (defArgs st) (defBody st) (defScope st) .none kV doc pm an cdv ct) ⟨us, []⟩ = pure (ps.zip us))
    (ok : ∀ fd, Fun K x qual st f fd → FnOk P w K mg base CX k f fd ps sp) : HasMe P w K mg base CX k C x ps sp :=
  let ⟨fd, F'⟩ := F.get
  ⟨f, fd, ok fd F', ⟨a, i⟩, F.kp, F'.binds hb⟩
/-- C(k = v, ..), all keywords in the parameters' order -/
theorem has_mkK {C f : Addr} {x qual : Str} {st : Stmt} {ps ks : List Str} {k : Nat} {sp : Sp} (X : K.In h) (G : h.Ns mainGlobals mg) (g : PySem.W.nsIn K mainGlobals x = some (some (.ref C))) (a : PySem.W.findIn K (.ref C) "__init__" = some (some (.ref f)))
    (i : PySem.W.isFn K (.ref f) = true) (m : PySem.W.makesIn K C = true) (kc : PySem.W.keepIn K (.ref C) = true) (F : FnX K f "__init__" qual st)
    (hb : ∀ (kV doc pm : Value) (an : Option Addr) (cdv ct : Value) (us ws : List Value), us.length = 1 → ws.length = ks.length → bindArgs (PySem.W.fnOf "__init__" qual (defArgs st) (defBody st) (defScope st) .none kV doc pm an cdv ct) ⟨us, ks.zip ws⟩ = pure (ps.zip (us ++ ws)))
    (ok : ∀ fd, Fun K "__init__" qual st f fd → FnOk P w K mg base CX k f fd ps sp) : HasMkK P w K mg base CX k C x ps ks (fun us ws => us ++ ws) (fun vs zs => vs ++ zs) sp := by
  obtain ⟨fd, F'⟩ := F.get
  refine ⟨f, fd, ok fd F', ⟨m, a, i, kc⟩, PySem.W.mg_of X G g, ⟨fun s us ws _ h1 h2 => ?_, fun r1 r2 => r1.append r2⟩⟩
  obtain ⟨oc, od, kV, doc, pm, an, cdv, ct, osl, e1, e2, e3⟩ := F'.ex
  subst e1
  exact .of_eq (hb kV doc pm an cdv ct us ws h1 h2)
end
end LB

namespace LB
open PySem L2 PySem.Spec PyProof.Rows
/-! ### the law's head, from a promise whose guards are known, with tables of code objects -/
/-- tracked: the script, or nothing of it; empty tables -/
structure OnlyT (H : Hp) (a : Addr) (Ps : List Addr) : Prop where
  tab : ∀ p ∈ Ps, H p = some (.tbl #[])
  own : ∀ b, ¬ b ∈ Ps → H b = none ∨ b = a ∧ ∃ o xs, H b = some (.frz o (.lst xs))
theorem head_coreT {P : Program} {w : World} {K : PySem.W.Frag} {mg mb : Str → Option Value} {k : Nat} {fa a : Addr} {fd : FuncData} {x : Str} {sp : Sp} {s1 : Shared} {vs : List Value} {H : Hp} {cs : List (Addr × Addr)}
    (kin : K.In s1.heap) (gl : s1.heap.Ns mainGlobals mg) (bl : s1.heap.Ns builtinsNs mb) (bb : ∀ y : Str, y ≠ "__name__" → mb y = bootBuiltins y) (nolim : s1.heap.NoLimit) (gens : s1.gens = #[]) (room : Room k callerA)
    (script : s1.heap.get? a = some { cls := .type "list", data := .seq vs.toArray }) (void : ∀ p ∈ cs, s1.heap.get? p.2 = some { cls := .none, data := .fields #[] }) (off : ∀ p ∈ cs, K.lookup p.2 = none) (hds : ∀ p ∈ cs, PySem.W.CodeHd s1.heap p.1 p.2)
    (mod : ∃ (bm : Addr) (ob : Obj), mg "__builtins__" = some (.ref bm) ∧ bm ≠ builtinsNs ∧ s1.heap.get? bm = some ob ∧ ob.cls = .type "module" ∧ ob.dict = some builtinsNs ∧ ob.data = .plain)
    (F : ∀ base : Heap, K.In base → base.Ns mainGlobals mg → (∀ p ∈ cs, LamX.TabB base mg p.1 p.2) → FnG P w K mg base CX0 k fa fd [x] sp) (binds : ∀ (s : Shared) (u : Value), BindsTo s fd ⟨[u], []⟩ [(x, u)])
    (only : OnlyT H a (cs.map (·.2))) (promise : sp [.ref a] H (fun v _ => v = .bl true) E0) (ok : HOk P w H s1.heap) (free : H a ≠ none → K.lookup a = none) :
    codeAny (model P w) callerA (.call (.ref fa) ⟨[.ref a], []⟩) (fun r s' => r = .ok (.ret (.bool true)) ∧ OldK s1.heap s'.heap ∧ s'.os = s1.os ∧ AllBare s'.gens) s1 := by
  have tabs : ∀ {b}, b ∈ cs.map (·.2) → ∃ p ∈ cs, p.2 = b := fun {b} m => let ⟨p, h, e⟩ := List.mem_map.mp m; ⟨p, h, e⟩
  -- what is tracked is a list, or an empty table
  have kind : ∀ {b o}, s1.heap.get? b = some o → H b ≠ none → (b = a ∧ o.data = .seq vs.toArray) ∨ (b ∈ cs.map (·.2) ∧ o.data = .fields #[]) := fun {b o} e n => by
    by_cases m : b ∈ cs.map (·.2)
    · obtain ⟨p, h, rfl⟩ := tabs m
      have z := void p h
      rw [e] at z
      injection z with z
      exact .inr ⟨m, by rw [z]⟩
    · rcases only.own b m with z | ⟨rfl, _⟩
      · exact absurd z n
      · rw [script] at e
        injection e with e
        exact .inl ⟨rfl, by rw [← e]⟩
  have seen : ∀ {b o}, s1.heap.get? b = some o → (o.data ≠ .seq vs.toArray) → o.data ≠ .fields #[] → (hidT s1.heap H).get? b = some o := fun {b o} e n1 n2 => hidT_get e (Classical.byContradiction fun n => by
    rcases kind e n with ⟨_, z⟩ | ⟨_, z⟩
    · exact n1 z
    · exact n2 z)
  have spaces : ∀ {b : Addr} {m : Str → Option Value}, s1.heap.Ns b m → (hidT s1.heap H).Ns b m := fun {b m} ⟨o, es, ep, e, d, r⟩ => ⟨o, es, ep, seen e (fun z => by rw [d] at z; cases z) (fun z => by rw [d] at z; cases z), d, r⟩
  have kb : K.In (hidT s1.heap H) := fun b o e => hidT_get (kin b o e) (Classical.byContradiction fun n => by
    rcases kind (kin b o e) n with ⟨z, _⟩ | ⟨z, _⟩
    · subst z
      rw [free n] at e; cases e
    · obtain ⟨p, h, rfl⟩ := tabs z
      rw [off p h] at e; cases e)
  have md : Mod K mg (hidT s1.heap H) := ⟨kb, spaces gl, ⟨mb, spaces bl, bb⟩, let ⟨mc, q1, q2⟩ := nolim; ⟨mc, spaces q1, q2⟩⟩
  have made : ∀ p ∈ cs, LamX.TabB (hidT s1.heap H) mg p.1 p.2 := fun p h => by
    have obP := void p h
    obtain ⟨og, eg, pg, hg, dg, _⟩ := gl
    refine ⟨?_, ?_, fun z => by rw [z, obP] at hg; injection hg with hg; rw [← hg] at dg; cases dg⟩
    · obtain ⟨o, us, file, tf, flags, tg, inF, text, tt, e1, e2, e3, e4, e5⟩ := hds p h
      refine ⟨o, us, file, tf, flags, tg, inF, text, tt, seen e1 (fun z => by rw [e3] at z; cases z) (fun z => ?_), e2, e3, e4, e5⟩
      rw [e3] at z
      injection z with z
      rw [z] at e4
      simp at e4
    · obtain ⟨bm, ob, b1, b2, b3, b4, b5, b6⟩ := mod
      refine ⟨bm, ob, b1, b2, fun z => ?_, fun z => ?_, seen b3 (fun z => by rw [b6] at z; cases z) (fun z => by rw [b6] at z; cases z), b4, b5, b6⟩
      · rw [z, hg] at b3
        injection b3 with b3
        rw [← b3, dg] at b6
        cases b6
      · rw [z, obP] at b3
        injection b3 with b3
        rw [← b3] at b6
        cases b6
  have env : Env0 P w K mg (hidT s1.heap H) callerA [] s1 H := ⟨rfl, md, fun b o e => of_hidT e, Nat.le_of_eq (hidT_size _ _), trivial, fun b hb => (List.not_mem_nil hb).elim, ok, .of_eq gens⟩
  refine codeAny_mono ((F _ kb (spaces gl) made).goes callerA [] s1 H ⟨[.ref a], []⟩ [.ref a] [.ref a] _ _ room rfl env (binds s1 (.ref a)) (.cons rfl .nil) promise) fun r s' z => ?_
  match r, z with
  | .error e, z => exact z.elim
  | .ok .next, z => exact False.elim z
  | .ok .brk, z => exact False.elim z
  | .ok .cont, z => exact False.elim z
  | .ok (.ret u), z =>
    obtain ⟨v, H', os, bare, base, ok', rv, rfl⟩ := z
    obtain rfl : u = Value.bool true := rv
    -- behind the call: a table has grown, all else is as it was
    have same : ∀ {b o}, ¬ b ∈ cs.map (·.2) → s1.heap.get? b = some o → s'.heap.get? b = some o := fun {b o} m e => by
      rcases only.own b m with n | ⟨_, ob, xs, n⟩
      · exact base.keep b o e n (fun z => List.not_mem_nil z) (by simp)
      · obtain ⟨e1, _⟩ := ok b _ n
        obtain ⟨e2, _⟩ := ok' b _ (base.frzs b ob _ n)
        rw [e] at e1
        cases e1
        exact e2
    have grew : ∀ p ∈ cs, ∃ ps : Array Value, s'.heap.get? p.2 = some { cls := .none, data := .fields ps } := fun p h => by
      obtain ⟨ps, q⟩ := base.tbls p.2 #[] (only.tab _ (List.mem_map.mpr ⟨p, h, rfl⟩))
      exact ⟨_, ok' p.2 _ q⟩
    refine ⟨rfl, ⟨fun b o e => ?_, fun b o e => ?_⟩, os, bare⟩
    · by_cases m : b ∈ cs.map (·.2)
      · obtain ⟨p, h, rfl⟩ := tabs m
        obtain ⟨ps, q⟩ := grew p h
        have z := void p h
        rw [e] at z
        injection z with z
        subst z
        refine .inr (.inl ⟨((hds p h).tab (void p h)).isCodeTable, rfl, #[], ps, rfl, ?_⟩)
        rw [Array.empty_append, q]
      · exact .inl (same m e)
    · by_cases m : b ∈ cs.map (·.2)
      · obtain ⟨p, h, rfl⟩ := tabs m
        obtain ⟨ps, q⟩ := grew p h
        exact ⟨_, q⟩
      · exact ⟨o, same m e⟩
/-- .. at the heap behind the top -/
theorem head_callT {P : Program} {w : World} {K : PySem.W.Frag} {mg mb : Str → Option Value} {k : Nat} {fa a : Addr} {fd : FuncData} {x : Str} {sp : Sp} {s1 : Shared} {vs : List Value} {ns : List Int} {cs : List (Addr × Addr)}
    (kin : K.In s1.heap) (gl : s1.heap.Ns mainGlobals mg) (bl : s1.heap.Ns builtinsNs mb) (bb : ∀ y : Str, y ≠ "__name__" → mb y = bootBuiltins y) (nolim : s1.heap.NoLimit) (gens : s1.gens = #[]) (room : Room k callerA)
    (script : s1.heap.get? a = some { cls := .type "list", data := .seq vs.toArray }) (are : IntsAre vs ns) (few : ns.length ≤ sizeLine) (void : ∀ p ∈ cs, s1.heap.get? p.2 = some { cls := .none, data := .fields #[] }) (off : ∀ p ∈ cs, K.lookup p.2 = none) (hds : ∀ p ∈ cs, PySem.W.CodeHd s1.heap p.1 p.2)
    (mod : ∃ (bm : Addr) (ob : Obj), mg "__builtins__" = some (.ref bm) ∧ bm ≠ builtinsNs ∧ s1.heap.get? bm = some ob ∧ ob.cls = .type "module" ∧ ob.dict = some builtinsNs ∧ ob.data = .plain)
    (F : ∀ base : Heap, K.In base → base.Ns mainGlobals mg → (∀ p ∈ cs, LamX.TabB base mg p.1 p.2) → FnG P w K mg base CX0 k fa fd [x] sp) (binds : ∀ (s : Shared) (u : Value), BindsTo s fd ⟨[u], []⟩ [(x, u)])
    (promise : ∀ H : Hp, OnlyT H a (cs.map (·.2)) → SqL K H a (ns.map V.int) → sp [.ref a] H (fun v _ => v = .bl true) E0) :
    codeAny (model P w) callerA (.call (.ref fa) ⟨[.ref a], []⟩) (fun r s' => r = .ok (.ret (.bool true)) ∧ OldK s1.heap s'.heap ∧ s'.os = s1.os ∧ AllBare s'.gens) s1 := by
  have rv := vals_ints are
  have tabs : ∀ {b}, b ∈ cs.map (·.2) → s1.heap.get? b = some { cls := .none, data := .fields #[] } := fun {b} m => by
    obtain ⟨p, h, rfl⟩ := List.mem_map.mp m
    exact void p h
  have na : ¬ a ∈ cs.map (·.2) := fun m => by
    have z := tabs m
    rw [script] at z
    injection z with z
    have := congrArg Obj.data z
    cases this
  by_cases hk : K.lookup a = none
  · let H : Hp := fun b => if b ∈ cs.map (·.2) then some (.tbl #[]) else if b = a then some (.frz { cls := .type "list", data := .seq vs.toArray } (.lst (ns.map V.int))) else none
    have at_ : H a = some (.frz { cls := .type "list", data := .seq vs.toArray } (.lst (ns.map V.int))) := (if_neg na).trans (if_pos rfl)
    have only : OnlyT H a (cs.map (·.2)) := ⟨fun p m => if_pos m, fun b m => by
      by_cases e : b = a
      · subst e; exact .inr ⟨rfl, _, _, at_⟩
      · exact .inl ((if_neg m).trans (if_neg e))⟩
    refine head_coreT kin gl bl bb nolim gens room script void off hds mod F binds only (promise H only (.inl (.inr ⟨_, at_⟩))) (fun b u e => ?_) fun _ => hk
    by_cases m : b ∈ cs.map (·.2)
    · have e2 : H b = some (.tbl #[]) := if_pos m
      rw [e] at e2
      injection e2 with e2
      subst e2
      exact tabs m
    · by_cases eb : b = a
      · subst eb
        rw [at_] at e
        injection e with e
        subst e
        exact ⟨script, by rw [List.length_map]; exact few, vs, _, rv, script⟩
      · rw [show H b = none from (if_neg m).trans (if_neg eb)] at e
        cases e
  · obtain ⟨o, ho⟩ := Option.ne_none_iff_exists'.mp hk
    have e := kin a o ho
    rw [script] at e
    injection e with e
    subst e
    let H : Hp := fun b => if b ∈ cs.map (·.2) then some (.tbl #[]) else none
    have only : OnlyT H a (cs.map (·.2)) := ⟨fun p m => if_pos m, fun b m => .inl (if_neg m)⟩
    have notH : H a = none := if_neg na
    refine head_coreT kin gl bl bb nolim gens room script void off hds mod F binds only (promise _ only (.inr ⟨_, vs.toArray, _, ho, rfl, rfl, rfl, by rw [List.size_toArray, are.length]; exact few, by simpa using rv⟩)) (fun b u z => ?_) fun z => absurd notH z
    by_cases m : b ∈ cs.map (·.2)
    · have e2 : H b = some (.tbl #[]) := if_pos m
      rw [z] at e2
      injection e2 with e2
      subst e2
      exact tabs m
    · rw [show H b = none from if_neg m] at z
      cases z
/-- what is known of the law at the head's heap, its guards and tables -/
def LawG (l : PySem.W.OpenLaw) (w : World) (K : PySem.W.Frag) (k : Nat) (x : Str) (mg : Str → Option Value) (fa : Addr) (h : Heap) : Prop :=
  ∃ (fd : FuncData) (cs : List (Addr × Addr)) (sp : Sp), (∀ p ∈ cs, h.get? p.2 = some { cls := .none, data := .fields #[] }) ∧ (∀ p ∈ cs, K.lookup p.2 = none) ∧ (∀ p ∈ cs, PySem.W.CodeHd h p.1 p.2) ∧ (∀ (s : Shared) (u : Value), BindsTo s fd ⟨[u], []⟩ [(x, u)]) ∧
    (∀ (H : Hp) (a : Addr) (ns : List Int), OnlyT H a (cs.map (·.2)) → SqL K H a (ns.map V.int) → sp [.ref a] H (fun v _ => v = .bl true) E0) ∧
    ∀ base : Heap, K.In base → base.Ns mainGlobals mg → (∀ p ∈ cs, LamX.TabB base mg p.1 p.2) → FnG l.prog w K mg base CX0 k fa fd [x] sp
theorem walk_ofTG {l : PySem.W.OpenLaw} {n k : Nat} {q : Program} {loose : List Str} {XP : (Str → Option Value) → Heap → Prop} {YP : World → Heap → Prop} {d : DefRec} {x : Str}
    (most : l.most = some n) (few : n ≤ sizeLine) (plain : d.params.defaults = []) (room : Room k callerA)
    (F : ∀ (w : World) (mg : Str → Option Value) (fa : Addr) (h : Heap), YP w h → h.Ns mainGlobals mg → mg d.name = some (.ref fa) → ∃ K : PySem.W.Frag, K.In h ∧ LawG l w K k x mg fa h) :
    PySem.W.WalkO q loose XP YP l.row.toRowW d [] (fun f vs => PySem.call f vs) :=
  Att.attach_callB most plain fun w s0 s1 mg mb fa o pm cd doc a vs ns G Y ho hd hcd hmg hobj hints hlen hbits hg => by
    obtain ⟨K, kin, fd, cs, sp, void, off, hds, binds, promise, hF⟩ := F w mg fa _ Y G.T.g hmg
    exact head_callT kin G.T.g G.T.b G.T.builtins G.T.nolimit hg room hobj hints (Nat.le_trans hlen few) void off hds G.T.bmain hF binds fun H hO hS => promise H a ns hO hS
end LB

namespace KR
open PySem L2 LB PyProof.Rows
/-! ### what the Bools tell -/
theorem const_ok {K : PySem.W.Frag} {C : Addr} {f : Str} {i : Int} (h : constB K C f i = true) : ∃ t, PySem.W.findCls K (.ref C) (.type "type") f = some (.val (.int i t)) := by
  unfold constB at h
  split at h
  · rename_i j t q
    have := of_decide_eq_true h
    subst this
    exact ⟨t, q⟩
  · cases h
theorem text_ok {K : PySem.W.Frag} {n z0 z1 : Str} (e : z0 = z1) (h : textB K n z0 = true) : LB.TextX K n z1 := by
  subst e
  unfold textB at h
  split at h
  · rename_i z t q
    exact ⟨z, t, q, of_decide_eq_true h⟩
  · cases h
theorem sys_ok {K : PySem.W.Frag} (h : sysB K = true) : ∃ o, K.lookup sysModules = some o ∧ o.cls = .type "dict" := by
  unfold sysB at h
  split at h
  · rename_i o q
    exact ⟨o, q, of_decide_eq_true h⟩
  · cases h
theorem rec_ok {K : PySem.W.Frag} {p : Addr} (h : recB K p = true) : LB.RecX K p (pgA K p) := by
  unfold recB at h
  split at h
  · rename_i g r q
    refine ⟨r, ?_⟩
    unfold pgA
    rw [q]
  · cases h
theorem new_ok {l : List (Option Value)} (h : newB l = true) : ∃ s0 s1 s2 s3 s5, l = [s0, s1, s2, s3, some (.builtin "ValueError.__new__"), s5] := by
  unfold newB at h
  split at h
  · rename_i s0 s1 s2 s3 n s5
    have h := of_decide_eq_true h
    subst h
    exact ⟨_, _, _, _, _, rfl⟩
  · cases h
theorem mro_ok {C : Addr} {mro : List Value} {dl hd : Bool} {l : List (Option Value)} (h : mroB C mro dl hd l = true) : ∃ bm, mro = .ref C :: bm ∧ PySem.HandSPX.refsVE bm = true ∧ dl = false ∧ hd = true ∧ newB l = true := by
  unfold mroB at h
  split at h
  · rename_i D bm
    simp only [Bool.and_eq_true, decide_eq_true_eq, Bool.not_eq_true'] at h
    obtain ⟨e, h1, h2, h3, h4⟩ := h
    subst e
    exact ⟨bm, rfl, h1, h2, h3, h4⟩
  · cases h
theorem ex_ok {K : PySem.W.Frag} {C : Addr} (h : exB K C = true) : ∃ nm q N bs bm sn sub ab col dd k0 k1 k2 k3 k5, K.lookup C = some (PySem.excClassObj nm q C N bs bm true sn sub ab col dd k0 k1 k2 k3 k5 "ValueError.__new__") ∧ PySem.HandSPX.refsVE bm = true := by
  unfold exB at h
  cases look : K.lookup C with
  | none => rw [look] at h; cases h
  | some o =>
    obtain ⟨oc, dd, dt, sl⟩ := o
    rw [look] at h
    cases oc with
    | type t =>
      cases dt with
      | cls c =>
        obtain ⟨nm, bs, mro, ns, qn, hd, sn, sub, ab, col, dl⟩ := c
        obtain ⟨l⟩ := sl
        replace h : (decide (t = "type") && mroB C mro dl hd l) = true := h
        obtain ⟨h0, h2⟩ := Bool.and_eq_true_iff.mp h
        have h0 := of_decide_eq_true h0
        subst h0
        obtain ⟨bm, rfl, refs, rfl, rfl, nw⟩ := mro_ok h2
        obtain ⟨s0, s1, s2, s3, s5, rfl⟩ := new_ok nw
        exact ⟨nm, qn, ns, bs, bm, sn, sub, ab, col, dd, s0, s1, s2, s3, s5, rfl, refs⟩
      | _ => cases h
    | _ => cases dt <;> cases h
theorem exk_ok {K : PySem.W.Frag} {C : Addr} (h : exkB K C = true) : LB.ExK K C := by
  unfold exkB at h
  simp only [Bool.and_eq_true, decide_eq_true_eq] at h
  obtain ⟨h0, hg, hk, hs, hd, ha, hn, ht, hm, sa, ty, kp⟩ := h
  exact ⟨⟨hg, hk, hs, hd, ha, hn, ht, hm⟩, ⟨ex_ok h0, sa, hs, ty, kp⟩⟩
theorem fnx_of {fn : List He.DefD} {K : PySem.W.Frag} (c : He.SaysD [] fn K) (i : Nat) {x qual : Str} {st : Stmt} {f : Addr} {kws : List (Str × He.Dv)} {p : Str × Option Str} (h : fn[i]? = some ⟨p, x, qual, defArgs st, defBody st, defScope st, [], kws⟩ := by rfl) (e : He.fAd K p = f := by rfl) : LB.FnX K f x qual st := by
  subst e
  obtain ⟨fd, F⟩ := c.def_ i h
  have F := He5.fun_of F
  obtain ⟨⟨oc, od, kV, doc, pm, an, cdv, ct, osl, rfl, lk, hcd⟩, kp⟩ := F
  exact ⟨⟨_, _, _, _, _, _, _, _, _, lk, hcd⟩, kp⟩
/-- a property's function's facts, by its place -/
theorem fnxp_of {fn : List He.DefD} {pf : List PrD} {tf : List He.Defn} {ex : PySem.W.Frag → Bool} {h : Heap} {K : PySem.W.Frag} (c : SaysY fn pf tf ex h K) (i : Nat) {cl x qual : Str} {st : Stmt} {f : Addr} (hi : pf[i]? = some ⟨cl, x, qual, defArgs st, defBody st, defScope st⟩ := by rfl) (e : PrD.at_ K ⟨cl, x, qual, defArgs st, defBody st, defScope st⟩ = f := by rfl) : LB.FnX K f x qual st := by
  have e1 : (pf.map fun d => fnAt K (d.at_ K)) = pf.map PrD.val := congrArg Prod.snd c.p
  have e2 : (pf.all fun d => okAt K (d.at_ K) d.qual) = true := congrArg Prod.fst c.p
  have e3 : (pf.map fun d => fnAt K (d.at_ K))[i]? = (pf.map PrD.val)[i]? := by rw [e1]
  simp only [List.getElem?_map, hi, Option.map_some, Option.some.injEq] at e3
  have e4 := List.all_eq_true.mp e2 _ (List.mem_of_getElem? hi)
  rw [e] at e3 e4
  obtain ⟨kp, c2⟩ := He.ba e4
  unfold fnAt at e3
  split at e3
  · rename_i oc od fd osl q
    rw [q] at c2
    obtain ⟨n1, n2, n3, n4, n5, n6, n7, n8, n9, n10, n11, n12, n13, n14, n15⟩ := fd
    have z : (some (n1, n2, n3, n4, n5, n6, n7, n15) : He.FnW) = some (x, qual, defArgs st, .stmts (defBody st), defScope st, mainGlobals, [], builtinsNs) := e3
    simp only [Option.some.injEq, Prod.mk.injEq] at z
    obtain ⟨h1, h2, h3, h4, h5, h6, h7, h8⟩ := z
    subst h1 h2 h3 h4 h5 h6 h7 h8
    have c3 : (PySem.W.codeIn K n13 _ && isNon n8) = true := c2
    obtain ⟨k1, k2⟩ := He.ba c3
    cases n8 with
    | none => exact ⟨⟨oc, od, n9, n10, n11, n12, n13, n14, osl, q, k1⟩, kp⟩
    | _ => cases k2
  · cases e3
theorem code_hd {K : PySem.W.Frag} {h : Heap} (X : K.In h) {tf : List He.Defn} (hd : ∀ p ∈ tf, PySem.W.codeHdIn K (He.cT K p).1 (He.cT K p).2 = true) : ∀ q ∈ tf.map (He.cT K), PySem.W.CodeHd h q.1 q.2 := fun q m => by
  obtain ⟨p, hp, rfl⟩ := List.mem_map.mp m
  exact PySem.W.codeHd_of_K X (hd p hp)
end KR

namespace LB
open PySem L2 PySem.Spec PyProof.Rows GenW
/-! ### a generator whose body is «for x in e: yield x»: its turns -/
/-- from s₀ on: what lies below lim, at a or among out stands as it stood -/
def Snc (lim : Nat) (a : Addr) (out : List Addr) (s₀ s : Shared) : Prop :=
  ∃ h tk, s = { s₀ with heap := h, toks := tk } ∧ ∀ b o, (b < lim ∨ b = a ∨ b ∈ out) → s₀.heap.get? b = some o → h.get? b = some o
section
variable {lim : Nat} {a : Addr} {out : List Addr} {s₀ s : Shared}
theorem Snc.refl (s : Shared) : Snc lim a out s s := ⟨s.heap, s.toks, rfl, fun _ _ _ e => e⟩
theorem Snc.step (x : Snc lim a out s₀ s) {h' : Heap} {tk : Nat} (k : ∀ b o, (b < lim ∨ b = a ∨ b ∈ out) → s.heap.get? b = some o → h'.get? b = some o) : Snc lim a out s₀ { s with heap := h', toks := tk } := by
  obtain ⟨h, t, rfl, q⟩ := x
  exact ⟨h', tk, rfl, fun b o c e => k b o c (q b o c e)⟩
end
/-- an item is handed out: whoever takes it may change what lies in out alone -/
def YP (lim : Nat) (a : Addr) (out : List Addr) (n₀ : Nat) (F : Nat → Value → Prop) : Protocol := fun m s₀ v s kap =>
  F (n₀ - 1 - m) v ∧ Snc lim a out s₀ s ∧ ∀ s2 : Shared, (∀ b o, b ∉ out → s.heap.get? b = some o → s2.heap.get? b = some o) → kap (.send .none) s2
def YE (lim : Nat) (a : Addr) (out : List Addr) : GenEnd := fun n s₀ r s₁ => ((r = .ok (.ret .none) ∨ r = .ok .next) ∧ (n = 0 ∧ Snc lim a out s₀ s₁)) ∨ ∃ e, r = .error e ∧ False
section
variable {P : Program} {w : World} {A : Around} {lim : Nat} {a I : Addr} {out fp wr : List Addr} {env : Env} {x : Str} {px py yp ep : Pos} {n₀ : Nat} {F : Nat → Value → Prop} {St : Nat → Heap → Prop} {fs : List Frame}
abbrev yBody (x : Str) (py yp ep : Pos) : List Stmt := [.Expr (.Yield (some (.Name x py)) yp) ep]
abbrev yLoop (x : Str) (px py yp ep : Pos) (I : Addr) (env : Env) : Code := .forLoop (.Name x px) (.ref I) (yBody x py yp ep) [] env
theorem seg_forY (hh : (A.over (yLoop x px py yp ep I env) fs).handled = none) (W : ∀ B : Around, B.handled = none → Walks P w B I fp wr n₀ F St)
    (hx : env.kindOf x = some .local) (hk : env.scope.kind = .function) (hco : env.scope.isCoroutine = false) (hi : interactive env = false) (hd : (x == ("__debug__" : Str)) = false)
    (Lf : env.locals ∉ fp) (Ll : lim ≤ env.locals) (La : env.locals ≠ a) (Lo : env.locals ∉ out) (fo : ∀ b ∈ fp, b ∉ out) (wk : ∀ b ∈ wr, lim ≤ b ∧ b ≠ a ∧ b ∉ out)
    (hsp : splitAtGen fs = none) (hgd : fs.any Frame.guarded = false)
    (fin : ∀ s₀ s, Snc lim a out s₀ s → Seg (model P w) A (YE lim a out) (YP lim a out n₀ F) 0 s₀ (yLoop x px py yp ep I env) (.pure (.again (.block [] env))) fs s) :
    ∀ (k i : Nat) (s₀ s : Shared) (m : Str → Option Value), n₀ - i = k → i ≤ n₀ → St i s.heap → s.heap.Ns env.locals m → Snc lim a out s₀ s →
      Seg (model P w) A (YE lim a out) (YP lim a out n₀ F) (n₀ - i) s₀ (yLoop x px py yp ep I env) ((model P w).den (yLoop x px py yp ep I env)) fs s := by
  have hp : (env.scope.kind == .class || (env.scope.kind == .module && env.locals != env.globals)) = false := by rw [hk]; rfl
  have Lw : env.locals ∉ wr := fun q => Lf ((W _ hh).sub _ q)
  have off : ∀ {b}, (b < lim ∨ b = a ∨ b ∈ out) → b ∉ wr := fun {b} c q => by
    obtain ⟨q1, q2, q3⟩ := wk b q
    rcases c with c | c | c
    · exact absurd c (Nat.not_lt.mpr q1)
    · exact q2 c
    · exact q3 c
  have offL : ∀ {b}, (b < lim ∨ b = a ∨ b ∈ out) → b ≠ env.locals := fun {b} c q => by
    subst q
    rcases c with c | c | c
    · exact absurd c (Nat.not_lt.mpr Ll)
    · exact La c
    · exact Lo c
  intro k
  induction k with
  | zero =>
    intro i s₀ s m hk0 hi0 hst hn sn
    have e : i = n₀ := by omega
    subst e
    rw [Nat.sub_self]
    show Seg _ A _ _ 0 s₀ _ ((forTurn (.Name x px) (.ref I) (yBody x py yp ep) [] env).onRaise (fun x => do noteFrame x env; theTreesLotGoes x)) fs s
    rw [Sem.onRaise_eq_wrap]
    unfold forTurn
    refine seg_bind_wrap (wpAny_standAt ?_)
    refine seg_bind_wrap (wpAny_onRaise ((W _ hh).done s _ _ hst fun h' tk hk' => ?_))
    exact fin s₀ _ (sn.step fun b o c e => hk' b o (off c) e)
  | succ k ih =>
    intro i s₀ s m hk0 hi0 hst hn sn
    have hlt : i < n₀ := by omega
    obtain ⟨n, en⟩ : ∃ n, n₀ - i = n + 1 := ⟨n₀ - i - 1, by omega⟩
    rw [en]
    show Seg _ A _ _ (n + 1) s₀ _ ((forTurn (.Name x px) (.ref I) (yBody x py yp ep) [] env).onRaise (fun x => do noteFrame x env; theTreesLotGoes x)) fs s
    rw [Sem.onRaise_eq_wrap]
    unfold forTurn
    refine seg_bind_wrap (wpAny_standAt ?_)
    refine seg_bind_wrap (wpAny_onRaise ((W _ hh).item i s _ _ hlt hst fun v h1 tk1 hF hst1 hk1 => ?_))
    refine seg_bind_wrap (wpAny_of_eq (rfl : letOwnedTupleGo (.Name x px) (.ref I) v = pure ()) ?_)
    refine seg_bind_wrap (wpAny_assign_Name (wpAny_storeName_local hx (hn.at' fun o e => hk1 _ o Lw e) (fun h2 hn2 sb2 => ?_) hp))
    have up2 : ∀ b o, b ≠ env.locals → b ∉ wr → s.heap.get? b = some o → h2.get? b = some o := fun b o q1 q2 e => sb2.extBut b o q1 (hk1 b o q2 e)
    have hst2 : St (i + 1) h2 := (W _ hh).frame _ _ _ hst1 fun b hb o e => sb2.extBut b o (fun q => Lf (q ▸ hb)) e
    rw [Sem.bind_eq_wrap', Sem.wrap_wrap]
    refine seg_execs_cons (seg_Expr_Yield hsp rfl hgd (wpAny_Name (wpAny_loadName_local (v := v) hk hx hn2 (if_pos rfl) fun kap hkap => ?_) hd) hco hi)
    refine ⟨?_, sn.step fun b o c e => up2 b o (offL c) (off c) e, fun s2 al => hkap .none s2 ?_⟩
    · have : n₀ - 1 - n = i := by omega
      rw [this]
      exact hF
    · refine seg_again rfl ?_
      have := ih (i + 1) s2 s2 _ (by omega) hlt ((W _ hh).frame _ _ _ hst2 fun b hb o e => al b o (fo b hb) e) (hn2.at' fun o e => al _ o Lo e) (Snc.refl s2)
      have e1 : n₀ - (i + 1) = n := by omega
      rw [e1] at this
      exact this
theorem seg_block0 {R : GenEnd} {Y : Protocol} {n : Nat} {s₀ s : Shared} (h : Seg (model P w) A R Y n s₀ (.block [] env) (leafOf (.ok .next)) fs s) : Seg (model P w) A R Y n s₀ (.block [] env) ((model P w).den (.block [] env)) fs s := h
/-- the generator that has not begun -/
theorem goes_forY {t : Addr} {items : Array Value} {iter : Expr} {fpos : Pos} {m : Str → Option Value} {s : Shared} (hh : A.handled = none) (ht : s.heap.IsTuple t items) (hn : s.heap.Ns env.locals m)
    (hev : ∀ (B : Around) (E : Value → Shared → Prop) (Q : Value → Shared → Prop), (∀ tk, Q (.ref t) { s with toks := tk }) → wpAny (model P w) B (eval iter env) Q E s) (hfs : ∀ v, foldedSetIterable iter env v = pure v)
    (hx : env.kindOf x = some .local) (hk : env.scope.kind = .function) (hco : env.scope.isCoroutine = false) (hi : interactive env = false) (hd : (x == ("__debug__" : Str)) = false)
    (Ll : lim ≤ env.locals) (La : env.locals ≠ a) (Lo : env.locals ∉ out) (to : t ∉ out) (al : a < s.heap.objs.size) (ll : lim ≤ s.heap.objs.size) (ol : ∀ b ∈ out, b < s.heap.objs.size) :
    (GenState.fresh (.func [.For (.Name x px) iter (yBody x py yp ep) [] fpos] env)).Goes (model P w) A (YE lim a out) (YP lim a out items.size fun i v => items[i]? = some v) items.size (.send .none) s := by
  refine ⟨rfl, seg_func (seg_execs_cons ?_)⟩
  rw [exec_For]
  refine seg_bind_wrap (wpAny_standAt ?_)
  refine seg_bind_wrap (hev _ _ _ fun tk => ?_)
  refine seg_bind_wrap (wpAny_of_eq (hfs _) ?_)
  refine seg_bind_wrap (wpAny_standAt ?_)
  refine seg_bind_wrap (wpAny_holding (wpAny_pyIter_tuple (s := { s with toks := tk }) ht ?_))
  refine seg_call fun p => ?_
  have hne : t ≠ s.heap.objs.size := by
    obtain ⟨o, ho, _⟩ := ht
    exact Nat.ne_of_lt (Heap.lt_size ho)
  have hnL : env.locals < s.heap.objs.size := hn.lt
  have up : ∀ (ob : Obj) b o, s.heap.get? b = some o → (s.heap.push ob).get? b = some o := fun ob b o e => Heap.get?_push_of_some _ e
  refine seg_forY (I := s.heap.objs.size) (n₀ := items.size) (F := fun i v => items[i]? = some v) (fp := [s.heap.objs.size, t]) (wr := [s.heap.objs.size]) ?_ (fun B hB => Walks.tuple hB _ t hne items) hx hk hco hi hd ?_ Ll La Lo ?_ ?_ rfl rfl (fun s₀ s2 sn => ?_) items.size 0 s _ m rfl (Nat.zero_le _) ⟨?_, ?_⟩ ?_ ?_
  · exact hh
  · intro q
    rcases List.mem_cons.mp q with q | q
    · exact absurd hnL (by rw [q]; exact Nat.lt_irrefl _)
    · have q := List.mem_singleton.mp q
      obtain ⟨o, ho, hc, n, hd1⟩ := ht
      obtain ⟨ob, es, ep, e1, e2⟩ := hn
      rw [q, ho] at e1
      cases e1
      cases hd1.symm.trans e2.1
  · intro b hb
    rcases List.mem_cons.mp hb with q | q
    · subst q
      exact fun z => absurd (ol _ z) (Nat.lt_irrefl _)
    · rw [List.mem_singleton.mp q]
      exact to
  · intro b hb
    rw [List.mem_singleton.mp hb]
    exact ⟨ll, Nat.ne_of_gt al, fun z => absurd (ol _ z) (Nat.lt_irrefl _)⟩
  · refine seg_again rfl (seg_block0 (seg_leaf (.ok .next) ?_))
    exact seg_end (.ok (.ret .none)) (.inl ⟨.inl rfl, rfl, sn⟩)
  · exact ⟨_, Heap.get?_push_size _ rfl, rfl, rfl⟩
  · exact ht.push _
  · exact hn.keeps (up _)
  · exact ⟨_, _, rfl, fun b o _ e => up _ b o e⟩
end
end LB

namespace LB
open PySem L2 PySem.Spec PyProof.Rows GenW
/-! ### [x for x in g] where g is such a generator -/
/-- a generator that has not begun, and will hand out these -/
def YMade (P : Program) (w : World) (sc : Shared) (items : Array Value) (u : Value) (s' : Shared) : Prop :=
  ∃ (a : Addr) (g : Nat) (c : Code), u = .ref a ∧ sc.heap.objs.size ≤ a ∧ a < s'.heap.objs.size ∧ s'.heap.IsGen a g ∧ s'.gens[g]? = some (.fresh c) ∧ s'.os = sc.os ∧ AllBare s'.gens ∧ (∀ b o, sc.heap.get? b = some o → s'.heap.get? b = some o) ∧
    ∀ (A : Around) (out : List Addr) (s2 : Shared), A.handled = none → (∀ b ∈ out, s'.heap.objs.size ≤ b ∧ b < s2.heap.objs.size) → (∀ b o, s'.heap.get? b = some o → s2.heap.get? b = some o) →
      (GenState.fresh c).Goes (model P w) A (YE sc.heap.objs.size a out) (YP sc.heap.objs.size a out items.size fun i v => items[i]? = some v) items.size (.send .none) s2
/-- amid the turns: j items are taken -/
structure YAt (P : Program) (w : World) (A : Around) (sc : Shared) (items : Array Value) (a : Addr) (g : Nat) (D C : Addr) (j : Nat) (s : Shared) : Prop where
  keep : ∀ b o, sc.heap.get? b = some o → s.heap.get? b = some o
  os : s.os = sc.os
  bare : AllBare s.gens
  lst : ∃ c, s.heap.get? D = some (lstObj (items.toList.take j).toArray c)
  loc : ∃ m, s.heap.Ns C m
  gen : s.heap.IsGen a g
  go : ∃ gs, s.gens[g]? = some gs ∧ ∀ s2 : Shared, s.heap.objs.size ≤ s2.heap.objs.size → (∀ b o, b ∉ [D, C] → s.heap.get? b = some o → s2.heap.get? b = some o) → gs.Goes (model P w) A.in1 (YE sc.heap.objs.size a [D, C]) (YP sc.heap.objs.size a [D, C] items.size fun i v => items[i]? = some v) (items.size - j) (.send .none) s2
section
variable {P : Program} {w : World} {A : Around} {sc s : Shared} {items : Array Value} {a D C : Addr} {g j : Nat} {env : Env} {x : Str} {px px2 : Pos} {E : Value → Shared → Prop}
theorem yat_next (hh : A.handled = none) (hroom : A.depth < recursionLimit) (h : YAt P w A sc items a g D C j s) (hl : sc.heap.NoLimit) (hj : j ≤ items.size) (hz : items.size < sizeLine)
    (aD : a ≠ D) (aC : a ≠ C) (DC : D ≠ C) (lD : sc.heap.objs.size ≤ D) (lC : sc.heap.objs.size ≤ C) {Q : Option Value → Shared → Prop}
    (hdone : ∀ s', j = items.size → (∀ b o, sc.heap.get? b = some o → s'.heap.get? b = some o) → s'.os = sc.os → AllBare s'.gens → (∃ c, s'.heap.get? D = some (lstObj items c)) → (∃ m, s'.heap.Ns C m) → Q none s')
    (hitem : ∀ v s', items[j]? = some v → (∃ c, s'.heap.get? D = some (lstObj (items.toList.take j).toArray c)) → (∃ m, s'.heap.Ns C m) →
      (∀ h' tk, (∀ b o, b ∉ [D, C] → s'.heap.get? b = some o → h'.get? b = some o) → s'.heap.objs.size ≤ h'.objs.size → (∃ c, h'.get? D = some (lstObj (items.toList.take (j + 1)).toArray c)) → (∃ m, h'.Ns C m) → YAt P w A sc items a g D C (j + 1) { s' with heap := h', toks := tk }) → Q (some v) s') :
    wpAny (model P w) A (pyNext (.ref a)) Q E s := by
  obtain ⟨hk, hos, hb, hD, hC, hg, gs, hgs, hgo⟩ := h
  have hgl : g < s.gens.size := (Array.getElem?_eq_some_iff.mp hgs).1
  refine next_genG (F := fun n s₀ s₁ => n = 0 ∧ Snc sc.heap.objs.size a [D, C] s₀ s₁) (Er := fun _ _ => False) hh (hl.keeps hk) hroom hg hgs (hgo _ (Nat.le_refl _) fun _ _ _ e => e) (fun v s1 gs' hbare hv => ?_) (fun s1 hp h' hk' => ?_) fun e s1 q => q.elim
  · obtain ⟨hF, ⟨h1, tk1, rfl, hk1⟩, hkap⟩ := hv
    cases hn : items.size - j with
    | zero =>
      rw [hn] at hkap
      exact False.elim (hkap _ fun _ _ _ e => e)
    | succ m =>
      rw [hn] at hF hkap
      have hidx : items.size - 1 - (m + 1 - 1) = j := by omega
      rw [hidx] at hF
      have old : ∀ b o, (b < sc.heap.objs.size ∨ b = a ∨ b ∈ [D, C]) → s.heap.get? b = some o → h1.get? b = some o := hk1
      have hD1 : ∃ c, h1.get? D = some (lstObj (items.toList.take j).toArray c) := let ⟨c, e⟩ := hD; ⟨c, old _ _ (.inr (.inr (by simp))) e⟩
      have hC1 : ∃ m, h1.Ns C m := let ⟨m, e⟩ := hC; ⟨m, e.at' fun o q => old _ _ (.inr (.inr (by simp))) q⟩
      have hg1 : h1.IsGen a g := let ⟨o, nm, qn, ho, r⟩ := hg; ⟨o, nm, qn, old _ _ (.inr (.inl rfl)) ho, r⟩
      refine hitem v _ hF hD1 hC1 fun h2 tk2 k2 z2 hD2 hC2 => ⟨fun b o e => ?_, hos, allBare_setGen (allBare_setGen hb rfl) hbare, hD2, hC2, ?_, gs', ?_, fun s2 zs al => ?_⟩
      · have lt := Heap.lt_size e
        refine k2 b o ?_ (old b o (.inl lt) (hk b o e))
        intro q
        rcases List.mem_cons.mp q with q | q
        · exact absurd lD (by rw [← q]; exact Nat.not_le.mpr lt)
        · exact absurd lC (by rw [← List.mem_singleton.mp q]; exact Nat.not_le.mpr lt)
      · obtain ⟨o, nm, qn, ho, r⟩ := hg1
        refine ⟨o, nm, qn, k2 a o ?_ ho, r⟩
        intro q
        rcases List.mem_cons.mp q with q | q
        · exact aD q
        · exact aC (List.mem_singleton.mp q)
      · exact setGen_at (by rw [show (s.setGen g .running).gens.size = s.gens.size from setGen_size _ _ _]; exact hgl)
      · have e : items.size - (j + 1) = m := by omega
        rw [e]
        exact hkap s2 fun b o q e => al b o q (k2 b o q e)
  · obtain ⟨hn, h1, tk1, rfl, hk1⟩ := hp
    have ej : j = items.size := by omega
    have old : ∀ b o, (b < sc.heap.objs.size ∨ b = a ∨ b ∈ [D, C]) → s.heap.get? b = some o → h'.get? b = some o := fun b o c e => hk' b o (hk1 b o c e)
    refine hdone _ ej (fun b o e => old b o (.inl (Heap.lt_size e)) (hk b o e)) hos (allBare_setGen (allBare_setGen hb rfl) rfl) ?_ ?_
    · obtain ⟨c, e⟩ := hD
      have e := old D _ (.inr (.inr (by simp))) e
      rw [ej, List.take_of_length_le (by simp), ] at e
      exact ⟨c, by simpa using e⟩
    · obtain ⟨m, e⟩ := hC
      exact ⟨m, e.at' fun o q => old _ _ (.inr (.inr (by simp))) q⟩
end
/-- an expression whose value is such a generator -/
abbrev TYn := L2.St → Hp → (List V → Hp → Prop) → Prop
structure PYn (X : Cx) (e : Expr) (tg : TYn) : Prop where
  run : ∀ (pins : List (Addr × Obj)) (s : Shared) (σ : L2.St) (H : Hp) (cont : List V → Hp → Prop), Inv X pins σ H s → tg σ H cont →
    wpAny (model X.prog X.w) X.A (eval e X.env) (fun u s' => ∃ (H1 : Hp) (sc : Shared) (items : Array Value) (xs : List V), Inv X pins σ H1 sc ∧ Vals xs items.toList ∧ YMade X.prog X.w sc items u s' ∧ cont xs H1) X.xe s
def tLcY (tg : TYn) : TE := fun σ H Q => tg σ H fun xs H1 => xs.length < 1000 ∧ ∀ p, H1 p = none → Q (.ref p) (upd H1 p (.lst xs))
/-- a block with one name of its own and no other -/
structure OneName (scope : Scope) (x : Str) : Prop where
  kind : scope.kind = .function
  loc : scope.names.lookup x = some .local
  uniq : ∀ y ∈ scope.names, scope.names.lookup y.1 = some y.2
  nofree : ∀ y ∈ scope.names, y.2 ≠ .free
theorem lcY_core {X : Cx} {e : Expr} {tg : TYn} {x : Str} {px px2 pos pos' : Pos} {scope : Scope} {pins : List (Addr × Obj)} {s : Shared} {σ : L2.St} {H : Hp} {Q : VK} {use : Option (Value → Sem Unit)} {Qf : Value → Shared → Prop} (hc : X.calm = true) (hroom : X.A.depth < recursionLimit) (I : Inv X pins σ H s) (h : PYn X e tg) (ok : OneName scope x) (hd : (x == ("__debug__" : Str)) = false)
    (hs : ∀ v, foldedSetIterable e X.env v = pure v) (hq : tLcY tg σ H Q)
    (fin : ∀ D C s' m H', Inv X pins σ H' s' → Q (.ref D) H' → s'.heap.Ns C m → FpOk X pins H' C → compPost (model X.prog X.w) X.A X.xe use Qf (.ref D) C (.ok .next) s') :
    wpAny (model X.prog X.w) X.A (comprehension (.ListComp (.Name x px) [⟨.Name x px2, e, [], 0⟩] scope pos) scope X.env pos' (newList []) false (eval e X.env) use) Qf X.xe s := by
  refine wpAny_comprehension_free (use := use) rfl hs (closure_ok fun y hy q => absurd q (ok.nofree y hy)) ok.kind (fun y hy q => by rw [ok.uniq y hy, q]) ?_
  refine thn (h.run pins s σ H _ I hq) fun u s1 ⟨H1, sc, items, xs, I1, rv, mk, hlen, q⟩ => ?_
  obtain ⟨a, g, c, rfl, la, ha, hg, hgs, hos, hbare, hkeep, wake⟩ := mk
  refine wpAny_pyIter_gen hg ?_
  refine wpAny_newObj_type (newEnv_comp ?_) (by show 0 ≤ sizeLine; decide)
  have hh : X.A.handled = none := I1.ok.hd hc
  have hvl : xs.length = items.size := by rw [rv.length, Array.length_toList]
  have hz : items.size < sizeLine := by
    have : 1000 < sizeLine := by decide
    omega
  have hl : sc.heap.NoLimit := I1.nolimit
  have ls : sc.heap.objs.size ≤ s1.heap.objs.size := Nat.le_trans la (Nat.le_of_lt ha)
  generalize hs3 : ({ s1 with heap := s1.heap.push { cls := .type "list", data := .seq ([] : List Value).toArray } } : Shared) = s3
  have h3 : s3.heap = s1.heap.push { cls := .type "list", data := .seq ([] : List Value).toArray } := by rw [← hs3]
  have z3 : s3.heap.objs.size = s1.heap.objs.size + 1 := by rw [h3, Heap.size_push]
  have k3 : ∀ b o, s1.heap.get? b = some o → s3.heap.get? b = some o := fun b o e => by rw [h3]; exact Heap.get?_push_of_some _ e
  have D3 : s3.heap.get? s1.heap.objs.size = some (lstObj [].toArray 0) := by rw [h3]; exact Heap.get?_push_size _ rfl
  have g3 : s3.gens = s1.gens := by rw [← hs3]
  have o3 : s3.os = s1.os := by rw [← hs3]
  show codeAny _ _ (.compStart (.ListComp (.Name x px) [⟨.Name x px2, e, [], 0⟩] scope pos) 0 (.ref a) (.ref s1.heap.objs.size) (compEnvC scope (cellsFrom (s3.heap.objs.size + 1) scope.names (cloFrom X.env.cells scope.names [])) s3.heap.objs.size X.env)) (compPost (model X.prog X.w) X.A X.xe use Qf (.ref s1.heap.objs.size) s3.heap.objs.size) { s3 with heap := pushCells (s3.heap.push { cls := .type "dict", data := .dict #[] }) scope.names }
  generalize hce : compEnvC scope (cellsFrom (s3.heap.objs.size + 1) scope.names (cloFrom X.env.cells scope.names [])) s3.heap.objs.size X.env = ce
  have cL : ce.locals = s3.heap.objs.size := by rw [← hce]; rfl
  have ck : ce.scope.kind = .function := by rw [← hce]; exact ok.kind
  have cx : ce.kindOf x = some .local := by rw [← hce]; exact lookup_relabel_local (env := X.env) ok.loc
  have cp : (ce.scope.kind == .class || (ce.scope.kind == .module && ce.locals != ce.globals)) = false := by rw [ck]; rfl
  have k4 : ∀ b o, s3.heap.get? b = some o → (pushCells (s3.heap.push { cls := .type "dict", data := .dict #[] }) scope.names).get? b = some o := fun b o e => pushCells_keeps _ _ _ _ (Heap.get?_push_of_some _ e)
  have n4 : (pushCells (s3.heap.push { cls := .type "dict", data := .dict #[] }) scope.names).Ns s3.heap.objs.size fun _ => none := (Heap.Ns.new s3.heap _).keeps fun b o e => pushCells_keeps _ _ _ _ e
  generalize hs4 : ({ s3 with heap := pushCells (s3.heap.push { cls := .type "dict", data := .dict #[] }) scope.names } : Shared) = s4
  have h4 : s4.heap = pushCells (s3.heap.push { cls := .type "dict", data := .dict #[] }) scope.names := by rw [← hs4]
  rw [← h4] at k4 n4
  have g4 : s4.gens = s1.gens := by rw [← hs4]; exact g3
  have o4 : s4.os = s1.os := by rw [← hs4]; exact o3
  have k14 : ∀ b o, s1.heap.get? b = some o → s4.heap.get? b = some o := fun b o e => k4 b o (k3 b o e)
  have hg4 : s4.heap.IsGen a g := hg.keeps k14
  have eD : ∃ D, D = s1.heap.objs.size := ⟨_, rfl⟩
  obtain ⟨D, eD⟩ := eD
  have eC : ∃ C, C = s3.heap.objs.size := ⟨_, rfl⟩
  obtain ⟨C, eC⟩ := eC
  rw [← eD] at ls ha D3 z3 ⊢
  rw [← eC] at cL z3 n4 ⊢
  have aD : a ≠ D := Nat.ne_of_lt ha
  have lDC : D < C := by rw [z3]; exact Nat.lt_succ_self _
  have aC : a ≠ C := Nat.ne_of_lt (Nat.lt_trans ha lDC)
  have DC : D ≠ C := Nat.ne_of_lt lDC
  have base : YAt X.prog X.w X.A sc items a g D C 0 s4 := by
    refine ⟨fun b o e => k14 b o (hkeep b o e), o4.trans hos, by rw [g4]; exact hbare, ⟨0, k4 _ _ D3⟩, ⟨_, n4⟩, hg4, .fresh c, by rw [g4]; exact hgs, fun s2 zs al => ?_⟩
    refine wake _ _ _ hh (fun b hb => ?_) fun b o e => al b o (fun hb => ?_) (k14 b o e)
    · have lt4 := n4.lt
      rw [← eD]
      rcases List.mem_cons.mp hb with q | q
      · rw [q]; exact ⟨Nat.le_refl _, Nat.lt_of_lt_of_le (Nat.lt_trans lDC lt4) zs⟩
      · rw [List.mem_singleton.mp q]; exact ⟨Nat.le_of_lt lDC, Nat.lt_of_lt_of_le lt4 zs⟩
    · have lt := Heap.lt_size e
      rw [← eD] at lt
      rcases List.mem_cons.mp hb with q | q
      · rw [q] at lt; exact absurd lt (Nat.lt_irrefl _)
      · rw [List.mem_singleton.mp q] at lt; exact absurd (Nat.lt_trans lt lDC) (Nat.lt_irrefl _)
  have loop : codeAny (model X.prog X.w) X.A (.compLoop (.ListComp (.Name x px) [⟨.Name x px2, e, [], 0⟩] scope pos) 0 (.ref a) (.ref D) ce) (compPost (model X.prog X.w) X.A X.xe use Qf (.ref D) C) s4 := by
    refine compLoop_any (fun n s' => ∃ j, n = items.size - j ∧ j ≤ items.size ∧ YAt X.prog X.w X.A sc items a g D C j s') ?_ items.size ⟨0, rfl, Nat.zero_le _, base⟩
    rintro n s5 ⟨j, en, hj, Y⟩
    refine yat_next hh hroom Y hl hj hz aD aC DC ls (Nat.le_trans ls (Nat.le_of_lt lDC)) (fun s6 ej kp os6 b6 hD6 hC6 => ?_) (fun v s6 hv hD6 hC6 k6 => ?_)
    · obtain ⟨m6, hn6⟩ := hC6
      obtain ⟨c6, e6⟩ := hD6
      have hn1 : H1 D = none := I1.hok.fresh ls
      have J := I1.drained (s' := s6) (H' := H1) (S := D) (ex := []) (acc := items) (c := c6) (out := xs) ls (by omega) e6 rv ExOk.nil os6 b6 (Un.kept kp) (I1.hok.kept kp) hn1
      have hnC : upd H1 D (.lst xs) C = none := by rw [upd_ne (Ne.symm DC)]; exact I1.hok.fresh (Nat.le_trans ls (Nat.le_of_lt lDC))
      exact fin D C s6 m6 _ J (q D hn1) hn6 (I1.fpOk (Nat.le_trans ls (Nat.le_of_lt lDC)) hnC)
    · obtain ⟨m6, hn6⟩ := hC6
      obtain ⟨c6, e6⟩ := hD6
      refine wpAny_of_eq (rfl : letOwnedTupleGo (.Name x px2) (.ref a) v = pure ()) ?_
      rw [← cL] at hn6
      refine wpAny_assign_Name (wpAny_storeName_local cx hn6 (fun h7 hn7 sb7 => ?_) cp)
      refine wpAny_tests_nil ?_
      rw [if_pos rfl]
      refine wpAny_Name (wpAny_loadName_local (v := v) ck cx hn7 (if_pos rfl) ?_) hd
      rw [cL] at sb7 hn7
      have jl : j < items.size := (Array.getElem?_eq_some_iff.mp hv).1
      have e7 : h7.get? D = some (lstObj (items.toList.take j).toArray c6) := (sb7.2 D DC).trans e6
      refine append_at (s := { s6 with heap := h7, toks := s6.toks + 1 }) (hsz := ?_) e7 fun h8 sb8 e8 => ?_
      rotate_left
      · rw [List.size_toArray, List.length_take]
        omega
      · refine ⟨items.size - (j + 1), by omega, j + 1, rfl, jl, k6 h8 _ (fun b o nb e => ?_) ?_ ⟨c6 + 1, ?_⟩ ⟨_, hn7.sameBut sb8 (Ne.symm DC)⟩⟩
        · have n1 : b ≠ D := fun z => nb (by rw [z]; exact List.mem_cons_self)
          have n2 : b ≠ C := fun z => nb (by rw [z]; simp)
          exact (sb8.2 b n1).trans ((sb7.2 b n2).trans e)
        · rw [sb8.1]
          exact Nat.le_of_eq sb7.1.symm
        · rw [e8]
          have : (items.toList.take j).toArray.push v = (items.toList.take (j + 1)).toArray := by
            rw [List.take_add_one, Array.getElem?_toList, hv]
            simp
          rw [this]
  exact codeAny_compStart_list loop (wpAny_pyIter_gen hg4 loop)
section
variable {X : Cx} {e : Expr} {tg : TYn} {x : Str} {px px2 pos : Pos} {scope : Scope}
theorem pe_lcY (hc : X.calm = true) (hroom : X.A.depth < recursionLimit) (h : PYn X e tg) (ok : OneName scope x) (hd : (x == ("__debug__" : Str)) = false := by decide)
    (hs : ∀ v, foldedSetIterable e X.env v = pure v := by intro _; rfl) : PE X (.ListComp (.Name x px) [⟨.Name x px2, e, [], 0⟩] scope pos) (tLcY tg) := by
  refine ⟨fun pins s σ H Q I hq => ?_⟩
  rw [eval_ListComp]
  refine lcY_core hc hroom I h ok hd hs hq fun D C s6 m6 H6 I6 q6 hn6 ⟨g0, g1, g2, g3, g4, g5⟩ => ⟨m6, hn6, fun h7 sb => ?_⟩
  exact ⟨.ref D, H6, I6.turned (t' := s6.toks) (fun b o nb eb => (sb.2 b nb).trans eb) g0 g1 g3 g4 g5, rfl, q6⟩
/-- a local name = such a list, on one line -/
theorem ps_setLcY {i : Nat} {y : Str} {py spos : Pos} (hc : X.calm = true) (hroom : X.A.depth < recursionLimit) (hN : X.N.Nodup) (hy : X.N[i]? = some y) (hyl : X.env.scope.names.lookup y = some .local)
    (hsw : swapsWith (.ListComp (.Name x px) [⟨.Name x px2, e, [], 0⟩] scope pos) (some (.Name y py)) spos.line X.env = pure true) (h : PYn X e tg) (ok : OneName scope x) (hd : (x == ("__debug__" : Str)) = false := by decide)
    (hs : ∀ v, foldedSetIterable e X.env v = pure v := by intro _; rfl) : PS X (.Assign [.Name y py] (.ListComp (.Name x px) [⟨.Name x px2, e, [], 0⟩] scope pos) spos) (tAsg (tLcY tg) (gName i)) := by
  refine ⟨fun pins s σ H D I hq => ?_⟩
  rw [exec_Assign_Name_used _ _ _ _ hsw]
  refine wpAny_bind (wpAny_standAt (wpAny_bind ?_))
  have hq : tLcY tg σ H (fun z H1 => gName i z σ H1 D.nx) := hq
  refine wpAny_bind (thn (lcY_core (use := some (assign (.Name y py) X.env)) (Qf := fun _ s7 => SP X pins D .next s7) hc hroom I h ok hd hs hq fun L C s6 m6 H6 I6 q6 hn6 g => ?_) fun _ _ z => wpAny_pure (wpAny_pure z))
  obtain ⟨g0, g1, g2, g3, g4, g5⟩ := g
  refine wpAny_assign_Name (store_ok2 (v := V.ref L) I6 hN hy (.inl hyl) rfl (fun s8 I8 ⟨b8, sb8, or8⟩ => ?_) (.inr hyl))
  have nb : C ≠ b8 := or8.elim (fun z => z ▸ g1) fun z w => g4 y b8 z w.symm
  exact ⟨m6, hn6.sameBut sb8 nb, fun h9 sb9 => ⟨_, H6, I8.turned (t' := s8.toks) (fun b o n9 eb => (sb9.2 b n9).trans eb) g0 g1 g3 g4 g5, q6⟩⟩
end
end LB

namespace LB
open PySem L2 PySem.Spec PyProof.Rows GenW
/-! ### o.m(), m a method «for x in self.f: yield x» -/
/-- the def as it stands -/
structure YScope (sc : Scope) (sf x : Str) : Prop where
  kind : sc.kind = .function
  co : sc.isCoroutine = false
  gen : sc.isGenerator = true
  se : sc.names.lookup sf = some .local
  lx : sc.names.lookup x = some .local
  calm : ∀ (q : Str) (L f : Addr) (cd : Value), interactive (envOfC q sc L f cd) = false
def tY (K : PySem.W.Frag) (C : Addr) (m fld : Str) (ta : TE) : TYn := fun σ H cont => ta σ H fun v H1 => ∃ a dx fs t xs, v = .ref a ∧ H1 a = some (.ins C dx fs) ∧ fs.lookup m = none ∧ fs.lookup fld = some (.ref t) ∧ SqT K H1 t xs ∧ cont xs H1
theorem pyn_meth0 {X : Cx} {o : Expr} {ta : TE} {C f : Addr} {fd : FuncData} {m qual fld sf x : Str} {st : Stmt} {px py yp ep sp ap fp apos pos : Pos} {pl : Sem Bool} (hr : Room 1 X.A) (he : PE X o ta) (c : Cls X.K C) (hm : Meth X.K C m f) (F : Fun X.K m qual st f fd)
    (na : NoAttr X.K C fld) (S : YScope (defScope st) sf x) (hbody : defBody st = [.For (.Name x px) (.Attribute (.Name sf sp) fld ap) (yBody x py yp ep) [] fp]) (hb : Binds X.K fd [sf] [])
    (hab : ∀ env : Env, attributeBase (.Name sf sp) fld env (eval (.Name sf sp) env) = eval (.Name sf sp) env) (hsd : (sf == ("__debug__" : Str)) = false := by decide) (hxd : (x == ("__debug__" : Str)) = false := by decide)
    (hfs : ∀ (env : Env) v, foldedSetIterable (.Attribute (.Name sf sp) fld ap) env v = pure v := by intro _ _; rfl)
    (ht : eval (.Call (.Attribute o m apos) [] [] pos) X.env = (do
      let ov ← eval o X.env
      standAt apos.atName
      let (f, first) ← holding [ov] (getMethod ov m pl)
      callWith pos f first (backTo pos (starEach [] X.env)) (backToKw pos (keywordEach [] X.env))) := by rfl) :
    PYn X (.Call (.Attribute o m apos) [] [] pos) (tY X.K C m fld ta) := by
  refine ⟨fun pins s σ H cont I h => ?_⟩
  refine PySem.W.methodCall_KW (pl := pl) (thn (he.run pins s σ H _ I h) fun u s1 ⟨v, H1, I1, rx, a, dx, fs, t, xs, ev, ea, lm, lf, hT, q⟩ => ?_) ht
  subst ev
  obtain rfl : u = Value.ref a := rx
  refine getmeth_ok I1 ea c hm lm ?_
  refine PySem.W.callWith_K0 (first := [.ref a]) I1.kIn hm.kp ?_
  obtain ⟨oc, od, kV, doc, pm, an, cdv, ct, osl, rfl, lk, hcd⟩ := F.ex
  have KX : X.K.In s1.heap := I1.kIn
  have lim : s1.heap.NoLimit := I1.nolimit
  obtain ⟨its, rv, hIT, hz⟩ := I1.tuple hT
  have bb := hb s1 [.ref a] KX rfl
  rw [List.append_nil] at bb
  refine wpAny_call (codeAny_mono (codeAny_call_generator (R := fun r s' => match r with | .ok (.ret u) => YMade X.prog X.w s1 its.toArray u s' | _ => False) hr.depth (KX _ _ lk) rfl S.co S.gen rfl (PySem.W.codeRec_of KX hcd) (bb _ _ _ _ ?_)) fun r s' hq => ?_)
  · refine wpAny_newFunctionEnv_cells S.kind (fun y hy => ?_) fun env he s2 z => ?_
    · have : y = (sf, Value.ref a) := by simpa using hy
      rw [this]
      exact .inl S.se
    · subst he
      obtain ⟨h2, tk, es2, hk2⟩ := z.done
      have os2 : s2.os = s1.os := by rw [es2]
      have gen2 : s2.gens = s1.gens := by rw [es2]
      have lim2 : s2.heap.NoLimit := lim.keeps z.toInCall.keep
      have lt2 : s1.heap.objs.size < s2.heap.objs.size := z.toInCall.ns.lt
      refine ⟨lim2, s2.heap.objs.size, s2.gens.size, _, rfl, Nat.le_of_lt lt2, ?_, ⟨_, _, _, Heap.get?_push_size _ rfl, rfl, rfl, rfl⟩, Array.getElem?_push_size .., os2, AllBare.push (by rw [gen2]; exact I1.bare) rfl, fun b o e => Heap.get?_push_of_some _ (z.toInCall.keep b o e), fun B out s3 hB hout k3 => ?_⟩
      · show _ < (s2.heap.push _).objs.size
        rw [Heap.size_push]; exact Nat.lt_succ_self _
      · have k23 : ∀ b o, s2.heap.get? b = some o → s3.heap.get? b = some o := fun b o e => k3 b o (Heap.get?_push_of_some _ e)
        have k13 : ∀ b o, s1.heap.get? b = some o → s3.heap.get? b = some o := fun b o e => k23 b o (z.toInCall.keep b o e)
        have ht3 : s3.heap.IsTuple t its.toArray := let ⟨o, ho, r⟩ := hIT; ⟨o, k13 _ _ ho, r⟩
        have hn3 := z.toInCall.ns.keeps k23
        have hok3 : HOk X.prog X.w H1 s3.heap := I1.hok.kept k13
        obtain ⟨mA, O, r, _, _, _⟩ := ins_get hok3 ea
        obtain ⟨u, hu, ru⟩ := RelO.some_of (v := V.ref t) (o := mA fld) (by rw [← lf]; exact r fld)
        have hd3 := handed_of ru
        cases ru
        have K3 : X.K.In s3.heap := KX.keeps k13
        have ltG : s2.heap.objs.size < s3.heap.objs.size := Heap.lt_size (k3 _ _ (Heap.get?_push_size _ rfl))
        have up : ∀ b ∈ out, s2.heap.objs.size < b := fun b hb => by
          have := (hout b hb).1
          have e : (s2.heap.push { cls := .type "generator", data := .fields #[.int s2.gens.size 0, .str m s2.toks, .str qual (s2.toks + 1)] }).objs.size ≤ b := this
          rw [Heap.size_push] at e
          exact e
        rw [hbody]
        refine goes_forY (t := t) hB ht3 hn3 (fun B' E' Q' hq' => ?_) (hfs _) S.lx S.kind S.co (S.calm _ _ _ _) hxd (Nat.le_refl _) (Nat.ne_of_lt lt2) (fun hb => ?_) (fun hb => ?_) ltG (Nat.le_of_lt (Nat.lt_trans lt2 ltG)) fun b hb => (hout b hb).2
        · refine attr_of (hab _) (wpAny_Name (wpAny_loadName_local (v := .ref a) S.kind S.se hn3 (bindL_get (P := [sf]) (vs := [.ref a]) (i := 0) (List.nodup_cons.mpr ⟨List.not_mem_nil, List.nodup_nil⟩) rfl rfl S.se) ?_) hsd)
          exact get_map K3 O (c.get fld) c.hd na hu hd3 (hq' _)
        · exact absurd (Nat.lt_trans lt2 (up _ hb)) (Nat.lt_irrefl _)
        · obtain ⟨o, ho, _⟩ := hIT
          exact absurd (Nat.lt_trans (Nat.lt_trans (Heap.lt_size ho) lt2) (up _ hb)) (Nat.lt_irrefl _)
  · cases r with
    | error e => exact False.elim hq
    | ok fl =>
      cases fl with
      | ret u => exact ⟨H1, s1, its.toArray, xs, I1, rv, hq, q⟩
      | next => exact False.elim hq
      | brk => exact False.elim hq
      | cont => exact False.elim hq
end LB

namespace PySem.W
open PySem PySem.Calls PyProof.Rows Builtin
/-- the class's bases are object alone -/
def baseObj (K : Frag) (C : Addr) : Bool := (clsIn K C).any fun cd => cd.mro == [.ref C, .type "object"]
section
variable {prog : Program} {w : World} {A : Around} {E : Value → Shared → Prop} {s : Shared} {K : Frag} {x C L f : Addr} {h₀ : Heap} {m : Str → Option Value} {ox : Obj} {od : Option Obj}
theorem noInplace {M : Model} {h : Heap} {nm : String} {add : Bool} (X : K.In h) (hb : baseObj K C = true) (n1 : findIn K (.ref C) (dunderI nm) = some none) (n2 : findIn K (.type "object") (dunderI nm) = some none) : Looks M h (fillsInplaceSlot (.ref C) nm add) false := by
  intro A Q E s k q
  obtain ⟨cd, hcd, hm⟩ := any_some hb
  have hm : cd.mro = [.ref C, .type "object"] := beq_iff_eq.mp hm
  unfold fillsInplaceSlot
  refine wpAny_bind ((looks_clsIn X hcd).andThen (f := fun cd => pure cd.mro) .now A _ E s k ?_)
  rw [hm, List.anyM_cons]
  refine wpAny_bind (wpAny_bind (looks_findIn X n1 A _ E s k ?_))
  refine wpAny_pure ?_
  rw [if_neg (by decide), List.anyM_cons]
  refine wpAny_bind (wpAny_bind (looks_findIn X n2 A _ E s k ?_))
  refine wpAny_pure ?_
  rw [if_neg (by decide), List.anyM_nil]
  exact wpAny_pure q
theorem inplaceNo {op : Operator} {b : Value} {Q : Value → Shared → Prop} (F : Fr h₀ L s.heap m) (X₀ : K.In h₀) (I : InstAt s.heap x ox C od) (hb : Looks (model prog w) s.heap (typeOf b) (.ref C)) (hc : baseObj K C = true)
    (n1 : findIn K (.ref C) (dunderI op.info.2) = some none) (n2 : findIn K (.type "object") (dunderI op.info.2) = some none) (hs : findIn K (.ref C) (PySem.dunder op.info.2) = some (some (.ref f))) (hf : isFn K (.ref f) = true)
    (h : wpAny (model prog w) A (call (.ref f) [.ref x, b]) (CmpBack Q) E s) : wpAny (model prog w) A (inplaceOp op (.ref x) b) Q E s := by
  have X := X₀.keeps F.keep
  obtain ⟨cd, hcd, hm⟩ := any_some hc
  have hm : cd.mro = [.ref C, .type "object"] := beq_iff_eq.mp hm
  unfold inplaceOp
  refine wpAny_holding ?_
  refine wpAny_bind (I.type.here (wpAny_bind ((noInplace X hc n1 n2).here ?_)))
  rw [if_neg (by decide)]
  refine wpAny_bind ?_
  unfold binaryOp1
  refine wpAny_bind (I.type.here ?_)
  refine wpAny_bind (hb.here ?_)
  refine wpAny_bind ((fills_K X hcd hm hs).here ?_)
  simp only [beq_self_eq_true, if_true]
  refine wpAny_bind (wpAny_pure ?_)
  simp only [Bool.and_false, Bool.false_eq_true, if_false, Bool.false_and]
  refine wpAny_bind (wpAny_pure ?_)
  simp only [Bool.false_eq_true, if_false]
  refine wpAny_bind ?_
  refine wpAny_mono (ksp_try X I hs hf h) (fun r s' z => ?_) fun _ _ z => z
  obtain ⟨v, rfl, q⟩ := z
  exact wpAny_pure (wpAny_pure q)
end
end PySem.W
namespace LB
open PySem L2 PySem.Spec PyProof.Rows
/-- o -= e by the class's own operator -/
structure NoI (K : PySem.W.Frag) (C : Addr) (n : Str) : Prop where
  ob : PySem.W.baseObj K C = true
  n1 : PySem.W.findIn K (.ref C) n = some none
  n2 : PySem.W.findIn K (.type "object") n = some none
section
variable {X : Cx} {CX : CXT} {k : Nat} {C f : Addr} {fd : FuncData} {ps : List Str} {sp : Sp} {E : XK}
theorem iop_own {op : Operator} (F : FnOk X.prog X.w X.K X.mg X.base CX k f fd ps sp) (hr : Room k X.A) (hb : Binds X.K fd ps []) (hx : Passes CX X E) (hc : NoI X.K C (dunderI op.info.2))
    (ho : Own X.K C f (PySem.dunder op.info.2)) : PIp X op (rOwn2 C C sp E) := by
  intro pins s σ H x y v u Q I rx ry hq
  obtain ⟨a, b, dx, dy, fs, gs, rfl, rfl, ha, hb', h⟩ := hq
  cases rx
  cases ry
  obtain ⟨od, J⟩ := inst_of I ha
  obtain ⟨od', J'⟩ := inst_of I hb'
  obtain ⟨m, hF⟩ := I.fr
  refine PySem.W.inplaceNo hF I.ok.mod.kin J J'.type hc.ob hc.n1 hc.n2 ho.at_ ho.fn (thn ?_ fun _ _ z => cmpBack_of z)
  exact run_fn (us := [.ref a, .ref b]) (vs := [.ref a, .ref b]) (dvs := []) (ds := []) F hr hb .nil hx I (.cons rfl (.cons rfl .nil)) h
theorem iop_subMe (h : HasMe X.prog X.w X.K X.mg X.base CX k C "__sub__" ps sp) (hr : Room k X.A) (hx : Passes CX X E) (hc : NoI X.K C "__isub__") : PIp X .Sub (rOwn2 C C sp E) := by
  obtain ⟨f, fd, F, O, _, hb⟩ := h
  exact iop_own F hr hb hx hc O
theorem op_andMe (h : HasMe X.prog X.w X.K X.mg X.base CX k C "__and__" ps sp) (hr : Room k X.A) (hx : Passes CX X E) (hc : PySem.W.selfFirst X.K C = true) : OpR X (binaryOp .BitAnd) (rOwn2 C C sp E) := by
  obtain ⟨f, fd, F, O, _, hb⟩ := h
  exact op_bin F hr hb hx hc O
theorem op_orMe (h : HasMe X.prog X.w X.K X.mg X.base CX k C "__or__" ps sp) (hr : Room k X.A) (hx : Passes CX X E) (hc : PySem.W.selfFirst X.K C = true) : OpR X (binaryOp .BitOr) (rOwn2 C C sp E) := by
  obtain ⟨f, fd, F, O, _, hb⟩ := h
  exact op_bin F hr hb hx hc O
theorem op_xorMe (h : HasMe X.prog X.w X.K X.mg X.base CX k C "__xor__" ps sp) (hr : Room k X.A) (hx : Passes CX X E) (hc : PySem.W.selfFirst X.K C = true) : OpR X (binaryOp .BitXor) (rOwn2 C C sp E) := by
  obtain ⟨f, fd, F, O, _, hb⟩ := h
  exact op_bin F hr hb hx hc O
theorem op_subMe (h : HasMe X.prog X.w X.K X.mg X.base CX k C "__sub__" ps sp) (hr : Room k X.A) (hx : Passes CX X E) (hc : PySem.W.selfFirst X.K C = true) : OpR X (binaryOp .Sub) (rOwn2 C C sp E) := by
  obtain ⟨f, fd, F, O, _, hb⟩ := h
  exact op_bin F hr hb hx hc O
theorem un_invMe (h : HasMe X.prog X.w X.K X.mg X.base CX k C "__invert__" ps sp) (hr : Room k X.A) (hx : Passes CX X E) :
    UnR X (unaryOp .Invert) (fun x H Q => ∃ a dx fs, x = .ref a ∧ H a = some (.ins C dx fs) ∧ sp [x] H Q E) := by
  obtain ⟨f, fd, F, O, _, hb⟩ := h
  exact un_own (op := .Invert) F hr hb hx O
theorem tru_me (h : HasMe X.prog X.w X.K X.mg X.base CX k C "__bool__" ps sp) (hr : Room k X.A) (hx : Passes CX X E) : TruR X (rTruOwn C sp E) := by
  obtain ⟨f, fd, F, O, _, hb⟩ := h
  exact tru_own F hr hb hx O
end
end LB

namespace K41
open PySem L2 LB PyProof.Rows
def top (i : Nat) : Stmt := PySem.Challenge.pw_linestrikes_k41_lines_joined.main.body.getD i (.Pass ⟨0, 0, 0, 0⟩)
abbrev s_is_letter_of : Stmt := top 18
theorem sc_is_letter_of : FnScope ["letters", "value"] ["letters", "value"] (defScope s_is_letter_of) := ⟨rfl, rfl, rfl, by decide +kernel, rfl, by decide +kernel, by decide +kernel⟩
abbrev s_are_unlike_letters : Stmt := top 25
theorem sc_are_unlike_letters : FnScope ["letters", "letter"] ["letters"] (defScope s_are_unlike_letters) := ⟨rfl, rfl, rfl, by decide +kernel, rfl, by decide +kernel, by decide +kernel⟩
abbrev s_ValuesDD_initDD : Stmt := inClass (top 22) 1
theorem sc_ValuesDD_initDD : FnScope ["self", "letters", "number"] ["self", "letters"] (defScope s_ValuesDD_initDD) := ⟨rfl, rfl, rfl, by decide +kernel, rfl, by decide +kernel, by decide +kernel⟩
abbrev s_CellDD_initDD : Stmt := inClass (top 23) 0
theorem sc_CellDD_initDD : FnScope ["self", "alphabet", "number", "k", "letter"] ["self", "alphabet", "number"] (defScope s_CellDD_initDD) := ⟨rfl, rfl, rfl, by decide +kernel, rfl, by decide +kernel, by decide +kernel⟩
abbrev s_are_values_letters : Stmt := top 24
theorem sc_are_values_letters : FnScope ["letters"] ["letters"] (defScope s_are_values_letters) := ⟨rfl, rfl, rfl, by decide +kernel, rfl, by decide +kernel, by decide +kernel⟩

def isLet (L : Str) : V → Bool
  | .str z => decide (z.cps.size = 1) && decide (z.cps.getD 0 0 ∈ L.cps.toList)
  | _ => false
/-- a value of which it is known whether it is a text -/
def TextOr (K : PySem.W.Frag) (H : Hp) (x : V) : Prop := (∃ z : Str, x = .str z ∧ z.cps.size ≤ sizeLine) ∨ (∃ t, TyX K H x t ∧ PySem.W.kitOne K t (.type "str") = some false ∧ ∀ z, x ≠ .str z)
def spLet (K : PySem.W.Frag) : Sp := fun vs H Q _ => ∃ (L : Str) (x : V), vs = [.str L, x] ∧ TextOr K H x ∧ Q (.bl (isLet L x)) H

def SM : Str := ⟨small.toArray⟩
structure Consts (mg : Str → Option Value) (CV : Addr) (ts : Tok) : Prop where
  small : mg "SMALL_LETTERS" = some (.str SM ts)
  mgV : mg "Values" = some (.ref CV)
theorem same_upd {H H1 : Hp} {D : Addr} {o : HO} (h : Same H H1) (n : H D = none) : Same H (upd H1 D o) := fun b u e => by rw [upd_ne (ne_of_none e n)]; exact h b u e
def spUnl : Sp := fun vs H Q _ => ∃ z : Str, vs = [.str z] ∧ Good z ∧ ∀ H', Same H H' → Q (.bl true) H'
theorem isLet_small {c : Nat} (h : c ∈ small) : isLet SM (.str ⟨#[c]⟩) = true := by
  show (decide ((#[c] : Array Nat).size = 1) && decide ((#[c] : Array Nat).getD 0 0 ∈ (small.toArray).toList)) = true
  have : c ∈ (small.toArray).toList := by simpa using h
  simpa using this
theorem signs_nd {z : Str} (h : z.cps.toList.Nodup) : (LB.signs z).Nodup := by
  unfold LB.signs
  exact List.Pairwise.map _ (fun a b hab e => hab (by injection e with e; injection e with e; injection e)) h

structure VF (K : PySem.W.Frag) (CV CC : Addr) : Prop where
  cv : Cls K CV
  ne : CV ≠ CC
  cc : Cls K CC
  vl : NoAttr K CV "letters"
  vb : NoAttr K CV "by_number"
  ca : NoAttr K CC "alphabet"
  cn : NoAttr K CC "number"
  cl : NoAttr K CC "letters"
  most : ∃ mc u, ClX.CRead K CV mc ∧ ClX.CVal K CV mc "MOST" (.int 4) u
def spCell (CV CC : Addr) : Sp := fun vs H Q _ => ∃ (c p dc dx : Addr) (fs : List (Str × V)) (z : Str) (n : Nat), vs = [.ref c, .ref p, .int n] ∧ H c = some (.ins CC dc []) ∧ H p = some (.ins CV dx fs) ∧ fs.lookup ("letters" : Str) = some (.str z) ∧ Good z ∧ c ≠ p ∧
  ∀ H', But c H H' → H' c = some (.ins CC dc (cellF p n (cellT z n))) → Q .non H'
theorem But.same_of {p : Addr} {H H1 H2 : Hp} (a : But p H H1) (b : Same H1 H2) : But p H H2 := fun c o h n => b c o (a c o h n)
theorem sgs_len (l : List Nat) : (sgs l).length = l.length := by simp [sgs]

def spVals (CV CC : Addr) : Sp := fun vs H Q _ => ∃ (v dv : Addr) (z : Str), vs = [.ref v, .str z] ∧ H v = some (.ins CV dv []) ∧ Good z ∧ ∀ H' cs, But v H H' → ValsAt CV CC H' v z cs → Q .non H'
theorem same_upd' {p : Addr} {H H1 : Hp} {D : Addr} {o : HO} (h : But p H H1) (n : H D = none) : But p H (L2.upd H1 D o) := fun b u e k => by rw [upd_ne (ne_of_none e n)]; exact h b u e k
theorem But.at {p : Addr} {H H' : Hp} (a : But p H H') (b : Addr) {o : HO} (h : H b = some o) (n : b ≠ p) : H' b = some o := a b o h n
/-- n cells stand -/
structure CellsAt (CC : Addr) (H : Hp) (p : Addr) (z : Str) (n : Nat) (cs : List Addr) : Prop where
  len : cs.length = n
  cell : ∀ i c, cs[i]? = some c → CellAt CC H c p z i
theorem CellsAt.but {CC : Addr} {H H' : Hp} {p q : Addr} {z : Str} {n : Nat} {cs : List Addr} (h : CellsAt CC H p z n cs) (b : But q H H') (hq : ∀ i : Nat, cs[i]? ≠ some q) : CellsAt CC H' p z n cs :=
  ⟨h.len, fun i c e => let ⟨dc, k⟩ := h.cell i c e; ⟨dc, b _ _ k fun q' => hq i (q' ▸ e)⟩⟩

def spEnd (CV CC : Addr) (i : Int) : Sp := fun vs H Q _ => ∃ (p : Addr) (z : Str) (cs : List Addr) (c : Addr), vs = [.ref p] ∧ ValsAt CV CC H p z cs ∧ atI (cs.map V.ref) i = some (.ref c) ∧ Q (.ref c) H

section
variable {P : Program} {w : World} {K : PySem.W.Frag} {mg : Str → Option Value} {base : Heap}
theorem ok_let {f : Addr} {fd : FuncData} (F : Fun K "is_letter_of" "is_letter_of" s_is_letter_of f fd) (B : Blt mg) : FnOk P w K mg base CX0 1 f fd ["letters", "value"] (spLet K) := by
  refine F.ok sc_is_letter_of (fun vs H Q E h => ?_) (fun cdv A outer s H vs Q E hr h => ?_)
  · obtain ⟨L, x, rfl, _⟩ := h
    rfl
  · obtain ⟨L, x, rfl, hx, k⟩ := h
    refine ⟨_, (pss_one (ps_ret (pe_and (pe_callB call_isi (by rfl) B.n_isinstance (by decide +kernel) (pa_cons (pv 1) (pa_cons (pe_bltn (v := .ty "str") (by rfl) B.n_str (by decide +kernel) rfl) pa_nil))) (pe_and (pe_cmpR op_eq (pe_callB call_len (by rfl) B.n_len (by decide +kernel) (pa_cons (pv 1) pa_nil)) pe_int (nomark _)) (pe_one (pe_cmpR op_in_sign (pv 1) (pv 0) (by rfl))))))), ?_⟩
    rcases hx with ⟨z, rfl, hz⟩ | ⟨t, ty, hk, hn⟩
    · refine ⟨_, rfl, _, _, _, _, true, rfl, .ty "str", .base (.str z), kit_ty (by decide +kernel), true, rfl, iteT ?_⟩
      refine ⟨_, rfl, _, _, rfl, ⟨hz, rfl⟩, rfl, _, rfl, ?_⟩
      have e1 : decide (V.int (z.cps.size : Nat) = V.int 1) = decide (z.cps.size = 1) := by
        by_cases h : z.cps.size = 1
        · rw [h]; rfl
        · rw [decide_eq_false h, decide_eq_false fun q => h (by injection q with q; omega)]
      show if decide (V.int (z.cps.size : Nat) = V.int 1) = true then _ else _
      rw [e1]
      refine ite2 (fun c => ?_) (fun c => ?_)
      · have c' : z.cps.size = 1 := of_decide_eq_true c
        have ez : z = ⟨#[z.cps.getD 0 0]⟩ := by
          obtain ⟨a⟩ := z
          have h1 : a.size = 1 := c'
          obtain ⟨l⟩ := a
          match l, h1 with
          | [y], _ => rfl
        refine ⟨.str z, rfl, _, rfl, z.cps.getD 0 0, L, by rw [← ez], rfl, ?_⟩
        have k' : Q (.bl (decide (z.cps.size = 1) && decide (z.cps.getD 0 0 ∈ L.cps.toList))) H := k
        rw [c, Bool.true_and] at k'
        exact k'
      · have k' : Q (.bl (decide (z.cps.size = 1) && decide (z.cps.getD 0 0 ∈ L.cps.toList))) H := k
        have c' : decide (z.cps.size = 1) = false := by simpa using c
        rw [c', Bool.false_and] at k'
        exact k'
    · refine ⟨_, rfl, _, _, _, _, false, rfl, .ty "str", ty, hk, false, rfl, iteF ?_⟩
      have e : isLet L x = false := by
        cases x <;> first | rfl | exact absurd rfl (hn _)
      rw [← e]
      exact k
theorem ok_unl {CV : Addr} {ts : Tok} {f : Addr} {fd : FuncData} (F : Fun K "are_unlike_letters" "are_unlike_letters" s_are_unlike_letters f fd) (B : Blt mg) (G : Consts mg CV ts) (D_is_letter_of : HasFn P w K mg base CX0 1 "is_letter_of" ["letters", "value"] (spLet K)) :
    FnOk P w K mg base CX0 2 f fd ["letters"] spUnl := by
  refine F.ok sc_are_unlike_letters (fun vs H Q E h => ?_) (fun cdv A outer s H vs Q E hr h => ?_)
  · obtain ⟨z, rfl, _⟩ := h
    rfl
  · obtain ⟨z, rfl, gz, k⟩ := h
    refine ⟨_, (pss_one (ps_ret (pe_and (pe_callB (cr_all rfl) (by rfl) B.n_all (by decide +kernel) (pa_cons (pe_lc rfl sc_are_unlike_letters.nd (pi_str (pv 0)) (blkOk_by (own := [("letter", 1)]) (N := ["letters", "letter"]) (sc := defScope s_are_unlike_letters) (by decide +kernel)) (fun _ _ _ _ _ => (pg_name (i := 1) sc_are_unlike_letters.nd rfl (.inl rfl))) (fun _ _ _ _ _ => pts_nil) (fun _ _ _ _ _ => (pe_fn D_is_letter_of (hr.mono (by decide)) pass0 (pa_cons (pe_glob (v := .str SM) rfl G.small ⟨_, rfl⟩) (pa_cons (pv 1) pa_nil))))) pa_nil)) (pe_one (pe_cmpR op_eq (pe_lenSetT rfl (by rfl) B.n_len (by rfl) B.n_set (pv 0)) (pe_callB call_len (by rfl) B.n_len (by decide +kernel) (pa_cons (pv 0) pa_nil)) (nomark _)))))), ?_⟩
    refine ⟨_, rfl, z, rfl, fun D hD => ?_⟩
    refine lc_str (fun i H' => H' D = some (.lst ((List.replicate i true).map V.bl)) ∧ Same H H') ⟨upd_same, same_new hD⟩ (fun i c H1 hc h1 => ?_) (fun H1 h1 => ?_)
    · refine ⟨rfl, ?_⟩
      have hci : c ∈ small := gz.az c (by rw [← Array.getElem?_toList] at hc; exact List.mem_of_getElem? hc)
      refine ⟨_, rfl, SM, _, rfl, .inl ⟨_, rfl, by show 1 ≤ sizeLine; decide⟩, ?_⟩
      rw [isLet_small hci]
      have hi : i < z.cps.size := (Array.getElem?_eq_some_iff.mp hc).1
      have := gz.hi
      refine ⟨_, h1.1, ?_, upd_same.trans ?_, same_upd h1.2 hD⟩
      · show _ < sizeLine
        have : 4 < sizeLine := by decide
        simp; omega
      · simp [List.replicate_succ']
    · refine ⟨_, _, rfl, SqL.of h1.1, ?_⟩
      refine ⟨true, by simp, iteT ?_⟩
      refine ⟨_, rfl, .inl ⟨z, rfl, by have := gz.hi; omega, ?_⟩⟩
      refine ⟨_, rfl, _, _, rfl, ⟨Nat.le_trans (show z.length ≤ 4 from gz.hi) (by decide), rfl⟩, rfl, ?_⟩
      have e1 : decide (V.int ((dd (LB.signs z)).length : Nat) = V.int (z.length : Nat)) = true := by
        rw [dd_nodup (signs_nd gz.nd), signs_len]
        exact decide_eq_true rfl
      show Q (.bl (decide (V.int ((dd (LB.signs z)).length : Nat) = V.int (z.length : Nat)))) H1
      rw [e1]
      exact k H1 h1.2
theorem ok_cell {CV CC : Addr} {f : Addr} {fd : FuncData} (F : Fun K "__init__" "Cell.__init__" s_CellDD_initDD f fd) (B : Blt mg) (VV : VF K CV CC) :
    FnOk P w K mg base CX0 1 f fd ["self", "alphabet", "number"] (spCell CV CC) := by
  refine F.ok sc_CellDD_initDD (fun vs H Q E h => ?_) (fun cdv A outer s H vs Q E hr h => ?_)
  · obtain ⟨c, p, dc, dx, fs, z, n, rfl, _⟩ := h
    rfl
  · obtain ⟨c, p, dc, dx, fs, z, n, rfl, hc, hp, hl, gz, ne, k⟩ := h
    refine ⟨_, (pss_cons (ps_fld (pv 0) (pv 1) rfl)
      (pss_cons (ps_fld (pv 0) (pv 2) rfl)
      (pss_one (ps_fld (pv 0) (pe_join pe_str (pe_lc rfl sc_CellDD_initDD.nd (pi_enumS (by rfl) B.n_enumerate (pa_cons (pe_fld (pv 1) rfl) pa_nil)) (blkOk_by (own := [("k", 3), ("letter", 4)]) (N := ["self", "alphabet", "number", "k", "letter"]) (sc := defScope s_CellDD_initDD) (by decide +kernel)) (fun _ _ _ _ _ => (pg_tupB (n := 2) rfl (pgs_cons (pg_name (i := 3) sc_CellDD_initDD.nd rfl (.inl rfl)) (pgs_cons (pg_name (i := 4) sc_CellDD_initDD.nd rfl (.inl rfl)) pgs_nil)))) (fun _ _ _ _ _ => (pts_one (pt_truthB (pe_op op_and (pe_op op_shr (pv 2) (pv 3)) pe_int) (by intro _; rfl)))) (fun _ _ _ _ _ => (pv 4)))) rfl)))), ?_⟩
    refine ⟨_, rfl, _, rfl, c, CC, dc, [], rfl, hc, VV.cc, VV.ca, by decide, ?_⟩
    refine ⟨_, rfl, _, rfl, c, CC, dc, _, rfl, upd_same, VV.cc, VV.cn, by show 1 < 1000; decide, ?_⟩
    have b2 : But c H (upd (upd H c (.ins CC dc (putF "alphabet" (.ref p) []))) c (.ins CC dc (putF "number" (.int n) (putF "alphabet" (.ref p) [])))) := But.upd.trans .upd
    refine ⟨⟨_, rfl⟩, _, rfl, p, CV, dx, fs, _, rfl, b2 _ _ hp ne.symm, VV.cv, VV.vl, hl, z, rfl, fun D hD => ?_⟩
    have h2 := upd_same (a := c) (o := HO.ins CC dc (putF "number" (.int n) (putF "alphabet" (.ref p) []))) (H := upd H c (.ins CC dc (putF "alphabet" (.ref p) [])))
    generalize (upd (upd H c (.ins CC dc (putF "alphabet" (.ref p) []))) c (.ins CC dc (putF "number" (.int n) (putF "alphabet" (.ref p) [])))) = H2 at b2 hD h2 ⊢
    refine lc_enumS (fun i H' => H' D = some (.lst ((sgs (subL z n i)).map V.str)) ∧ Same H2 H') ⟨upd_same, same_new hD⟩ (fun i x T H1 hx h1 hT => ?_) (fun H1 h1 => ?_)
    · refine ⟨T, _, rfl, SqT.of upd_same, rfl, ?_⟩
      refine ⟨_, _, rfl, _, _, rfl, rfl, rfl, ?_⟩
      have h1' : Same H2 (upd H1 T (.tup [.int (i : Nat), .str ⟨#[x]⟩])) := h1.2.trans (same_new hT)
      have hDT : D ≠ T := ne_of_none h1.1 hT
      have h1D : upd H1 T (.tup [.int (i : Nat), .str ⟨#[x]⟩]) D = some (.lst ((sgs (subL z n i)).map V.str)) := by rw [upd_ne hDT]; exact h1.1
      refine ⟨_, rfl, _, rfl, _, _, rfl, rfl, Int.natCast_nonneg _, _, _, rfl, rfl, ?_⟩
      show ∃ k, TruV K (V.int (Builtin.bitAnd ((n : Int) / 2 ^ ((i : Int)).toNat) 1)) _ k ∧ _
      rw [bit_shift]
      refine ⟨n.testBit i, ?_, ?_⟩
      · cases n.testBit i <;> exact rfl
      have ez : z.cps.getD i 0 = x := by rw [Array.getD_eq_getD_getElem?, hx]; rfl
      have hi : i < z.cps.size := (Array.getElem?_eq_some_iff.mp hx).1
      have hl5 : ((sgs (subL z n i)).map V.str).length < sizeLine := by
        rw [List.length_map, sgs_len]
        have := subL_len z n i
        have := gz.hi
        have : 4 < sizeLine := by decide
        omega
      cases hb : n.testBit i with
      | true =>
        refine ⟨_, rfl, _, h1D, hl5, ?_, same_upd h1' hD⟩
        rw [upd_same, subL_succ, if_pos hb, sgs_append, List.map_append, ez]
        rfl
      | false =>
        refine ⟨?_, h1'⟩
        rw [h1D, subL_succ, if_neg (by rw [hb]; decide), List.append_nil]
    · refine ⟨_, D, sgs (subL z n z.cps.size), rfl, rfl, .inl (SqL.of h1.1), ?_, ?_⟩
      · show (((sgs (subL z n z.cps.size)).map (·.length)).sum + (sgs (subL z n z.cps.size)).length * 0) ≤ 16777216
        have e : ∀ l : List Nat, ((sgs l).map (·.length)).sum = l.length := by
          intro l
          induction l with
          | nil => rfl
          | cons c r ih => show 1 + ((sgs r).map (·.length)).sum = _; rw [ih, List.length_cons]; omega
        rw [e]
        have := subL_len z n z.cps.size
        have := gz.hi
        omega
      show tVar 0 _ _ _
      have ej : Txt.join (Str.ofString "") (sgs (subL z n z.cps.size)) = cellT z n := join_sgs _
      rw [ej]
      refine ⟨_, rfl, c, CC, dc, _, rfl, h1.2 _ _ h2, VV.cc, VV.cl, by show 2 < 1000; decide, ?_⟩
      refine k _ (But.trans (But.same_of (H1 := H2) b2 h1.2) But.upd) ?_
      rw [upd_same]
      rfl
theorem ok_avl {CV CC : Addr} {ts : Tok} {f : Addr} {fd : FuncData} (F : Fun K "are_values_letters" "are_values_letters" s_are_values_letters f fd) (B : Blt mg) (VV : VF K CV CC) (G : Consts mg CV ts)
    (D_are_unlike_letters : HasFn P w K mg base CX0 2 "are_unlike_letters" ["letters"] spUnl) : FnOk P w K mg base CX0 3 f fd ["letters"] spUnl := by
  refine F.ok sc_are_values_letters (fun vs H Q E h => ?_) (fun cdv A outer s H vs Q E hr h => ?_)
  · obtain ⟨z, rfl, _⟩ := h
    rfl
  · obtain ⟨z, rfl, gz, k⟩ := h
    refine ⟨_, (pss_one (ps_ret (pe_and (pe_callB call_isi (by rfl) B.n_isinstance (by decide +kernel) (pa_cons (pv 0) (pa_cons (pe_bltn (v := .ty "str") (by rfl) B.n_str (by decide +kernel) rfl) pa_nil))) (pe_and (pe_chain op_le op_le pe_int (pe_callB call_len (by rfl) B.n_len (by decide +kernel) (pa_cons (pv 0) pa_nil)) (ClX.pe_cval (pe_glob (v := .ref _) rfl G.mgV rfl) rfl)) (pe_one (pe_fn D_are_unlike_letters (hr.mono (by decide)) pass0 (pa_cons (pv 0) pa_nil))))))), ?_⟩
    have lo := gz.lo
    have hi := gz.hi
    have zl : z.length ≤ sizeLine := Nat.le_trans (show z.length ≤ 4 from gz.hi) (by decide)
    refine ⟨_, rfl, _, _, _, _, true, rfl, .ty "str", .base (.str z), kit_ty (by decide +kernel), true, rfl, iteT ?_⟩
    have d2 : decide ((2 : Int) ≤ (z.length : Nat)) = true := decide_eq_true (by show (2 : Int) ≤ ((z.cps.size : Nat) : Int); omega)
    have d4 : decide (((z.length : Nat) : Int) ≤ 4) = true := decide_eq_true (by show ((z.cps.size : Nat) : Int) ≤ 4; omega)
    refine ⟨_, rfl, _, _, rfl, ⟨zl, rfl⟩, _, _, rfl, rfl, true, congrArg V.bl d2, iteT ?_⟩
    obtain ⟨mc, u, cr, cv⟩ := VV.most
    exact ⟨CV, mc, _, u, rfl, cr, cv, _, _, rfl, rfl, true, congrArg V.bl d4, iteT ⟨_, rfl, z, rfl, gz, k⟩⟩
theorem ok_vals {CV CC : Addr} {ts : Tok} {f : Addr} {fd : FuncData} (F : Fun K "__init__" "Values.__init__" s_ValuesDD_initDD f fd) (B : Blt mg) (VV : VF K CV CC) (G : Consts mg CV ts)
    (D_are_values_letters : HasFn P w K mg base CX0 3 "are_values_letters" ["letters"] spUnl) (M_Cell : HasMk P w K mg base CX0 1 CC "Cell" ["self", "alphabet", "number"] (spCell CV CC)) :
    FnOk P w K mg base CX0 4 f fd ["self", "letters"] (spVals CV CC) := by
  refine F.ok sc_ValuesDD_initDD (fun vs H Q E h => ?_) (fun cdv A outer s H vs Q E hr h => ?_)
  · obtain ⟨v, dv, z, rfl, _⟩ := h
    rfl
  · obtain ⟨v, dv, z, rfl, hv, gz, k⟩ := h
    refine ⟨_, (pss_cons (ps_if (pt_not (pt_val (pe_fn D_are_values_letters (hr.mono (by decide)) pass0 (pa_cons (pv 1) pa_nil)))) (pss_one ps_never) pss_nil)
      (pss_cons (ps_fld (pv 0) (pv 1) rfl)
      (pss_one (ps_fld (pv 0) (pe_callTy call_tuple_of (by rfl) B.n_tuple (by decide +kernel) (pa_cons (pe_lc rfl sc_ValuesDD_initDD.nd (pi_range1 (by rfl) B.n_range (pa_cons (pe_op op_shl pe_int (pe_callB call_len (by rfl) B.n_len (by decide +kernel) (pa_cons (pv 1) pa_nil))) pa_nil)) (blkOk_by (own := [("number", 2)]) (N := ["self", "letters", "number"]) (sc := defScope s_ValuesDD_initDD) (by decide +kernel)) (fun _ _ _ _ _ => (pg_name (i := 2) sc_ValuesDD_initDD.nd rfl (.inl rfl))) (fun _ _ _ _ _ => pts_nil) (fun _ _ _ _ _ => (pe_mk M_Cell (hr.mono (by decide)) pass0 (pa_cons (pv 0) (pa_cons (pv 2) pa_nil))))) pa_nil)) rfl)))), ?_⟩
    have lo := gz.lo
    have hi := gz.hi
    have zl : z.length ≤ sizeLine := Nat.le_trans (show z.length ≤ 4 from gz.hi) (by decide)
    refine ⟨_, rfl, z, rfl, gz, fun H1 s1 => ⟨true, rfl, ?_⟩⟩
    refine ⟨_, rfl, _, rfl, v, CV, dv, [], rfl, s1 _ _ hv, VV.cv, VV.vl, by decide, ?_⟩
    have b2 : But v H (upd H1 v (.ins CV dv (putF "letters" (.str z) []))) := (But.of_same s1).trans .upd
    have h2 := upd_same (a := v) (o := HO.ins CV dv (putF "letters" (.str z) [])) (H := H1)
    generalize (upd H1 v (.ins CV dv (putF "letters" (.str z) []))) = H2 at b2 h2 ⊢
    have pw2 : ((1 : Int) * 2 ^ ((z.length : Nat) : Int).toNat) = ((2 ^ z.cps.size : Nat) : Int) := by
      rw [Int.toNat_natCast, Int.one_mul]
      show (2 : Int) ^ z.cps.size = _
      simp
    have p16 : 2 ^ z.cps.size ≤ 2 ^ 4 := Nat.pow_le_pow_right (by decide) hi
    have p16i : ((2 ^ z.cps.size : Nat) : Int) ≤ 16 := Int.ofNat_le.mpr p16
    have p16j : (0 : Int) ≤ ((2 ^ z.cps.size : Nat) : Int) := Int.natCast_nonneg _
    refine ⟨_, rfl, _, _, rfl, ⟨zl, rfl⟩, _, _, rfl, rfl, ⟨Int.natCast_nonneg _, by show ((z.cps.size : Nat) : Int) ≤ 1000000; omega, by decide⟩, ((2 ^ z.cps.size : Nat) : Int), by rw [← pw2], Int.le_trans (by decide) p16j, Int.lt_of_le_of_lt p16i (by decide), ?_⟩
    rw [Int.toNat_natCast]
    intro D hD
    refine lc_range (fun i H' => ∃ cs : List Addr, H' D = some (.lst (cs.map V.ref)) ∧ H' v = some (.ins CV dv (putF "letters" (.str z) [])) ∧ But v H2 H' ∧ CellsAt CC H' v z i cs) ⟨[], upd_same, same_new hD _ _ h2, But.new hD, rfl, fun i c e => by cases e⟩ (fun i H3 hi h3 => ?_) (fun H3 h3 => ?_)
    · obtain ⟨cs, hD3, hv3, b3, c3⟩ := h3
      refine ⟨rfl, ?_⟩
      refine ⟨_, rfl, _, rfl, fun x dx hx hdx hne => ?_⟩
      have vx : v ≠ x := ne_of_none hv3 hx
      have vdx : v ≠ dx := ne_of_none hv3 hdx
      refine ⟨x, v, dx, dv, _, z, i, by rw [Int.zero_add]; rfl, upd_same, by rw [upd_ne vx, upd_ne vdx]; exact hv3, by rw [lookup_putF, if_pos rfl], gz, vx.symm, fun H4 b4 hx4 => ⟨rfl, ?_⟩⟩
      have s4 : Same H3 H4 := fun b o e => b4 b o (by rw [upd_ne (ne_of_none e hx), upd_ne (ne_of_none e hdx)]; exact e) (ne_of_none e hx)
      have xD : x ≠ D := (ne_of_none hD3 hx).symm
      have vD : v ≠ D := fun q => by rw [q, hD3] at hv3; cases hv3
      have len : (cs.map V.ref).length < sizeLine := by
        rw [List.length_map, c3.len]
        exact Nat.lt_of_lt_of_le (Nat.lt_of_lt_of_le hi p16) (by decide)
      refine ⟨_, s4 _ _ hD3, len, cs ++ [x], by rw [upd_same, List.map_append]; rfl, by rw [upd_ne vD]; exact s4 _ _ hv3, ?_, by rw [List.length_append, c3.len]; rfl, fun j c e => ?_⟩
      · exact fun b o e n => same_upd' (But.same_of (H1 := H3) b3 s4) hD b o e n
      · by_cases hj : j < cs.length
        · rw [List.getElem?_append_left hj] at e
          obtain ⟨dc, q⟩ := c3.cell j c e
          refine ⟨dc, ?_⟩
          rw [upd_ne (fun q' => by rw [q', hD3] at q; cases q)]
          exact s4 _ _ q
        · rw [List.getElem?_append_right (Nat.le_of_not_lt hj)] at e
          have hj0 : j - cs.length = 0 := by
            cases hjj : j - cs.length with
            | zero => rfl
            | succ m => rw [hjj] at e; cases e
          rw [hj0] at e
          have ex : x = c := by cases e; rfl
          have ej : j = i := by have := c3.len; omega
          subst ex; subst ej
          refine ⟨dx, ?_⟩
          rw [upd_ne xD]
          exact hx4
    · obtain ⟨cs, hD3, hv3, b3, c3⟩ := h3
      refine ⟨D, _, rfl, .inl ⟨SqL.of hD3, fun l hl => ?_⟩⟩
      have vl : v ≠ l := ne_of_none hv3 hl
      refine ⟨_, rfl, v, CV, dv, _, rfl, by rw [upd_ne vl]; exact hv3, VV.cv, VV.vb, by show 1 < 1000; decide, ?_⟩
      refine k _ cs ((b2.trans b3).trans ((But.new hl).trans .upd)) ⟨⟨dv, l, upd_same, by rw [upd_ne vl.symm, upd_same]⟩, gz, c3.len, fun j c e => ?_⟩
      obtain ⟨dc, q⟩ := c3.cell j c e
      refine ⟨dc, ?_⟩
      rw [upd_ne (fun q' => by rw [q', hv3] at q; injection q with q; injection q with q1 q2 q3; exact VV.ne q1), upd_ne (ne_of_none q hl)]
      exact q
end
end K41

namespace LB
open PySem L2 PySem.Spec PyProof.Rows
/-! ### bool(a text) -/
theorem meets_bool_text (x : Str) (t : Tok) (hz : ¬ (x.length : Int) ≥ 2 ^ 63) : Meets (Builtin.«bool.__new__» ⟨[.type "bool", .str x t], []⟩) (fun _ R s => R (.ok (.ret (.bool ((x.length : Int) != 0)))) { s with toks := s.toks + 1 + 1 }) :=
  Meets.of_wp fun prog w A R s hs => by
    obtain ⟨hp, g, d, tk, os⟩ := s
    have f1 := F.conv_sub_bool
    repeat (any_goals (first | assumption | (with_reducible refine P.truthy_str hz ?_) | wp_step))
    all_goals first | exact hs | exact ⟨_, rfl, hs⟩ | skip
section
variable {X : Cx}
theorem call_boolS : CallR X (.type "bool") (fun xs H Q => ∃ z, xs = [.str z] ∧ z.length ≤ sizeLine ∧ Q (.bl (decide (0 < z.length))) H) := by
  intro pins s σ H xs us Q I r h
  obtain ⟨z, rfl, hz, q⟩ := h
  obtain ⟨u, rfl, t, rfl⟩ := vals1 r
  have big : (sizeLine : Int) < 2 ^ 63 := by decide
  have e : ((z.length : Int) != 0) = decide (0 < z.length) := by
    by_cases h0 : z.length = 0
    · rw [h0]; rfl
    · have : ((z.length : Int) != 0) = true := by rw [bne_iff_ne]; omega
      rw [this, decide_eq_true (Nat.pos_of_ne_zero h0)]
  refine call_bool_1 (meets_bool_text z t (by omega)) ⟨rfl, ?_⟩
  rw [e]
  exact ⟨.bl _, H, I.tok _, rfl, q⟩
end
/-! ### where a sign is found -/
theorem occ_all (s sub : Str) (hi : Nat) : ∀ (l : List Nat) (st : Array Nat × Nat), (∀ i ∈ st.1.toList, i + sub.length ≤ hi ∧ Builtin.Str.subAt s sub i = true) →
    ∀ i ∈ (forIn (m := Id) l st (StrLaws.occBody s sub hi 1)).run.1.toList, i + sub.length ≤ hi ∧ Builtin.Str.subAt s sub i = true
  | [], st, h => h
  | a :: l, st, h => by
    rw [List.forIn_cons]
    unfold StrLaws.occBody
    split
    · rename_i hc
      refine occ_all s sub hi l _ fun i hi' => ?_
      rw [Array.toList_push, List.mem_append] at hi'
      rcases hi' with q | q
      · exact h i q
      · rw [List.mem_singleton.mp q]; exact ⟨hc.1.2, hc.2⟩
    · exact occ_all s sub hi l _ h
/-- the first place of a sign that is there -/
theorem index_sign {z : Str} {c k : Nat} (nd : z.cps.toList.Nodup) (hk : z.cps.toList[k]? = some c) : Builtin.Str.occurrences z ⟨#[c]⟩ 0 z.length 1 = [k] := by
  have hm : c ∈ z.cps.toList := List.mem_of_getElem? hk
  have f := StrLaws.found_one z c
  rw [decide_eq_true hm] at f
  cases e : Builtin.Str.occurrences z ⟨#[c]⟩ 0 z.length 1 with
  | nil => rw [e] at f; cases f
  | cons i rest =>
    have len := StrLaws.occ_length_le z ⟨#[c]⟩ 0 z.length 1
    rw [e] at len
    have hr : rest = [] := List.eq_nil_of_length_eq_zero (by rw [List.length_cons] at len; omega)
    subst hr
    have hi : z.cps.toList[i]? = some c := by
      refine (StrLaws.subAt_one z c i).mp ?_
      have all := occ_all z ⟨#[c]⟩ z.length (List.range' 0 (z.length + 1 - 0)) (#[], 0) (fun i h => by cases h)
      rw [StrLaws.occ_eq] at e
      exact all i (by rw [e]; exact List.mem_cons_self)
    have : i = k := by
      obtain ⟨h1, e1⟩ := List.getElem?_eq_some_iff.mp hi
      obtain ⟨h2, e2⟩ := List.getElem?_eq_some_iff.mp hk
      exact (List.getElem_inj nd).mp (e1.trans e2.symm)
    rw [this]
end LB

namespace LB
open PySem L2 PySem.Spec PyProof.Rows
/-! ### bool(o), o an instance with its own __bool__ -/
theorem bool_called {prog : Program} {w : World} {A : Around} {E : Value → Shared → Prop} {s : Shared} {x : Value} {Q : Value → Shared → Prop}
    (h : wpAny (model prog w) A.in1.in1 (truthy x) (fun b s' => Q (.bool b) s') E s) : wpAny (model prog w) A (call (.type "bool") [x]) Q E s := by
  obtain ⟨c, tl, em⟩ := F.called_bool.mro
  have made := F.called_bool.made
  have sub := F.called_bool.sub
  have f1 := F.conv_sub_bool
  have n1 := F.called_bool.notType
  have n2 := F.called_bool.canCreate
  refine wpAny_call (codeAny_of_tree ?_)
  show wpAny _ _ (callAny (.type "bool") _) _ _ _
  refine wpAny_pure (And.intro (Code.quiet_builtin _ (by decide +kernel)) (codeAny_builtin F.entry_type_call ?_))
  rw [Around.under_plain (weight_type_call_type "bool" [x] []) (units_type_call_type "bool" [x] [])]
  have hct := F.typeCall_bool_1 x
  repeat (any_goals (first | assumption | wp_step | fail))
  have wn : wpAny (model prog w) A.in1.in1 (Builtin.«bool.__new__» ⟨[.type "bool", x], []⟩) (fun fin s' => match fin with | .done f => wants (fun v s' => (∃ b, v = .bool b) ∧ Q v s') E (.ok f) s' | .again c' => c'.quiet = true ∧ codeAny (model prog w) A.in1 c' (wants (fun v s' => (∃ b, v = .bool b) ∧ Q v s') E) s') (fun e s' => E e s') s := by
    unfold Builtin.«bool.__new__»
    repeat (first | (refine wpAny_bind (m := truthy x) (wpAny_mono h (fun b s' q => ?_) fun _ _ e => e)) | assumption | wp_step)
    exact ⟨⟨_, rfl⟩, q⟩
  refine codeAny_mono (codeAny_call_builtin (R := wants (fun v s' => (∃ b, v = .bool b) ∧ Q v s') E) F.called_bool.plain F.entry_bool_new (wpAny_of_eq (F.newCall_bool_1 x) wn)) fun r s1 hr => ?_
  cases r with
  | error e => exact hr
  | ok fl =>
    cases fl with
    | next => exact hr.elim
    | brk => exact hr.elim
    | cont => exact hr.elim
    | ret o =>
      obtain ⟨⟨b, rfl⟩, q⟩ := hr
      have tI : s1.TypeIs (.bool b) "bool" := PySem.typeIs_bool s1 b
      have li := F.called_bool.init.lookup
      have bi := F.called_bool.init.bind (.bool b)
      repeat (any_goals (first | assumption | wp_step | fail))
      have im := object_init_meets (self := .bool b) (rest := [x]) li made F.newNe_bool
      refine codeAny_mono (codeAny_call_builtin (R := wants (fun r s2 => r = .none ∧ Q (.bool b) s2) E) F.called_bool.init.plain F.entry_object_init (F.called_bool.init.check _ _ _ _ _ _ _ _ tI (F.args_object_init_2 (.bool b) x) (im prog w A.in1 _ s1 ⟨tI, rfl, q⟩))) fun r2 s2 h2 => ?_
      cases r2 with
      | error e => exact h2
      | ok g2 =>
        cases g2 with
        | next => exact h2.elim
        | brk => exact h2.elim
        | cont => exact h2.elim
        | ret y =>
          obtain ⟨rfl, q2⟩ := h2
          repeat (any_goals (first | assumption | wp_step | fail))
end LB

namespace LB
open PySem L2 PySem.Spec PyProof.Rows
section
variable {X : Cx} {CX : CXT} {k : Nat} {f C : Addr} {fd : FuncData} {ps : List Str} {sp : Sp} {E : XK}
theorem run_in2 {pins : List (Addr × Obj)} {σ : L2.St} {H : Hp} {s : Shared} {Q : VK} {us : List Value} {vs : List V} (F : FnOk X.prog X.w X.K X.mg X.base CX k f fd ps sp) (hr : Room (k + 1) X.A) (hb : Binds X.K fd ps []) (hx : Passes CX X E)
    (I : Inv X pins σ H s) (r : Vals vs us) (h : sp vs H Q E) : wpAny (model X.prog X.w) X.A.in1.in1 (call (.ref f) us) (EP X pins σ Q) X.xe s := by
  have el : us.length = ps.length := by rw [← r.length]; exact F.len _ _ _ _ h
  have bb := hb s us I.kIn (by rw [List.append_nil]; exact el)
  rw [List.append_nil] at bb
  have room2 : Room k X.A.in1.in1 := ⟨hr.hd, by have := hr.dp; show X.A.depth + 3 * k + 5 < _; omega, by have := hr.un; show X.A.units + 1 + 1 + 16 * k + 200 < _; omega⟩
  refine wpAny_call (codeAny_mono (F.run X.A.in1.in1 X.stack s H ⟨us, []⟩ us vs Q E room2 I.env0.in1.in1 bb r h) fun r s' hq => ?_)
  cases r with
  | error e => exact hx pins σ H s e s' I hq
  | ok fl =>
    cases fl with
    | ret u => exact I.after hq
    | next => exact False.elim hq
    | brk => exact False.elim hq
    | cont => exact False.elim hq
/-- bool(o) -/
theorem call_boolMe (h : HasMe X.prog X.w X.K X.mg X.base CX k C "__bool__" ps sp) (hr : Room (k + 1) X.A) (hx : Passes CX X E) :
    CallR X (.type "bool") (fun xs H Q => ∃ a dx fs, xs = [.ref a] ∧ H a = some (.ins C dx fs) ∧ sp [.ref a] H (fun z H' => ∃ c, z = .bl c ∧ Q (.bl c) H') E) := by
  obtain ⟨f, fd, F, O, _, hb⟩ := h
  intro pins s σ H xs us Q I rx hq
  obtain ⟨a, dx, fs, rfl, ha, h⟩ := hq
  obtain ⟨u, rfl, ru⟩ := vals1 rx
  cases ru
  obtain ⟨od, J⟩ := inst_of I ha
  obtain ⟨m, hF⟩ := I.fr
  refine bool_called (PySem.W.truthy_K hF I.ok.mod.kin J O.at_ O.fn (thn (run_in2 (us := [.ref a]) (vs := [.ref a]) F hr hb hx I (.cons rfl .nil) h) fun u s' z => ?_))
  obtain ⟨w, H', I', r, c, rfl, q⟩ := z
  cases r
  exact ⟨.bl c, H', I', rfl, q⟩
end
/-! ### o.m(k = e, ..) -/
def tMethK (C : Addr) (m : Str) (n : Nat) (sp : Sp) (E : XK) (ta : TE) (tk : TA) : TE := fun σ H Q => ta σ H fun x H1 => ∃ a dx fs, x = .ref a ∧ H1 a = some (.ins C dx fs) ∧ fs.lookup m = none ∧
  tk σ H1 fun zs H2 => zs.length = n ∧ sp (x :: zs) H2 Q E
/-- a method, called by keywords in the parameters' order -/
def HasMeK (P : Program) (w : World) (K : PySem.W.Frag) (mg : Str → Option Value) (base : Heap) (CX : CXT) (k : Nat) (C : Addr) (x : Str) (ps ks : List Str) (sp : Sp) : Prop :=
  ∃ (f : Addr) (fd : FuncData), FnOk P w K mg base CX k f fd ps sp ∧ Own K C f x ∧ PySem.W.keepIn K (.ref f) = true ∧ ∀ (s : Shared) (u : Value) (ws : List Value), K.In s.heap → ws.length = ks.length → BindsTo s fd ⟨[u], ks.zip ws⟩ (ps.zip (u :: ws))
section
variable {X : Cx} {CX : CXT} {k : Nat} {C : Addr} {ps ks : List Str} {sp : Sp} {E : XK} {m : Str} {o : Expr} {kws : List Keyword} {ta : TE} {tk : TA} {apos pos : Pos}
theorem pe_meK {pl : Sem Bool} (he : PE X o ta) (h : HasMeK X.prog X.w X.K X.mg X.base CX k C m ps ks sp) (c : Cls X.K C) (hr : Room k X.A) (hx : Passes CX X E) (hkw : PK X kws tk)
    (hall : (backToKw pos (keywordEach kws X.env)).all (·.1.isSome) = true := by rfl) (hks : (backToKw pos (keywordEach kws X.env)).filterMap (·.1) = ks := by rfl)
    (hpl : ((backTo pos (starEach [] X.env)).any (·.1) || (backToKw pos (keywordEach kws X.env)).any (·.1.isNone)) = false := by rfl)
    (ht : eval (.Call (.Attribute o m apos) [] kws pos) X.env = (do
      let ov ← eval o X.env
      standAt apos.atName
      let (f, first) ← holding [ov] (getMethod ov m pl)
      callWith pos f first (backTo pos (starEach [] X.env)) (backToKw pos (keywordEach kws X.env))) := by rfl) :
    PE X (.Call (.Attribute o m apos) [] kws pos) (tMethK C m ks.length sp E ta tk) := by
  obtain ⟨f, fd, F, O, hk, hb⟩ := h
  refine ⟨fun pins s σ H Q I hq => ?_⟩
  refine PySem.W.methodCall_KW (pl := pl) (thn (he.run pins s σ H _ I hq) fun u s1 ⟨x, H1, I1, rx, a, dx, fs, ex, ea, l, q⟩ => ?_) ht
  subst ex
  obtain rfl : u = Value.ref a := rx
  refine getmeth_ok I1 ea c ⟨O.at_, O.fn, hk⟩ l ?_
  refine PySem.W.callWith_KW0 (first := [.ref a]) (h₀ := X.base) I.ok.mod.kin hk hall ?_ hpl
  refine thn (hkw.run pos pins s1 σ H1 _ I1 q) fun ws s2 ⟨zs, H2, I2, rz, l2, q2⟩ => ⟨I2.kIn, ?_⟩
  rw [hks]
  refine wpAny_call (codeAny_mono (F.run X.A X.stack s2 H2 ⟨[.ref a], ks.zip ws⟩ (.ref a :: ws) (.ref a :: zs) Q E hr I2.env0 (hb s2 (.ref a) ws I2.kIn (rz.length.symm.trans l2)) (.cons rfl rz) q2) fun r s' z => ?_)
  cases r with
  | error e => exact hx pins σ H2 s2 e s' I2 z
  | ok fl =>
    cases fl with
    | ret u => exact I2.after z
    | next => exact False.elim z
    | brk => exact False.elim z
    | cont => exact False.elim z
end
/-! ### dicts inside of a comprehension -/
section
variable {X : Cx} {s : Shared} {H : Hp} {sc : Scope} {ev : Env} {fp : List Addr} {o i : Expr} {td ty : TE} {pos : Pos}
theorem pe_dgetB (hu : X.A.units + 1 < cLine) (ho : PE (X.blk s H sc ev fp) o td) (hi : PE (X.blk s H sc ev fp) i ty) (hs : NoSl i) : PE (X.blk s H sc ev fp) (.Subscript o i pos) (tDGet td ty) := pe_dget hu ho hi hs
theorem pc_dinB (hu : X.A.units + 1 < cLine) (hi : PE (X.blk s H sc ev fp) i ty) (ho : PE (X.blk s H sc ev fp) o td) (hm : behindInMarks .In o = false := by rfl) : PE (X.blk s H sc ev fp) (.Compare i [.In] [o] pos) (tDIn ty td) := pe_cmp (pc_din hu hi ho) hm
end
end LB

namespace LB
open PySem L2 PySem.Spec PyProof.Rows
section
variable {P : Program} {w : World} {K : PySem.W.Frag} {mg : Str → Option Value} {base : Heap} {CX : CXT}
/-- o.m(k = v, ..), all keywords in the parameters' order -/
theorem has_meK {C f : Addr} {x qual : Str} {st : Stmt} {ps ks : List Str} {k : Nat} {sp : Sp} (a : PySem.W.findIn K (.ref C) x = some (some (.ref f))) (i : PySem.W.isFn K (.ref f) = true) (F : FnX K f x qual st)
    (hb : ∀ (kV doc pm : Value) (an : Option Addr) (cdv ct u : Value) (ws : List Value), ws.length = ks.length → bindArgs (PySem.W.fnOf x qual (defArgs st) (defBody st) (defScope st) .none kV doc pm an cdv ct) ⟨[u], ks.zip ws⟩ = pure (ps.zip (u :: ws)))
    (ok : ∀ fd, Fun K x qual st f fd → FnOk P w K mg base CX k f fd ps sp) : HasMeK P w K mg base CX k C x ps ks sp := by
  obtain ⟨fd, F'⟩ := F.get
  refine ⟨f, fd, ok fd F', ⟨a, i⟩, F.kp, fun s u ws _ h => ?_⟩
  obtain ⟨oc, od, kV, doc, pm, an, cdv, ct, osl, e1, e2, e3⟩ := F'.ex
  subst e1
  exact .of_eq (hb kV doc pm an cdv ct u ws h)
end
end LB

namespace LB
open PySem L2 PySem.Spec PyProof.Rows
section
variable {X : Cx} {C : Addr} {x : Str} {p pos ppos : Pos}
/-- C(), a class of errors without an __init__ of its own, to be raised -/
theorem pmk_ex0 (h : HasEx0 X.K X.mg C x) (hg : Gl X x := by rfl) (hdb : (x == ("__debug__" : Str)) = false := by decide) : PMk X (.Call (.Name x p) [] [] pos) (fun _ H Q => Q (.ref C) none H) := by
  obtain ⟨T, iC, hm⟩ := h
  intro pins s σ H Q I hq
  obtain ⟨nm, q, N, bs, bm, sn, sub, ab, col, dd, k0, k1, k2, k3, k5, hC, hbm⟩ := T.cls
  refine wpAny_Call_Name_kw (ld_glob I hg hm ?_ hdb)
  refine PySem.W.callWith_K0 I.kIn T.kC ?_
  show wpAny _ _ (call (.ref C) []) _ _ _
  obtain ⟨hp, g, dr, tk, os⟩ := s
  have up1 : hp.objs.size ≤ hp.objs.size + 1 := Nat.le_succ _
  refine wpAny_call (PySem.HandSPX.lbx_call0 F.excBase_ValueError (fun Y => PySem.HandSPX.refsVE_contains Y bm hbm) (I.kIn _ _ hC) (PySem.W.looks_findIn I.kIn iC) (fun h' t1 k he => ?_))
  refine ⟨hp.objs.size + 1, _, _, ⟨hp, g, dr, tk, os⟩, H, .ref C, none, rfl, I, k, ?_, he, ?_, rfl, rfl, I.hok.fresh up1, rfl, I.bare, raises_own T.exC T.tyC, hq⟩
  · cases e : hp.get? (hp.objs.size + 1) with
    | none => rfl
    | some o => exact absurd (Heap.lt_size e) (Nat.not_lt.mpr up1)
  · exact ⟨rfl, rfl⟩
theorem ps_raise0 {W : WX} (h : HasEx0 X.K X.mg C x) (hc : X.calm = true) (tk : Takes X W) (hg : Gl X x := by rfl) (hdb : (x == ("__debug__" : Str)) = false := by decide) : PS X (.Raise (some (.Call (.Name x p) [] [] pos)) none ppos) (fun _ σ H => W (.ref C) none σ H) :=
  ps_raise hc tk (pmk_ex0 h hg hdb)
end
/-! ### o.m(e, ..) that may raise -/
def tMeS (C : Addr) (m : Str) (sp : Sp) (E : L2.St → XK) (ta : TE) (t : TA) : TE := fun σ H Q => ta σ H fun x H1 => ∃ a dx fs, x = .ref a ∧ H1 a = some (.ins C dx fs) ∧ fs.lookup m = none ∧ t σ H1 fun vs H2 => sp (x :: vs) H2 Q (E σ)
section
variable {X : Cx} {CX : CXT} {k : Nat} {C : Addr} {ps : List Str} {sp : Sp} {E : L2.St → XK} {m : Str} {o e : Expr} {es : List Expr} {ta : TE} {t : TA} {apos pos : Pos}
theorem pe_meS {pl : Sem Bool} (he : PE X o ta) (h : HasMe X.prog X.w X.K X.mg X.base CX k C m ps sp) (c : Cls X.K C) (hr : Room k X.A) (hx : ∀ σ, PassesAt CX X σ (E σ)) (ha : PA X (e :: es) t)
    (hst : starEach (e :: es) X.env = (false, eval e X.env) :: starEach es X.env := by rfl) (hpl : (backTo pos (starEach es X.env)).any (·.1) = false := by rfl)
    (ht : eval (.Call (.Attribute o m apos) (e :: es) [] pos) X.env = (do
      let ov ← eval o X.env
      standAt apos.atName
      let (f, first) ← holding [ov] (getMethod ov m pl)
      callWith pos f first (backTo pos (starEach (e :: es) X.env)) (backToKw pos (keywordEach [] X.env))) := by rfl) : PE X (.Call (.Attribute o m apos) (e :: es) [] pos) (tMeS C m sp E ta t) := by
  obtain ⟨f, fd, F, O, hk, hb⟩ := h
  refine ⟨fun pins s σ H Q I hq => ?_⟩
  refine PySem.W.methodCall_KW (pl := pl) (thn (he.run pins s σ H _ I hq) fun u s1 ⟨x, H1, I1, rx, a, dx, fs, ex, ea, l, q⟩ => ?_) ht
  subst ex
  obtain rfl : u = Value.ref a := rx
  refine getmeth_ok I1 ea c ⟨O.at_, O.fn, hk⟩ l ?_
  refine PySem.W.callWith_K (h₀ := X.base) (first := [.ref a]) I.ok.mod.kin hk (thn (ha.run pos pins s1 σ H1 _ I1 q) fun us s2 ⟨vs, H2, I2, r, q2⟩ => ⟨I2.kIn, ?_⟩) hst hpl
  exact run_fnS (us := .ref a :: us) (vs := .ref a :: vs) F hr hb (hx σ) I2 (.cons rfl r) q2
end
end LB

namespace DL
open PySem L2 LB PyProof.Rows
/-! ### what is known of values, apart from the heap: data that stand still, and things of one's own that change -/
/-- data: what is known of a value, which more heap keeps -/
structure D where
  p : Hp → V → Prop
  mono : ∀ {F F' : Hp} {v : V}, Same F F' → p F v → p F' v
/-- what is known of a thing of one's own, by its place -/
structure OD where
  p : Hp → HO → Prop
  mono : ∀ {F F' : Hp} {o : HO}, Same F F' → p F o → p F' o
/-- a value: data, or the k-th thing of one's own -/
inductive Da
  | fr (d : D)
  | ow (k : Nat)
def Da.p : Da → List Addr → Hp → V → Prop
  | .fr d, _, F, v => d.p F v
  | .ow k, as, _, v => ∃ a, as[k]? = some a ∧ v = .ref a
abbrev Ow := List (Option OD)
abbrev En := List (Option Da)
/-- where one stands: the places of one's own things, what stands still, the heap -/
structure Wd where
  as : List Addr
  F : Hp
  H : Hp
/-- what may change in its place -/
def isMut : HO → Prop
  | .lst _ | .dK _ | .dT _ | .set _ _ | .tbl _ => True
  | _ => False
structure Grow (w w' : Wd) : Prop where
  pre : ∀ (k : Nat) (a : Addr), w.as[k]? = some a → w'.as[k]? = some a
  F : Same w.F w'.F
  keep : ∀ (a : Addr) (o : HO), w.H a = some o → ¬ a ∈ w.as → w'.H a = some o
  froz : ∀ (a : Addr) (o : HO), w.H a = some o → isMut o → ¬ a ∈ w.as → w.F a = none → w'.F a = none
  nw : ∀ a : Addr, a ∈ w'.as → ¬ a ∈ w.as → w.H a = none
theorem Grow.refl (w : Wd) : Grow w w := ⟨fun _ _ h => h, Same.refl _, fun _ _ h _ => h, fun _ _ _ _ _ h => h, fun _ h n => absurd h n⟩
theorem Grow.trans {a b c : Wd} (x : Grow a b) (y : Grow b c) : Grow a c := by
  have out : ∀ {p : Addr} {o : HO}, a.H p = some o → ¬ p ∈ a.as → ¬ p ∈ b.as := fun {p o} h n q => by
    have := x.nw p q n
    rw [h] at this; cases this
  refine ⟨fun k z h => y.pre k z (x.pre k z h), x.F.trans y.F, fun p o h n => y.keep p o (x.keep p o h n) (out h n), fun p o h m n f => y.froz p o (x.keep p o h n) m (out h n) (x.froz p o h m n f), fun p q n => ?_⟩
  by_cases m : p ∈ b.as
  · exact x.nw p m n
  · cases e : a.H p with
    | none => rfl
    | some o =>
      have := y.nw p q m
      rw [x.keep p o e n] at this
      cases this
structure WOk (w : Wd) (O : Ow) : Prop where
  sub : Same w.F w.H
  nd : w.as.Nodup
  len : w.as.length = O.length
  al : ∀ a ∈ w.as, ∃ o, w.H a = some o
  own : ∀ (k : Nat) (a : Addr) (od : OD), w.as[k]? = some a → O[k]? = some (some od) → w.F a = none ∧ ∃ o, w.H a = some o ∧ od.p w.F o
  ded : ∀ (k : Nat) (a : Addr), w.as[k]? = some a → O[k]? = some none → ∃ o, w.F a = some o
theorem Da.mono {d : Da} {w w' : Wd} {v : V} (e : Grow w w') (h : d.p w.as w.F v) : d.p w'.as w'.F v := by
  cases d with
  | fr d => exact d.mono e.F h
  | ow k => obtain ⟨a, h1, h2⟩ := h; exact ⟨a, e.pre _ _ h1, h2⟩
/-- the slots -/
structure EnOk (w : Wd) (σ : L2.St) (en : En) : Prop where
  len : σ.length = en.length
  at_ : ∀ (i : Nat) (d : Da), en[i]? = some (some d) → ∃ v, σ[i]? = some (some v) ∧ d.p w.as w.F v
theorem EnOk.ext {w w' : Wd} {σ : L2.St} {en : En} (h : EnOk w σ en) (e : Grow w w') : EnOk w' σ en :=
  ⟨h.len, fun i d q => let ⟨v, q1, q2⟩ := h.at_ i d q; ⟨v, q1, Da.mono e q2⟩⟩
theorem EnOk.set {w : Wd} {σ : L2.St} {en : En} (h : EnOk w σ en) (i : Nat) {d : Da} {v : V} (hv : d.p w.as w.F v) : EnOk w (σ.set i (some v)) (en.set i (some d)) := by
  refine ⟨by rw [List.length_set, List.length_set, h.len], fun j d' q => ?_⟩
  rw [List.getElem?_set] at q ⊢
  by_cases e : i = j
  · subst e
    rw [if_pos rfl] at q ⊢
    by_cases l : i < en.length
    · rw [if_pos l] at q
      rw [h.len, if_pos l]
      injection q with q
      injection q with q
      subst q
      exact ⟨v, rfl, hv⟩
    · rw [if_neg l] at q; cases q
  · rw [if_neg e] at q ⊢
    exact h.at_ j d' q
theorem EnOk.drop {w : Wd} {σ : L2.St} {en : En} (h : EnOk w σ en) (i : Nat) (x : Option V) : EnOk w (σ.set i x) (en.set i none) := by
  refine ⟨by rw [List.length_set, List.length_set, h.len], fun j d' q => ?_⟩
  rw [List.getElem?_set] at q ⊢
  by_cases e : i = j
  · subst e
    rw [if_pos rfl] at q
    by_cases l : i < en.length
    · rw [if_pos l] at q; cases q
    · rw [if_neg l] at q; cases q
  · rw [if_neg e] at q ⊢
    exact h.at_ j d' q
def wipeE (en : En) : List Nat → En
  | [] => en
  | v :: vs => (wipeE en vs).set v none
theorem EnOk.wipe {w : Wd} {σ : L2.St} {en : En} (h : EnOk w σ en) : ∀ vs : List Nat, EnOk w (L2.wipe σ vs) (wipeE en vs)
  | [] => h
  | v :: vs => (EnOk.wipe h vs).drop v none
/-! ### new objects -/
theorem WOk.new {w : Wd} {O : Ow} (h : WOk w O) {p : Addr} (o : HO) (hp : w.H p = none) : WOk ⟨w.as, upd w.F p o, upd w.H p o⟩ O := by
  have fp : w.F p = none := h.sub.free hp
  refine ⟨fun a u e => ?_, h.nd, h.len, fun a ha => ?_, fun k a od q1 q2 => ?_, fun k a q1 q2 => let ⟨u, e⟩ := h.ded k a q1 q2; ⟨u, (upd_ne (ne_of_none e fp)).trans e⟩⟩
  · by_cases ea : a = p
    · subst ea; exact (upd_same (H := w.H)).trans ((upd_same (H := w.F)).symm.trans e)
    · exact (upd_ne ea).trans (h.sub _ _ ((upd_ne ea).symm.trans e))
  · obtain ⟨u, hu⟩ := h.al a ha
    exact ⟨u, (upd_ne (ne_of_none hu hp)).trans hu⟩
  · obtain ⟨f, u, hu, pu⟩ := h.own k a od q1 q2
    have ne : a ≠ p := ne_of_none hu hp
    exact ⟨(upd_ne ne).trans f, u, (upd_ne ne).trans hu, od.mono (fun b x e => (upd_ne (ne_of_none e fp)).trans e) pu⟩
theorem Grow.new {w : Wd} {O : Ow} (h : WOk w O) {p : Addr} (o : HO) (hp : w.H p = none) : Grow w ⟨w.as, upd w.F p o, upd w.H p o⟩ :=
  ⟨fun _ _ q => q, fun b x e => (upd_ne (ne_of_none e (h.sub.free hp))).trans e, fun a u e _ => (upd_ne (ne_of_none e hp)).trans e, fun a u e _ _ f => (upd_ne (ne_of_none e hp)).trans f, fun a q n => absurd q n⟩
/-- a new thing of one's own -/
theorem WOk.newOw {w : Wd} {O : Ow} (h : WOk w O) {p : Addr} (o : HO) {od : OD} (hp : w.H p = none) (ho : od.p w.F o) : WOk ⟨w.as ++ [p], w.F, upd w.H p o⟩ (O ++ [some od]) := by
  have fp : w.F p = none := h.sub.free hp
  have np : ∀ a ∈ w.as, a ≠ p := fun a ha => let ⟨u, hu⟩ := h.al a ha; ne_of_none hu hp
  refine ⟨fun a u e => (upd_ne (ne_of_none e fp)).trans (h.sub _ _ e), ?_, by simp [h.len], fun a ha => ?_, fun k a od' q1 q2 => ?_, fun k a q1 q2 => ?_⟩
  · refine List.nodup_append.mpr ⟨h.nd, by simp, fun a ha b hb e => ?_⟩
    have hb : b = p := by simpa using hb
    exact np a ha (e.trans hb)
  · rcases List.mem_append.mp ha with ha | ha
    · obtain ⟨u, hu⟩ := h.al a ha
      exact ⟨u, (upd_ne (np a ha)).trans hu⟩
    · have ha : a = p := by simpa using ha
      subst ha
      exact ⟨o, upd_same⟩
  · rcases Nat.lt_or_ge k w.as.length with l | l
    · rw [List.getElem?_append_left l] at q1
      rw [List.getElem?_append_left (h.len ▸ l)] at q2
      obtain ⟨f, u, hu, pu⟩ := h.own k a od' q1 q2
      exact ⟨f, u, (upd_ne (np a (List.mem_of_getElem? q1))).trans hu, pu⟩
    · rw [List.getElem?_append_right l] at q1
      rw [List.getElem?_append_right (h.len ▸ l)] at q2
      have e0 : k - w.as.length = 0 := by
        rcases Nat.eq_zero_or_pos (k - w.as.length) with e | e
        · exact e
        · rw [List.getElem?_eq_none (by simp; omega)] at q1; cases q1
      rw [e0] at q1
      rw [← h.len, e0] at q2
      simp only [List.getElem?_cons_zero, Option.some.injEq] at q1 q2
      subst q1; subst q2
      exact ⟨fp, o, upd_same, ho⟩
  · rcases Nat.lt_or_ge k w.as.length with l | l
    · rw [List.getElem?_append_left l] at q1
      rw [List.getElem?_append_left (h.len ▸ l)] at q2
      exact h.ded k a q1 q2
    · rw [List.getElem?_append_right (h.len ▸ l)] at q2
      rcases Nat.eq_zero_or_pos (k - O.length) with e | e
      · rw [e] at q2; simp at q2
      · rw [List.getElem?_eq_none (by simp; omega)] at q2; cases q2
theorem Grow.newOw {w : Wd} {p : Addr} {o : HO} (hp : w.H p = none) : Grow w ⟨w.as ++ [p], w.F, upd w.H p o⟩ :=
  ⟨fun k a q => by
    show (w.as ++ [p])[k]? = some a
    rw [List.getElem?_append_left (List.getElem?_eq_some_iff.mp q).1]; exact q, Same.refl _, fun a u e _ => (upd_ne (ne_of_none e hp)).trans e, fun a u e _ _ f => f, fun a q n => by
    rcases List.mem_append.mp q with q | q
    · exact absurd q n
    · have q : a = p := by simpa using q
      rw [q]; exact hp⟩
/-- one of one's own things changes -/
theorem WOk.put {w : Wd} {O : Ow} (h : WOk w O) {k : Nat} {a : Addr} {od0 od : OD} {o : HO} (ha : w.as[k]? = some a) (h0 : O[k]? = some (some od0)) (ho : od.p w.F o) : WOk ⟨w.as, w.F, upd w.H a o⟩ (O.set k (some od)) := by
  obtain ⟨f, u, hu, _⟩ := h.own k a od0 ha h0
  refine ⟨fun b x e => ?_, h.nd, by rw [List.length_set]; exact h.len, fun b hb => ?_, fun j b od' q1 q2 => ?_, fun j b q1 q2 => ?_⟩
  · have ne : b ≠ a := fun z => by rw [z, f] at e; cases e
    exact (upd_ne ne).trans (h.sub _ _ e)
  · by_cases e : b = a
    · subst e; exact ⟨o, upd_same⟩
    · obtain ⟨x, hx⟩ := h.al b hb
      exact ⟨x, (upd_ne e).trans hx⟩
  · rw [List.getElem?_set] at q2
    by_cases e : k = j
    · subst e
      have eb : a = b := by
        have q1 : w.as[k]? = some b := q1
        rw [ha] at q1; exact Option.some.inj q1
      subst eb
      rw [if_pos rfl] at q2
      split at q2
      · injection q2 with q2
        injection q2 with q2
        subst q2
        exact ⟨f, o, upd_same, ho⟩
      · cases q2
    · rw [if_neg e] at q2
      obtain ⟨f', x, hx, px⟩ := h.own j b od' q1 q2
      have ne : b ≠ a := fun z => by
        subst z
        obtain ⟨l1, e1⟩ := List.getElem?_eq_some_iff.mp ha
        obtain ⟨l2, e2⟩ := List.getElem?_eq_some_iff.mp q1
        exact e ((List.getElem_inj h.nd).mp (e1.trans e2.symm))
      exact ⟨f', x, (upd_ne ne).trans hx, px⟩
  · rw [List.getElem?_set] at q2
    by_cases e : k = j
    · rw [if_pos e] at q2
      split at q2 <;> cases q2
    · rw [if_neg e] at q2
      exact h.ded j b q1 q2
theorem Grow.put {w : Wd} {a : Addr} {o : HO} (ha : a ∈ w.as) : Grow w ⟨w.as, w.F, upd w.H a o⟩ :=
  ⟨fun _ _ q => q, Same.refl _, fun b u e n => (upd_ne (fun z : b = a => n (by rw [z]; exact ha))).trans e, fun _ _ _ _ _ f => f, fun _ q n => absurd q n⟩
/-- one of one's own things stands still from now on -/
theorem WOk.still {w : Wd} {O : Ow} (h : WOk w O) {k : Nat} {a : Addr} {od : OD} {o : HO} (ha : w.as[k]? = some a) (h0 : O[k]? = some (some od)) (ho : w.H a = some o) : WOk ⟨w.as, upd w.F a o, w.H⟩ (O.set k none) ∧ Grow w ⟨w.as, upd w.F a o, w.H⟩ := by
  obtain ⟨f, u, hu, _⟩ := h.own k a od ha h0
  have sm : Same w.F (upd w.F a o) := fun b x e => (upd_ne (ne_of_none e f)).trans e
  refine ⟨⟨fun b x e => ?_, h.nd, by rw [List.length_set]; exact h.len, h.al, fun j b od' q1 q2 => ?_, fun j b q1 q2 => ?_⟩, ⟨fun _ _ q => q, sm, fun _ _ e _ => e, fun b u e _ n f' => (upd_ne (fun z : b = a => n (by rw [z]; exact List.mem_of_getElem? ha))).trans f', fun _ q n => absurd q n⟩⟩
  · by_cases eb : b = a
    · subst eb; exact ho.trans ((upd_same (H := w.F)).symm.trans e)
    · exact h.sub _ _ ((upd_ne eb).symm.trans e)
  · rw [List.getElem?_set] at q2
    by_cases e : k = j
    · rw [if_pos e] at q2
      split at q2 <;> cases q2
    · rw [if_neg e] at q2
      obtain ⟨f', x, hx, px⟩ := h.own j b od' q1 q2
      have ne : b ≠ a := fun z => by
        subst z
        obtain ⟨l1, e1⟩ := List.getElem?_eq_some_iff.mp ha
        obtain ⟨l2, e2⟩ := List.getElem?_eq_some_iff.mp q1
        exact e ((List.getElem_inj h.nd).mp (e1.trans e2.symm))
      exact ⟨(upd_ne ne).trans f', x, hx, od'.mono sm px⟩
  · rw [List.getElem?_set] at q2
    by_cases e : k = j
    · subst e
      have q1 : w.as[k]? = some b := q1
      rw [ha] at q1; injection q1 with q1; subst q1
      exact ⟨o, upd_same⟩
    · rw [if_neg e] at q2
      obtain ⟨u, eu⟩ := h.ded j b q1 q2
      exact ⟨u, sm _ _ eu⟩
/-- more that stands still and was no thing of one's own -/
theorem WOk.more {w : Wd} {O : Ow} (h : WOk w O) {H' : Hp} (s : Same w.H H') : WOk ⟨w.as, w.F, H'⟩ O :=
  ⟨h.sub.trans s, h.nd, h.len, fun a ha => let ⟨o, e⟩ := h.al a ha; ⟨o, s _ _ e⟩, fun k a od q1 q2 => let ⟨f, o, e, p⟩ := h.own k a od q1 q2; ⟨f, o, s _ _ e, p⟩, h.ded⟩
theorem Grow.more {w : Wd} {H' : Hp} (s : Same w.H H') : Grow w ⟨w.as, w.F, H'⟩ := ⟨fun _ _ q => q, Same.refl _, fun _ _ e _ => s _ _ e, fun _ _ _ _ _ f => f, fun _ q n => absurd q n⟩
/-- what is new in H' stands still -/
theorem WOk.more1 {w : Wd} {O : Ow} (h : WOk w O) {H' : Hp} (s : Same w.H H') {d : Addr} {o : HO} (nd : w.H d = none) (e : H' d = some o) : WOk ⟨w.as, upd w.F d o, H'⟩ O ∧ Grow w ⟨w.as, upd w.F d o, H'⟩ := by
  have fd : w.F d = none := h.sub.free nd
  have sm : Same w.F (upd w.F d o) := fun b x q => (upd_ne (ne_of_none q fd)).trans q
  refine ⟨⟨fun b x q => ?_, h.nd, h.len, (h.more s).al, fun j b od' q1 q2 => ?_, fun j b q1 q2 => let ⟨u, e⟩ := h.ded j b q1 q2; ⟨u, sm _ _ e⟩⟩, ⟨fun _ _ q => q, sm, fun _ _ e _ => s _ _ e, fun b u e _ _ f => (upd_ne (ne_of_none e nd)).trans f, fun _ q n => absurd q n⟩⟩
  · by_cases eb : b = d
    · subst eb; exact e.trans ((upd_same (H := w.F)).symm.trans q)
    · exact s _ _ (h.sub _ _ ((upd_ne eb).symm.trans q))
  · obtain ⟨f', x, hx, px⟩ := h.own j b od' q1 q2
    exact ⟨(upd_ne (ne_of_none hx nd)).trans f', x, s _ _ hx, od'.mono sm px⟩
/-- what does not change in its place stands still, if one's own things are such as do -/
def soakF (w : Wd) : Hp := fun a => match w.F a with
  | some o => some o
  | none => match w.H a with
    | some (.lst _) | some (.dK _) | some (.dT _) | some (.set _ _) | some (.tbl _) => none
    | x => x
def OwMut (O : Ow) : Prop := ∀ (k : Nat) (od : OD), O[k]? = some (some od) → ∀ F o, od.p F o → isMut o
theorem soak_F {w : Wd} : Same w.F (soakF w) := fun a o e => by unfold soakF; rw [e]
theorem soak_H {w : Wd} {a : Addr} {o : HO} (h : w.H a = some o) (m : ¬ isMut o) (s : Same w.F w.H) : soakF w a = some o := by
  unfold soakF
  cases e : w.F a with
  | some u => have := s _ _ e; rw [h] at this; injection this with this; subst this; rfl
  | none =>
    simp only [h]
    cases o <;> first | rfl | exact absurd trivial m
theorem WOk.soak {w : Wd} {O : Ow} (h : WOk w O) (m : OwMut O) : WOk ⟨w.as, soakF w, w.H⟩ O ∧ Grow w ⟨w.as, soakF w, w.H⟩ := by
  have mutF : ∀ a o, w.H a = some o → isMut o → w.F a = none → soakF w a = none := fun a o e1 e2 e3 => by
    unfold soakF
    rw [e3, e1]
    cases o <;> first | rfl | exact absurd e2 id
  refine ⟨⟨fun a o e => ?_, h.nd, h.len, h.al, fun k a od q1 q2 => ?_, fun k a q1 q2 => let ⟨u, e⟩ := h.ded k a q1 q2; ⟨u, soak_F _ _ e⟩⟩, ⟨fun _ _ q => q, soak_F, fun _ _ e _ => e, fun a o e1 e2 _ e3 => mutF a o e1 e2 e3, fun _ q n => absurd q n⟩⟩
  · have e : soakF w a = some o := e
    unfold soakF at e
    cases e1 : w.F a with
    | some u => rw [e1] at e; exact h.sub _ _ (e1.trans e)
    | none =>
      rw [e1] at e
      simp only at e
      cases e2 : w.H a with
      | none => rw [e2] at e; cases e
      | some u => rw [e2] at e; cases u <;> first | (cases e; done) | exact e
  · obtain ⟨f, o, e, p⟩ := h.own k a od q1 q2
    exact ⟨mutF a o e (m k od q2 _ _ p) f, o, e, od.mono soak_F p⟩
end DL

namespace DL
open PySem L2 LB PyProof.Rows
/-! ### what a reading gives, over data: b is where the def began -/
abbrev DK := Da → Ow → Prop
abbrev EK := En → Ow → Prop
structure Ks where
  n : EK
  r : DK
  b : EK := fun _ _ => False
  c : EK := fun _ _ => False
/-- what is wanted of a value and a heap, from what is wanted of data -/
def Wn (w : Wd) (K : DK) (Q : VK) : Prop := ∀ d O' v w', K d O' → Grow w w' → WOk w' O' → d.p w'.as w'.F v → Q v w'.H
def WnE (w : Wd) (K : EK) (Q : L2.St → Hp → Prop) : Prop := ∀ en' O' σ' w', K en' O' → Grow w w' → WOk w' O' → EnOk w' σ' en' → Q σ' w'.H
theorem Wn.grow {w w' : Wd} {K : DK} {Q : VK} (h : Wn w K Q) (e : Grow w w') : Wn w' K Q := fun d O' v w2 k e2 o p => h d O' v w2 k (e.trans e2) o p
theorem WnE.grow {w w' : Wd} {K : EK} {Q : L2.St → Hp → Prop} (h : WnE w K Q) (e : Grow w w') : WnE w' K Q := fun d O' v w2 k e2 o p => h d O' v w2 k (e.trans e2) o p
def Ev (b : Wd) (te : TE) (en : En) (O : Ow) (K : DK) : Prop := ∀ w σ, Grow b w → WOk w O → EnOk w σ en → ∀ Q : VK, Wn w K Q → te σ w.H Q
def EvT (b : Wd) (t : TT) (en : En) (O : Ow) (K : Bool → Ow → Prop) : Prop := ∀ w σ, Grow b w → WOk w O → EnOk w σ en → ∀ Q : Bool → Hp → Prop, (∀ c O' w', K c O' → Grow w w' → WOk w' O' → Q c w'.H) → t σ w.H Q
inductive DsP (as : List Addr) (F : Hp) : List Da → List V → Prop
  | nil : DsP as F [] []
  | cons {d ds v vs} : Da.p d as F v → DsP as F ds vs → DsP as F (d :: ds) (v :: vs)
theorem DsP.mono {w w' : Wd} (e : Grow w w') {ds : List Da} {vs : List V} (h : DsP w.as w.F ds vs) : DsP w'.as w'.F ds vs := by
  induction h with
  | nil => exact .nil
  | cons p _ ih => exact .cons (Da.mono e p) ih
theorem DsP.len {as : List Addr} {F : Hp} {ds : List Da} {vs : List V} (h : DsP as F ds vs) : ds.length = vs.length := by
  induction h with
  | nil => rfl
  | cons _ _ ih => simp [ih]
def EvA (b : Wd) (t : TA) (en : En) (O : Ow) (K : List Da → Ow → Prop) : Prop := ∀ w σ, Grow b w → WOk w O → EnOk w σ en → ∀ Q : List V → Hp → Prop, (∀ ds O' vs w', K ds O' → Grow w w' → WOk w' O' → DsP w'.as w'.F ds vs → Q vs w'.H) → t σ w.H Q
def EvG (b : Wd) (g : TG) (d : Da) (en : En) (O : Ow) (K : EK) : Prop := ∀ w σ v, Grow b w → WOk w O → EnOk w σ en → d.p w.as w.F v → ∀ Q : L2.St → Hp → Prop, WnE w K Q → g v σ w.H Q
def EvS (b : Wd) (ts : TS) (en : En) (O : Ow) (K : Ks) : Prop := ∀ w σ, Grow b w → WOk w O → EnOk w σ en → ∀ D : Ends, WnE w K.n D.nx → Wn w K.r D.rt → WnE w K.b D.bk → WnE w K.c D.ct → ts D σ w.H
/-! ### weakening -/
theorem Ev.imp {b : Wd} {te : TE} {en : En} {O : Ow} {K K' : DK} (h : Ev b te en O K) (i : ∀ d O', K d O' → K' d O') : Ev b te en O K' :=
  fun w σ e o en' Q q => h w σ e o en' Q fun d O' v w' k => q d O' v w' (i d O' k)
theorem EvT.imp {b : Wd} {t : TT} {en : En} {O : Ow} {K K' : Bool → Ow → Prop} (h : EvT b t en O K) (i : ∀ c O', K c O' → K' c O') : EvT b t en O K' := fun w σ e o en' Q q => h w σ e o en' Q fun c O' w' k => q c O' w' (i c O' k)
theorem EvA.imp {b : Wd} {t : TA} {en : En} {O : Ow} {K K' : List Da → Ow → Prop} (h : EvA b t en O K) (i : ∀ ds O', K ds O' → K' ds O') : EvA b t en O K' := fun w σ e o en' Q q => h w σ e o en' Q fun ds O' vs w' k => q ds O' vs w' (i ds O' k)
theorem EvG.imp {b : Wd} {g : TG} {d : Da} {en : En} {O : Ow} {K K' : EK} (h : EvG b g d en O K) (i : ∀ e O', K e O' → K' e O') : EvG b g d en O K' := fun w σ v e o en' p Q q => h w σ v e o en' p Q fun e O' σ' w' k => q e O' σ' w' (i e O' k)
theorem EvS.imp {b : Wd} {ts : TS} {en : En} {O : Ow} {K K' : Ks} (h : EvS b ts en O K) (n : ∀ e O', K.n e O' → K'.n e O') (r : ∀ d O', K.r d O' → K'.r d O') (bk : ∀ e O', K.b e O' → K'.b e O') (c : ∀ e O', K.c e O' → K'.c e O') : EvS b ts en O K' :=
  fun w σ e o en' D q1 q2 q3 q4 => h w σ e o en' D (fun d O' v w' k => q1 d O' v w' (n d O' k)) (fun d O' v w' k => q2 d O' v w' (r d O' k)) (fun d O' v w' k => q3 d O' v w' (bk d O' k)) (fun d O' v w' k => q4 d O' v w' (c d O' k))
section
variable {b : Wd} {en : En} {O : Ow} {K : DK}
/-! ### expressions -/
/-- just this value -/
def dV (x : V) : D := ⟨fun _ v => v = x, fun _ h => h⟩
abbrev fV (x : V) : Da := .fr (dV x)
theorem Ev.var {i : Nat} {d : Da} (h : en[i]? = some (some d)) (k : K d O) : Ev b (tVar i) en O K := fun w σ e o en' Q q => by
  obtain ⟨v, h1, h2⟩ := en'.at_ i d h
  exact ⟨v, h1, q d O v w k (Grow.refl w) o h2⟩
theorem Ev.con {x : V} (k : K (fV x) O) : Ev b (tC x) en O K := fun w σ e o en' Q q => q _ O x w k (Grow.refl w) o rfl
/-- an operator's rule, over data -/
def Op2 (b : Wd) (r : R2) (d1 d2 : Da) (O : Ow) (K : DK) : Prop := ∀ w x y, Grow b w → WOk w O → d1.p w.as w.F x → d2.p w.as w.F y → ∀ Q : VK, Wn w K Q → r x y w.H Q
def Op1 (b : Wd) (r : V → Hp → VK → Prop) (d1 : Da) (O : Ow) (K : DK) : Prop := ∀ w x, Grow b w → WOk w O → d1.p w.as w.F x → ∀ Q : VK, Wn w K Q → r x w.H Q
def OpN (b : Wd) (r : List V → Hp → VK → Prop) (ds : List Da) (O : Ow) (K : DK) : Prop := ∀ w xs, Grow b w → WOk w O → DsP w.as w.F ds xs → ∀ Q : VK, Wn w K Q → r xs w.H Q
def OpM (b : Wd) (r : V → List V → Hp → VK → Prop) (d : Da) (ds : List Da) (O : Ow) (K : DK) : Prop := ∀ w x xs, Grow b w → WOk w O → d.p w.as w.F x → DsP w.as w.F ds xs → ∀ Q : VK, Wn w K Q → r x xs w.H Q
theorem Ev.op {r : R2} {ta tb : TE} (h : Ev b ta en O fun d1 O1 => Ev b tb en O1 fun d2 O2 => Op2 b r d1 d2 O2 K) : Ev b (tOp r ta tb) en O K :=
  fun w σ e o en' Q q => h w σ e o en' _ fun d1 O1 x w1 k1 e1 o1 p1 => k1 w1 σ (e.trans e1) o1 (en'.ext e1) _ fun d2 O2 y w2 k2 e2 o2 p2 =>
    k2 w2 x y ((e.trans e1).trans e2) o2 (Da.mono e2 p1) p2 Q (Wn.grow q (e1.trans e2))
theorem Ev.un {r : V → Hp → VK → Prop} {ta : TE} (h : Ev b ta en O fun d1 O1 => Op1 b r d1 O1 K) : Ev b (tUn r ta) en O K :=
  fun w σ e o en' Q q => h w σ e o en' _ fun d1 O1 x w1 k1 e1 o1 p1 => k1 w1 x (e.trans e1) o1 p1 Q (Wn.grow q e1)
theorem Ev.cb {r : List V → Hp → VK → Prop} {t : TA} (h : EvA b t en O fun ds O1 => OpN b r ds O1 K) : Ev b (tCB r t) en O K :=
  fun w σ e o en' Q q => h w σ e o en' _ fun ds O1 xs w1 k1 e1 o1 p1 => k1 w1 xs (e.trans e1) o1 p1 Q (Wn.grow q e1)
theorem EvA.nil {K : List Da → Ow → Prop} (k : K [] O) : EvA b tNil en O K := fun w σ e o en' Q q => q [] O [] w k (Grow.refl w) o .nil
theorem EvA.cons {ta : TE} {tr : TA} {K : List Da → Ow → Prop} (h : Ev b ta en O fun d O1 => EvA b tr en O1 fun ds O2 => K (d :: ds) O2) : EvA b (tCons ta tr) en O K :=
  fun w σ e o en' Q q => h w σ e o en' _ fun d1 O1 x w1 k1 e1 o1 p1 => k1 w1 σ (e.trans e1) o1 (en'.ext e1) _ fun ds O2 xs w2 k2 e2 o2 p2 =>
    q (d1 :: ds) O2 (x :: xs) w2 k2 (e1.trans e2) o2 (.cons (Da.mono e2 p1) p2)
/-! ### tests -/
theorem EvT.tB {te : TE} {K : Bool → Ow → Prop} (h : Ev b te en O fun d O1 => ∃ c, d = fV (.bl c) ∧ K c O1) : EvT b (tB te) en O K :=
  fun w σ e o en' Q q => h w σ e o en' _ fun d O1 x w1 k1 e1 o1 p1 => by
    obtain ⟨c, rfl, k⟩ := k1
    exact ⟨c, p1, q c O1 w1 k e1 o1⟩
theorem EvT.test {te : TE} {K : Bool → Ow → Prop} (h : Ev b te en O fun d O1 => ∃ c, d = fV (.bl c) ∧ K c O1) : EvT b (tTest te) en O K :=
  fun w σ e o en' Q q => h w σ e o en' _ fun d O1 x w1 k1 e1 o1 p1 => by
    obtain ⟨c, rfl, k⟩ := k1
    exact ⟨c, p1, q c O1 w1 k e1 o1⟩
theorem EvT.and {t u : TT} {K : Bool → Ow → Prop} (h : EvT b t en O fun c O1 => (c = true → EvT b u en O1 K) ∧ (c = false → K false O1)) : EvT b (tAnd t u) en O K :=
  fun w σ e o en' Q q => h w σ e o en' _ fun c O1 w1 k1 e1 o1 => by
    cases c with
    | true => exact iteT (k1.1 rfl w1 σ (e.trans e1) o1 (en'.ext e1) Q fun c O2 w2 k e2 o2 => q c O2 w2 k (e1.trans e2) o2)
    | false => exact iteF (q false O1 w1 (k1.2 rfl) e1 o1)
theorem EvT.or {t u : TT} {K : Bool → Ow → Prop} (h : EvT b t en O fun c O1 => (c = false → EvT b u en O1 K) ∧ (c = true → K true O1)) : EvT b (tOr t u) en O K :=
  fun w σ e o en' Q q => h w σ e o en' _ fun c O1 w1 k1 e1 o1 => by
    cases c with
    | true => exact iteT (q true O1 w1 (k1.2 rfl) e1 o1)
    | false => exact iteF (k1.1 rfl w1 σ (e.trans e1) o1 (en'.ext e1) Q fun c O2 w2 k e2 o2 => q c O2 w2 k (e1.trans e2) o2)
theorem EvT.not {t : TT} {K : Bool → Ow → Prop} (h : EvT b t en O fun c O1 => K (!c) O1) : EvT b (tNot t) en O K :=
  fun w σ e o en' Q q => h w σ e o en' _ fun c O1 w1 k1 e1 o1 => q (!c) O1 w1 k1 e1 o1
theorem Ev.notV {ta : TE} (h : Ev b ta en O fun d O1 => ∃ c, d = fV (.bl c) ∧ K (fV (.bl (!c))) O1) : Ev b (tNotV ta) en O K :=
  fun w σ e o en' Q q => h w σ e o en' _ fun d O1 x w1 k1 e1 o1 p1 => by
    obtain ⟨c, rfl, k⟩ := k1
    exact ⟨c, p1, q _ O1 _ w1 k e1 o1 rfl⟩
theorem Ev.andV {ta tb : TE} (h : Ev b ta en O fun d O1 => ∃ c, d = fV (.bl c) ∧ (c = true → Ev b tb en O1 K) ∧ (c = false → K (fV (.bl false)) O1)) : Ev b (tAndV ta tb) en O K :=
  fun w σ e o en' Q q => h w σ e o en' _ fun d O1 x w1 k1 e1 o1 p1 => by
    obtain ⟨c, rfl, kt, kf⟩ := k1
    refine ⟨c, p1, ?_⟩
    cases c with
    | true => exact iteT (kt rfl w1 σ (e.trans e1) o1 (en'.ext e1) Q (Wn.grow q e1))
    | false => exact iteF (q _ O1 _ w1 (kf rfl) e1 o1 rfl)
theorem Ev.orV {ta tb : TE} (h : Ev b ta en O fun d O1 => ∃ c, d = fV (.bl c) ∧ (c = false → Ev b tb en O1 K) ∧ (c = true → K (fV (.bl true)) O1)) : Ev b (tOrV ta tb) en O K :=
  fun w σ e o en' Q q => h w σ e o en' _ fun d O1 x w1 k1 e1 o1 p1 => by
    obtain ⟨c, rfl, kf, kt⟩ := k1
    refine ⟨c, p1, ?_⟩
    cases c with
    | true => exact iteT (q _ O1 _ w1 (kt rfl) e1 o1 rfl)
    | false => exact iteF (kf rfl w1 σ (e.trans e1) o1 (en'.ext e1) Q (Wn.grow q e1))
theorem Ev.ifE {t : TT} {ta tb : TE} (h : EvT b t en O fun c O1 => (c = true → Ev b ta en O1 K) ∧ (c = false → Ev b tb en O1 K)) : Ev b (tIf t ta tb) en O K :=
  fun w σ e o en' Q q => h w σ e o en' _ fun c O1 w1 k1 e1 o1 => by
    cases c with
    | true => exact iteT (k1.1 rfl w1 σ (e.trans e1) o1 (en'.ext e1) Q (Wn.grow q e1))
    | false => exact iteF (k1.2 rfl w1 σ (e.trans e1) o1 (en'.ext e1) Q (Wn.grow q e1))
end
section
variable {b : Wd} {en : En} {O : Ow} {K : Ks}
/-! ### statements -/
theorem EvS.next (k : K.n en O) : EvS b tNext en O K := fun w σ e o en' D q _ _ _ => q en O σ w k (Grow.refl w) o en'
theorem EvS.brk (k : K.b en O) : EvS b tBreak en O K := fun w σ e o en' D _ _ q _ => q en O σ w k (Grow.refl w) o en'
theorem EvS.cnt (k : K.c en O) : EvS b tCont en O K := fun w σ e o en' D _ _ _ q => q en O σ w k (Grow.refl w) o en'
theorem EvS.seq {t u : TS} (h : EvS b t en O { K with n := fun en1 O1 => EvS b u en1 O1 K }) : EvS b (tSeq t u) en O K :=
  fun w σ e o en' D qn qr qb qc => h w σ e o en' { D with nx := u D } (fun en1 O1 σ1 w1 k e1 o1 en1' => k w1 σ1 (e.trans e1) o1 en1' D (qn.grow e1) (qr.grow e1) (qb.grow e1) (qc.grow e1)) qr qb qc
theorem EvS.drp {te : TE} (h : Ev b te en O fun _ O1 => K.n en O1) : EvS b (tDrop te) en O K :=
  fun w σ e o en' D qn _ _ _ => h w σ e o en' _ fun d O1 x w1 k e1 o1 p1 => qn en O1 σ w1 k e1 o1 (en'.ext e1)
theorem EvS.ret {te : TE} (h : Ev b te en O K.r) : EvS b (tRet te) en O K := fun w σ e o en' D _ qr _ _ => h w σ e o en' _ qr
theorem EvS.retN (k : K.r (fV .non) O) : EvS b tRetN en O K := fun w σ e o en' D _ qr _ _ => qr _ O _ w k (Grow.refl w) o rfl
theorem EvS.ite {c : TT} {t u : TS} (h : EvT b c en O fun x O1 => (x = true → EvS b t en O1 K) ∧ (x = false → EvS b u en O1 K)) : EvS b (tIfS c t u) en O K :=
  fun w σ e o en' D qn qr qb qc => h w σ e o en' _ fun x O1 w1 k1 e1 o1 => by
    cases x with
    | true => exact iteT (k1.1 rfl w1 σ (e.trans e1) o1 (en'.ext e1) D (qn.grow e1) (qr.grow e1) (qb.grow e1) (qc.grow e1))
    | false => exact iteF (k1.2 rfl w1 σ (e.trans e1) o1 (en'.ext e1) D (qn.grow e1) (qr.grow e1) (qb.grow e1) (qc.grow e1))
theorem EvG.name {i : Nat} {d : Da} {K : EK} (k : K (en.set i (some d)) O) : EvG b (gName i) d en O K := fun w σ v e o en' p Q q => q _ O _ w k (Grow.refl w) o (en'.set i p)
theorem EvS.asg {te : TE} {g : TG} (h : Ev b te en O fun d O1 => EvG b g d en O1 K.n) : EvS b (tAsg te g) en O K :=
  fun w σ e o en' D qn _ _ _ => h w σ e o en' _ fun d O1 x w1 k e1 o1 p1 => k w1 σ x (e.trans e1) o1 (en'.ext e1) p1 _ (qn.grow e1)
theorem EvS.set {te : TE} {i : Nat} (h : Ev b te en O fun d O1 => K.n (en.set i (some d)) O1) : EvS b (tAsg te (gName i)) en O K := EvS.asg (h.imp fun d O1 k => EvG.name k)
theorem EvS.par {i j : Nat} {ta : TA} (h : EvA b ta en O fun ds O1 => ∃ d1 d2, ds = [d1, d2] ∧ K.n ((en.set i (some d1)).set j (some d2)) O1) : EvS b (tPar i j ta) en O K :=
  fun w σ e o en' D qn _ _ _ => h w σ e o en' _ fun ds O1 vs w1 k e1 o1 p1 => by
    obtain ⟨d1, d2, rfl, k⟩ := k
    cases p1 with
    | cons pa p2 => cases p2 with
      | cons pb p3 => cases p3 with
        | nil => exact ⟨_, _, rfl, qn _ O1 _ w1 k e1 o1 (((en'.ext e1).set i pa).set j pb)⟩
theorem EvS.aug {i : Nat} {te : TE} {ti : TIp} {d1 : Da} (hi : en[i]? = some (some d1)) (h : Ev b te en O fun d2 O1 => Op2 b ti d1 d2 O1 fun d O2 => K.n (en.set i (some d)) O2) : EvS b (tAug i te ti) en O K :=
  fun w σ e o en' D qn _ _ _ => by
    obtain ⟨x, hx, px⟩ := en'.at_ i d1 hi
    refine ⟨x, hx, h w σ e o en' _ fun d2 O1 y w1 k e1 o1 p1 => k w1 x y (e.trans e1) o1 (Da.mono e1 px) p1 _ fun d O2 z w2 k2 e2 o2 p2 => ?_⟩
    exact qn _ O2 _ w2 k2 (e1.trans e2) o2 ((en'.ext (e1.trans e2)).set i p2)
end
end DL

namespace DL
open PySem L2 LB PyProof.Rows
/-! ### promises over data -/
/-- attributes with their data -/
inductive FsP (F : Hp) : List (Str × D) → List (Str × V) → Prop
  | nil : FsP F [] []
  | cons {f d v fs gs} : D.p d F v → FsP F fs gs → FsP F ((f, d) :: fs) ((f, v) :: gs)
theorem FsP.mono {F F' : Hp} (s : Same F F') {fs : List (Str × D)} {gs : List (Str × V)} (h : FsP F fs gs) : FsP F' fs gs := by
  induction h with
  | nil => exact .nil
  | cons p _ ih => exact .cons (D.mono _ s p) ih
theorem FsP.look {F : Hp} {fs : List (Str × D)} {gs : List (Str × V)} (h : FsP F fs gs) (f : Str) : (fs.lookup f = none ∧ gs.lookup f = none) ∨ ∃ d v, fs.lookup f = some d ∧ gs.lookup f = some v ∧ d.p F v := by
  induction h with
  | nil => exact .inl ⟨rfl, rfl⟩
  | @cons g d v fs gs p _ ih =>
    rw [List.lookup_cons, List.lookup_cons]
    cases e : f == g with
    | true => exact .inr ⟨d, v, rfl, rfl, p⟩
    | false => exact ih
def putD (f : Str) (d : D) : List (Str × D) → List (Str × D)
  | [] => [(f, d)]
  | (g, x) :: r => if g = f then (g, d) :: r else (g, x) :: putD f d r
theorem FsP.put {F : Hp} {fs : List (Str × D)} {gs : List (Str × V)} (h : FsP F fs gs) {f : Str} {d : D} {v : V} (p : d.p F v) : FsP F (putD f d fs) (putF f v gs) := by
  induction h with
  | nil => exact .cons p .nil
  | @cons g d' v' fs gs q r ih =>
    unfold putD putF
    by_cases e : g = f
    · rw [if_pos e, if_pos e]; exact .cons p r
    · rw [if_neg e, if_neg e]; exact .cons q ih
theorem FsP.len {F : Hp} {fs : List (Str × D)} {gs : List (Str × V)} (h : FsP F fs gs) : fs.length = gs.length := by
  induction h with
  | nil => rfl
  | cons _ _ ih => simp [ih]
/-- what an error is wanted to have: its class, its attributes -/
abbrev XKD := Addr → List (Str × D) → Ow → Prop
def noX : XKD := fun _ _ _ => False
def XdP (F : Hp) (dd : Option Addr) (fl : List (Str × D)) : Prop := (dd = none ∧ fl = []) ∨ ∃ d gs, dd = some d ∧ F d = some (.xd gs) ∧ FsP F fl gs
def RaiseTo (b : Wd) (E : XK) (KX : XKD) : Prop := ∀ C fl O' w' dd, KX C fl O' → Grow b w' → WOk w' O' → XdP w'.F dd fl → E (.ref C) dd w'.H
theorem RaiseTo.no {b : Wd} {E : XK} : RaiseTo b E noX := fun _ _ _ _ _ h => h.elim
theorem RaiseTo.grow {b b' : Wd} {E : XK} {KX : XKD} (h : RaiseTo b E KX) (g : Grow b b') : RaiseTo b' E KX := fun C fl O' w' dd k e => h C fl O' w' dd k (g.trans e)
/-- what a def does, over data: its arguments, its own things, what is wanted -/
abbrev FS := List Da → Ow → DK → XKD → Prop
def spD (fs : FS) : Sp := fun vs H Q E => ∃ w O ds K KX, w.H = H ∧ WOk w O ∧ DsP w.as w.F ds vs ∧ fs ds O K KX ∧ Wn w K Q ∧ RaiseTo w E KX
def stE (N : List Str) (ds : List Da) : En := ds.map some ++ List.replicate (N.length - ds.length) none
theorem DsP.get {as : List Addr} {F : Hp} {ds : List Da} {vs : List V} (h : DsP as F ds vs) : ∀ {i : Nat} {d : Da}, ds[i]? = some d → ∃ v, vs[i]? = some v ∧ d.p as F v := by
  induction h with
  | nil => intro i d e; simp at e
  | cons p _ ih =>
    intro i d e
    cases i with
    | zero => simp at e; subst e; exact ⟨_, rfl, p⟩
    | succ i => obtain ⟨v, q1, q2⟩ := ih (i := i) (d := d) (by simpa using e); exact ⟨v, by simpa using q1, q2⟩
theorem EnOk.start {w : Wd} {N : List Str} {ds : List Da} {vs : List V} (h : DsP w.as w.F ds vs) : EnOk w (L2.start N vs) (stE N ds) := by
  have l := h.len
  refine ⟨by show (vs.map some ++ List.replicate (N.length - vs.length) none).length = _; unfold stE; simp [l], fun i d e => ?_⟩
  unfold stE at e
  show ∃ v, (vs.map some ++ List.replicate (N.length - vs.length) (none : Option V))[i]? = some (some v) ∧ _
  rcases Nat.lt_or_ge i ds.length with q | q
  · rw [List.getElem?_append_left (by simpa using q), List.getElem?_map] at e
    cases e2 : ds[i]? with
    | none => rw [e2] at e; cases e
    | some d' =>
      rw [e2] at e
      simp at e; subst e
      obtain ⟨v, q1, q2⟩ := h.get e2
      exact ⟨v, by rw [List.getElem?_append_left (by simpa [l] using q), List.getElem?_map, q1]; rfl, q2⟩
  · rw [List.getElem?_append_right (by simpa using q), List.getElem?_replicate] at e
    split at e <;> simp at e
section
variable {P : Program} {w : World} {K : PySem.W.Frag} {mg : Str → Option Value} {base : Heap}
/-- THE RULE for a def over data -/
theorem okD {x qual : Str} {st : Stmt} {f : Addr} {fd : FuncData} {N ps : List Str} {k : Nat} {fs : FS} (F : Fun K x qual st f fd) (S : FnScope N ps (defScope st)) (len : ∀ ds O Q KX, fs ds O Q KX → ds.length = ps.length)
    (h : ∀ (cdv : Value) (A : Around) (outer : List Env) (s : Shared) (H : Hp) (E : XK), Room k (A.deeper (envOfC qual (defScope st) s.heap.objs.size f cdv)) → ∀ b ds O Q KX, fs ds O Q KX → RaiseTo b E KX →
      ∃ t, PSs (cxOf CX0 P w K mg base N qual (defScope st) f cdv A outer s H E).nox (defBody st) t ∧ EvS b t (stE N ds) O { n := fun _ O' => Q (fV .non) O', r := Q }) : FnOk P w K mg base CX0 (k + 1) f fd ps (spD fs) := by
  refine F.ok S (fun vs H Q E h => ?_) (fun cdv A outer s H vs Q E hr hh => ?_)
  · obtain ⟨w, O, ds, K, KX, _, _, p, q, _⟩ := h
    exact p.len.symm.trans (len _ _ _ _ q)
  · obtain ⟨w1, O, ds, K1, KX, rfl, o, p, q, k1, k2⟩ := hh
    obtain ⟨t, pt, r⟩ := h cdv A outer s w1.H E hr w1 ds O K1 KX q k2
    exact ⟨t, pt, r w1 _ (Grow.refl w1) o (EnOk.start p) _ (fun en' O' σ' w' k e ok _ => k1 _ O' _ w' k e ok rfl) k1 (fun _ _ _ _ z => z.elim) (fun _ _ _ _ z => z.elim)⟩
/-- .. for a def that may raise -/
theorem okDX {x qual : Str} {st : Stmt} {f : Addr} {fd : FuncData} {N ps : List Str} {k : Nat} {fs : FS} (F : Fun K x qual st f fd) (S : FnScope N ps (defScope st)) (len : ∀ ds O Q KX, fs ds O Q KX → ds.length = ps.length)
    (h : ∀ (cdv : Value) (A : Around) (outer : List Env) (s : Shared) (H : Hp) (E : XK), Room k (A.deeper (envOfC qual (defScope st) s.heap.objs.size f cdv)) → ∀ b ds O Q KX, fs ds O Q KX → RaiseTo b E KX →
      ∃ t, PSs (cxOf (L2.CX P w) P w K mg base N qual (defScope st) f cdv A outer s H E) (defBody st) t ∧ EvS b t (stE N ds) O { n := fun _ O' => Q (fV .non) O', r := Q }) : FnOk P w K mg base (L2.CX P w) (k + 1) f fd ps (spD fs) := by
  refine F.okX S (fun vs H Q E h => ?_) (fun cdv A outer s H vs Q E hr hh => ?_)
  · obtain ⟨w, O, ds, K, KX, _, _, p, q, _⟩ := h
    exact p.len.symm.trans (len _ _ _ _ q)
  · obtain ⟨w1, O, ds, K1, KX, rfl, o, p, q, k1, k2⟩ := hh
    obtain ⟨t, pt, r⟩ := h cdv A outer s w1.H E hr w1 ds O K1 KX q k2
    exact ⟨t, pt, r w1 _ (Grow.refl w1) o (EnOk.start p) _ (fun en' O' σ' w' k e ok _ => k1 _ O' _ w' k e ok rfl) k1 (fun _ _ _ _ z => z.elim) (fun _ _ _ _ z => z.elim)⟩
end
section
variable {b : Wd} {en : En} {O : Ow} {K : DK} {KX : XKD} {E : XK} {fs : FS} {t : TA} {ta : TE}
/-! ### calls -/
theorem spD_at {w : Wd} {ds : List Da} {vs : List V} {O : Ow} {K : DK} {Q : VK} (o : WOk w O) (p : DsP w.as w.F ds vs) (f : fs ds O K KX) (q : Wn w K Q) (r : RaiseTo w E KX) : spD fs vs w.H Q E := ⟨w, O, ds, K, KX, rfl, o, p, f, q, r⟩
theorem Ev.callX (r : RaiseTo b E KX) (h : EvA b t en O fun ds O1 => fs ds O1 K KX) : Ev b (tCall (spD fs) [] E t) en O K :=
  fun w σ e o en' Q q => h w σ e o en' _ fun ds O1 vs w1 k e1 o1 p1 => by
    rw [List.append_nil]
    exact spD_at o1 p1 k (Wn.grow q e1) (r.grow (e.trans e1))
theorem Ev.call (h : EvA b t en O fun ds O1 => fs ds O1 K noX) : Ev b (tCall (spD fs) [] E0 t) en O K := Ev.callX .no h
/-- an instance of the class at C whose attributes do not hide m -/
def InsNo (C : Addr) (m : Str) (O : Ow) : Da → Prop
  | .fr d => ∀ F v, d.p F v → ∃ a dx fs, v = .ref a ∧ F a = some (.ins C dx fs) ∧ fs.lookup m = none
  | .ow k => ∃ od, O[k]? = some (some od) ∧ ∀ F o, od.p F o → ∃ dx fs, o = .ins C dx fs ∧ fs.lookup m = none
theorem InsNo.at_ {C : Addr} {m : Str} {d : Da} {w : Wd} {x : V} (h : InsNo C m O d) (o : WOk w O) (p : d.p w.as w.F x) : ∃ a dx fs, x = .ref a ∧ w.H a = some (.ins C dx fs) ∧ fs.lookup m = none := by
  cases d with
  | fr d => obtain ⟨a, dx, fs, e, f, l⟩ := h _ _ p; exact ⟨a, dx, fs, e, o.sub _ _ f, l⟩
  | ow k =>
    obtain ⟨od, q1, q2⟩ := h
    obtain ⟨a, e1, rfl⟩ := p
    obtain ⟨_, u, hu, pu⟩ := o.own k a od e1 q1
    obtain ⟨dx, fs, rfl, l⟩ := q2 _ _ pu
    exact ⟨a, dx, fs, rfl, hu, l⟩
theorem Ev.methX {C : Addr} {m : Str} (r : RaiseTo b E KX) (h : Ev b ta en O fun d O1 => InsNo C m O1 d ∧ EvA b t en O1 fun ds O2 => fs (d :: ds) O2 K KX) : Ev b (tMeth C m (spD fs) [] E ta t) en O K :=
  fun w σ e o en' Q q => h w σ e o en' _ fun d O1 x w1 k e1 o1 p1 => by
    obtain ⟨a, dx, gs, rfl, ha, l⟩ := k.1.at_ o1 p1
    refine ⟨a, dx, gs, rfl, ha, l, k.2 w1 σ (e.trans e1) o1 (en'.ext e1) _ fun ds O2 vs w2 k2 e2 o2 p2 => ?_⟩
    rw [List.append_nil]
    exact spD_at o2 (.cons (Da.mono e2 p1) p2) k2 (Wn.grow q (e1.trans e2)) (r.grow ((e.trans e1).trans e2))
theorem Ev.meth {C : Addr} {m : Str} (h : Ev b ta en O fun d O1 => InsNo C m O1 d ∧ EvA b t en O1 fun ds O2 => fs (d :: ds) O2 K noX) : Ev b (tMeth C m (spD fs) [] E0 ta t) en O K := Ev.methX .no h
def IsIns (C : Addr) (O : Ow) : Da → Prop
  | .fr d => ∀ F v, d.p F v → ∃ a dx fs, v = .ref a ∧ F a = some (.ins C dx fs)
  | .ow k => ∃ od, O[k]? = some (some od) ∧ ∀ F o, od.p F o → ∃ dx fs, o = .ins C dx fs
theorem IsIns.at_ {C : Addr} {d : Da} {w : Wd} {x : V} (h : IsIns C O d) (o : WOk w O) (p : d.p w.as w.F x) : ∃ a dx fs, x = .ref a ∧ w.H a = some (.ins C dx fs) := by
  cases d with
  | fr d => obtain ⟨a, dx, fs, e, f⟩ := h _ _ p; exact ⟨a, dx, fs, e, o.sub _ _ f⟩
  | ow k =>
    obtain ⟨od, q1, q2⟩ := h
    obtain ⟨a, e1, rfl⟩ := p
    obtain ⟨_, u, hu, pu⟩ := o.own k a od e1 q1
    obtain ⟨dx, fs, rfl⟩ := q2 _ _ pu
    exact ⟨a, dx, fs, rfl, hu⟩
theorem Ev.prop {C : Addr} (h : Ev b ta en O fun d O1 => IsIns C O1 d ∧ fs [d] O1 K noX) : Ev b (tProp C (spD fs) [] E0 ta) en O K :=
  fun w σ e o en' Q q => h w σ e o en' _ fun d O1 x w1 k e1 o1 p1 => by
    obtain ⟨a, dx, gs, rfl, ha⟩ := k.1.at_ o1 p1
    exact ⟨a, dx, gs, rfl, ha, spD_at o1 (.cons p1 .nil) k.2 (Wn.grow q e1) .no⟩
/-- an instance of one's own -/
def oIns (C : Addr) (fs : List (Str × D)) : OD := ⟨fun F o => ∃ dx gs, o = .ins C dx gs ∧ FsP F fs gs, fun s ⟨dx, gs, e, p⟩ => ⟨dx, gs, e, p.mono s⟩⟩
theorem Ev.makeX {C : Addr} (r : RaiseTo b E KX) (h : EvA b t en O fun ds O1 => fs (.ow O1.length :: ds) (O1 ++ [some (oIns C [])]) (fun d O2 => d = fV .non ∧ K (.ow O1.length) O2) KX) : Ev b (tMake C (spD fs) [] E t) en O K :=
  fun w σ e o en' Q q => h w σ e o en' _ fun ds O1 vs w1 k e1 o1 p1 => by
    intro x dx nx nd ne
    rw [List.append_nil]
    have g1 := Grow.new o1 (.own x) nd
    have o2 := o1.new (.own x) nd
    have nx' : upd w1.H dx (.own x) x = none := (upd_ne ne.symm).trans nx
    have o3 := o2.newOw (.ins C dx []) (od := oIns C []) nx' ⟨dx, [], rfl, .nil⟩
    have g2 : Grow w1 ⟨w1.as ++ [x], upd w1.F dx (.own x), upd (upd w1.H dx (.own x)) x (.ins C dx [])⟩ := g1.trans (Grow.newOw nx')
    have self : (Da.ow O1.length).p (w1.as ++ [x]) (upd w1.F dx (.own x)) (.ref x) := ⟨x, by rw [← o1.len, List.getElem?_append_right (Nat.le_refl _), Nat.sub_self]; rfl, rfl⟩
    refine spD_at (w := ⟨w1.as ++ [x], upd w1.F dx (.own x), upd (upd w1.H dx (.own x)) x (.ins C dx [])⟩) o3 (.cons self (DsP.mono g2 p1)) k (fun d O' v w' k' e' o' p' => ?_) (r.grow ((e.trans e1).trans g2))
    obtain ⟨rfl, k'⟩ := k'
    exact ⟨p', q _ O' _ w' k' ((e1.trans g2).trans e') o' (Da.mono e' self)⟩
theorem Ev.make {C : Addr} (h : EvA b t en O fun ds O1 => fs (.ow O1.length :: ds) (O1 ++ [some (oIns C [])]) (fun d O2 => d = fV .non ∧ K (.ow O1.length) O2) noX) : Ev b (tMake C (spD fs) [] E0 t) en O K := Ev.makeX .no h
end
/-! ### forgetting the last thing of one's own -/
theorem WOk.cut {w : Wd} {O : Ow} {n : Nat} (h : WOk w O) : WOk ⟨w.as.take n, w.F, w.H⟩ (O.take n) := by
  refine ⟨h.sub, h.nd.sublist (List.take_sublist _ _), by rw [List.length_take, List.length_take, h.len], fun a ha => h.al a (List.mem_of_mem_take ha), fun k a od q1 q2 => ?_, fun k a q1 q2 => ?_⟩
  · have q1 : (w.as.take n)[k]? = some a := q1
    rw [List.getElem?_take] at q1 q2
    split at q1
    · rename_i l
      rw [if_pos l] at q2
      exact h.own k a od q1 q2
    · cases q1
  · have q1 : (w.as.take n)[k]? = some a := q1
    rw [List.getElem?_take] at q1 q2
    split at q1
    · rename_i l
      rw [if_pos l] at q2
      exact h.ded k a q1 q2
    · cases q1
theorem Grow.cut {w w' : Wd} {n : Nat} (h : Grow w w') (l : w.as.length ≤ n) : Grow w ⟨w'.as.take n, w'.F, w'.H⟩ :=
  ⟨fun k a q => by
    show (w'.as.take n)[k]? = some a
    have := (List.getElem?_eq_some_iff.mp q).1
    rw [List.getElem?_take, if_pos (by omega)]
    exact h.pre k a q, h.F, h.keep, h.froz, fun a q n => h.nw a (List.mem_of_mem_take q) n⟩
/-- a value that is no thing of one's own from n on -/
def Da.lt (n : Nat) : Da → Prop
  | .fr _ => True
  | .ow k => k < n
theorem Da.cut {d : Da} {as : List Addr} {F : Hp} {v : V} {n : Nat} (h : d.p as F v) (l : d.lt n) : d.p (as.take n) F v := by
  cases d with
  | fr d => exact h
  | ow k => obtain ⟨a, q, e⟩ := h; exact ⟨a, by rw [List.getElem?_take, if_pos (show k < n from l)]; exact q, e⟩
end DL

namespace DL
open PySem L2 LB PyProof.Rows
/-! ### lists, tuples, dicts as data -/
inductive LsP (F : Hp) : List D → List V → Prop
  | nil : LsP F [] []
  | cons {d ds v vs} : D.p d F v → LsP F ds vs → LsP F (d :: ds) (v :: vs)
theorem LsP.mono {F F' : Hp} (s : Same F F') {ds : List D} {vs : List V} (h : LsP F ds vs) : LsP F' ds vs := by
  induction h with
  | nil => exact .nil
  | cons p _ ih => exact .cons (D.mono _ s p) ih
theorem LsP.len {F : Hp} {ds : List D} {vs : List V} (h : LsP F ds vs) : ds.length = vs.length := by
  induction h with
  | nil => rfl
  | cons _ _ ih => simp [ih]
theorem LsP.get {F : Hp} {ds : List D} {vs : List V} (h : LsP F ds vs) : ∀ {i : Nat} {d : D}, ds[i]? = some d → ∃ v, vs[i]? = some v ∧ d.p F v := by
  induction h with
  | nil => intro i d e; simp at e
  | cons p _ ih =>
    intro i d e
    cases i with
    | zero => simp at e; subst e; exact ⟨_, rfl, p⟩
    | succ i => obtain ⟨v, q1, q2⟩ := ih (i := i) (d := d) (by simpa using e); exact ⟨v, by simpa using q1, q2⟩
theorem LsP.app {F : Hp} {ds es : List D} {vs us : List V} (h : LsP F ds vs) (k : LsP F es us) : LsP F (ds ++ es) (vs ++ us) := by
  induction h with
  | nil => exact k
  | cons p _ ih => exact .cons p ih
theorem LsP.one {F : Hp} {d : D} {v : V} (h : d.p F v) : LsP F [d] [v] := .cons h .nil
theorem LsP.set {F : Hp} {ds : List D} {vs : List V} (h : LsP F ds vs) {d : D} {v : V} (p : d.p F v) : ∀ i : Nat, LsP F (ds.set i d) (vs.set i v) := by
  induction h with
  | nil => intro i; exact .nil
  | cons q r ih =>
    intro i
    cases i with
    | zero => exact .cons p r
    | succ i => exact .cons q (ih i)
theorem LsP.erase {F : Hp} {ds : List D} {vs : List V} (h : LsP F ds vs) : ∀ i : Nat, LsP F (ds.eraseIdx i) (vs.eraseIdx i) := by
  induction h with
  | nil => intro i; exact .nil
  | cons q r ih =>
    intro i
    cases i with
    | zero => exact r
    | succ i => exact .cons q (ih i)
theorem LsP.take {F : Hp} {ds : List D} {vs : List V} (h : LsP F ds vs) : ∀ i : Nat, LsP F (ds.take i) (vs.take i) := by
  induction h with
  | nil => intro i; simp; exact .nil
  | cons q r ih =>
    intro i
    cases i with
    | zero => exact .nil
    | succ i => exact .cons q (ih i)
theorem LsP.drop {F : Hp} {ds : List D} {vs : List V} (h : LsP F ds vs) : ∀ i : Nat, LsP F (ds.drop i) (vs.drop i) := by
  induction h with
  | nil => intro i; simp; exact .nil
  | cons q r ih =>
    intro i
    cases i with
    | zero => exact .cons q r
    | succ i => exact ih i
theorem LsP.rev {F : Hp} {ds : List D} {vs : List V} (h : LsP F ds vs) : LsP F ds.reverse vs.reverse := by
  induction h with
  | nil => exact .nil
  | cons q r ih => rw [List.reverse_cons, List.reverse_cons]; exact ih.app (.one q)
/-- values that are known exactly -/
theorem LsP.vals {F : Hp} : ∀ (xs : List V), LsP F (xs.map dV) xs
  | [] => .nil
  | x :: xs => .cons rfl (LsP.vals xs)
theorem LsP.eq {F : Hp} : ∀ {xs vs : List V}, LsP F (xs.map dV) vs → vs = xs
  | [], _, .nil => rfl
  | x :: xs, _, .cons p r => by rw [show _ = x from p, LsP.eq r]
def dLst (ds : List D) : D := ⟨fun F v => ∃ a vs, v = .ref a ∧ F a = some (.lst vs) ∧ LsP F ds vs, fun s ⟨a, vs, e, f, p⟩ => ⟨a, vs, e, s _ _ f, p.mono s⟩⟩
def dTup (ds : List D) : D := ⟨fun F v => ∃ a vs, v = .ref a ∧ F a = some (.tup vs) ∧ LsP F ds vs, fun s ⟨a, vs, e, f, p⟩ => ⟨a, vs, e, s _ _ f, p.mono s⟩⟩
def oLst (ds : List D) : OD := ⟨fun F o => ∃ vs, o = .lst vs ∧ LsP F ds vs, fun s ⟨vs, e, p⟩ => ⟨vs, e, p.mono s⟩⟩
/-- an instance whose attributes are known -/
def dIns (C : Addr) (fs : List (Str × D)) : D := ⟨fun F v => ∃ a dx gs, v = .ref a ∧ F a = some (.ins C dx gs) ∧ FsP F fs gs, fun s ⟨a, dx, gs, e, f, p⟩ => ⟨a, dx, gs, e, s _ _ f, p.mono s⟩⟩
abbrev fInt (i : Int) : Da := fV (.int i)
abbrev fStr (z : Str) : Da := fV (.str z)
abbrev fBl (c : Bool) : Da := fV (.bl c)
/-- a list of the items ds: one that stands still, or one of one's own -/
def LstD (O : Ow) (ds : List D) : Da → Prop
  | .fr d => d = dLst ds
  | .ow k => O[k]? = some (some (oLst ds))
theorem LstD.at_ {O : Ow} {ds : List D} {d : Da} {w : Wd} {x : V} (h : LstD O ds d) (o : WOk w O) (p : d.p w.as w.F x) : ∃ a vs, x = .ref a ∧ w.H a = some (.lst vs) ∧ LsP w.F ds vs := by
  cases d with
  | fr d =>
    have h : d = dLst ds := h
    subst h
    obtain ⟨a, vs, e, f, p⟩ := p
    exact ⟨a, vs, e, o.sub _ _ f, p⟩
  | ow k =>
    obtain ⟨a, e1, rfl⟩ := p
    obtain ⟨_, u, hu, vs, rfl, pu⟩ := o.own k a _ e1 h
    exact ⟨a, vs, rfl, hu, pu⟩
theorem LstD.fr {O : Ow} {ds : List D} : LstD O ds (.fr (dLst ds)) := rfl
theorem WOk.at_ {w : Wd} {O : Ow} (o : WOk w O) {k : Nat} {od : OD} (h : O[k]? = some (some od)) : ∃ a u, w.as[k]? = some a ∧ w.H a = some u ∧ od.p w.F u := by
  have l := (List.getElem?_eq_some_iff.mp h).1
  rw [← o.len] at l
  obtain ⟨_, u, hu, pu⟩ := o.own k _ od (List.getElem?_eq_getElem l) h
  exact ⟨_, u, List.getElem?_eq_getElem l, hu, pu⟩
section
variable {b : Wd} {en : En} {O : Ow} {K : DK} {KF : PySem.W.Frag}
/-! ### operators -/
theorem Op2.i0 {g : Int → Int → V} {i j : Int} (k : K (fV (g i j)) O) : Op2 b (rI0 g) (fInt i) (fInt j) O K := fun w x y e o p q Q n => ⟨i, j, p, q, n _ O _ w k (Grow.refl w) o rfl⟩
theorem Op2.iC {C : Int → Int → Prop} {g : Int → Int → V} {i j : Int} (c : C i j) (k : K (fV (g i j)) O) : Op2 b (rI C g) (fInt i) (fInt j) O K := fun w x y e o p q Q n => ⟨i, j, p, q, c, n _ O _ w k (Grow.refl w) o rfl⟩
theorem Op1.i {g : Int → V} {i : Int} (k : K (fV (g i)) O) : Op1 b (rU g) (fInt i) O K := fun w x e o p Q n => ⟨i, p, n _ O _ w k (Grow.refl w) o rfl⟩
theorem Op2.eq {x y : V} (s : scal x y = true) (k : K (fBl (decide (x = y))) O) : Op2 b rEq (fV x) (fV y) O K := fun w x' y' e o p q Q n => by
  have p : x' = x := p
  have q : y' = y := q
  subst p q
  exact ⟨s, n _ O _ w k (Grow.refl w) o rfl⟩
theorem Op2.ne {x y : V} (s : scal x y = true) (k : K (fBl (!decide (x = y))) O) : Op2 b rNe (fV x) (fV y) O K := fun w x' y' e o p q Q n => by
  have p : x' = x := p
  have q : y' = y := q
  subst p q
  exact ⟨s, n _ O _ w k (Grow.refl w) o rfl⟩
/-- any rule over two values that are known exactly and that leaves the heap: answer it by its own reading -/
theorem Op2.val {r : R2} {x y z : V} (h : ∀ H (Q : VK), Q z H → r x y H Q) (k : K (fV z) O) : Op2 b r (fV x) (fV y) O K := fun w x' y' e o p q Q n => by
  have p : x' = x := p
  have q : y' = y := q
  subst p q
  exact h _ _ (n _ O _ w k (Grow.refl w) o rfl)
theorem OpN.val1 {r : List V → Hp → VK → Prop} {x z : V} (h : ∀ H (Q : VK), Q z H → r [x] H Q) (k : K (fV z) O) : OpN b r [fV x] O K := fun w xs e o p Q n => by
  cases p with
  | cons p p2 => cases p2 with
    | nil =>
      have p : _ = x := p
      subst p
      exact h _ _ (n _ O _ w k (Grow.refl w) o rfl)
theorem OpN.val2 {r : List V → Hp → VK → Prop} {x y z : V} (h : ∀ H (Q : VK), Q z H → r [x, y] H Q) (k : K (fV z) O) : OpN b r [fV x, fV y] O K := fun w xs e o p Q n => by
  cases p with
  | cons p p2 => cases p2 with
    | cons p2 p3 => cases p3 with
      | nil =>
        have p : _ = x := p
        have p2 : _ = y := p2
        subst p p2
        exact h _ _ (n _ O _ w k (Grow.refl w) o rfl)
/-! ### len, [i], append, pop -/
theorem OpN.len {ds : List D} {d : Da} (h : LstD O ds d) (k : K (fInt ds.length) O) : OpN b (fun xs H Q => ∃ x n, xs = [x] ∧ LenV KF x H n ∧ Q (.int n) H) [d] O K := fun w xs e o p Q n => by
  cases p with
  | cons p p2 => cases p2 with
    | nil =>
      obtain ⟨a, vs, rfl, hv, q⟩ := h.at_ o p
      exact ⟨_, _, rfl, .inl ⟨_, SqL.of hv, rfl⟩, n (fInt ds.length) O _ w k (Grow.refl w) o (show V.int _ = V.int _ by rw [q.len])⟩
theorem OpN.lenT {ds : List D} (k : K (fInt ds.length) O) : OpN b (fun xs H Q => ∃ x n, xs = [x] ∧ LenV KF x H n ∧ Q (.int n) H) [.fr (dTup ds)] O K := fun w xs e o p Q n => by
  cases p with
  | cons p p2 => cases p2 with
    | nil =>
      obtain ⟨a, vs, rfl, hv, q⟩ := p
      exact ⟨_, _, rfl, .inr ⟨_, SqT.of (o.sub _ _ hv), rfl⟩, n (fInt ds.length) O _ w k (Grow.refl w) o (show V.int _ = V.int _ by rw [q.len])⟩
theorem OpN.lenS {z : Str} (l : z.length ≤ sizeLine) (k : K (fInt z.length) O) : OpN b (fun xs H Q => ∃ x n, xs = [x] ∧ LenV KF x H n ∧ Q (.int n) H) [fStr z] O K :=
  OpN.val1 (fun H Q q => ⟨_, _, rfl, ⟨l, rfl⟩, q⟩) k
theorem LsP.atI {F : Hp} {ds : List D} {vs : List V} (h : LsP F ds vs) {i : Int} {d : D} (e : atI ds i = some d) : ∃ v, atI vs i = some v ∧ d.p F v := by
  unfold L2.atI at e ⊢
  rw [← h.len]
  cases q : ixN ds.length i with
  | none => rw [q] at e; cases e
  | some j => rw [q] at e; exact h.get e
theorem Op2.ixL {ds : List D} {d : Da} {i : Int} {x : D} (h : LstD O ds d) (hi : atI ds i = some x) (k : K (.fr x) O) : Op2 b (rIxL KF) d (fInt i) O K := fun w u v e o p q Q n => by
  obtain ⟨a, vs, rfl, hv, r⟩ := h.at_ o p
  obtain ⟨y, e1, e2⟩ := r.atI hi
  exact ⟨a, vs, i, y, rfl, q, SqL.of hv, e1, n _ O _ w k (Grow.refl w) o e2⟩
theorem Op2.ixT {ds : List D} {i : Int} {x : D} (hi : atI ds i = some x) (k : K (.fr x) O) : Op2 b (rIxT KF) (.fr (dTup ds)) (fInt i) O K := fun w u v e o p q Q n => by
  obtain ⟨a, vs, rfl, hv, r⟩ := p
  obtain ⟨y, e1, e2⟩ := r.atI hi
  exact ⟨a, vs, i, y, rfl, q, SqT.of (o.sub _ _ hv), e1, n _ O _ w k (Grow.refl w) o e2⟩
theorem Op2.ixS {z : Str} {i : Int} {c : Nat} (l : z.length ≤ sizeLine) (hi : atI z.cps.toList i = some c) (k : K (fStr ⟨#[c]⟩) O) : Op2 b rIxS (fStr z) (fInt i) O K := Op2.val (fun H Q q => ⟨z, i, c, rfl, rfl, l, hi, q⟩) k
/-- o.m(e, ..) of a built-in type -/
def TyD (KF : PySem.W.Frag) (T : String) (O : Ow) (d : Da) : Prop := ∀ w x, WOk w O → d.p w.as w.F x → tyV KF T x w.H
theorem TyD.str {z : Str} : TyD KF "str" O (fStr z) := fun w x o p => by
  have p : x = .str z := p
  subst p
  rfl
theorem TyD.lst {ds : List D} {d : Da} (h : LstD O ds d) : TyD KF "list" O d := fun w x o p => by
  obtain ⟨a, vs, rfl, hv, _⟩ := h.at_ o p
  exact .inl ⟨rfl, _, SqL.of hv⟩
theorem Ev.bm {T : String} {r : V → List V → Hp → VK → Prop} {to : TE} {t : TA} (h : Ev b to en O fun d O1 => TyD KF T O1 d ∧ EvA b t en O1 fun ds O2 => OpM b r d ds O2 K) : Ev b (tBM KF T r to t) en O K :=
  fun w σ e o en' Q q => h w σ e o en' _ fun d O1 x w1 k1 e1 o1 p1 => ⟨k1.1 w1 x o1 p1, k1.2 w1 σ (e.trans e1) o1 (en'.ext e1) _ fun ds O2 xs w2 k2 e2 o2 p2 =>
    k2 w2 x xs ((e.trans e1).trans e2) o2 (Da.mono e2 p1) p2 Q (Wn.grow q (e1.trans e2))⟩
theorem Ev.bm0 {T : String} {r : V → List V → Hp → VK → Prop} {to : TE} (h : Ev b to en O fun d O1 => TyD KF T O1 d ∧ OpM b r d [] O1 K) : Ev b (tBM0 KF T r to) en O K :=
  fun w σ e o en' Q q => h w σ e o en' _ fun d O1 x w1 k1 e1 o1 p1 => ⟨k1.1 w1 x o1 p1, k1.2 w1 x [] (e.trans e1) o1 p1 .nil Q (Wn.grow q e1)⟩
theorem DsP.one {as : List Addr} {F : Hp} {d : Da} {vs : List V} (h : DsP as F [d] vs) : ∃ v, vs = [v] ∧ d.p as F v := by
  cases h with
  | cons p q => cases q; exact ⟨_, rfl, p⟩
theorem DsP.two {as : List Addr} {F : Hp} {d e : Da} {vs : List V} (h : DsP as F [d, e] vs) : ∃ v u, vs = [v, u] ∧ d.p as F v ∧ e.p as F u := by
  cases h with
  | cons p q => obtain ⟨u, rfl, r⟩ := q.one; exact ⟨_, u, rfl, p, r⟩
theorem OpM.append {ds : List D} {x : D} {j : Nat} (h : O[j]? = some (some (oLst ds))) (l : ds.length < sizeLine) (k : K (fV .non) (O.set j (some (oLst (ds ++ [x]))))) : OpM b rAppend (.ow j) [.fr x] O K := fun w u us e o p q Q n => by
  obtain ⟨v, rfl, pv⟩ := q.one
  obtain ⟨a, ha, rfl⟩ := p
  obtain ⟨_, y, hy, vs, rfl, pl⟩ := o.own j a _ ha h
  exact ⟨a, vs, v, rfl, rfl, hy, by rw [← pl.len]; exact l, n _ _ _ _ k (Grow.put (List.mem_of_getElem? ha)) (o.put ha h ⟨_, rfl, pl.app (.one pv)⟩) rfl⟩
theorem OpM.popAt {ds : List D} {x : D} {j i : Nat} (h : O[j]? = some (some (oLst ds))) (l : ds.length ≤ sizeLine) (hi : ds[i]? = some x) (k : K (.fr x) (O.set j (some (oLst (ds.eraseIdx i))))) : OpM b rPopAt (.ow j) [fInt i] O K := fun w u us e o p q Q n => by
  obtain ⟨v, rfl, pv⟩ := q.one
  have pv : v = .int i := pv
  subst pv
  obtain ⟨a, ha, rfl⟩ := p
  obtain ⟨_, y, hy, vs, rfl, pl⟩ := o.own j a _ ha h
  obtain ⟨y, e1, e2⟩ := pl.get hi
  have li := (List.getElem?_eq_some_iff.mp hi).1
  have big : sizeLine < 2 ^ 62 := by decide
  have e3 : seqIndex? (i : Int) vs.length = some i := by
    unfold seqIndex?
    have h1 : ¬ ((i : Int) < 0) := by omega
    rw [← pl.len]
    simp only [h1, if_false]
    have h2 : (0 : Int) ≤ (i : Int) ∧ (i : Int) < (ds.length : Int) := by omega
    simp [h2.2]
  exact ⟨a, vs, i, i, y, rfl, rfl, hy, by omega, by omega, e3, e1, n _ _ _ _ k (Grow.put (List.mem_of_getElem? ha)) (o.put ha h ⟨_, rfl, pl.erase i⟩) e2⟩
/-! ### [..], (..) -/
def frs : List Da → Option (List D)
  | [] => some []
  | .fr d :: r => (frs r).map (d :: ·)
  | .ow _ :: _ => none
theorem DsP.frs : ∀ {ds : List Da} {es : List D} {as : List Addr} {F : Hp} {vs : List V}, DsP as F ds vs → frs ds = some es → LsP F es vs
  | _, es, _, _, _, .nil, h => by
    have : [] = es := by injection h
    subst this
    exact .nil
  | .fr d :: r, es, as, F, _, .cons p q, h => by
    unfold DL.frs at h
    cases e : DL.frs r with
    | none => rw [e] at h; cases h
    | some es' =>
      rw [e] at h
      have : d :: es' = es := by injection h
      subst this
      exact .cons p (DsP.frs q e)
  | .ow _ :: _, _, _, _, _, .cons _ _, h => by cases h
theorem Ev.tup {t : TA} (h : EvA b t en O fun ds O1 => ∃ es, frs ds = some es ∧ es.length ≤ sizeLine ∧ K (.fr (dTup es)) O1) : Ev b (tTup t) en O K :=
  fun w σ e o en' Q q => h w σ e o en' _ fun ds O1 vs w1 k1 e1 o1 p1 => by
    obtain ⟨es, f, l, k⟩ := k1
    have q1 := p1.frs f
    refine ⟨by rw [← q1.len]; exact l, fun p hp => ?_⟩
    have g := Grow.new o1 (.tup vs) hp
    exact q _ O1 _ _ k (e1.trans g) (o1.new (.tup vs) hp) ⟨p, vs, rfl, upd_same, q1.mono g.F⟩
theorem Ev.lst {t : TA} (h : EvA b t en O fun ds O1 => ∃ es, frs ds = some es ∧ es.length ≤ sizeLine ∧ K (.fr (dLst es)) O1) : Ev b (tLst t) en O K :=
  fun w σ e o en' Q q => h w σ e o en' _ fun ds O1 vs w1 k1 e1 o1 p1 => by
    obtain ⟨es, f, l, k⟩ := k1
    have q1 := p1.frs f
    refine ⟨by rw [← q1.len]; exact l, fun p hp => ?_⟩
    have g := Grow.new o1 (.lst vs) hp
    exact q _ O1 _ _ k (e1.trans g) (o1.new (.lst vs) hp) ⟨p, vs, rfl, upd_same, q1.mono g.F⟩
/-- a list of one's own -/
theorem Ev.lstO {t : TA} (h : EvA b t en O fun ds O1 => ∃ es, frs ds = some es ∧ es.length ≤ sizeLine ∧ K (.ow O1.length) (O1 ++ [some (oLst es)])) : Ev b (tLst t) en O K :=
  fun w σ e o en' Q q => h w σ e o en' _ fun ds O1 vs w1 k1 e1 o1 p1 => by
    obtain ⟨es, f, l, k⟩ := k1
    have q1 := p1.frs f
    refine ⟨by rw [← q1.len]; exact l, fun p hp => ?_⟩
    exact q _ _ _ _ k (e1.trans (Grow.newOw hp)) (o1.newOw (.lst vs) hp ⟨vs, rfl, q1⟩) ⟨p, by rw [← o1.len, List.getElem?_append_right (Nat.le_refl _), Nat.sub_self]; rfl, rfl⟩
/-! ### attributes -/
def FldD (KF : PySem.W.Frag) (f : Str) (O : Ow) (d : Da) (r : D) : Prop := match d with
  | .fr d => ∀ F v, d.p F v → ∃ a C dx fs u, v = .ref a ∧ F a = some (.ins C dx fs) ∧ Cls KF C ∧ NoAttr KF C f ∧ fs.lookup f = some u ∧ r.p F u
  | .ow k => ∃ od, O[k]? = some (some od) ∧ ∀ F o, od.p F o → ∃ C dx fs u, o = .ins C dx fs ∧ Cls KF C ∧ NoAttr KF C f ∧ fs.lookup f = some u ∧ r.p F u
theorem Ev.fld {ta : TE} {f : Str} (h : Ev b ta en O fun d O1 => ∃ r, FldD KF f O1 d r ∧ K (.fr r) O1) : Ev b (tFld KF ta f) en O K :=
  fun w σ e o en' Q q => h w σ e o en' _ fun d O1 x w1 k1 e1 o1 p1 => by
    obtain ⟨r, hf, k⟩ := k1
    cases d with
    | fr d =>
      obtain ⟨a, C, dx, fs, u, rfl, ha, c, na, l, pu⟩ := hf _ _ p1
      exact ⟨a, C, dx, fs, u, rfl, o1.sub _ _ ha, c, na, l, q _ O1 _ w1 k e1 o1 pu⟩
    | ow j =>
      obtain ⟨od, h1, h2⟩ := hf
      obtain ⟨a, ha, rfl⟩ := p1
      obtain ⟨_, y, hy, py⟩ := o1.own j a _ ha h1
      obtain ⟨C, dx, fs, u, rfl, c, na, l, pu⟩ := h2 _ _ py
      exact ⟨a, C, dx, fs, u, rfl, hy, c, na, l, q _ O1 _ w1 k e1 o1 pu⟩
theorem FldD.ins {C : Addr} {fs : List (Str × D)} {f : Str} {r : D} (c : Cls KF C) (na : NoAttr KF C f) (l : fs.lookup f = some r) : FldD KF f O (.fr (dIns C fs)) r := fun F v ⟨a, dx, gs, e, h, p⟩ => by
  rcases p.look f with ⟨n, _⟩ | ⟨d, u, h1, h2, pu⟩
  · rw [n] at l; cases l
  · rw [h1] at l; injection l with l; subst l; exact ⟨a, C, dx, gs, u, e, h, c, na, h2, pu⟩
theorem FldD.own {C : Addr} {fs : List (Str × D)} {f : Str} {r : D} {k : Nat} (c : Cls KF C) (na : NoAttr KF C f) (hk : O[k]? = some (some (oIns C fs))) (l : fs.lookup f = some r) : FldD KF f O (.ow k) r := ⟨_, hk, fun F o ⟨dx, gs, e, p⟩ => by
  rcases p.look f with ⟨n, _⟩ | ⟨d, u, h1, h2, pu⟩
  · rw [n] at l; cases l
  · rw [h1] at l; injection l with l; subst l; exact ⟨C, dx, gs, u, e, c, na, h2, pu⟩⟩
end
section
variable {b : Wd} {en : En} {O : Ow} {K : Ks} {KF : PySem.W.Frag}
/-- self.f = e, of an instance of one's own -/
theorem EvS.fld {ta tv : TE} {f : Str} (h : Ev b tv en O fun d O1 => ∃ x, d = .fr x ∧ Ev b ta en O1 fun s O2 => ∃ k C fs, s = .ow k ∧ O2[k]? = some (some (oIns C fs)) ∧ Cls KF C ∧ NoAttr KF C f ∧ fs.length < 1000 ∧ K.n en (O2.set k (some (oIns C (putD f x fs))))) :
    EvS b (sFld KF ta tv f) en O K :=
  fun w σ e o en' D qn _ _ _ => h w σ e o en' _ fun d O1 y w1 k1 e1 o1 p1 => by
    obtain ⟨x, rfl, h2⟩ := k1
    refine h2 w1 σ (e.trans e1) o1 (en'.ext e1) _ fun s O2 u w2 k2 e2 o2 p2 => ?_
    obtain ⟨k, C, fs, rfl, hk, c, na, l, kn⟩ := k2
    obtain ⟨a, ha, rfl⟩ := p2
    obtain ⟨_, z, hz, dx, gs, rfl, pz⟩ := o2.own k a _ ha hk
    have g := Grow.put (o := .ins C dx (putF f y gs)) (List.mem_of_getElem? ha)
    exact ⟨a, C, dx, gs, rfl, hz, c, na, by rw [← pz.len]; exact l, qn _ _ _ _ kn ((e1.trans e2).trans g) (o2.put ha hk ⟨dx, _, rfl, pz.put (DL.D.mono _ e2.F p1)⟩) (en'.ext ((e1.trans e2).trans g))⟩
/-- xs[i] = e, a list of one's own -/
theorem EvG.sub {to ti : TE} {x : D} {K : EK} (h : Ev b to en O fun d O1 => Ev b ti en O1 fun d2 O2 => ∃ (k : Nat) (ds : List D) (i : Int) (j : Nat), d = .ow k ∧ d2 = fInt i ∧ O2[k]? = some (some (oLst ds)) ∧ ixN ds.length i = some j ∧ K en (O2.set k (some (oLst (ds.set j x))))) :
    EvG b (gSub to ti rSetL) (.fr x) en O K := fun w σ v e o en' p Q q => h w σ e o en' _ fun d O1 y w1 k1 e1 o1 p1 => k1 w1 σ (e.trans e1) o1 (en'.ext e1) _ fun d2 O2 z w2 k2 e2 o2 p2 => by
    obtain ⟨k, ds, i, j, rfl, rfl, hk, hi, kk⟩ := k2
    obtain ⟨a, ha, rfl⟩ := p1
    have ha := e2.pre k a ha
    obtain ⟨_, u, hu, vs, rfl, pu⟩ := o2.own k a _ ha hk
    have g := Grow.put (o := .lst (vs.set j v)) (List.mem_of_getElem? ha)
    exact ⟨a, vs, i, j, rfl, p2, hu, by rw [← pu.len]; exact hi, q _ _ _ _ kk ((e1.trans e2).trans g) (o2.put ha hk ⟨_, rfl, pu.set (DL.D.mono _ (e1.trans e2).F p) j⟩) (en'.ext ((e1.trans e2).trans g))⟩
/-- a thing of one's own stands still from here on: a list -/
theorem EvS.stillL {ts : TS} {k : Nat} {ds : List D} (hk : O[k]? = some (some (oLst ds))) (h : EvS b ts (en.map fun s => match s with
    | some (.ow j) => if j = k then some (.fr (dLst ds)) else s
    | _ => s) (O.set k none) K) : EvS b ts en O K := fun w σ e o en' D qn qr qb qc => by
  obtain ⟨a, u, ha, hu, vs, rfl, pu⟩ := o.at_ hk
  obtain ⟨o2, g⟩ := o.still ha hk hu
  refine h ⟨w.as, upd w.F a (.lst vs), w.H⟩ σ (e.trans g) o2 ⟨by rw [List.length_map]; exact en'.len, fun i d q => ?_⟩ D (qn.grow g) (qr.grow g) (qb.grow g) (qc.grow g)
  rw [List.getElem?_map] at q
  cases e1 : en[i]? with
  | none => rw [e1] at q; cases q
  | some s =>
    rw [e1] at q
    cases s with
    | none => simp at q
    | some d0 =>
      obtain ⟨v, h1, h2⟩ := en'.at_ i d0 e1
      cases d0 with
      | fr d0 =>
        simp at q
        subst q
        exact ⟨v, h1, Da.mono g h2⟩
      | ow j =>
        by_cases ej : j = k
        · subst ej
          simp at q
          subst q
          obtain ⟨a', ha', rfl⟩ := h2
          rw [ha] at ha'
          injection ha' with ha'
          subst ha'
          exact ⟨_, h1, a, vs, rfl, upd_same, pu.mono g.F⟩
        · simp [ej] at q
          subst q
          exact ⟨v, h1, Da.mono g h2⟩
end
end DL

namespace DL
open PySem L2 LB PyProof.Rows
/-! ### walks -/
/-- J walks, from w on, over the data ds -/
structure WalkD (w : Wd) (J : It) (ds : List D) : Prop where
  goes : ∀ (i : Nat) (w2 : Wd) (O : Ow), i < ds.length → Grow w w2 → WOk w2 O → J.go i w2.H
  stops : ∀ (w2 : Wd) (O : Ow), Grow w w2 → WOk w2 O → J.stop ds.length w2.H
  yields : ∀ (i : Nat) (w2 : Wd) (O : Ow) (x : V) (H' : Hp) (d : D), ds[i]? = some d → Grow w w2 → WOk w2 O → J.yld i w2.H x H' → ∃ w3, w3.H = H' ∧ Grow w2 w3 ∧ WOk w3 O ∧ d.p w3.F x
def EvI (b : Wd) (wi : TI) (en : En) (O : Ow) (K : List D → Ow → Prop) : Prop := ∀ w σ, Grow b w → WOk w O → EnOk w σ en → ∀ R : It → Hp → Prop, (∀ J ds O' w', K ds O' → Grow w w' → WOk w' O' → WalkD w' J ds → R J w'.H) → wi σ w.H R
theorem EvI.imp {b : Wd} {wi : TI} {en : En} {O : Ow} {K K' : List D → Ow → Prop} (h : EvI b wi en O K) (i : ∀ ds O', K ds O' → K' ds O') : EvI b wi en O K' := fun w σ e o en' R q => h w σ e o en' R fun J ds O' w' k => q J ds O' w' (i ds O' k)
section
variable {b : Wd} {en : En} {O : Ow}
theorem EvS.for_ {wi : TI} {g : TG} {tb : TS} {K : Ks} (h : EvI b wi en O fun ds O1 => ∃ I : Nat → En → Ow → Prop, I 0 en O1 ∧
    (∀ (i : Nat) (d : D) en2 O2, ds[i]? = some d → I i en2 O2 → EvG b g (.fr d) en2 O2 fun en3 O3 => EvS b tb en3 O3 { n := I (i + 1), r := K.r, b := K.n, c := I (i + 1) }) ∧ ∀ en2 O2, I ds.length en2 O2 → K.n en2 O2) :
    EvS b (tFor wi g tb) en O K := fun w σ e o en' D qn qr qb qc => h w σ e o en' _ fun J ds O1 w1 k1 e1 o1 wk => by
  obtain ⟨I, i0, st, fin⟩ := k1
  refine ⟨fun i m σ H => m = ds.length - i ∧ i ≤ ds.length ∧ ∃ w2 en2 O2, w2.H = H ∧ Grow w1 w2 ∧ WOk w2 O2 ∧ EnOk w2 σ en2 ∧ I i en2 O2, ⟨ds.length, by simp, Nat.zero_le _, w1, en, O1, rfl, Grow.refl w1, o1, en'.ext e1, i0⟩, ?_⟩
  rintro i m σ2 H ⟨rfl, hi, w2, en2, O2, rfl, g2, o2, n2, ii⟩
  by_cases l : i < ds.length
  · refine .inr ⟨wk.goes i w2 O2 l g2 o2, fun σ' H' => i < ds.length ∧ ∃ w3 en3 O3, w3.H = H' ∧ Grow w1 w3 ∧ WOk w3 O3 ∧ EnOk w3 σ' en3 ∧ I (i + 1) en3 O3, fun σ' H' q => ⟨ds.length - (i + 1), by omega, rfl, l, q.2⟩, fun x H' y => ?_⟩
    obtain ⟨w3, rfl, g3, o3, px⟩ := wk.yields i w2 O2 x H' _ (List.getElem?_eq_getElem l) g2 o2 y
    refine st i _ en2 O2 (List.getElem?_eq_getElem l) ii w3 σ2 x ((e.trans e1).trans (g2.trans g3)) o3 (n2.ext g3) px _ fun en4 O4 σ4 w4 k4 g4 o4 n4 => ?_
    have gg : Grow w1 w4 := (g2.trans g3).trans g4
    refine k4 w4 σ4 ((e.trans e1).trans gg) o4 n4 _ (fun en5 O5 σ5 w5 k5 g5 o5 n5 => ⟨l, w5, en5, O5, rfl, gg.trans g5, o5, n5, k5⟩) (qr.grow (e1.trans gg)) (qn.grow (e1.trans gg)) (fun en5 O5 σ5 w5 k5 g5 o5 n5 => ⟨l, w5, en5, O5, rfl, gg.trans g5, o5, n5, k5⟩)
  · have ei : i = ds.length := by omega
    subst ei
    exact .inl ⟨wk.stops w2 O2 g2 o2, qn _ _ _ _ (fin en2 O2 ii) (e1.trans g2) o2 n2⟩
theorem wipe_set {σ : L2.St} {i : Nat} {x : Option V} : ∀ {vs : List Nat}, i ∈ vs → L2.wipe (σ.set i x) vs = L2.wipe σ vs
  | v :: vs, h => by
    show (L2.wipe (σ.set i x) vs).set v none = (L2.wipe σ vs).set v none
    by_cases e : i ∈ vs
    · rw [wipe_set e]
    · have ev : i = v := by
        rcases List.mem_cons.mp h with h | h
        · exact h
        · exact absurd h e
      subst ev
      have com : ∀ (vs : List Nat) (σ : L2.St), i ∉ vs → L2.wipe (σ.set i x) vs = (L2.wipe σ vs).set i x := by
        intro vs
        induction vs with
        | nil => intro σ _; rfl
        | cons u us ih =>
          intro σ n
          show (L2.wipe (σ.set i x) us).set u none = ((L2.wipe σ us).set u none).set i x
          rw [ih σ (fun q => n (List.mem_cons_of_mem _ q)), List.set_comm _ _ (fun q : i = u => n (by rw [q]; exact List.mem_cons_self))]
      rw [com vs σ e, List.set_set]
theorem wipe_idem {σ : L2.St} : ∀ {vs : List Nat}, L2.wipe (L2.wipe σ vs) vs = L2.wipe σ vs := by
  intro vs
  have : ∀ us : List Nat, (∀ u ∈ us, u ∈ vs) → L2.wipe (L2.wipe σ us) vs = L2.wipe σ vs := by
    intro us
    induction us with
    | nil => intro _; rfl
    | cons u us ih =>
      intro h
      show L2.wipe ((L2.wipe σ us).set u none) vs = _
      rw [wipe_set (h u List.mem_cons_self)]
      exact ih fun x q => h x (List.mem_cons_of_mem _ q)
  exact this vs fun _ q => q
/-- targets that bind the block's own names alone -/
def Tame (g : TG) (vs : List Nat) : Prop := ∀ x σ H (Q R : L2.St → Hp → Prop), (∀ σ' H', Q σ' H' → L2.wipe σ' vs = L2.wipe σ vs → R σ' H') → g x σ H Q → g x σ H R
theorem Tame.name {i : Nat} {vs : List Nat} (h : i ∈ vs) : Tame (gName i) vs := fun x σ H Q R k q => k _ _ q (wipe_set h)
theorem Tame.tup {KF : PySem.W.Frag} {n i j : Nat} {vs : List Nat} (h : i ∈ vs) (h' : j ∈ vs) : Tame (gTup KF n (gCons (gName i) (gCons (gName j) gNil))) vs := fun x σ H Q R k q => by
  obtain ⟨a, xs, e, f, l, v, r, er, v2, r2, er2, q1, q2⟩ := q
  exact ⟨a, xs, e, f, l, v, r, er, v2, r2, er2, q1, k _ _ q2 (by rw [wipe_set h', wipe_set h])⟩
/-- [e for x in .. if t] -/
theorem Ev.lcI {wi : TI} {g : TG} {tt : TT} {te : TE} {vs : List Nat} {K : DK} (tm : Tame g vs) (h : EvI b wi en O fun ds O1 => ∃ I : Nat → List D → Ow → Prop, I 0 [] O1 ∧ ds.length ≤ sizeLine ∧
    (∀ (i : Nat) (d : D) acc O2, ds[i]? = some d → acc.length ≤ i → I i acc O2 → EvG b g (.fr d) (wipeE en vs) O2 fun en3 O3 => EvT b tt en3 O3 fun c O4 => (c = true → Ev b te en3 O4 fun y O5 => ∃ z, y = .fr z ∧ I (i + 1) (acc ++ [z]) O5) ∧ (c = false → I (i + 1) acc O4)) ∧
      ∀ acc O2, I ds.length acc O2 → K (.fr (dLst acc)) O2) : Ev b (tLc wi g tt te vs) en O K := fun w σ e o en' Q q => h w σ e o en' _ fun J ds O1 w1 k1 e1 o1 wk => by
  obtain ⟨I, i0, big, st, fin⟩ := k1
  intro C hC
  -- the state while the list at C is being made
  let Pv : Nat → Hp → Prop := fun i H => ∃ w2 acc vs2 O2, w2.H = H ∧ Grow w1 w2 ∧ WOk w2 O2 ∧ w2.H C = some (.lst vs2) ∧ w2.F C = none ∧ ¬ C ∈ w2.as ∧ LsP w2.F acc vs2 ∧ acc.length ≤ i ∧ I i acc O2
  have nC : ¬ C ∈ w1.as := fun z => by obtain ⟨u, hu⟩ := o1.al C z; rw [hC] at hu; cases hu
  have fC : w1.F C = none := o1.sub.free hC
  have h0 : Pv 0 (upd w1.H C (.lst [])) := ⟨⟨w1.as, w1.F, upd w1.H C (.lst [])⟩, [], [], O1, rfl, Grow.more (same_new hC), o1.more (same_new hC), upd_same, fC, nC, .nil, Nat.le_refl _, i0⟩
  refine ⟨fun i m H => m = ds.length - i ∧ i ≤ ds.length ∧ Pv i H, ⟨ds.length, by simp, Nat.zero_le _, h0⟩, ?_⟩
  rintro i m H ⟨rfl, hi, w2, acc, vs2, O2, rfl, g2, o2, hc, fc, nc, pl, la, ii⟩
  by_cases l : i < ds.length
  · refine .inr ⟨wk.goes i w2 O2 l g2 o2, Pv (i + 1), fun H' p' => ⟨ds.length - (i + 1), by omega, rfl, l, p'⟩, fun x H' y => ?_⟩
    obtain ⟨w3, rfl, g3, o3, px⟩ := wk.yields i w2 O2 x H' _ (List.getElem?_eq_getElem l) g2 o2 y
    have stay : ∀ {w4 : Wd}, Grow w2 w4 → w4.H C = some (.lst vs2) ∧ w4.F C = none ∧ ¬ C ∈ w4.as := fun {w4} g => ⟨g.keep C _ hc nc, g.froz C _ hc trivial nc fc, fun z => by have := g.nw C z nc; rw [hc] at this; cases this⟩
    have base := st i _ acc O2 (List.getElem?_eq_getElem l) la ii w3 (L2.wipe σ vs) x ((e.trans e1).trans (g2.trans g3)) o3 ((en'.ext (e1.trans (g2.trans g3))).wipe vs) px
    refine tm x (L2.wipe σ vs) w3.H _ _ (fun σ' H' z ez => ⟨by rw [ez, wipe_idem], z⟩) (base (fun σ2 H2 => tt σ2 H2 fun b H3 => if b = true then te σ2 H3 fun y H4 => ∃ acc, H4 C = some (.lst acc) ∧ acc.length < sizeLine ∧ Pv (i + 1) (upd H4 C (.lst (acc ++ [y]))) else Pv (i + 1) H3) fun en4 O4 σ4 w4 k4 g4 o4 n4 => ?_)
    · refine k4 w4 σ4 ((e.trans e1).trans ((g2.trans g3).trans g4)) o4 n4 _ fun c O5 w5 k5 g5 o5 => ?_
      have gg : Grow w2 w5 := (g3.trans g4).trans g5
      cases c with
      | false =>
        obtain ⟨s1, s2, s3⟩ := stay gg
        exact iteF ⟨w5, acc, vs2, O5, rfl, g2.trans gg, o5, s1, s2, s3, pl.mono gg.F, by omega, k5.2 rfl⟩
      | true =>
        refine iteT (k5.1 rfl w5 σ4 ((e.trans e1).trans (g2.trans gg)) o5 (n4.ext g5) _ fun d O6 y w6 k6 g6 o6 p6 => ?_)
        obtain ⟨z, rfl, k6⟩ := k6
        have g7 : Grow w2 w6 := gg.trans g6
        obtain ⟨s1, s2, s3⟩ := stay g7
        refine ⟨vs2, s1, by rw [← pl.len]; omega, ⟨w6.as, w6.F, upd w6.H C (.lst (vs2 ++ [y]))⟩, acc ++ [z], _, O6, rfl, ?_, ?_, upd_same, s2, s3, (pl.mono g7.F).app (.one p6), by simp; omega, k6⟩
        · have ga : Grow w1 w6 := g2.trans g7
          exact ⟨ga.pre, ga.F, fun p o h n => (upd_ne (ne_of_none h hC)).trans (ga.keep p o h n), ga.froz, ga.nw⟩
        · refine ⟨fun p o h => (upd_ne (ne_of_none h s2)).trans (o6.sub _ _ h), o6.nd, o6.len, fun p hp => ?_, fun k p od q1 q2 => ?_, o6.ded⟩
          · obtain ⟨u, hu⟩ := o6.al p hp
            exact ⟨u, (upd_ne (fun z : p = C => s3 (by rw [← z]; exact hp))).trans hu⟩
          · obtain ⟨f6, u, hu, pu⟩ := o6.own k p od q1 q2
            exact ⟨f6, u, (upd_ne (fun z : p = C => s3 (by rw [← z]; exact List.mem_of_getElem? q1))).trans hu, pu⟩
  · have ei : i = ds.length := by omega
    subst ei
    refine .inl ⟨wk.stops w2 O2 g2 o2, ?_⟩
    have nf : Same w2.F (upd w2.F C (.lst vs2)) := fun p o h => (upd_ne (ne_of_none h fc)).trans h
    refine q (.fr (dLst acc)) O2 (.ref C) ⟨w2.as, upd w2.F C (.lst vs2), w2.H⟩ (fin acc O2 ii) ⟨fun k a h => g2.pre k a (e1.pre k a h), (e1.F.trans g2.F).trans nf, fun p o h n => (e1.trans g2).keep p o h n, fun p o h m n f => ?_, (e1.trans g2).nw⟩ ⟨fun p o h => ?_, o2.nd, o2.len, o2.al, fun k p od q1 q2 => ?_, fun k p q1 q2 => let ⟨u, e⟩ := o2.ded k p q1 q2; ⟨u, nf _ _ e⟩⟩ ⟨C, vs2, rfl, upd_same, pl.mono nf⟩
    · have ne : p ≠ C := by
        intro z
        subst z
        have := e1.keep p o h n
        rw [hC] at this
        cases this
      exact (upd_ne ne).trans ((e1.trans g2).froz p o h m n f)
    · by_cases ep : p = C
      · subst ep; exact hc.trans ((upd_same (H := w2.F)).symm.trans h)
      · exact o2.sub _ _ ((upd_ne ep).symm.trans h)
    · obtain ⟨f2, u, hu, pu⟩ := o2.own k p od q1 q2
      exact ⟨(upd_ne (fun z : p = C => nc (by rw [← z]; exact List.mem_of_getElem? q1))).trans f2, u, hu, od.mono nf pu⟩
end
end DL

namespace DL
open PySem L2 LB PyProof.Rows
/-! ### what is walked -/
def fcs (z : Str) : List D := z.cps.toList.map fun c => dV (.str ⟨#[c]⟩)
theorem fcs_len (z : Str) : (fcs z).length = z.cps.size := by unfold fcs; rw [List.length_map, Array.length_toList]
section
variable {b : Wd} {en : En} {O : Ow} {KF : PySem.W.Frag} {K : List D → Ow → Prop}
theorem WalkD.list {w : Wd} {a : Addr} {ds : List D} {vs : List V} (h : w.F a = some (.lst vs)) (p : LsP w.F ds vs) : WalkD w (Itl KF a) ds := by
  have at_ : ∀ {w2 : Wd} {O : Ow}, Grow w w2 → WOk w2 O → SqL KF w2.H a vs := fun g o => SqL.of (o.sub _ _ (g.F _ _ h))
  refine ⟨fun i w2 O l g o => walk_list.goes i _ (by rw [← p.len]; exact l) (at_ g o), fun w2 O g o => by rw [p.len]; exact walk_list.stops _ (at_ g o), fun i w2 O x H' d e g o y => ?_⟩
  have l : i < vs.length := by rw [← p.len]; exact (List.getElem?_eq_some_iff.mp e).1
  obtain ⟨rfl, q⟩ := walk_list.yields i _ x H' l (at_ g o) y
  obtain ⟨v, q1, q2⟩ := (p.mono g.F).get e
  rw [q1] at q; injection q with q; subst q
  exact ⟨w2, rfl, Grow.refl w2, o, q2⟩
theorem WalkD.tup {w : Wd} {a : Addr} {ds : List D} {vs : List V} (h : w.F a = some (.tup vs)) (p : LsP w.F ds vs) : WalkD w (Itt KF a) ds := by
  have at_ : ∀ {w2 : Wd} {O : Ow}, Grow w w2 → WOk w2 O → SqT KF w2.H a vs := fun g o => SqT.of (o.sub _ _ (g.F _ _ h))
  refine ⟨fun i w2 O l g o => walk_tup.goes i _ (by rw [← p.len]; exact l) (at_ g o), fun w2 O g o => by rw [p.len]; exact walk_tup.stops _ (at_ g o), fun i w2 O x H' d e g o y => ?_⟩
  have l : i < vs.length := by rw [← p.len]; exact (List.getElem?_eq_some_iff.mp e).1
  obtain ⟨rfl, q⟩ := walk_tup.yields i _ x H' l (at_ g o) y
  obtain ⟨v, q1, q2⟩ := (p.mono g.F).get e
  rw [q1] at q; injection q with q; subst q
  exact ⟨w2, rfl, Grow.refl w2, o, q2⟩
theorem WalkD.str {w : Wd} {z : Str} : WalkD w (Its z) (fcs z) := by
  refine ⟨fun i w2 O l g o => walk_str.goes i w2.H (by rw [← fcs_len]; exact l) trivial, fun w2 O g o => by rw [fcs_len]; exact walk_str.stops _ trivial, fun i w2 O x H' d e g o y => ?_⟩
  have l : i < z.cps.size := by rw [← fcs_len]; exact (List.getElem?_eq_some_iff.mp e).1
  obtain ⟨rfl, c, q, rfl⟩ := walk_str.yields i _ x H' l trivial y
  unfold fcs at e
  rw [List.getElem?_map, Array.getElem?_toList, q] at e
  have e : dV (.str ⟨#[c]⟩) = d := by simpa using e
  subst e
  exact ⟨w2, rfl, Grow.refl w2, o, rfl⟩
theorem WalkD.range {w : Wd} {lo : Int} {n : Nat} : WalkD w (Itr lo n) ((List.range n).map fun (i : Nat) => dV (.int (lo + i))) := by
  refine ⟨fun i w2 O l g o => walk_range.goes i w2.H (by simpa using l) trivial, fun w2 O g o => by rw [List.length_map, List.length_range]; exact walk_range.stops _ trivial, fun i w2 O x H' d e g o y => ?_⟩
  have l : i < n := by have := (List.getElem?_eq_some_iff.mp e).1; simpa using this
  obtain ⟨rfl, rfl⟩ := walk_range.yields i _ x H' l trivial y
  rw [List.getElem?_map, List.getElem?_range l] at e
  have e : dV (.int (lo + i)) = d := by simpa using e
  subst e
  exact ⟨w2, rfl, Grow.refl w2, o, rfl⟩
def pr (x y : D) : D := dTup [x, y]
/-- a pair is new -/
theorem pair_new {w2 : Wd} {O : Ow} (o : WOk w2 O) {T : Addr} {x y : V} {dx dy : D} (hT : w2.H T = none) (px : dx.p w2.F x) (py : dy.p w2.F y) : ∃ w3, w3.H = upd w2.H T (.tup [x, y]) ∧ Grow w2 w3 ∧ WOk w3 O ∧ (pr dx dy).p w3.F (.ref T) := by
  have g := Grow.new o (.tup [x, y]) hT
  exact ⟨_, rfl, g, o.new _ hT, T, _, rfl, upd_same, .cons (D.mono _ g.F px) (.one (D.mono _ g.F py))⟩
theorem WalkD.enumS {w : Wd} {z : Str} : WalkD w (IteS z) ((fcs z).mapIdx fun (i : Nat) d => pr (dV (.int i)) d) := by
  refine ⟨fun i w2 O l g o => by rw [List.length_mapIdx, fcs_len] at l; exact l, fun w2 O g o => by rw [List.length_mapIdx, fcs_len]; exact Nat.le_refl _, fun i w2 O x H' d e g o y => ?_⟩
  obtain ⟨T, c, rfl, hT, hc, rfl⟩ := y
  rw [List.getElem?_mapIdx] at e
  have e1 : (fcs z)[i]? = some (dV (.str ⟨#[c]⟩)) := by unfold fcs; rw [List.getElem?_map, Array.getElem?_toList, hc]; rfl
  rw [e1] at e
  have e : pr (dV (.int i)) (dV (.str ⟨#[c]⟩)) = d := by simpa using e
  subst e
  exact pair_new o hT rfl rfl
theorem WalkD.enum {w : Wd} {a : Addr} {ds : List D} {vs : List V} (h : w.F a = some (.lst vs)) (p : LsP w.F ds vs) : WalkD w (Ite KF a) (ds.mapIdx fun (i : Nat) d => pr (dV (.int i)) d) := by
  have at_ : ∀ {w2 : Wd} {O : Ow}, Grow w w2 → WOk w2 O → SqL KF w2.H a vs := fun g o => SqL.of (o.sub _ _ (g.F _ _ h))
  refine ⟨fun i w2 O l g o => walk_enum.goes i _ (by rw [← p.len]; simpa using l) (at_ g o), fun w2 O g o => by rw [List.length_mapIdx, p.len]; exact walk_enum.stops _ (at_ g o), fun i w2 O x H' d e g o y => ?_⟩
  have l : i < vs.length := by rw [← p.len]; have := (List.getElem?_eq_some_iff.mp e).1; simpa using this
  obtain ⟨T, x1, y1, rfl, hT, rfl, q1, q2⟩ := walk_enum.yields i _ x H' l (at_ g o) y
  rw [List.getElem?_mapIdx] at e
  cases e1 : ds[i]? with
  | none => rw [e1] at e; cases e
  | some d1 =>
    rw [e1] at e
    have e : pr (dV (.int i)) d1 = d := by simpa using e
    subst e
    obtain ⟨v, r1, r2⟩ := (p.mono g.F).get e1
    have q2 : vs[i]? = some y1 := q2
    have q1 : some (V.int (i : Nat)) = some x1 := q1
    rw [r1] at q2; injection q2 with q2; subst q2
    injection q1 with q1; subst q1
    exact pair_new o hT rfl r2
theorem WalkD.zip {w : Wd} {a c : Addr} {ds es : List D} {vs us : List V} (h : w.F a = some (.lst vs)) (p : LsP w.F ds vs) (h' : w.F c = some (.lst us)) (p' : LsP w.F es us) : WalkD w (Itz KF a c) ((ds.zip es).map fun z => pr z.1 z.2) := by
  have at_ : ∀ {w2 : Wd} {O : Ow}, Grow w w2 → WOk w2 O → SqL KF w2.H a vs ∧ SqL KF w2.H c us := fun g o => ⟨SqL.of (o.sub _ _ (g.F _ _ h)), SqL.of (o.sub _ _ (g.F _ _ h'))⟩
  have wz := walk_zip (K := KF) (a := a) (b := c) (xs := vs) (ys := us) rfl
  refine ⟨fun i w2 O l g o => wz.goes i _ (by rw [← p.len, ← p'.len]; simpa using l) (at_ g o), fun w2 O g o => by rw [List.length_map, List.length_zip, p.len, p'.len]; exact wz.stops _ (at_ g o), fun i w2 O x H' d e g o y => ?_⟩
  have l : i < min vs.length us.length := by rw [← p.len, ← p'.len]; have := (List.getElem?_eq_some_iff.mp e).1; simpa using this
  obtain ⟨T, x1, y1, rfl, hT, rfl, q1, q2⟩ := wz.yields i _ x H' l (at_ g o) y
  rw [List.getElem?_map, (List.getElem?_zip_eq_some (z := (ds[i]'(by rw [p.len]; omega), es[i]'(by rw [p'.len]; omega)))).mpr ⟨List.getElem?_eq_getElem _, List.getElem?_eq_getElem _⟩] at e
  have e : some (pr (ds[i]'(by rw [p.len]; omega)) (es[i]'(by rw [p'.len]; omega))) = some d := e
  injection e with e
  subst e
  obtain ⟨v1, r1, r2⟩ := (p.mono g.F).get (List.getElem?_eq_getElem (show i < ds.length by rw [p.len]; omega))
  obtain ⟨v2, s1, s2⟩ := (p'.mono g.F).get (List.getElem?_eq_getElem (show i < es.length by rw [p'.len]; omega))
  have q1 : vs[i]? = some x1 := q1
  have q2 : us[i]? = some y1 := q2
  rw [r1] at q1; injection q1 with q1; subst q1
  rw [s1] at q2; injection q2 with q2; subst q2
  exact pair_new o hT r2 s2
theorem EvI.list {tl : TE} (h : Ev b tl en O fun d O1 => ∃ ds, d = .fr (dLst ds) ∧ K ds O1) : EvI b (iList KF tl) en O K := fun w σ e o en' R q => h w σ e o en' _ fun d O1 x w1 k1 e1 o1 p1 => by
  obtain ⟨ds, rfl, k⟩ := k1
  obtain ⟨a, vs, rfl, f, p⟩ := p1
  exact ⟨a, rfl, ⟨vs, SqL.of (o1.sub _ _ f)⟩, q _ ds O1 w1 k e1 o1 (.list f p)⟩
theorem EvI.tup {tl : TE} (h : Ev b tl en O fun d O1 => ∃ ds, d = .fr (dTup ds) ∧ K ds O1) : EvI b (iTup KF tl) en O K := fun w σ e o en' R q => h w σ e o en' _ fun d O1 x w1 k1 e1 o1 p1 => by
  obtain ⟨ds, rfl, k⟩ := k1
  obtain ⟨a, vs, rfl, f, p⟩ := p1
  exact ⟨a, rfl, ⟨vs, SqT.of (o1.sub _ _ f)⟩, q _ ds O1 w1 k e1 o1 (.tup f p)⟩
theorem EvI.str {tl : TE} (h : Ev b tl en O fun d O1 => ∃ z, d = fStr z ∧ K (fcs z) O1) : EvI b (iStr tl) en O K := fun w σ e o en' R q => h w σ e o en' _ fun d O1 x w1 k1 e1 o1 p1 => by
  obtain ⟨z, rfl, k⟩ := k1
  exact ⟨z, p1, q _ _ O1 w1 k e1 o1 .str⟩
theorem EvI.range1 {ta : TA} (h : EvA b ta en O fun ds O1 => ∃ j : Int, ds = [fInt j] ∧ -(2 ^ 62) ≤ j ∧ j < 2 ^ 62 ∧ K ((List.range j.toNat).map fun (i : Nat) => dV (.int (0 + i))) O1) : EvI b (iRng1 ta) en O K := fun w σ e o en' R q => h w σ e o en' _ fun ds O1 xs w1 k1 e1 o1 p1 => by
  obtain ⟨j, rfl, l1, l2, k⟩ := k1
  obtain ⟨v, rfl, pv⟩ := p1.one
  exact ⟨j, by rw [show v = V.int j from pv], l1, l2, q _ _ O1 w1 k e1 o1 .range⟩
theorem EvI.range2 {ta : TA} (h : EvA b ta en O fun ds O1 => ∃ i j : Int, ds = [fInt i, fInt j] ∧ (-(2 ^ 62) ≤ i ∧ i < 2 ^ 62 ∧ -(2 ^ 62) ≤ j ∧ j < 2 ^ 62) ∧ K ((List.range (j - i).toNat).map fun (n : Nat) => dV (.int (i + n))) O1) : EvI b (iRng2 ta) en O K := fun w σ e o en' R q => h w σ e o en' _ fun ds O1 xs w1 k1 e1 o1 p1 => by
  obtain ⟨i, j, rfl, l1, k⟩ := k1
  obtain ⟨v, u, rfl, pv, pu⟩ := p1.two
  exact ⟨i, j, by rw [show v = V.int i from pv, show u = V.int j from pu], l1, q _ _ O1 w1 k e1 o1 .range⟩
theorem EvI.enumS {ta : TA} (h : EvA b ta en O fun ds O1 => ∃ z, ds = [fStr z] ∧ K ((fcs z).mapIdx fun (i : Nat) d => pr (dV (.int i)) d) O1) : EvI b (iEnumS ta) en O K := fun w σ e o en' R q => h w σ e o en' _ fun ds O1 xs w1 k1 e1 o1 p1 => by
  obtain ⟨z, rfl, k⟩ := k1
  obtain ⟨v, rfl, pv⟩ := p1.one
  exact ⟨z, by rw [show v = V.str z from pv], q _ _ O1 w1 k e1 o1 .enumS⟩
theorem EvI.enum {ta : TA} (h : EvA b ta en O fun ds O1 => ∃ es, ds = [.fr (dLst es)] ∧ K (es.mapIdx fun (i : Nat) d => pr (dV (.int i)) d) O1) : EvI b (iEnum KF ta) en O K := fun w σ e o en' R q => h w σ e o en' _ fun ds O1 xs w1 k1 e1 o1 p1 => by
  obtain ⟨es, rfl, k⟩ := k1
  obtain ⟨v, rfl, a, vs, rfl, f, p⟩ := p1.one
  exact ⟨a, vs, rfl, SqL.of (o1.sub _ _ f), q _ _ O1 w1 k e1 o1 (.enum f p)⟩
theorem EvI.zip {ta : TA} (h : EvA b ta en O fun ds O1 => ∃ es gs, ds = [.fr (dLst es), .fr (dLst gs)] ∧ K ((es.zip gs).map fun z => pr z.1 z.2) O1) : EvI b (iZip KF ta) en O K := fun w σ e o en' R q => h w σ e o en' _ fun ds O1 xs w1 k1 e1 o1 p1 => by
  obtain ⟨es, gs, rfl, k⟩ := k1
  obtain ⟨v, u, rfl, ⟨a, vs, rfl, f, p⟩, ⟨c, us, rfl, f', p'⟩⟩ := p1.two
  exact ⟨a, c, vs, us, rfl, SqL.of (o1.sub _ _ f), SqL.of (o1.sub _ _ f'), q _ _ O1 w1 k e1 o1 (.zip f p f' p')⟩
theorem EvG.pair {i j : Nat} {x y : D} {K : EK} (k : K ((en.set i (some (.fr x))).set j (some (.fr y))) O) : EvG b (gTup KF 2 (gCons (gName i) (gCons (gName j) gNil))) (.fr (pr x y)) en O K := fun w σ v e o en' p Q q => by
  obtain ⟨a, vs, rfl, f, p⟩ := p
  cases p with
  | cons px p2 => cases p2 with
    | cons py p3 => cases p3 with
      | nil => exact ⟨a, _, rfl, SqT.of (o.sub _ _ f), rfl, _, _, rfl, _, _, rfl, rfl, q _ O _ w k (Grow.refl w) o ((EnOk.set en' i (d := .fr x) px).set j (d := .fr y) py)⟩
/-! ### comprehensions, simple ones -/
theorem EvT.yes {K : Bool → Ow → Prop} (k : K true O) : EvT b tYes en O K := fun w σ e o en' Q q => q true O w k (Grow.refl w) o
/-- [G x for x in xs if p x], nothing else changes -/
theorem Ev.lcF {α : Type} {wi : TI} {g : TG} {tt : TT} {te : TE} {vs : List Nat} {K : DK} (tm : Tame g vs) (p : α → Bool) (G : α → D) (h : EvI b wi en O fun ds O1 => ∃ (xs : List α) (I : α → D), ds = xs.map I ∧ xs.length ≤ sizeLine ∧
    (∀ x ∈ xs, EvG b g (.fr (I x)) (wipeE en vs) O1 fun en3 O3 => EvT b tt en3 O3 fun c O4 => c = p x ∧ O4 = O1 ∧ (c = true → Ev b te en3 O1 fun y O5 => y = .fr (G x) ∧ O5 = O1)) ∧ K (.fr (dLst ((xs.filter p).map G))) O1) : Ev b (tLc wi g tt te vs) en O K := by
  refine Ev.lcI tm (h.imp fun ds O1 k1 => ?_)
  obtain ⟨xs, I, rfl, l, st, k⟩ := k1
  refine ⟨fun i acc O2 => acc = ((xs.take i).filter p).map G ∧ O2 = O1, ⟨rfl, rfl⟩, by rw [List.length_map]; exact l, fun i d acc O2 hd _ ii => ?_, fun acc O2 ii => ?_⟩
  · obtain ⟨rfl, rfl⟩ := ii
    rw [List.getElem?_map] at hd
    cases e1 : xs[i]? with
    | none => rw [e1] at hd; cases hd
    | some x =>
      rw [e1] at hd
      have hd : I x = d := by simpa using hd
      subst hd
      have step : ∀ c, c = p x → ((xs.take (i + 1)).filter p).map G = ((xs.take i).filter p).map G ++ (if c = true then [G x] else []) := fun c hc => by
        rw [List.take_add_one, e1, List.filter_append, List.map_append]
        congr 1
        show List.map G (List.filter p [x]) = _
        rw [List.filter_cons]
        subst hc
        cases p x <;> rfl
      refine (st x (List.mem_of_getElem? e1)).imp fun en3 O3 k3 => k3.imp fun c O5 k5 => ?_
      obtain ⟨hc, rfl, ht⟩ := k5
      refine ⟨fun c1 => (ht c1).imp fun y O6 z => ?_, fun c0 => ?_⟩
      · obtain ⟨rfl, rfl⟩ := z
        exact ⟨_, rfl, by show _ = _; rw [step c hc, if_pos c1], rfl⟩
      · refine ⟨?_, rfl⟩
        show _ = ((xs.take (i + 1)).filter p).map G
        rw [step c hc, if_neg (by simp [c0]), List.append_nil]
  · obtain ⟨rfl, rfl⟩ := ii
    rw [List.length_map, List.take_of_length_le (Nat.le_refl _)]
    exact k
/-- [G x for x in xs] -/
theorem Ev.lc {α : Type} {wi : TI} {g : TG} {te : TE} {vs : List Nat} {K : DK} (tm : Tame g vs) (G : α → D) (h : EvI b wi en O fun ds O1 => ∃ (xs : List α) (I : α → D), ds = xs.map I ∧ xs.length ≤ sizeLine ∧
    (∀ x ∈ xs, EvG b g (.fr (I x)) (wipeE en vs) O1 fun en3 O3 => O3 = O1 ∧ Ev b te en3 O1 fun y O5 => y = .fr (G x) ∧ O5 = O1) ∧ K (.fr (dLst (xs.map G))) O1) : Ev b (tLc wi g tYes te vs) en O K := by
  refine Ev.lcF tm (fun _ => true) G (h.imp fun ds O1 k1 => ?_)
  obtain ⟨xs, I, e1, l, st, k⟩ := k1
  refine ⟨xs, I, e1, l, fun x hx => (st x hx).imp fun en3 O3 k3 => ?_, by rw [List.filter_eq_self.mpr (fun _ _ => rfl)]; exact k⟩
  obtain ⟨rfl, k3⟩ := k3
  exact EvT.yes ⟨rfl, rfl, fun _ => k3⟩
end
end DL

namespace DL
open PySem L2 LB PyProof.Rows
section
variable {b : Wd} {en : En} {O : Ow} {K : DK} {KF : PySem.W.Frag}
/-! ### list(..), tuple(..), sum, all, any -/
/-- a list or a tuple of the items ds -/
def SeqD (O : Ow) (ds : List D) (d : Da) : Prop := LstD O ds d ∨ d = .fr (dTup ds)
theorem SeqD.at_ {ds : List D} {d : Da} {w : Wd} {x : V} (h : SeqD O ds d) (o : WOk w O) (p : d.p w.as w.F x) : ∃ a vs, x = .ref a ∧ (SqL KF w.H a vs ∨ SqT KF w.H a vs) ∧ LsP w.F ds vs := by
  rcases h with h | rfl
  · obtain ⟨a, vs, e, f, q⟩ := h.at_ o p; exact ⟨a, vs, e, .inl (SqL.of f), q⟩
  · obtain ⟨a, vs, e, f, q⟩ := p; exact ⟨a, vs, e, .inr (SqT.of (o.sub _ _ f)), q⟩
theorem OpN.listF {ds : List D} {d : Da} (h : SeqD O ds d) (k : K (.fr (dLst ds)) O) : OpN b (fun xs H Q => ∃ p ys, xs = [.ref p] ∧ (SqL KF H p ys ∨ SqT KF H p ys) ∧ ∀ l, H l = none → Q (.ref l) (upd H l (.lst ys))) [d] O K := fun w xs e o p Q n => by
  obtain ⟨v, rfl, pv⟩ := p.one
  obtain ⟨a, vs, rfl, f, q⟩ := h.at_ (KF := KF) o pv
  refine ⟨a, vs, rfl, f, fun l hl => ?_⟩
  have g := Grow.new o (.lst vs) hl
  exact n _ O _ _ k g (o.new _ hl) ⟨l, vs, rfl, upd_same, q.mono g.F⟩
theorem OpN.listO {ds : List D} {d : Da} (h : SeqD O ds d) (k : K (.ow O.length) (O ++ [some (oLst ds)])) : OpN b (fun xs H Q => ∃ p ys, xs = [.ref p] ∧ (SqL KF H p ys ∨ SqT KF H p ys) ∧ ∀ l, H l = none → Q (.ref l) (upd H l (.lst ys))) [d] O K := fun w xs e o p Q n => by
  obtain ⟨v, rfl, pv⟩ := p.one
  obtain ⟨a, vs, rfl, f, q⟩ := h.at_ (KF := KF) o pv
  exact ⟨a, vs, rfl, f, fun l hl => n _ _ _ _ k (Grow.newOw hl) (o.newOw (.lst vs) hl ⟨vs, rfl, q⟩) ⟨l, by rw [← o.len, List.getElem?_append_right (Nat.le_refl _), Nat.sub_self]; rfl, rfl⟩⟩
theorem signs_fcs {F : Hp} (z : Str) : LsP F (fcs z) ((LB.signs z).map V.str) := by
  unfold fcs LB.signs
  rw [List.map_map]
  have := LsP.vals (F := F) (z.cps.toList.map fun c => V.str ⟨#[c]⟩)
  rw [List.map_map] at this
  exact this
theorem OpN.listSF {z : Str} (l : z.cps.size ≤ sizeLine) (k : K (.fr (dLst (fcs z))) O) : OpN b (fun xs H Q => ∃ z : Str, xs = [.str z] ∧ z.cps.size ≤ sizeLine ∧ ∀ p, H p = none → Q (.ref p) (upd H p (.lst ((LB.signs z).map V.str)))) [fStr z] O K := fun w xs e o p Q n => by
  obtain ⟨v, rfl, pv⟩ := p.one
  refine ⟨z, by rw [show v = V.str z from pv], l, fun c hc => ?_⟩
  have g := Grow.new o (.lst ((LB.signs z).map V.str)) hc
  exact n _ O _ _ k g (o.new _ hc) ⟨c, _, rfl, upd_same, signs_fcs z⟩
theorem OpN.listSO {z : Str} (l : z.cps.size ≤ sizeLine) (k : K (.ow O.length) (O ++ [some (oLst (fcs z))])) : OpN b (fun xs H Q => ∃ z : Str, xs = [.str z] ∧ z.cps.size ≤ sizeLine ∧ ∀ p, H p = none → Q (.ref p) (upd H p (.lst ((LB.signs z).map V.str)))) [fStr z] O K := fun w xs e o p Q n => by
  obtain ⟨v, rfl, pv⟩ := p.one
  exact ⟨z, by rw [show v = V.str z from pv], l, fun c hc => n _ _ _ _ k (Grow.newOw hc) (o.newOw _ hc ⟨_, rfl, signs_fcs z⟩) ⟨c, by rw [← o.len, List.getElem?_append_right (Nat.le_refl _), Nat.sub_self]; rfl, rfl⟩⟩
theorem OpN.tuple {ds : List D} {d : Da} (h : SeqD O ds d) (k : K (.fr (dTup ds)) O) : OpN b (fun xs H Q => ∃ p ys, xs = [.ref p] ∧ ((SqL KF H p ys ∧ ∀ l, H l = none → Q (.ref l) (upd H l (.tup ys))) ∨ (SqT KF H p ys ∧ Q (.ref p) H))) [d] O K := fun w xs e o p Q n => by
  obtain ⟨v, rfl, pv⟩ := p.one
  rcases h with h | rfl
  · obtain ⟨a, vs, rfl, f, q⟩ := h.at_ o pv
    refine ⟨a, vs, rfl, .inl ⟨SqL.of f, fun l hl => ?_⟩⟩
    have g := Grow.new o (.tup vs) hl
    exact n _ O _ _ k g (o.new _ hl) ⟨l, vs, rfl, upd_same, q.mono g.F⟩
  · have pv' := pv
    obtain ⟨a, vs, rfl, f, q⟩ := pv
    exact ⟨a, vs, rfl, .inr ⟨SqT.of (o.sub _ _ f), n _ O _ w k (Grow.refl w) o pv'⟩⟩
def dIs (ns : List Int) : List D := ns.map fun i => dV (.int i)
def dBs (bs : List Bool) : List D := bs.map fun c => dV (.bl c)
def dSs (zs : List Str) : List D := zs.map fun z => dV (.str z)
theorem LsP.ints {F : Hp} {ns : List Int} {vs : List V} (h : LsP F (dIs ns) vs) : vs = ns.map V.int := by
  refine LsP.eq (F := F) ?_
  unfold dIs at h
  rw [List.map_map]
  exact h
theorem LsP.bls {F : Hp} {ns : List Bool} {vs : List V} (h : LsP F (dBs ns) vs) : vs = ns.map V.bl := by
  refine LsP.eq (F := F) ?_
  unfold dBs at h
  rw [List.map_map]
  exact h
theorem LsP.strs {F : Hp} {ns : List Str} {vs : List V} (h : LsP F (dSs ns) vs) : vs = ns.map V.str := by
  refine LsP.eq (F := F) ?_
  unfold dSs at h
  rw [List.map_map]
  exact h
theorem OpN.sum {ns : List Int} {d : Da} (h : LstD O (dIs ns) d) (k : K (fInt ns.sum) O) : OpN b (rSum KF) [d] O K := fun w xs e o p Q n => by
  obtain ⟨v, rfl, pv⟩ := p.one
  obtain ⟨a, vs, rfl, f, q⟩ := h.at_ o pv
  have := q.ints
  subst this
  exact ⟨a, ns, rfl, SqL.of f, n _ O _ w k (Grow.refl w) o rfl⟩
theorem OpN.all {bs : List Bool} {d : Da} (h : LstD O (dBs bs) d) (k : K (fBl (bs.all id)) O) : OpN b (rAll KF) [d] O K := fun w xs e o p Q n => by
  obtain ⟨v, rfl, pv⟩ := p.one
  obtain ⟨a, vs, rfl, f, q⟩ := h.at_ o pv
  have := q.bls
  subst this
  exact ⟨a, bs, rfl, SqL.of f, n _ O _ w k (Grow.refl w) o rfl⟩
theorem OpN.any {bs : List Bool} {d : Da} (h : LstD O (dBs bs) d) (k : K (fBl (bs.any id)) O) : OpN b (rAny KF) [d] O K := fun w xs e o p Q n => by
  obtain ⟨v, rfl, pv⟩ := p.one
  obtain ⟨a, vs, rfl, f, q⟩ := h.at_ o pv
  have := q.bls
  subst this
  exact ⟨a, bs, rfl, SqL.of f, n _ O _ w k (Grow.refl w) o rfl⟩
/-- sorted of texts -/
theorem OpN.sortedS {zs : List Str} {d : Da} (h : LstD O (dSs zs) d) (l : zs.length < 64) (k : ∀ ys : List Str, ys.Perm zs → sortedS ys = true → K (.fr (dLst (dSs ys))) O) : OpN b (rSortedS KF) [d] O K := fun w xs e o p Q n => by
  obtain ⟨v, rfl, pv⟩ := p.one
  obtain ⟨a, vs, rfl, f, q⟩ := h.at_ o pv
  have := q.strs
  subst this
  refine ⟨a, zs, rfl, SqL.of f, l, fun ys c pm so hc => ?_⟩
  have g := Grow.new o (.lst (ys.map V.str)) hc
  refine n _ O _ _ (k ys pm so) g (o.new _ hc) ⟨c, _, rfl, upd_same, ?_⟩
  have := LsP.vals (F := upd w.F c (.lst (ys.map V.str))) (ys.map V.str)
  rw [List.map_map] at this
  exact this
/-! ### isinstance -/
def TyP (KF : PySem.W.Frag) (O : Ow) (d : Da) (t : Value) : Prop := ∀ w x, WOk w O → d.p w.as w.F x → TyX KF w.H x t
theorem TyP.non : TyP KF O (fV .non) (.type "NoneType") := fun w x o p => by rw [show x = V.non from p]; exact .base .non
theorem TyP.bl {c : Bool} : TyP KF O (fBl c) (.type "bool") := fun w x o p => by rw [show x = V.bl c from p]; exact .base (.bl c)
theorem TyP.int {i : Int} : TyP KF O (fInt i) (.type "int") := fun w x o p => by rw [show x = V.int i from p]; exact .base (.int i)
theorem TyP.str {z : Str} : TyP KF O (fStr z) (.type "str") := fun w x o p => by rw [show x = V.str z from p]; exact .base (.str z)
theorem TyP.lst {ds : List D} {d : Da} (h : LstD O ds d) : TyP KF O d (.type "list") := fun w x o p => by
  obtain ⟨a, vs, rfl, f, _⟩ := h.at_ o p; exact .base (.lst f)
theorem TyP.tup {ds : List D} : TyP KF O (.fr (dTup ds)) (.type "tuple") := fun w x o p => by
  obtain ⟨a, vs, rfl, f, _⟩ := p; exact .base (.tup (o.sub _ _ f))
/-- what makes the type of an instance known -/
structure ClsT (KF : PySem.W.Frag) (C : Addr) : Prop where
  cl : Cls KF C
  ha : PySem.W.findIn KF (.ref C) "__class__" = some (some (.builtin "object.__class__"))
  hn : PySem.W.specialIn KF (.builtin "object.__class__") "__get__" = some (some (.builtin "getset_descriptor.__get__"))
  htk : PySem.W.takesIn KF (.builtin "object.__class__") = some true
  hm : PySem.W.mroIn KF C (.type "object") = some true
theorem TyP.ins {C : Addr} {d : Da} (T : ClsT KF C) (h : IsIns C O d) : TyP KF O d (.ref C) := fun w x o p => by
  obtain ⟨a, dx, fs, rfl, f⟩ := h.at_ o p
  exact .base (.ins f T.cl T.ha T.hn T.htk T.hm)
theorem IsIns.dins {C : Addr} {fs : List (Str × D)} : IsIns C O (.fr (dIns C fs)) := fun F v ⟨a, dx, gs, e, f, _⟩ => ⟨a, dx, gs, e, f⟩
theorem OpN.isiT {d : Da} {t : Value} {n : String} {c : Bool} (h : TyP KF O d t) (kt : PySem.W.kitOne KF t (.type n) = some c) (k : K (fBl c) O) : OpN b (rIsi KF) [d, fV (.ty n)] O K := fun w xs e o p Q q => by
  obtain ⟨v, u, rfl, pv, pu⟩ := p.two
  have pu : u = .ty n := pu
  subst pu
  exact ⟨v, _, t, _, c, rfl, .ty n, h w v o pv, kt, q _ O _ w k (Grow.refl w) o rfl⟩
theorem OpN.isiC {d : Da} {t : Value} {C : Addr} {c : Bool} (h : TyP KF O d t) (kt : PySem.W.kitOne KF t (.ref C) = some c) (k : K (fBl c) O) : OpN b (rIsi KF) [d, fV (.ref C)] O K := fun w xs e o p Q q => by
  obtain ⟨v, u, rfl, pv, pu⟩ := p.two
  have pu : u = .ref C := pu
  subst pu
  exact ⟨v, _, t, _, c, rfl, .own C, h w v o pv, kt, q _ O _ w k (Grow.refl w) o rfl⟩
theorem OpN.isiTT {d : Da} {t : Value} {cs : List V} {us : List Value} {c : Bool} (h : TyP KF O d t) (hc : Paired ClsV cs us) (kt : PySem.W.kitAny KF t us = some c) (k : K (fBl c) O) : OpN b (rIsiT KF) [d, .fr (dTup (cs.map dV))] O K := fun w xs e o p Q q => by
  obtain ⟨v, u, rfl, pv, a, vs, rfl, f, pl⟩ := p.two
  have := pl.eq
  subst this
  exact ⟨v, a, _, t, us, c, rfl, o.sub _ _ f, hc, h w v o pv, kt, q _ O _ w k (Grow.refl w) o rfl⟩
/-! ### slices, texts -/
def EvO (b : Wd) (t : TO) (en : En) (O : Ow) (K : Option Int → Ow → Prop) : Prop := ∀ w σ, Grow b w → WOk w O → EnOk w σ en → ∀ Q : Option Int → Hp → Prop, (∀ c O' w', K c O' → Grow w w' → WOk w' O' → Q c w'.H) → t σ w.H Q
theorem EvO.no {K : Option Int → Ow → Prop} (k : K none O) : EvO b tNoPart en O K := fun w σ e o en' Q q => q none O w k (Grow.refl w) o
theorem EvO.part {te : TE} {K : Option Int → Ow → Prop} (h : Ev b te en O fun d O1 => ∃ i, d = fInt i ∧ K (some i) O1) : EvO b (tPart te) en O K := fun w σ e o en' Q q => h w σ e o en' _ fun d O1 x w1 k1 e1 o1 p1 => by
  obtain ⟨i, rfl, k⟩ := k1
  exact ⟨i, p1, q _ O1 w1 k e1 o1⟩
def OpS (b : Wd) (r : V → Option Int → Option Int → Hp → VK → Prop) (d : Da) (lo hi : Option Int) (O : Ow) (K : DK) : Prop := ∀ w x, Grow b w → WOk w O → d.p w.as w.F x → ∀ Q : VK, Wn w K Q → r x lo hi w.H Q
theorem Ev.sl {r : V → Option Int → Option Int → Hp → VK → Prop} {te : TE} {tl th : TO} (h : Ev b te en O fun d O1 => EvO b tl en O1 fun lo O2 => EvO b th en O2 fun hi O3 => OpS b r d lo hi O3 K) : Ev b (tSl r te tl th) en O K :=
  fun w σ e o en' Q q => h w σ e o en' _ fun d O1 x w1 k1 e1 o1 p1 => k1 w1 σ (e.trans e1) o1 (en'.ext e1) _ fun lo O2 w2 k2 e2 o2 => k2 w2 σ ((e.trans e1).trans e2) o2 (en'.ext (e1.trans e2)) _ fun hi O3 w3 k3 e3 o3 =>
    k3 w3 x (((e.trans e1).trans e2).trans e3) o3 (Da.mono (e2.trans e3) p1) Q (Wn.grow q ((e1.trans e2).trans e3))
theorem OpS.str {z : Str} {lo hi : Option Int} (l : z.length ≤ sizeLine) (k : K (fStr (cutS z lo hi)) O) : OpS b rSlS (fStr z) lo hi O K := fun w x e o p Q n => ⟨z, p, l, n _ O _ w k (Grow.refl w) o rfl⟩
def cutD {α : Type} (xs : List α) (lo hi : Option Int) : List α := (xs.drop (HT.sIx xs.length 0 lo)).take (HT.sIx xs.length xs.length hi - HT.sIx xs.length 0 lo)
theorem LsP.cut {F : Hp} {ds : List D} {vs : List V} (h : LsP F ds vs) (lo hi : Option Int) : LsP F (cutD ds lo hi) (cutV vs lo hi) := by
  unfold cutD cutV
  rw [h.len]
  exact (h.drop _).take _
theorem OpS.lst {ds : List D} {d : Da} {lo hi : Option Int} (h : LstD O ds d) (k : K (.fr (dLst (cutD ds lo hi))) O) : OpS b (rSlL KF) d lo hi O K := fun w x e o p Q n => by
  obtain ⟨a, vs, rfl, f, q⟩ := h.at_ o p
  refine ⟨a, vs, rfl, SqL.of f, fun c hc => ?_⟩
  have g := Grow.new o (.lst (cutV vs lo hi)) hc
  exact n _ O _ _ k g (o.new _ hc) ⟨c, _, rfl, upd_same, (q.cut lo hi).mono g.F⟩
theorem Ev.m1 {r : V → List V → Hp → VK → Prop} {to te : TE} (h : Ev b to en O fun d O1 => ∃ z, d = fStr z ∧ Ev b te en O1 fun d2 O2 => OpM b r (fStr z) [d2] O2 K) : Ev b (tM1 r to te) en O K :=
  fun w σ e o en' Q q => h w σ e o en' _ fun d O1 x w1 k1 e1 o1 p1 => by
    obtain ⟨z, rfl, k⟩ := k1
    have p1 : x = .str z := p1
    subst p1
    refine ⟨⟨z, rfl⟩, k w1 σ (e.trans e1) o1 (en'.ext e1) _ fun d2 O2 y w2 k2 e2 o2 p2 => k2 w2 _ [y] ((e.trans e1).trans e2) o2 rfl (.cons p2 .nil) Q (Wn.grow q (e1.trans e2))⟩
theorem OpM.join {z : Str} {zs : List Str} {d : Da} (h : SeqD O (dSs zs) d) (l : (zs.map (·.length)).sum + zs.length * z.length ≤ 16777216) (k : K (fStr (Txt.join z zs)) O) :
    OpM b (fun x xs H Q => ∃ a p, ∃ ys : List Str, x = .str a ∧ xs = [.ref p] ∧ (SqL KF H p (ys.map V.str) ∨ SqT KF H p (ys.map V.str)) ∧ (ys.map (·.length)).sum + ys.length * a.length ≤ 16777216 ∧ Q (.str (Txt.join a ys)) H) (fStr z) [d] O K := fun w x xs e o px pd Q n => by
  obtain ⟨v, rfl, pv⟩ := pd.one
  obtain ⟨a, vs, rfl, f, q⟩ := h.at_ (KF := KF) o pv
  have := q.strs
  subst this
  exact ⟨z, a, zs, px, rfl, f, l, n _ O _ w k (Grow.refl w) o rfl⟩
end
/-! ### dicts -/
inductive KsP (F : Hp) : List (Key × D) → List (Key × V) → Prop
  | nil : KsP F [] []
  | cons {k d v ds vs} : D.p d F v → KsP F ds vs → KsP F ((k, d) :: ds) ((k, v) :: vs)
theorem KsP.mono {F F' : Hp} (s : Same F F') {ds : List (Key × D)} {vs : List (Key × V)} (h : KsP F ds vs) : KsP F' ds vs := by
  induction h with
  | nil => exact .nil
  | cons p _ ih => exact .cons (D.mono _ s p) ih
theorem KsP.len {F : Hp} {ds : List (Key × D)} {vs : List (Key × V)} (h : KsP F ds vs) : ds.length = vs.length := by
  induction h with
  | nil => rfl
  | cons _ _ ih => simp [ih]
def lookD (ds : List (Key × D)) (k : Key) : Option D := (ds.find? fun kv => decide (kv.1 = k)).map (·.2)
def putKD (ds : List (Key × D)) (k : Key) (d : D) : List (Key × D) := if (ds.any fun kv => decide (kv.1 = k)) = true then ds.map (fun kv => if kv.1 = k then (kv.1, d) else kv) else ds ++ [(k, d)]
def dropD (ds : List (Key × D)) (k : Key) : List (Key × D) := ds.filter fun kv => decide (kv.1 ≠ k)
theorem KsP.look {F : Hp} {ds : List (Key × D)} {vs : List (Key × V)} (h : KsP F ds vs) (k : Key) : (lookD ds k = none ∧ valV vs k = none) ∨ ∃ d v, lookD ds k = some d ∧ valV vs k = some v ∧ d.p F v := by
  induction h with
  | nil => exact .inl ⟨rfl, rfl⟩
  | @cons j d v ds vs p r ih =>
    unfold lookD valV at ih ⊢
    rw [List.find?_cons, List.find?_cons]
    by_cases e : j = k
    · refine .inr ⟨d, v, ?_, ?_, p⟩ <;> simp [e]
    · have e1 : decide (j = k) = false := decide_eq_false e
      simp only [e1]
      exact ih
theorem KsP.any {F : Hp} {ds : List (Key × D)} {vs : List (Key × V)} (h : KsP F ds vs) (k : Key) : (ds.any fun kv => decide (kv.1 = k)) = (vs.any fun kv => decide (kv.1 = k)) := by
  induction h with
  | nil => rfl
  | cons p _ ih => rw [List.any_cons, List.any_cons, ih]
theorem KsP.mapPut {F : Hp} {ds : List (Key × D)} {vs : List (Key × V)} (h : KsP F ds vs) (k : Key) {d : D} {v : V} (p : d.p F v) : KsP F (ds.map (fun kv => if kv.1 = k then (kv.1, d) else kv)) (vs.map (fun kv => if kv.1 = k then (kv.1, v) else kv)) := by
  induction h with
  | nil => exact .nil
  | @cons j d' v' ds vs q r ih =>
    rw [List.map_cons, List.map_cons]
    by_cases e : j = k
    · simp only [if_pos e]; exact .cons p ih
    · simp only [if_neg e]; exact .cons q ih
theorem KsP.snoc {F : Hp} {ds : List (Key × D)} {vs : List (Key × V)} (h : KsP F ds vs) (k : Key) {d : D} {v : V} (p : d.p F v) : KsP F (ds ++ [(k, d)]) (vs ++ [(k, v)]) := by
  induction h with
  | nil => exact .cons p .nil
  | cons q r ih => exact .cons q ih
theorem KsP.put {F : Hp} {ds : List (Key × D)} {vs : List (Key × V)} (h : KsP F ds vs) (k : Key) {d : D} {v : V} (p : d.p F v) : KsP F (putKD ds k d) (putK vs k v) := by
  unfold putKD putK
  rw [h.any k]
  split
  · exact h.mapPut k p
  · exact h.snoc k p
theorem KsP.drop {F : Hp} {ds : List (Key × D)} {vs : List (Key × V)} (h : KsP F ds vs) (k : Key) : KsP F (dropD ds k) (dropK vs k) := by
  unfold dropD dropK
  induction h with
  | nil => exact .nil
  | @cons j d v ds vs p r ih =>
    rw [List.filter_cons, List.filter_cons]
    by_cases e : j = k
    · simp only [e, ne_eq, not_true_eq_false, decide_false, Bool.false_eq_true, if_false]; exact ih
    · simp only [e, ne_eq, not_false_eq_true, decide_true, if_true]; exact .cons p ih
def dDK (kds : List (Key × D)) : D := ⟨fun F v => ∃ a vs, v = .ref a ∧ F a = some (.dK vs) ∧ KsP F kds vs, fun s ⟨a, vs, e, f, p⟩ => ⟨a, vs, e, s _ _ f, p.mono s⟩⟩
def oDK (kds : List (Key × D)) : OD := ⟨fun F o => ∃ vs, o = .dK vs ∧ KsP F kds vs, fun s ⟨vs, e, p⟩ => ⟨vs, e, p.mono s⟩⟩
def DctD (O : Ow) (ds : List (Key × D)) : Da → Prop
  | .fr d => d = dDK ds
  | .ow k => O[k]? = some (some (oDK ds))
theorem DctD.at_ {O : Ow} {ds : List (Key × D)} {d : Da} {w : Wd} {x : V} (h : DctD O ds d) (o : WOk w O) (p : d.p w.as w.F x) : ∃ a vs, x = .ref a ∧ w.H a = some (.dK vs) ∧ KsP w.F ds vs := by
  cases d with
  | fr d =>
    have h : d = dDK ds := h
    subst h
    obtain ⟨a, vs, e, f, p⟩ := p
    exact ⟨a, vs, e, o.sub _ _ f, p⟩
  | ow k =>
    obtain ⟨a, e1, rfl⟩ := p
    obtain ⟨_, u, hu, vs, rfl, pu⟩ := o.own k a _ e1 h
    exact ⟨a, vs, rfl, hu, pu⟩
section
variable {b : Wd} {en : En} {O : Ow} {K : DK} {KF : PySem.W.Frag}
theorem Ev.dnewF (k : K (.fr (dDK [])) O) : Ev b tDNewK en O K := fun w σ e o en' Q q p hp => q _ O _ _ k (Grow.new o (.dK []) hp) (o.new _ hp) ⟨p, [], rfl, upd_same, .nil⟩
theorem Ev.dnewO (k : K (.ow O.length) (O ++ [some (oDK [])])) : Ev b tDNewK en O K := fun w σ e o en' Q q p hp =>
  q _ _ _ _ k (Grow.newOw hp) (o.newOw (.dK []) hp ⟨[], rfl, .nil⟩) ⟨p, by rw [← o.len, List.getElem?_append_right (Nat.le_refl _), Nat.sub_self]; rfl, rfl⟩
theorem Ev.dget {td ty : TE} (h : Ev b td en O fun d O1 => Ev b ty en O1 fun d2 O2 => ∃ ds k x, DctD O2 ds d ∧ d2 = fV (kV k) ∧ lookD ds k = some x ∧ K (.fr x) O2) : Ev b (tDGet td ty) en O K :=
  fun w σ e o en' Q q => h w σ e o en' _ fun d O1 x w1 k1 e1 o1 p1 => k1 w1 σ (e.trans e1) o1 (en'.ext e1) _ fun d2 O2 y w2 k2 e2 o2 p2 => by
    obtain ⟨ds, k, dx, hd, rfl, l, kk⟩ := k2
    have p2 : y = kV k := p2
    subst p2
    obtain ⟨a, vs, rfl, f, pk⟩ := hd.at_ o2 (Da.mono e2 p1)
    rcases pk.look k with ⟨n, _⟩ | ⟨dd, v, h1, h2, pv⟩
    · rw [n] at l; cases l
    · rw [h1] at l; injection l with l; subst l
      refine ⟨a, v, rfl, ?_, q _ O2 _ w2 kk (e1.trans e2) o2 pv⟩
      rw [← h2]; exact DGet.k f
theorem Ev.din {ty td : TE} (h : Ev b ty en O fun d2 O1 => Ev b td en O1 fun d O2 => ∃ ds k, DctD O2 ds d ∧ d2 = fV (kV k) ∧ K (fBl (lookD ds k).isSome) O2) : Ev b (tDIn ty td) en O K :=
  fun w σ e o en' Q q => h w σ e o en' _ fun d2 O1 y w1 k1 e1 o1 p1 => k1 w1 σ (e.trans e1) o1 (en'.ext e1) _ fun d O2 x w2 k2 e2 o2 p2 => by
    obtain ⟨ds, k, hd, rfl, kk⟩ := k2
    have p1 : y = kV k := p1
    subst p1
    obtain ⟨a, vs, rfl, f, pk⟩ := hd.at_ o2 p2
    refine ⟨a, valV vs k, rfl, DGet.k f, ?_⟩
    have : (valV vs k).isSome = (lookD ds k).isSome := by
      rcases pk.look k with ⟨n, m⟩ | ⟨dd, v, h1, h2, pv⟩
      · rw [n, m]; rfl
      · rw [h1, h2]; rfl
    rw [this]
    exact q _ O2 _ w2 kk (e1.trans e2) o2 rfl
/-- d[y] = v, a dict of one's own -/
theorem EvG.dput {to ti : TE} {x : D} {K : EK} (h : Ev b to en O fun d O1 => Ev b ti en O1 fun d2 O2 => ∃ (k : Nat) (ds : List (Key × D)) (y : Key), d = .ow k ∧ d2 = fV (kV y) ∧ O2[k]? = some (some (oDK ds)) ∧ ds.length < sizeLine ∧ K en (O2.set k (some (oDK (putKD ds y x))))) :
    EvG b (gSub to ti rSetD) (.fr x) en O K := fun w σ v e o en' p Q q => h w σ e o en' _ fun d O1 u w1 k1 e1 o1 p1 => k1 w1 σ (e.trans e1) o1 (en'.ext e1) _ fun d2 O2 z w2 k2 e2 o2 p2 => by
    obtain ⟨k, ds, y, rfl, rfl, hk, l, kk⟩ := k2
    obtain ⟨a, ha, rfl⟩ := p1
    have ha := e2.pre k a ha
    have p2 : z = kV y := p2
    subst p2
    obtain ⟨_, u, hu, vs, rfl, pu⟩ := o2.own k a _ ha hk
    have g := Grow.put (o := .dK (putK vs y v)) (List.mem_of_getElem? ha)
    exact ⟨a, _, rfl, DPut.k hu (by rw [← pu.len]; exact l), q _ _ _ _ kk ((e1.trans e2).trans g) (o2.put ha hk ⟨_, rfl, pu.put y (DL.D.mono _ (e1.trans e2).F p)⟩) (en'.ext ((e1.trans e2).trans g))⟩
theorem OpN.lenD {ds : List (Key × D)} {d : Da} {r : List V → Hp → VK → Prop} (hr : ∀ a vs H Q, H a = some (.dK vs) → Q (.int vs.length) H → r [.ref a] H Q) (h : DctD O ds d) (k : K (fInt ds.length) O) : OpN b r [d] O K := fun w xs e o p Q n => by
  obtain ⟨v, rfl, pv⟩ := p.one
  obtain ⟨a, vs, rfl, f, q⟩ := h.at_ o pv
  exact hr a vs w.H Q f (n (fInt ds.length) O _ w k (Grow.refl w) o (show V.int _ = V.int _ by rw [q.len]))
theorem TyP.dct {ds : List (Key × D)} {d : Da} (h : DctD O ds d) : TyP KF O d (.type "dict") := fun w x o p => by
  obtain ⟨a, vs, rfl, f, _⟩ := h.at_ o p; exact .base (.dK f)
end
/-- a dict of one's own stands still from here on -/
theorem EvS.stillD {b : Wd} {en : En} {O : Ow} {K : Ks} {ts : TS} {k : Nat} {ds : List (Key × D)} (hk : O[k]? = some (some (oDK ds))) (h : EvS b ts (en.map fun s => match s with
    | some (.ow j) => if j = k then some (.fr (dDK ds)) else s
    | _ => s) (O.set k none) K) : EvS b ts en O K := fun w σ e o en' D qn qr qb qc => by
  obtain ⟨a, u, ha, hu, vs, rfl, pu⟩ := o.at_ hk
  obtain ⟨o2, g⟩ := o.still ha hk hu
  refine h ⟨w.as, upd w.F a (.dK vs), w.H⟩ σ (e.trans g) o2 ⟨by rw [List.length_map]; exact en'.len, fun i d q => ?_⟩ D (qn.grow g) (qr.grow g) (qb.grow g) (qc.grow g)
  rw [List.getElem?_map] at q
  cases e1 : en[i]? with
  | none => rw [e1] at q; cases q
  | some s =>
    rw [e1] at q
    cases s with
    | none => simp at q
    | some d0 =>
      obtain ⟨v, h1, h2⟩ := en'.at_ i d0 e1
      cases d0 with
      | fr d0 =>
        simp at q
        subst q
        exact ⟨v, h1, Da.mono g h2⟩
      | ow j =>
        by_cases ej : j = k
        · subst ej
          simp at q
          subst q
          obtain ⟨a', ha', rfl⟩ := h2
          rw [ha] at ha'
          injection ha' with ha'
          subst ha'
          exact ⟨_, h1, a, vs, rfl, upd_same, pu.mono g.F⟩
        · simp [ej] at q
          subst q
          exact ⟨v, h1, Da.mono g h2⟩
end DL

namespace DL
open PySem L2 LB PyProof.Rows
/-! ### one's own things by their places -/
theorem ow_set {O : Ow} {k : Nat} {x : Option OD} (y : Option OD) (h : O[k]? = some x) : (O.set k y)[k]? = some y := by
  rw [List.getElem?_set_self]; exact (List.getElem?_eq_some_iff.mp h).1
theorem ow_app {O r : Ow} {k : Nat} {x : Option OD} (h : O[k]? = some x) : (O ++ r)[k]? = some x := by
  rw [List.getElem?_append_left (List.getElem?_eq_some_iff.mp h).1]; exact h
theorem ow_last {O : Ow} {x : Option OD} : (O ++ [x])[O.length]? = some x := by simp
theorem ow_setapp {O r : Ow} {k : Nat} {x : Option OD} (y : Option OD) (h : O[k]? = some x) : (O ++ r).set k y = O.set k y ++ r := List.set_append_left k y (List.getElem?_eq_some_iff.mp h).1
theorem ow_lastset {O : Ow} {x y : Option OD} : (O ++ [x]).set O.length y = O ++ [y] := by simp
theorem ow_setself {O : Ow} {k : Nat} {x : Option OD} (h : O[k]? = some x) : O.set k x = O := by
  obtain ⟨l, e⟩ := List.getElem?_eq_some_iff.mp h
  rw [← e, List.set_getElem_self]
/-- what But says, over data -/
theorem WOk.but {w : Wd} {O : Ow} (h : WOk w O) {k : Nat} {a : Addr} {od0 od : OD} {H' : Hp} {o : HO} (ha : w.as[k]? = some a) (h0 : O[k]? = some (some od0)) (bt : But a w.H H') (ho : H' a = some o) (po : od.p w.F o) : WOk ⟨w.as, w.F, H'⟩ (O.set k (some od)) ∧ Grow w ⟨w.as, w.F, H'⟩ := by
  obtain ⟨fa, u, hu, _⟩ := h.own k a od0 ha h0
  have ma : a ∈ w.as := List.mem_of_getElem? ha
  refine ⟨⟨fun c x e => bt c x (h.sub _ _ e) (fun z => by rw [z, fa] at e; cases e), h.nd, by rw [List.length_set]; exact h.len, fun c hc => ?_, fun j c od' q1 q2 => ?_, fun j c q1 q2 => ?_⟩, ⟨fun _ _ q => q, Same.refl _, fun c x e n => bt c x e (fun z => n (by rw [z]; exact ma)), fun _ _ _ _ _ f => f, fun _ q n => absurd q n⟩⟩
  · by_cases e : c = a
    · subst e; exact ⟨o, ho⟩
    · obtain ⟨x, hx⟩ := h.al c hc
      exact ⟨x, bt c x hx e⟩
  · rw [List.getElem?_set] at q2
    by_cases e : k = j
    · subst e
      have q1 : w.as[k]? = some c := q1
      rw [ha] at q1; injection q1 with q1; subst q1
      rw [if_pos rfl] at q2
      split at q2
      · injection q2 with q2
        injection q2 with q2
        subst q2
        exact ⟨fa, o, ho, po⟩
      · cases q2
    · rw [if_neg e] at q2
      obtain ⟨f', x, hx, px⟩ := h.own j c od' q1 q2
      have ne : c ≠ a := fun z => by
        subst z
        obtain ⟨l1, e1⟩ := List.getElem?_eq_some_iff.mp ha
        obtain ⟨l2, e2⟩ := List.getElem?_eq_some_iff.mp q1
        exact e ((List.getElem_inj h.nd).mp (e1.trans e2.symm))
      exact ⟨f', x, bt c x hx ne, px⟩
  · rw [List.getElem?_set] at q2
    by_cases e : k = j
    · rw [if_pos e] at q2; split at q2 <;> cases q2
    · rw [if_neg e] at q2; exact h.ded j c q1 q2
/-! ### a def that leaves no thing of its own behind -/
section
variable {P : Program} {w : World} {K : PySem.W.Frag} {mg : Str → Option Value} {base : Heap}
def cutR (n : Nat) (Q : DK) : DK := fun d O' => d.lt n ∧ Q d (O'.take n)
theorem Wn.cut {w : Wd} {Q : DK} {R : VK} {n : Nat} (h : Wn w Q R) (l : w.as.length ≤ n) : Wn w (cutR n Q) R := fun d O' v w' k g o p => h d (O'.take n) v ⟨w'.as.take n, w'.F, w'.H⟩ k.2 (g.cut l) o.cut (Da.cut p k.1)
def cutX (n : Nat) (KX : XKD) : XKD := fun C fl O' => KX C fl (O'.take n)
theorem RaiseTo.cut {b : Wd} {E : XK} {KX : XKD} {n : Nat} (h : RaiseTo b E KX) (l : b.as.length ≤ n) : RaiseTo b E (cutX n KX) := fun C fl O' w' dd k g o x => h C fl (O'.take n) ⟨w'.as.take n, w'.F, w'.H⟩ dd k (g.cut l) o.cut x
theorem okDc {x qual : Str} {st : Stmt} {f : Addr} {fd : FuncData} {N ps : List Str} {k : Nat} {fs : FS} (F : Fun K x qual st f fd) (S : FnScope N ps (defScope st)) (len : ∀ ds O Q KX, fs ds O Q KX → ds.length = ps.length)
    (h : ∀ (cdv : Value) (A : Around) (outer : List Env) (s : Shared) (H : Hp) (E : XK), Room k (A.deeper (envOfC qual (defScope st) s.heap.objs.size f cdv)) → ∀ b ds O Q KX, fs ds O Q KX → RaiseTo b E (cutX O.length KX) →
      ∃ t, PSs (cxOf CX0 P w K mg base N qual (defScope st) f cdv A outer s H E).nox (defBody st) t ∧ EvS b t (stE N ds) O { n := fun _ O' => cutR O.length Q (fV .non) O', r := cutR O.length Q }) : FnOk P w K mg base CX0 (k + 1) f fd ps (spD fs) := by
  refine F.ok S (fun vs H Q E h => ?_) (fun cdv A outer s H vs Q E hr hh => ?_)
  · obtain ⟨w, O, ds, K, KX, _, _, p, q, _⟩ := h
    exact p.len.symm.trans (len _ _ _ _ q)
  · obtain ⟨w1, O, ds, K1, KX, rfl, o, p, q, k1, k2⟩ := hh
    have l : w1.as.length ≤ O.length := Nat.le_of_eq o.len
    obtain ⟨t, pt, r⟩ := h cdv A outer s w1.H E hr w1 ds O K1 KX q (k2.cut l)
    have k1 := k1.cut l
    exact ⟨t, pt, r w1 _ (Grow.refl w1) o (EnOk.start p) _ (fun en' O' σ' w' k e ok _ => k1 _ O' _ w' k e ok rfl) k1 (fun _ _ _ _ z => z.elim) (fun _ _ _ _ z => z.elim)⟩
theorem okDcX {x qual : Str} {st : Stmt} {f : Addr} {fd : FuncData} {N ps : List Str} {k : Nat} {fs : FS} (F : Fun K x qual st f fd) (S : FnScope N ps (defScope st)) (len : ∀ ds O Q KX, fs ds O Q KX → ds.length = ps.length)
    (h : ∀ (cdv : Value) (A : Around) (outer : List Env) (s : Shared) (H : Hp) (E : XK), Room k (A.deeper (envOfC qual (defScope st) s.heap.objs.size f cdv)) → ∀ b ds O Q KX, fs ds O Q KX → RaiseTo b E (cutX O.length KX) →
      ∃ t, PSs (cxOf (L2.CX P w) P w K mg base N qual (defScope st) f cdv A outer s H E) (defBody st) t ∧ EvS b t (stE N ds) O { n := fun _ O' => cutR O.length Q (fV .non) O', r := cutR O.length Q }) : FnOk P w K mg base (L2.CX P w) (k + 1) f fd ps (spD fs) := by
  refine F.okX S (fun vs H Q E h => ?_) (fun cdv A outer s H vs Q E hr hh => ?_)
  · obtain ⟨w, O, ds, K, KX, _, _, p, q, _⟩ := h
    exact p.len.symm.trans (len _ _ _ _ q)
  · obtain ⟨w1, O, ds, K1, KX, rfl, o, p, q, k1, k2⟩ := hh
    have l : w1.as.length ≤ O.length := Nat.le_of_eq o.len
    obtain ⟨t, pt, r⟩ := h cdv A outer s w1.H E hr w1 ds O K1 KX q (k2.cut l)
    have k1 := k1.cut l
    exact ⟨t, pt, r w1 _ (Grow.refl w1) o (EnOk.start p) _ (fun en' O' σ' w' k e ok _ => k1 _ O' _ w' k e ok rfl) k1 (fun _ _ _ _ z => z.elim) (fun _ _ _ _ z => z.elim)⟩
theorem HasFn.imp {CX : CXT} {k : Nat} {x : Str} {ps : List Str} {sp sp' : Sp} (h : HasFn P w K mg base CX k x ps sp) (i : ∀ vs H Q E, sp' vs H Q E → sp vs H Q E) : HasFn P w K mg base CX k x ps sp' := let ⟨f, fd, F, r⟩ := h; ⟨f, fd, F.imp i, r⟩
theorem HasMe.imp {CX : CXT} {k : Nat} {C : Addr} {x : Str} {ps : List Str} {sp sp' : Sp} (h : HasMe P w K mg base CX k C x ps sp) (i : ∀ vs H Q E, sp' vs H Q E → sp vs H Q E) : HasMe P w K mg base CX k C x ps sp' := let ⟨f, fd, F, r⟩ := h; ⟨f, fd, F.imp i, r⟩
theorem HasMk.imp {CX : CXT} {k : Nat} {C : Addr} {x : Str} {ps : List Str} {sp sp' : Sp} (h : HasMk P w K mg base CX k C x ps sp) (i : ∀ vs H Q E, sp' vs H Q E → sp vs H Q E) : HasMk P w K mg base CX k C x ps sp' := let ⟨f, fd, F, r⟩ := h; ⟨f, fd, F.imp i, r⟩
end
theorem cut_pure {O : Ow} {Q : DK} {d : D} (h : Q (.fr d) O) : cutR O.length Q (.fr d) O := ⟨trivial, by rw [List.take_length]; exact h⟩
theorem cut_set {O : Ow} {Q : DK} {d : D} {k : Nat} {x : Option OD} (h : Q (.fr d) (O.set k x)) : cutR O.length Q (.fr d) (O.set k x) := ⟨trivial, by rw [List.take_of_length_le (by simp)]; exact h⟩
theorem cut_app {O r : Ow} {Q : DK} {d : D} (h : Q (.fr d) O) : cutR O.length Q (.fr d) (O ++ r) := ⟨trivial, by rw [List.take_left' rfl]; exact h⟩
theorem cut_setapp {O r : Ow} {Q : DK} {d : D} {k : Nat} {x : Option OD} (h : Q (.fr d) (O.set k x)) : cutR O.length Q (.fr d) (O.set k x ++ r) := ⟨trivial, by rw [List.take_left' (by simp)]; exact h⟩
/-! ### pens -/
def oPen (ns : List Int) (i r : Int) : OD := ⟨fun F o => 0 ≤ i ∧ ∃ q, o = .lst [.ref q, .int i, .int r] ∧ F q = some (.lst (ns.map V.int)), fun s ⟨h, q, e, f⟩ => ⟨h, q, e, s _ _ f⟩⟩
/-! ### raising -/
def RaiseW (b : Wd) (W : WX) (KX : XKD) : Prop := ∀ C fl O' w' dd σ, KX C fl O' → Grow b w' → WOk w' O' → XdP w'.F dd fl → W (.ref C) dd σ w'.H
theorem RaiseTo.w {b : Wd} {E : XK} {KX : XKD} (h : RaiseTo b E KX) : RaiseW b (fun cls d _ H => E cls d H) KX := fun C fl O' w' dd _ => h C fl O' w' dd
section
variable {b : Wd} {en : En} {O : Ow} {K : Ks}
theorem EvS.raise0 {C : Addr} {W : WX} {KX : XKD} (r : RaiseW b W KX) (k : KX C [] O) : EvS b (fun _ σ H => W (.ref C) none σ H) en O K := fun w σ e o en' D _ _ _ _ => r C [] O w none σ k e o (.inl ⟨rfl, rfl⟩)
end
section
variable {X : Cx} {k : Nat} {C : Addr} {ps : List Str} {x : Str} {p pos : Pos} {e : Expr} {t : TA}
theorem ps_raise1n {W : WX} {n : Str} (h : HasEx X.prog X.w X.K X.mg X.base CX0 k C x ps (spX1 C n)) (hc : X.calm = true) (tk : Takes X W) (hr : Room (k + 1) X.A) (ha : PA X [e] t) (hm1 : ∀ (σ : L2.St) (H : Hp) (Q R : List V → Hp → Prop), (∀ vs H1, Q vs H1 → R vs H1) → t σ H Q → t σ H R) {ppos : Pos} (hg : Gl X x := by rfl)
    (hdb : (x == ("__debug__" : Str)) = false := by decide) (he : starEach [e] X.env = (false, eval e X.env) :: starEach [] X.env := by rfl) (hpl : (backTo pos (starEach [] X.env)).any (·.1) = false := by rfl) :
    PS X (.Raise (some (.Call (.Name x p) [e] [] pos)) none ppos) (fun _ σ H => t σ H fun vs H1 => ∃ v, vs = [v] ∧ ∀ d H', Same H1 H' → H1 d = none → H' d = some (.xd [(n, v)]) → W (.ref C) (some d) σ H') := by
  obtain ⟨f, fd, T, iC, tI, F1, hm, _, hb⟩ := h
  refine ⟨fun pins s σ H D I hw => (ps_raise hc tk (pmk_oex (dvs := []) T iC tI F1 hr hb .nil pass0 hg hm ha hdb he hpl)).run pins s σ H D I (hm1 σ H _ _ (fun vs H1 z => ?_) hw)⟩
  obtain ⟨v, rfl, q⟩ := z
  refine ⟨by show 1 ≤ 1000; decide, fun a na => ⟨a, v, rfl, upd_same, fun H2 d b nd ne ea ed => ⟨rfl, d, _, ea, ed, ?_, ?_⟩⟩⟩
  · rw [upd_ne ne] at nd
    exact nd
  · rw [upd_ne ne] at nd
    refine q d _ (fun c o e => ?_) nd upd_same
    have n1 : c ≠ a := ne_of_none e na
    rw [upd_ne (ne_of_none e nd), del_ne n1]
    exact b c o (by rw [upd_ne n1]; exact e) n1
end
theorem EvS.raise1 {b : Wd} {en : En} {O : Ow} {K : Ks} {C : Addr} {W : WX} {KX : XKD} {n : Str} {t : TA} (r : RaiseW b W KX) (h : EvA b t en O fun ds O1 => ∃ d, ds = [.fr d] ∧ KX C [(n, d)] O1) :
    EvS b (fun _ σ H => t σ H fun vs H1 => ∃ v, vs = [v] ∧ ∀ d H', Same H1 H' → H1 d = none → H' d = some (.xd [(n, v)]) → W (.ref C) (some d) σ H') en O K := fun w σ e o en' D _ _ _ _ => h w σ e o en' _ fun ds O1 vs w1 k1 e1 o1 p1 => by
  obtain ⟨d, rfl, k⟩ := k1
  obtain ⟨v, rfl, pv⟩ := p1.one
  refine ⟨v, rfl, fun a H' s na ea => ?_⟩
  obtain ⟨o2, g2⟩ := o1.more1 s na ea
  exact r C _ O1 _ (some a) σ k ((e.trans e1).trans g2) o2 (.inr ⟨a, _, rfl, upd_same, .cons (DL.D.mono _ g2.F pv) .nil⟩)
end DL

namespace K41
open PySem L2 LB PyProof.Rows
abbrev s_law_pen : Stmt := top 49
theorem sc_law_pen : FnScope ["_law_script"] ["_law_script"] (defScope s_law_pen) := ⟨rfl, rfl, rfl, by decide +kernel, rfl, by decide +kernel, by decide +kernel⟩
abbrev s_law_draw : Stmt := top 50
theorem sc_law_draw : FnScope ["_law_pen_here", "_law_many", "_law_taken", "_law_cell_here", "_law_mixed", "_law_digit", "_law_great"] ["_law_pen_here", "_law_many"] (defScope s_law_draw) := ⟨rfl, rfl, rfl, by decide +kernel, rfl, by decide +kernel, by decide +kernel⟩

section
variable {P : Program} {w : World} {K : PySem.W.Frag} {mg : Str → Option Value} {base : Heap}
theorem ok_pen {f : Addr} {fd : FuncData} (F : Fun K "_law_pen" "_law_pen" s_law_pen f fd) (B : Blt mg) : FnOk P w K mg base CX0 1 f fd ["_law_script"] (spPen K) := by
  refine F.ok sc_law_pen (fun vs H Q E h => ?_) (fun cdv A outer s H vs Q E hr h => ?_)
  · obtain ⟨a, ns, rfl, _⟩ := h
    rfl
  · obtain ⟨a, ns, rfl, hS, k⟩ := h
    refine ⟨_, (pss_one (ps_ret (pe_lst (pa_cons (pe_callTy call_list_of (by rfl) B.n_list (by decide +kernel) (pa_cons (pe_slice sl_list (pv 0) po_none (po_some pe_int)) pa_nil)) (pa_cons pe_int (pa_cons pe_int pa_nil)))))), ?_⟩
    refine ⟨_, rfl, _, rfl, a, _, rfl, hS, fun p1 n1 => ?_⟩
    refine ⟨p1, _, rfl, .inl (SqL.of upd_same), fun l hl => ⟨by show 3 ≤ sizeLine; decide, fun p hp => ?_⟩⟩
    obtain ⟨ms, e⟩ := cut_ints ns none (some 63)
    have s1 := same_new (o := .lst (cutV (ns.map V.int) none (some 63))) n1
    have s2 : Same _ (upd (upd H p1 (.lst (cutV (ns.map V.int) none (some 63)))) l (.lst (cutV (ns.map V.int) none (some 63)))) := same_new hl
    have ne : p ≠ l := (ne_of_none upd_same hp).symm
    exact k p l ms _ ((s1.trans s2).trans (same_new hp)) ((s1.trans s2).free hp) ⟨upd_same, by rw [upd_ne ne.symm, upd_same, e], Int.le_refl _, ne⟩
theorem ok_draw {f : Addr} {fd : FuncData} (F : Fun K "_law_draw" "_law_draw" s_law_draw f fd) (B : Blt mg) : FnOk P w K mg base CX0 1 f fd ["_law_pen_here", "_law_many"] spDraw := by
  refine F.ok sc_law_draw (fun vs H Q E h => ?_) (fun cdv A outer s H vs Q E hr h => ?_)
  · obtain ⟨p, q, ns, i, r, n, rfl, _⟩ := h
    rfl
  · obtain ⟨p, q, ns, i, r, n, rfl, hp, hn, hn2, hi, k⟩ := h
    refine ⟨_, (pss_cons (ps_if (pt_cmpR op_gt (pe_ix ix_list (pv 0) pe_int (fun _ _ => rfl)) pe_int (nomark _)) (pss_cons (ps_set (i := 5) sc_law_draw.nd rfl (.inl rfl) (pe_op op_mod (pe_callTy call_int1 (by rfl) B.n_int (by decide +kernel) (pa_cons (pe_ix ix_list (pv 0) pe_int (fun _ _ => rfl)) pa_nil)) (pv 1)))
      (pss_cons (ps_asg (pe_op op_fdiv (pe_callTy call_int1 (by rfl) B.n_int (by decide +kernel) (pa_cons (pe_ix ix_list (pv 0) pe_int (fun _ _ => rfl)) pa_nil)) (pv 1)) (pg_sub (pv 0) pe_int set_list))
      (pss_one (ps_ret (pv 5))))) pss_nil)
      (pss_cons (ps_set (i := 2) sc_law_draw.nd rfl (.inl rfl) (pe_ix ix_list (pv 0) pe_int (fun _ _ => rfl)))
      (pss_cons (ps_asg (pe_op op_add (pv 2) pe_int) (pg_sub (pv 0) pe_int set_list))
      (pss_cons (ps_set (i := 3) sc_law_draw.nd rfl (.inl rfl) (pe_op op_add (pe_op op_mul pe_int (pv 2)) pe_int))
      (Evl.pss_cut (ps_if (pt_cmpR (op_neD hr.units) (pe_ix ix_list (pv 0) pe_int (fun _ _ => rfl)) (pe_lst pa_nil) (nomark _)) (pss_one (ps_set (i := 3) sc_law_draw.nd rfl (.inl rfl) (pe_ix ix_list (pe_ix ix_list (pv 0) pe_int (fun _ _ => rfl)) (pe_op op_mod (pe_callTy call_int1 (by rfl) B.n_int (by decide +kernel) (pa_cons (pv 2) pa_nil)) (pe_callB call_len (by rfl) B.n_len (by decide +kernel) (pa_cons (pe_ix ix_list (pv 0) pe_int (fun _ _ => rfl)) pa_nil))) (fun _ _ => rfl)))) pss_nil)
      (Evl.pss_cut (ps_if (PW.pt (pw_and (pt_cmpR op_lt (pv 2) (pe_callB call_len (by rfl) B.n_len (by decide +kernel) (pa_cons (pe_ix ix_list (pv 0) pe_int (fun _ _ => rfl)) pa_nil)) (nomark _)) (pw_and1 (pt_cmpR op_ge (pe_callB call_abs (by rfl) B.n_abs (by decide +kernel) (pa_cons (pv 3) pa_nil)) (pe_op op_pow pe_int pe_int) (nomark _))))) (pss_cons (ps_set (i := 6) sc_law_draw.nd rfl (.inl rfl) (pe_op op_add (pe_op op_mul pe_int (pe_op op_sub (pe_callB call_abs (by rfl) B.n_abs (by decide +kernel) (pa_cons (pv 3) pa_nil)) (pe_op op_pow pe_int pe_int))) (pe_callTy call_int1 (by rfl) B.n_int (by decide +kernel) (pa_cons (pe_cmpR op_lt (pv 3) pe_int (nomark _)) pa_nil))))
      (pss_cons (ps_asg (pe_op op_fdiv (pe_callTy call_int1 (by rfl) B.n_int (by decide +kernel) (pa_cons (pv 6) pa_nil)) (pv 1)) (pg_sub (pv 0) pe_int set_list))
      (pss_one (ps_ret (pe_op op_mod (pe_callTy call_int1 (by rfl) B.n_int (by decide +kernel) (pa_cons (pv 6) pa_nil)) (pv 1)))))) pss_nil)
      (pss_cons (ps_set (i := 4) sc_law_draw.nd rfl (.inl rfl) (pe_op op_mod (pe_callTy call_int1 (by rfl) B.n_int (by decide +kernel) (pa_cons (pe_op op_pow (pe_op op_add (pe_op op_add (pe_op op_mod (pe_callTy call_int1 (by rfl) B.n_int (by decide +kernel) (pa_cons (pv 3) pa_nil)) pe_int) (pe_op op_mul pe_int (pv 2))) pe_int) pe_int) pa_nil)) pe_int))
      (pss_cons (ps_set (i := 4) sc_law_draw.nd rfl (.inl rfl) (pe_op op_mod (pe_callTy call_int1 (by rfl) B.n_int (by decide +kernel) (pa_cons (pe_op op_pow (pe_op op_add (pe_op op_add (pe_op op_mul (pv 4) (pe_op op_add (pe_op op_mul pe_int (pv 2)) pe_int)) (pe_op op_mul (pe_op op_mul pe_int (pv 2)) (pv 2))) pe_int) pe_int) pa_nil)) pe_int))
      (pss_one (ps_ret (pe_op op_mod (pe_callTy call_int1 (by rfl) B.n_int (by decide +kernel) (pa_cons (pe_op op_fdiv (pv 4) pe_int) pa_nil)) (pv 1)))))))))))), ?_⟩
    refine ⟨_, rfl, p, _, _, _, rfl, rfl, SqL.of hp.pen, rfl, _, _, rfl, rfl, _, rfl, ?_⟩
    refine ite2 (fun c => ?_) (fun c => ?_)
    · refine ⟨_, rfl, p, _, _, _, rfl, rfl, SqL.of hp.pen, rfl, .inl ⟨_, rfl, _, rfl, _, _, rfl, rfl, hn, ?_⟩⟩
      refine ⟨_, rfl, p, _, _, _, rfl, rfl, SqL.of hp.pen, rfl, .inl ⟨_, rfl, _, rfl, _, _, rfl, rfl, ⟨hn, by omega⟩, ?_⟩⟩
      refine ⟨_, rfl, p, _, _, 2, rfl, rfl, hp.pen, rfl, ?_⟩
      refine ⟨_, rfl, ?_⟩
      exact k _ i _ _ (Int.emod_nonneg _ (by omega)) (Int.emod_lt_of_pos _ hn) (by omega) (hp.one hp.i0) .upd
    · refine ⟨_, rfl, p, _, _, _, rfl, rfl, SqL.of hp.pen, rfl, ?_⟩
      refine ⟨_, rfl, _, _, rfl, rfl, _, rfl, p, _, _, 1, rfl, rfl, hp.pen, rfl, ?_⟩
      have h1 := hp.one (i' := i + 1) (r' := r) (by have := hp.i0; omega)
      have b1 : But p H (upd H p (.lst [.ref q, .int (i + 1), .int r])) := .upd
      refine ⟨_, rfl, _, _, rfl, rfl, .inl ⟨by decide, by decide⟩, _, _, rfl, rfl, ?_⟩
      refine ⟨fun σ H' => ∃ d : Int, σ = [some (.ref p), some (.int n), some (.int i), some (.int d), none, none, none] ∧ PenAt H' p q ns (i + 1) r ∧ But p H H', ?_, ?_⟩
      · refine ⟨_, rfl, p, _, _, _, rfl, rfl, SqL.of h1.pen, rfl, by show 0 ≤ sizeLine; decide, fun l hl => ?_⟩
        have h2 : PenAt _ p q ns (i + 1) r := h1.same (same_new (o := .lst []) hl)
        have b2 : But p H _ := b1.trans (.new (o := .lst []) hl)
        refine ⟨_, _, dp_ints (SqL.of h2.lst), .lst (SqL.of upd_same) .nil, shaped_ints _, by rfl, _, rfl, ?_⟩
        cases ns with
        | nil => exact iteF ⟨_, rfl, h2, b2⟩
        | cons x xs =>
          refine iteT ?_
          obtain ⟨d, hd⟩ := at_rest (ns := x :: xs) (i := i) (fun z => by cases z)
          refine ⟨_, rfl, p, _, _, _, rfl, rfl, SqL.of h2.pen, rfl, _, rfl, .inl ⟨_, rfl, _, rfl, p, _, _, _, rfl, rfl, SqL.of h2.pen, rfl, _, _, rfl, .inl ⟨_, SqL.of h2.lst, rfl⟩, _, _, rfl, rfl, ?_, q, _, _, _, rfl, rfl, SqL.of h2.lst, hd, ?_⟩⟩
          · show (0 : Int) < (((x :: xs).map V.int).length : Int)
            rw [List.length_map, List.length_cons]
            omega
          · exact ⟨d, rfl, h2, b2⟩
      · rintro σ H' ⟨d, rfl, h2, b2⟩
        refine ⟨fun σ H2 => σ = [some (.ref p), some (.int n), some (.int i), some (.int d), none, none, none] ∧ H2 = H', ?_, ?_⟩
        · refine ⟨_, rfl, _, rfl, p, _, _, _, rfl, rfl, SqL.of h2.pen, rfl, _, _, rfl, .inl ⟨_, SqL.of h2.lst, rfl⟩, _, _, rfl, rfl, _, rfl, ?_⟩
          refine ite2 (fun c1 => ?_) (fun c1 => iteF ⟨rfl, rfl⟩)
          refine ⟨_, rfl, _, rfl, _, _, rfl, rfl, ⟨by decide, by decide, by decide⟩, _, _, rfl, rfl, _, rfl, ?_⟩
          refine ite2 (fun c2 => ?_) (fun c2 => ⟨rfl, rfl⟩)
          refine ⟨_, rfl, _, rfl, _, _, rfl, rfl, ⟨by decide, by decide, by decide⟩, _, _, rfl, rfl, _, _, rfl, rfl, .inl ⟨by decide, by decide⟩, _, rfl, _, _, rfl, rfl, .inr ⟨_, rfl, _, _, rfl, rfl, ?_⟩⟩
          refine ⟨_, rfl, .inl ⟨_, rfl, _, rfl, _, _, rfl, rfl, ⟨hn, by omega⟩, ?_⟩⟩
          refine ⟨_, rfl, p, _, _, 2, rfl, rfl, h2.pen, rfl, ?_⟩
          refine ⟨_, rfl, .inl ⟨_, rfl, _, rfl, _, _, rfl, rfl, hn, ?_⟩⟩
          exact k _ (i + 1) _ _ (Int.emod_nonneg _ (by omega)) (Int.emod_lt_of_pos _ hn) (by omega) (h2.one h2.i0) (b2.trans .upd)
        · rintro σ H2 ⟨rfl, rfl⟩
          have i0 := hp.i0
          refine ⟨_, rfl, .inl ⟨_, rfl, _, _, rfl, rfl, (by show (0 : Int) < _; decide), _, rfl, _, _, rfl, rfl, .inl ⟨by decide, by decide⟩, _, _, rfl, rfl, _, _, rfl, rfl, _, _, rfl, rfl, ⟨by decide, by decide, mixA (by decide) (by decide) i0 hi (by decide) (by decide) (by decide) (by decide)⟩, ?_⟩⟩
          refine .inl ⟨_, rfl, _, _, rfl, rfl, (by show (0 : Int) < _; decide), ?_⟩
          refine ⟨_, rfl, _, rfl, _, _, rfl, rfl, .inl ⟨by decide, by decide⟩, _, _, rfl, rfl, _, _, rfl, rfl, mixD (by decide) (by decide), _, rfl, _, _, rfl, rfl, .inl ⟨by decide, by decide⟩, _, rfl, _, _, rfl, rfl, mixC i0 hi (by decide) (by decide), _, _, rfl, rfl, _, _, rfl, rfl, _, _, rfl, rfl, ⟨by decide, by decide, mixB (by decide) (by decide) i0 hi (by decide) (by decide) (by decide) (by decide) (by decide) (by decide) (by decide) (by decide)⟩, ?_⟩
          refine .inl ⟨_, rfl, _, _, rfl, rfl, (by show (0 : Int) < _; decide), ?_⟩
          refine ⟨_, rfl, _, _, rfl, rfl, ⟨by decide, by decide⟩, .inl ⟨_, rfl, _, rfl, _, _, rfl, rfl, hn, ?_⟩⟩
          exact k _ (i + 1) _ _ (Int.emod_nonneg _ (by omega)) (Int.emod_lt_of_pos _ hn) (by omega) h2 b2
end
end K41

namespace DL
open PySem L2 LB PyProof.Rows
/-! ### pens by a bound of what was drawn -/
def oPenB (B : Nat) : OD := ⟨fun F o => ∃ (ns : List Int) (i r : Int) (q : Addr), 0 ≤ i ∧ i ≤ B ∧ o = .lst [.ref q, .int i, .int r] ∧ F q = some (.lst (ns.map V.int)), fun s ⟨ns, i, r, q, h1, h2, e, f⟩ => ⟨ns, i, r, q, h1, h2, e, s _ _ f⟩⟩
def pB (B : Nat) : Option OD := some (oPenB B)
/-- _law_draw(pen, n) -/
def fsDraw : FS := fun ds O K _ => ∃ (k B : Nat) (n : Int), ds = [.ow k, fInt n] ∧ O[k]? = some (pB B) ∧ 0 < n ∧ n < 1000000 ∧ B < 999990 ∧ ∀ d : Nat, (d : Int) < n → K (fInt d) (O.set k (pB (B + 1)))
/-- _law_pen(script) -/
def fsPen : FS := fun ds O K _ => ∃ d : D, ds = [.fr d] ∧ K (.ow O.length) (O ++ [pB 0])
theorem fsDraw_of {vs : List V} {H : Hp} {Q : VK} {E : XK} (h : spD fsDraw vs H Q E) : spDraw vs H Q E := by
  obtain ⟨w, O, ds, K, KX, rfl, o, p, ⟨k, B, n, rfl, hk, n0, n1, hB, kk⟩, q, _⟩ := h
  obtain ⟨v, u, rfl, pv, pu⟩ := p.two
  have pu : u = .int n := pu
  subst pu
  obtain ⟨a, ha, rfl⟩ := pv
  obtain ⟨fa, x, hx, ns, i, r, qq, i0, iB, rfl, hq⟩ := o.own k a _ ha hk
  have ne : a ≠ qq := fun z => by rw [z, hq] at fa; cases fa
  refine ⟨a, qq, ns, i, r, n, rfl, ⟨hx, o.sub _ _ hq, i0, ne⟩, n0, n1, by omega, fun d i' r' H' d0 dn hi pen b => ?_⟩
  obtain ⟨d, rfl⟩ : ∃ m : Nat, d = m := ⟨d.toNat, by omega⟩
  obtain ⟨o2, g2⟩ := o.but (od := oPenB (B + 1)) ha hk b pen.pen ⟨ns, i', r', qq, pen.i0, by omega, rfl, hq⟩
  exact q _ _ _ _ (kk d dn) g2 o2 rfl
/-- a value that is this list, wherever it stands -/
def dSq (KF : PySem.W.Frag) (xs : List V) : D := ⟨fun F v => ∃ a, v = .ref a ∧ SqL KF F a xs, fun s ⟨a, e, f⟩ => ⟨a, e, s.seq f⟩⟩
theorem OwMut.nil : OwMut [] := fun k od h => by simp at h
theorem OwMut.cons {x : Option OD} {O : Ow} (hx : ∀ od, x = some od → ∀ F o, od.p F o → isMut o) (h : OwMut O) : OwMut (x :: O) := fun k od q => by
  cases k with
  | zero => exact hx od (by simpa using q)
  | succ k => exact h k od (by simpa using q)
theorem OwMut.set {O : Ow} (h : OwMut O) {k : Nat} {x : Option OD} (hx : ∀ od, x = some od → ∀ F o, od.p F o → isMut o) : OwMut (O.set k x) := fun j od q => by
  rw [List.getElem?_set] at q
  split at q
  · split at q
    · exact hx od (by simpa using q)
    · cases q
  · exact h j od q
theorem OwMut.app {O : Ow} (h : OwMut O) {x : Option OD} (hx : ∀ od, x = some od → ∀ F o, od.p F o → isMut o) : OwMut (O ++ [x]) := fun j od q => by
  rcases Nat.lt_or_ge j O.length with l | l
  · rw [List.getElem?_append_left l] at q; exact h j od q
  · rw [List.getElem?_append_right l] at q
    cases e : j - O.length with
    | zero => rw [e] at q; exact hx od (by simpa using q)
    | succ m => rw [e] at q; simp at q
theorem mutPen {B : Nat} : ∀ od, pB B = some od → ∀ F o, od.p F o → isMut o := fun od e F o p => by
  unfold pB at e; injection e with e; subst e; obtain ⟨ns, i, r, q, _, _, rfl, _⟩ := p; trivial
theorem mutLst {ds : List D} : ∀ od, some (oLst ds) = some od → ∀ F o, od.p F o → isMut o := fun od e F o p => by
  injection e with e; subst e; obtain ⟨vs, rfl, _⟩ := p; trivial
theorem mutDK {ds : List (Key × D)} : ∀ od, some (oDK ds) = some od → ∀ F o, od.p F o → isMut o := fun od e F o p => by
  injection e with e; subst e; obtain ⟨vs, rfl, _⟩ := p; trivial
theorem mutNo : ∀ od : OD, none = some od → ∀ F o, od.p F o → isMut o := fun od e => by cases e
/-- what is known of one's own things may be forgotten in part -/
theorem WOk.weak {w : Wd} {O : Ow} (h : WOk w O) {k : Nat} {x y : OD} (hk : O[k]? = some (some x)) (i : ∀ F o, x.p F o → y.p F o) : WOk w (O.set k (some y)) := by
  refine ⟨h.sub, h.nd, by rw [List.length_set]; exact h.len, h.al, fun j a od q1 q2 => ?_, fun j a q1 q2 => ?_⟩
  · rw [List.getElem?_set] at q2
    by_cases e : k = j
    · subst e
      rw [if_pos rfl] at q2
      split at q2
      · injection q2 with q2
        injection q2 with q2
        subst q2
        obtain ⟨f, u, hu, pu⟩ := h.own k a x q1 hk
        exact ⟨f, u, hu, i _ _ pu⟩
      · cases q2
    · rw [if_neg e] at q2; exact h.own j a od q1 q2
  · rw [List.getElem?_set] at q2
    by_cases e : k = j
    · rw [if_pos e] at q2; split at q2 <;> cases q2
    · rw [if_neg e] at q2; exact h.ded j a q1 q2
theorem pen_le {B B' : Nat} (h : B ≤ B') : ∀ F o, (oPenB B).p F o → (oPenB B').p F o := fun F o ⟨ns, i, r, q, h1, h2, e, f⟩ => ⟨ns, i, r, q, h1, by omega, e, f⟩
theorem EvS.weak {b : Wd} {ts : TS} {en : En} {O : Ow} {K : Ks} {k B : Nat} (B' : Nat) (hk : O[k]? = some (pB B)) (l : B ≤ B') (h : EvS b ts en (O.set k (pB B')) K) : EvS b ts en O K := fun w σ e o en' => h w σ e (o.weak hk (pen_le l)) en'
theorem Ev.weak {b : Wd} {ts : TE} {en : En} {O : Ow} {K : DK} {k B : Nat} (B' : Nat) (hk : O[k]? = some (pB B)) (l : B ≤ B') (h : Ev b ts en (O.set k (pB B')) K) : Ev b ts en O K := fun w σ e o en' => h w σ e (o.weak hk (pen_le l)) en'
/-- a continuation that does not mind how much was drawn beyond B -/
def upTo (k : Nat) (B' : Nat) (K : DK) : DK := fun d O => ∃ B, O[k]? = some (pB B) ∧ B ≤ B' ∧ K d (O.set k (pB B'))
theorem Wn.upTo {w : Wd} {K : DK} {Q : VK} {k B' : Nat} (h : Wn w K Q) : Wn w (upTo k B' K) Q := fun d O' v w' ⟨B, hk, l, kk⟩ g o p => h d _ v w' kk g (o.weak hk (pen_le l)) p
theorem Ev.upTo {b : Wd} {ts : TE} {en : En} {O : Ow} {K : DK} {k B' : Nat} (h : Ev b ts en O (upTo k B' K)) : Ev b ts en O K := fun w σ e o en' Q q => h w σ e o en' Q (Wn.upTo q)
/-! ### more of comprehensions: a list of one's own -/
theorem Ev.own {te : TE} {b : Wd} {en : En} {O : Ow} {K : DK} (h : Ev b te en O K) : Ev b te en O K := h
end DL

namespace LB
open PySem L2 PySem.Spec PyProof.Rows
/-! ### for x in o, o of an own class whose __iter__ hands back iter(a tuple) -/
/-- an iterator of the tuple at t, at its begin -/
def ItT (t it : Addr) : HO := .ext fun h => h.IsTupleIter it t 0
theorem itT_ok {P : Program} {w : World} {H : Hp} {h : Heap} {t it : Addr} (e : h.IsTupleIter it t 0) : ObjOk P w H h it (ItT t it) := by
  obtain ⟨o, e1, c, d⟩ := id e
  exact ⟨e, ⟨o, e1⟩, fun h1 h2 q k => let ⟨o, e1, c, d⟩ := q; ⟨o, k _ e1, c, d⟩⟩
def rIterT (K : PySem.W.Frag) (n : Nat) : List V → Hp → VK → Prop := fun xs H Q => ∃ (t : Addr) (zs : List V), xs = [.ref t] ∧ SqT K H t zs ∧ ∀ it, H it = none → n ≤ it → Q (.ref it) (upd H it (ItT t it))
section
variable {X : Cx}
theorem call_iter_tup {prog : Program} {w : World} {A : Around} {E : Value → Shared → Prop} {s : Shared} {t : Addr} {items} {Q : Value → Shared → Prop} (ht : s.heap.IsTuple t items)
    (h : Q (.ref s.heap.objs.size) { s with heap := s.heap.push { cls := .type "tuple_iterator", data := .fields #[.ref t, .int 0 0] } }) : wpAny (model prog w) A (call (.builtin "iter") [.ref t]) Q E s := by
  refine Calls.call_function_entry (by decide +kernel) (by decide +kernel) PySem.W.kdk_entry_iter (PySem.W.kdk_args_iter _) ?_
  unfold Builtin.«iter»
  refine wpAny_bind (m := someArgs "iter" 1 2 _) (wpAny_of_eq (a := [Value.ref t]) (by first | rfl | kernel_rfl!) ?_)
  show wpAny _ _ (pyIter (.ref t) >>= _) _ _ _
  refine wpAny_bind (wpAny_pyIter_tuple ht ?_)
  exact wpAny_pure ⟨_, rfl, h⟩
theorem call_iterT : CallR X (.builtin "iter") (rIterT X.K X.s_0.heap.objs.size) := by
  intro pins s σ H xs us Q I r h
  obtain ⟨t, zs, rfl, hq, q⟩ := h
  obtain ⟨u, rfl, ru⟩ := vals1 r
  cases ru
  obtain ⟨its, rv, p, hz⟩ := I.tuple hq
  refine call_iter_tup (show s.heap.IsTuple t its.toArray from p) ?_
  exact ⟨.ref s.heap.objs.size, _, I.laid (t' := s.toks) (fun b u e => Heap.get?_push_of_some _ e) (Nat.le_refl _) (itT_ok ⟨_, Heap.get?_push_size _ rfl, rfl, rfl⟩), rfl, q _ (I.hok.fresh (Nat.le_refl _)) I.sz⟩
end
/-- a def's promise that may name the state at its entry -/
abbrev SpS := Shared → Sp
structure FnS (P : Program) (w : World) (K : PySem.W.Frag) (mg : Str → Option Value) (base : Heap) (CX : CXT) (k : Nat) (f : Addr) (fd : FuncData) (ps : List Str) (sp : SpS) : Prop where
  len : ∀ s vs H Q E, sp s vs H Q E → vs.length = ps.length
  run : ∀ (A : Around) (outer : List Env) (s : Shared) (H : Hp) (args : Args) (us : List Value) (vs : List V) (Q : VK) (E : XK), Room k A → Env0 P w K mg base A outer s H → BindsTo s fd args (ps.zip us) → Vals vs us → sp s vs H Q E →
    codeAny (model P w) A (.call (.ref f) args) (CR CX outer P w H s Q E) s
section
variable {P : Program} {w : World} {K : PySem.W.Frag} {mg : Str → Option Value} {base : Heap}
theorem okS {x qual : Str} {st : Stmt} {f : Addr} {fd : FuncData} {N ps : List Str} {k : Nat} {sp : SpS} (F : Fun K x qual st f fd) (S : FnScope N ps (defScope st)) (len : ∀ s vs H Q E, sp s vs H Q E → vs.length = ps.length)
    (hbody : ∀ (cdv : Value) (A : Around) (outer : List Env) (s : Shared) (H : Hp) (vs : List V) (Q : VK) (E : XK), Room k (A.deeper (envOfC qual (defScope st) s.heap.objs.size f cdv)) → sp s vs H Q E →
      ∃ t, PSs (cxOf CX0 P w K mg base N qual (defScope st) f cdv A outer s H E).nox (defBody st) t ∧ t { nx := fun _ H' => Q .non H', rt := Q } (start N vs) H) : FnS P w K mg base CX0 (k + 1) f fd ps sp := by
  obtain ⟨oc, od, kV, doc, pm, an, cdv, ct, osl, rfl, lk, hcd⟩ := F.ex
  refine ⟨len, fun A outer s H args us vs Q E hr e0 hb r hsp => ?_⟩
  have hl := len _ _ _ _ _ hsp
  have KX : K.In s.heap := e0.mod.kin.keeps fun b o e => (e0.bs b o e).1
  have lim : s.heap.NoLimit := e0.mod.nolimit.keeps fun b o e => (e0.bs b o e).1
  have hkind : ∀ y ∈ ps.zip us, (defScope st).names.lookup y.1 = some .local ∨ ((defScope st).names.lookup y.1 = some .cell ∧ ((cellsFrom (s.heap.objs.size + 1) (defScope st).names []).lookup y.1).isSome = true) := fun ⟨n, v⟩ hy => by
    rcases S.par n (List.of_mem_zip hy).1 with q | q
    · exact .inl q
    · exact .inr ⟨q, PySem.W.cellsFrom_some _ _ _ (.inl q)⟩
  refine codeAny_call_function hr.depth (KX _ _ lk) rfl S.co S.gen rfl (PySem.W.codeRec_of KX hcd) (hb _ _ _ _ ?_)
  refine wpAny_newFunctionEnv_cells S.kind hkind fun env he s1 x => ?_
  subst he
  refine ⟨lim.keeps x.toInCall.keep, codeAny_func ?_⟩
  obtain ⟨t, ht, hq⟩ := hbody cdv A outer s H vs Q E (hr.deeper _) hsp
  have I : Inv (cxOf CX0 P w K mg base N qual (defScope st) f cdv A outer s H E) [] (start N vs) H s1 := inv_start S hr.hd e0 hl r x
  refine wpAny_mono (ht.nox.run [] s1 (start N vs) H _ I hq) (fun fl s' hs => ?_) fun e s' hs => hs
  have fin : ∀ {σ' : L2.St} {H' : Hp} {v : V} {u : Value}, Inv (cxOf CX0 P w K mg base N qual (defScope st) f cdv A outer s H E) [] σ' H' s' → RelV v u → Q v H' → CE outer P w H s Q u s' :=
    fun {σ' H' v u} J rv q => ⟨v, H', J.os, J.bare, J.base, J.hok, rv, q⟩
  cases fl with
  | ret u =>
    obtain ⟨v, σ', H', J, rv, q⟩ := hs
    exact fin J rv q
  | next =>
    obtain ⟨σ', H', J, q⟩ := hs
    exact fin (v := V.non) (u := Value.none) J rfl q
  | brk =>
    obtain ⟨_, _, _, q⟩ := hs
    exact False.elim q
  | cont =>
    obtain ⟨_, _, _, q⟩ := hs
    exact False.elim q
def HasMeS (P : Program) (w : World) (K : PySem.W.Frag) (mg : Str → Option Value) (base : Heap) (CX : CXT) (k : Nat) (C : Addr) (x : Str) (ps : List Str) (sp : SpS) : Prop :=
  ∃ (f : Addr) (fd : FuncData), FnS P w K mg base CX k f fd ps sp ∧ Own K C f x ∧ PySem.W.keepIn K (.ref f) = true ∧ Binds K fd ps []
end
section
variable {X : Cx}
/-- what __iter__ promises -/
def spIterT (C : Addr) (f : Str) : SpS := fun s vs H Q _ => ∃ (a t dx : Addr) (fs : List (Str × V)) (zs : List V), vs = [.ref a] ∧ H a = some (.ins C dx fs) ∧ fs.lookup f = some (.ref t) ∧ H t = some (.tup zs) ∧ ∀ it, H it = none → s.heap.objs.size ≤ it → Q (.ref it) (upd H it (ItT t it))
def iOwnT (K : PySem.W.Frag) (C : Addr) (sp : SpS) (te : TE) : TI := fun σ H R => te σ H fun x H1 => ∃ a dx fs t, x = .ref a ∧ H1 a = some (.ins C dx fs) ∧ (∀ s, sp s [x] H1 (fun v H2 => ∃ it, v = .ref it ∧ H1 it = none ∧ s.heap.objs.size ≤ it ∧ H2 = upd H1 it (ItT t it)) E0) ∧ R (Itt K t) H1
theorem pi_ownT {tg e : Expr} {te : TE} {k : Nat} {C : Addr} {ps : List Str} {sp : SpS} (h : HasMeS X.prog X.w X.K X.mg X.base CX0 k C "__iter__" ps sp) (hr : Room k X.A) (he : PE X e te) : PI X tg e (iOwnT X.K C sp te) := by
  obtain ⟨f, fd, F, O, _, hb⟩ := h
  refine ⟨fun pins s σ H R I hw => ?_⟩
  refine thn (he.run pins s σ H _ I hw) fun v s1 ⟨x, H1, I1, r1, q1⟩ => ?_
  obtain ⟨a, dx, fs, t, rfl, ha, hsp0, qR⟩ := q1
  have hsp := hsp0 s1
  cases r1
  obtain ⟨od, J⟩ := inst_of I1 ha
  obtain ⟨m0, hF⟩ := I1.fr
  refine PySem.W.owit_iter hF I1.ok.mod.kin J O.at_ O.fn ?_
  have hl : ([Value.ref a] : List Value).length = ps.length := by have := F.len _ _ _ _ _ hsp; simpa using this
  have rv : Vals [V.ref a] [Value.ref a] := .cons rfl .nil
  refine wpAny_call (codeAny_mono (F.run X.A X.stack s1 H1 ⟨[.ref a], []⟩ [.ref a] [.ref a] _ E0 hr I1.env0 (by
    have := hb s1 [.ref a] I1.kIn (by simpa using hl)
    simpa using this) rv hsp) fun r s2 hq => ?_)
  cases r with
  | error e => exact False.elim hq
  | ok fl =>
    cases fl with
    | next => exact False.elim hq
    | brk => exact False.elim hq
    | cont => exact False.elim hq
    | ret u =>
      obtain ⟨v', H', os, bare, un, hok, rr, q⟩ := hq
      obtain ⟨it, rfl, nit, big, rfl⟩ := q
      cases rr
      obtain ⟨hh, g, d, tt, os'⟩ := s2
      obtain rfl : os' = s1.os := os
      have I2 : Inv X pins σ (upd H1 it (ItT t it)) { heap := hh, gens := g, drawn := d, toks := tt, os := s1.os } := I1.call (h' := hh) (g' := g) (d' := d) (t' := tt) (ch := []) un hok bare (fun b z => absurd z (by simp))
      have st : hh.IsTupleIter it t 0 := (hok it _ upd_same).1
      have hT : ({ heap := hh, gens := g, drawn := d, toks := tt, os := s1.os } : Shared).TypeIs (.ref it) "tuple_iterator" := let ⟨o, ho, hc, _⟩ := st; ⟨o, ho, hc⟩
      unfold PySem.W.OwitIt
      refine wpAny_specialOf (name := Str.ofString "__next__") hT PySem.F.slot_tuple_iterator_next.lookup ?_
      refine ⟨it, [it], _, _, ItX.dropH (upd H1 it (ItT t it)) it, rfl, ItX.inv_drop I2 (show _ = some (HO.ext _) from upd_same), turn_tuple t it, st, fun b hb => ?_, by rw [ItX.dropH_upd nit]; exact qR⟩
      have e : b = it := by simpa using hb
      rw [e]
      exact ItX.inv_fp I2 upd_same (Nat.le_trans I1.sz big)
end
end LB

namespace DL
open PySem L2 LB PyProof.Rows
/-! ### walking an instance by its __iter__ -/
def TupF (C : Addr) (f : Str) (d : D) (ds : List D) : Prop := ∀ F v, d.p F v → ∃ a dx fs t vs, v = .ref a ∧ F a = some (.ins C dx fs) ∧ fs.lookup f = some (.ref t) ∧ F t = some (.tup vs) ∧ LsP F ds vs
section
variable {b : Wd} {en : En} {O : Ow} {KF : PySem.W.Frag}
theorem EvI.ownT {K : List D → Ow → Prop} {C : Addr} {f : Str} {te : TE} (h : Ev b te en O fun d O1 => ∃ x ds, d = .fr x ∧ TupF C f x ds ∧ K ds O1) : EvI b (iOwnT KF C (spIterT C f) te) en O K := fun w σ e o en' R q => h w σ e o en' _ fun d O1 v w1 k1 e1 o1 p1 => by
  obtain ⟨x, ds, rfl, tf, k⟩ := k1
  obtain ⟨a, dx, fs, t, vs, rfl, ha, l, ht, pl⟩ := tf _ _ p1
  exact ⟨a, dx, fs, t, rfl, o1.sub _ _ ha, fun s => ⟨a, t, dx, fs, vs, rfl, o1.sub _ _ ha, l, o1.sub _ _ ht, fun it hn big => ⟨it, rfl, hn, big, rfl⟩⟩, q _ ds O1 w1 k e1 o1 (.tup ht pl)⟩
/-- o.f, a dunder of one's own by its rule over two values -/
theorem Op2.own {C C' : Addr} {fs : FS} {d1 d2 : Da} {K : DK} (h1 : IsIns C O d1) (h2 : IsIns C' O d2) (h : fs [d1, d2] O K noX) : Op2 b (rOwn2 C C' (spD fs) E0) d1 d2 O K := fun w x y e o p q Q n => by
  obtain ⟨a, dx, gs, rfl, ha⟩ := h1.at_ o p
  obtain ⟨c, dy, hs, rfl, hc⟩ := h2.at_ o q
  exact ⟨a, c, dx, dy, gs, hs, rfl, rfl, ha, hc, spD_at o (.cons p (.cons q .nil)) h n .no⟩
theorem Op2.ownX {C C' : Addr} {fs : FS} {d1 d2 : Da} {K : DK} {E : XK} {KX : XKD} (r : RaiseTo b E KX) (h1 : IsIns C O d1) (h2 : IsIns C' O d2) (h : fs [d1, d2] O K KX) : Op2 b (rOwn2 C C' (spD fs) E) d1 d2 O K := fun w x y e o p q Q n => by
  obtain ⟨a, dx, gs, rfl, ha⟩ := h1.at_ o p
  obtain ⟨c, dy, hs, rfl, hc⟩ := h2.at_ o q
  exact ⟨a, c, dx, dy, gs, hs, rfl, rfl, ha, hc, spD_at o (.cons p (.cons q .nil)) h n (r.grow e)⟩
theorem Ev.chain {r r' : R2} {ta tb tc : TE} {K : DK} (h : Ev b ta en O fun d1 O1 => Ev b tb en O1 fun d2 O2 => Op2 b r d1 d2 O2 fun d O3 => ∃ c, d = fBl c ∧ (c = true → Ev b tc en O3 fun d3 O4 => Op2 b r' d2 d3 O4 K) ∧ (c = false → K (fBl false) O3)) : Ev b (tChain r r' ta tb tc) en O K :=
  fun w σ e o en' Q q => h w σ e o en' _ fun d1 O1 x w1 k1 e1 o1 p1 => k1 w1 σ (e.trans e1) o1 (en'.ext e1) _ fun d2 O2 y w2 k2 e2 o2 p2 =>
    k2 w2 x y ((e.trans e1).trans e2) o2 (Da.mono e2 p1) p2 _ fun d O3 z w3 k3 e3 o3 p3 => by
      obtain ⟨c, rfl, kt, kf⟩ := k3
      refine ⟨c, p3, ?_⟩
      have g := (e1.trans e2).trans e3
      cases c with
      | true => exact iteT (kt rfl w3 σ (e.trans g) o3 (en'.ext g) _ fun d3 O4 u w4 k4 e4 o4 p4 => k4 w4 y u ((e.trans g).trans e4) o4 (Da.mono (e3.trans e4) p2) p4 Q (Wn.grow q (g.trans e4)))
      | false => exact iteF (q _ O3 _ w3 (kf rfl) g o3 rfl)
/-- the truth of a value -/
def TruD (KF : PySem.W.Frag) (O : Ow) (d : Da) (k : Bool) : Prop := ∀ w x, WOk w O → d.p w.as w.F x → TruV KF x w.H k
theorem TruD.int {i : Int} : TruD KF O (fInt i) (i != 0) := fun w x o p => by rw [show x = V.int i from p]; rfl
theorem TruD.bl {c : Bool} : TruD KF O (fBl c) c := fun w x o p => by rw [show x = V.bl c from p]; rfl
theorem TruD.str {z : Str} (l : z.length ≤ sizeLine) : TruD KF O (fStr z) ((z.length : Int) != 0) := fun w x o p => by rw [show x = V.str z from p]; exact ⟨l, rfl⟩
theorem TruD.lst {ds : List D} {d : Da} (h : LstD O ds d) : TruD KF O d (!ds.isEmpty) := fun w x o p => by
  obtain ⟨a, vs, rfl, f, q⟩ := h.at_ o p
  refine .inl ⟨vs, SqL.of f, ?_⟩
  cases q <;> rfl
theorem EvT.truth {ta : TE} {K : Bool → Ow → Prop} (h : Ev b ta en O fun d O1 => ∃ k, TruD KF O1 d k ∧ K k O1) : EvT b (fun σ H Q => ta σ H fun x H' => ∃ k, TruV KF x H' k ∧ Q k H') en O K :=
  fun w σ e o en' Q q => h w σ e o en' _ fun d O1 x w1 k1 e1 o1 p1 => let ⟨k, t, kk⟩ := k1; ⟨k, t w1 x o1 p1, q k O1 w1 kk e1 o1⟩
theorem EvT.truthB {ta : TE} {K : Bool → Ow → Prop} (h : Ev b ta en O fun d O1 => ∃ k, TruD KF O1 d k ∧ K k O1) : EvT b (LB.tTr KF ta) en O K := EvT.truth h
/-- a != b by an own == -/
theorem Op2.neOwn {C : Addr} {fs : FS} {d1 d2 : Da} {K : DK} (h1 : IsIns C O d1) (h2 : IsIns C O d2) (h : fs [d1, d2] O (fun d O' => ∃ c, d = fBl c ∧ K (fBl (!c)) O') noX) :
    Op2 b (fun x y H Q => ∃ a b dx dy fs' gs, x = .ref a ∧ y = .ref b ∧ H a = some (.ins C dx fs') ∧ H b = some (.ins C dy gs) ∧ spD fs [x, y] H (fun z H' => ∃ c, z = .bl c ∧ Q (.bl (!c)) H') E0) d1 d2 O K := fun w x y e o p q Q n => by
  obtain ⟨a, dx, gs, rfl, ha⟩ := h1.at_ o p
  obtain ⟨c, dy, hs, rfl, hc⟩ := h2.at_ o q
  refine ⟨a, c, dx, dy, gs, hs, rfl, rfl, ha, hc, spD_at o (.cons p (.cons q .nil)) h (fun d O' v w' k g o' p' => ?_) .no⟩
  obtain ⟨c', rfl, k⟩ := k
  exact ⟨c', p', n _ O' _ w' k g o' rfl⟩
/-- x in o by an own __contains__ -/
theorem Op2.inOwn {C : Addr} {fs : FS} {d1 d2 : Da} {K : DK} {g : Bool → Bool} (h2 : IsIns C O d2) (h : fs [d2, d1] O (fun d O' => ∃ c, d = fBl c ∧ K (fBl (g c)) O') noX) :
    Op2 b (LB.rIn C (spD fs) E0 g) d1 d2 O K := fun w x y e o p q Q n => by
  obtain ⟨a, dx, gs, rfl, ha⟩ := h2.at_ o q
  refine ⟨a, dx, gs, rfl, ha, spD_at o (.cons q (.cons p .nil)) h (fun d O' v w' k g o' p' => ?_) .no⟩
  obtain ⟨c', rfl, k⟩ := k
  exact ⟨c', p', n _ O' _ w' k g o' rfl⟩
/-- len(o) by an own __len__ -/
theorem OpN.lenOwn {C : Addr} {fs : FS} {d : Da} {K : DK} (h1 : IsIns C O d) (h : fs [d] O (fun r O' => ∃ n : Int, r = fInt n ∧ 0 ≤ n ∧ n < 2 ^ 63 ∧ K (fInt n) O') noX) :
    OpN b (fun xs H Q => ∃ a dx fs', xs = [.ref a] ∧ H a = some (.ins C dx fs') ∧ spD fs xs H (fun z H' => ∃ n : Int, z = .int n ∧ 0 ≤ n ∧ n < 2 ^ 63 ∧ Q (.int n) H') E0) [d] O K := fun w xs e o p Q q => by
  obtain ⟨v, rfl, pv⟩ := p.one
  obtain ⟨a, dx, gs, rfl, ha⟩ := h1.at_ o pv
  refine ⟨a, dx, gs, rfl, ha, spD_at o (.cons pv .nil) h (fun d O' v w' k g o' p' => ?_) .no⟩
  obtain ⟨n, rfl, n0, n1, k⟩ := k
  exact ⟨n, p', n0, n1, q _ O' _ w' k g o' rfl⟩
end
end DL

namespace K41
open PySem L2 LB PyProof.Rows DL
abbrev s_is_integer : Stmt := top 15
theorem sc_is_integer : FnScope ["value"] ["value"] (defScope s_is_integer) := ⟨rfl, rfl, rfl, by decide +kernel, rfl, by decide +kernel, by decide +kernel⟩
abbrev s_is_from : Stmt := top 16
theorem sc_is_from : FnScope ["value", "low", "high"] ["value", "low", "high"] (defScope s_is_from) := ⟨rfl, rfl, rfl, by decide +kernel, rfl, by decide +kernel, by decide +kernel⟩
abbrev s_same_values : Stmt := top 19
theorem sc_same_values : FnScope ["one", "other"] ["one", "other"] (defScope s_same_values) := ⟨rfl, rfl, rfl, by decide +kernel, rfl, by decide +kernel, by decide +kernel⟩
abbrev s_ValuesDD_eqDD : Stmt := inClass (top 22) 4
theorem sc_ValuesDD_eqDD : FnScope ["self", "other"] ["self", "other"] (defScope s_ValuesDD_eqDD) := ⟨rfl, rfl, rfl, by decide +kernel, rfl, by decide +kernel, by decide +kernel⟩
abbrev s_ValuesDD_lenDD : Stmt := inClass (top 22) 2
theorem sc_ValuesDD_lenDD : FnScope ["self"] ["self"] (defScope s_ValuesDD_lenDD) := ⟨rfl, rfl, rfl, by decide +kernel, rfl, by decide +kernel, by decide +kernel⟩
abbrev s_Values_numbered : Stmt := inClass (top 22) 8
theorem sc_Values_numbered : FnScope ["self", "number"] ["self", "number"] (defScope s_Values_numbered) := ⟨rfl, rfl, rfl, by decide +kernel, rfl, by decide +kernel, by decide +kernel⟩
abbrev s_CellDD_containsDD : Stmt := inClass (top 23) 6
theorem sc_CellDD_containsDD : FnScope ["self", "x"] ["self", "x"] (defScope s_CellDD_containsDD) := ⟨rfl, rfl, rfl, by decide +kernel, rfl, by decide +kernel, by decide +kernel⟩
local macro_rules | `(tactic| walk_at "dl") => `(tactic| repeat (first
  | (with_reducible show Ev _ (tVar _) _ _ _; refine Ev.var rfl ?_) | with_reducible refine' Ev.con ?_ | with_reducible refine' EvA.cons ?_ | with_reducible refine' EvA.nil ?_
  | with_reducible refine' Ev.op ?_ | with_reducible refine' Ev.un ?_ | with_reducible refine' Ev.cb ?_ | with_reducible refine' Ev.call ?_ | with_reducible refine' Ev.meth ?_ | with_reducible refine' Ev.prop ?_
  | with_reducible refine' EvT.tB ?_ | with_reducible refine' EvT.test ?_ | with_reducible refine' EvT.and ?_ | with_reducible refine' EvT.or ?_ | with_reducible refine' EvT.not ?_
  | with_reducible refine' Ev.andV ?_ | with_reducible refine' Ev.orV ?_ | with_reducible refine' Ev.notV ?_ | with_reducible refine' Ev.ifE ?_ | with_reducible refine' Ev.fld ?_ | with_reducible refine' Ev.sl ?_ | with_reducible refine' Ev.m1 ?_ | with_reducible refine' Ev.bm ?_ | with_reducible refine' Ev.bm0 ?_
  | with_reducible refine' EvS.seq ?_ | with_reducible refine' EvS.next ?_ | with_reducible refine' EvS.ite ?_ | with_reducible refine' EvS.ret ?_ | with_reducible refine' EvS.set ?_ | with_reducible refine' EvS.drp ?_ | with_reducible refine' EvS.par ?_ | with_reducible refine' EvS.asg ?_ | with_reducible refine' EvG.name ?_
  | with_reducible refine' Op2.i0 ?_ | with_reducible refine' Op1.i ?_ | with_reducible refine' EvT.yes ?_ | with_reducible refine' EvO.no ?_ | with_reducible refine' EvO.part ?_))

/-! ### values, cells as data -/
def dVals (CV CC : Addr) (z : Str) : D := ⟨fun F v => ∃ a cs, v = .ref a ∧ ValsAt CV CC F a z cs, fun s ⟨a, cs, e, h⟩ => ⟨a, cs, e, h.same s⟩⟩
def dCell (CV CC : Addr) (z : Str) (n : Nat) : D := ⟨fun F v => ∃ c p cs, v = .ref c ∧ ValsAt CV CC F p z cs ∧ cs[n]? = some c, fun s ⟨c, p, cs, e, h, q⟩ => ⟨c, p, cs, e, h.same s, q⟩⟩
def cellsD (CV CC : Addr) (z : Str) : List D := (List.range (2 ^ z.cps.size)).map (dCell CV CC z)
section
variable {K : PySem.W.Frag} {CV CC : Addr} {O : Ow} {z : Str} {n : Nat}
theorem dVals.ins : IsIns CV O (.fr (dVals CV CC z)) := fun F v ⟨a, cs, e, h⟩ => let ⟨dx, t, e1, _⟩ := h.ob; ⟨a, dx, _, e, e1⟩
theorem dCell.ins : IsIns CC O (.fr (dCell CV CC z n)) := fun F v ⟨c, p, cs, e, h, q⟩ => let ⟨dc, e1⟩ := h.cell n c q; ⟨c, dc, _, e, e1⟩
theorem dVals.no {m : Str} (h1 : ¬ m = "by_number") (h2 : ¬ m = "letters") : InsNo CV m O (.fr (dVals CV CC z)) := fun F v ⟨a, cs, e, h⟩ => let ⟨dx, t, e1, _⟩ := h.ob; ⟨a, dx, _, e, e1, valF_no h1 h2⟩
theorem dCell.no {m : Str} (h1 : ¬ m = "letters") (h2 : ¬ m = "number") (h3 : ¬ m = "alphabet") : InsNo CC m O (.fr (dCell CV CC z n)) := fun F v ⟨c, p, cs, e, h, q⟩ => let ⟨dc, e1⟩ := h.cell n c q; ⟨c, dc, _, e, e1, cellF_no h1 h2 h3⟩
theorem dVals.let (VV : VF K CV CC) : FldD K "letters" O (.fr (dVals CV CC z)) (dV (.str z)) := fun F v ⟨a, cs, e, h⟩ => let ⟨dx, t, e1, _⟩ := h.ob; ⟨a, CV, dx, _, _, e, e1, VV.cv, VV.vl, valF_let, rfl⟩
theorem dVals.by (VV : VF K CV CC) : FldD K "by_number" O (.fr (dVals CV CC z)) (dTup (cellsD CV CC z)) := fun F v ⟨a, cs, e, h⟩ => by
  obtain ⟨dx, t, e1, e2⟩ := h.ob
  refine ⟨a, CV, dx, _, _, e, e1, VV.cv, VV.vb, valF_by, t, _, rfl, e2, ?_⟩
  have all : ∀ (xs : List Addr) (n : Nat), (∀ i c, xs[i]? = some c → cs[n + i]? = some c) → LsP F ((List.range xs.length).map fun i => dCell CV CC z (n + i)) (xs.map V.ref) := by
    intro xs
    induction xs with
    | nil => intro n _; exact .nil
    | cons x xs ih =>
      intro n hx
      rw [List.length_cons, List.range_succ_eq_map, List.map_cons, List.map_map, List.map_cons]
      refine .cons ⟨x, a, cs, rfl, h, hx 0 x rfl⟩ ?_
      have := ih (n + 1) fun i c hc => by
        have := hx (i + 1) c hc
        rwa [show n + (i + 1) = n + 1 + i by omega] at this
      refine cast ?_ this
      congr 1
      refine List.map_congr_left fun i _ => ?_
      show dCell CV CC z (n + 1 + i) = dCell CV CC z (n + (i + 1))
      rw [show n + 1 + i = n + (i + 1) by omega]
  have := all cs 0 fun i c hc => by rwa [Nat.zero_add]
  unfold cellsD
  rw [← h.len]
  refine cast ?_ this
  congr 1
  exact List.map_congr_left fun i _ => by rw [Nat.zero_add]
theorem dCell.let (VV : VF K CV CC) : FldD K "letters" O (.fr (dCell CV CC z n)) (dV (.str (cellT z n))) := fun F v ⟨c, p, cs, e, h, q⟩ => let ⟨dc, e1⟩ := h.cell n c q; ⟨c, CC, dc, _, _, e, e1, VV.cc, VV.cl, cellF_let, rfl⟩
theorem dCell.num (VV : VF K CV CC) : FldD K "number" O (.fr (dCell CV CC z n)) (dV (.int n)) := fun F v ⟨c, p, cs, e, h, q⟩ => let ⟨dc, e1⟩ := h.cell n c q; ⟨c, CC, dc, _, _, e, e1, VV.cc, VV.cn, cellF_num, rfl⟩
theorem dCell.alp (VV : VF K CV CC) : FldD K "alphabet" O (.fr (dCell CV CC z n)) (dVals CV CC z) := fun F v ⟨c, p, cs, e, h, q⟩ => let ⟨dc, e1⟩ := h.cell n c q; ⟨c, CC, dc, _, _, e, e1, VV.cc, VV.ca, cellF_alp, p, cs, rfl, h⟩
theorem cellsD_at {i : Nat} (h : i < 2 ^ z.cps.size) : (cellsD CV CC z)[i]? = some (dCell CV CC z i) := by
  unfold cellsD; rw [List.getElem?_map, List.getElem?_range h]; rfl
theorem cellsD_len : (cellsD CV CC z).length = 2 ^ z.cps.size := by unfold cellsD; simp
end
section
variable {P : Program} {w : World} {K : PySem.W.Frag} {mg : Str → Option Value} {base : Heap} {CV CC : Addr}
/-- Values(z) -/
theorem Ev.mkVals {b : Wd} {en : En} {O : Ow} {KK : DK} {t : TA} (h : EvA b t en O fun ds O1 => ∃ z, ds = [fStr z] ∧ LB.Good z ∧ OwMut O1 ∧ KK (.fr (dVals CV CC z)) O1) : Ev b (tMake CV (spVals CV CC) [] E0 t) en O KK :=
  fun w σ e o en' Q q => h w σ e o en' _ fun ds O1 vs w1 k1 e1 o1 p1 => by
    obtain ⟨z, rfl, gz, om, kk⟩ := k1
    obtain ⟨v, rfl, pv⟩ := p1.one
    have pv : v = .str z := pv
    subst pv
    intro x dx nx nd ne
    refine ⟨x, dx, z, rfl, upd_same, gz, fun H' cs bt va => ⟨rfl, ?_⟩⟩
    have s1 : Same w1.H H' := fun c u ec => bt c u (by rw [upd_ne (ne_of_none ec nx), upd_ne (ne_of_none ec nd)]; exact ec) (ne_of_none ec nx)
    have o2 := o1.more s1
    obtain ⟨o3, g3⟩ := o2.soak om
    refine q _ O1 _ ⟨w1.as, soakF ⟨w1.as, w1.F, H'⟩, H'⟩ kk ((e1.trans (Grow.more s1)).trans g3) o3 ⟨x, cs, rfl, ?_⟩
    obtain ⟨dv, t, h1, h2⟩ := va.ob
    refine ⟨⟨dv, t, soak_H h1 (fun m => m) o2.sub, soak_H h2 (fun m => m) o2.sub⟩, va.good, va.len, fun i c hc => ?_⟩
    obtain ⟨dc, h3⟩ := va.cell i c hc
    exact ⟨dc, soak_H h3 (fun m => m) o2.sub⟩
/-- is_integer(an int) -/
def fsInt : FS := fun ds O Q _ => ∃ i : Int, ds = [fInt i] ∧ Q (fBl true) O
theorem okd_int {f : Addr} {fd : FuncData} (F : Fun K "is_integer" "is_integer" s_is_integer f fd) (B : Blt mg) : FnOk P w K mg base CX0 1 f fd ["value"] (spD fsInt) := by
  refine okD F sc_is_integer (fun ds O Q KX h => ?_) (fun cdv A outer s H E hr b ds O Q KX h _ => ?_)
  · obtain ⟨i, rfl, _⟩ := h; rfl
  · obtain ⟨i, rfl, k⟩ := h
    refine ⟨_, (pss_one (ps_ret (pe_and (pe_callB call_isi (by rfl) B.n_isinstance (by decide +kernel) (pa_cons (pv 0) (pa_cons (pe_bltn (v := .ty "int") (by rfl) B.n_int (by decide +kernel) rfl) pa_nil))) (pe_one (pe_not (pe_callB call_isi (by rfl) B.n_isinstance (by decide +kernel) (pa_cons (pv 0) (pa_cons (pe_bltn (v := .ty "bool") (by rfl) B.n_bool (by decide +kernel) rfl) pa_nil)))))))), ?_⟩
    walk_at "dl"
    refine OpN.isiT (c := true) .int (kit_ty (by decide +kernel)) ⟨_, rfl, fun _ => ?_, fun c => nomatch c⟩
    walk_at "dl"
    exact OpN.isiT (c := false) .int (kit_ty (by decide +kernel)) ⟨_, rfl, k⟩
/-- is_from(v, lo, hi), ints -/
def fsFrom : FS := fun ds O Q _ => ∃ v lo hi : Int, ds = [fInt v, fInt lo, fInt hi] ∧ Q (fBl (decide (lo ≤ v) && decide (v ≤ hi))) O
theorem okd_from {f : Addr} {fd : FuncData} (F : Fun K "is_from" "is_from" s_is_from f fd) (B : Blt mg) (D_is_integer : HasFn P w K mg base CX0 1 "is_integer" ["value"] (spD fsInt)) : FnOk P w K mg base CX0 2 f fd ["value", "low", "high"] (spD fsFrom) := by
  refine okD F sc_is_from (fun ds O Q KX h => ?_) (fun cdv A outer s H E hr b ds O Q KX h _ => ?_)
  · obtain ⟨v, lo, hi, rfl, _⟩ := h; rfl
  · obtain ⟨v, lo, hi, rfl, k⟩ := h
    refine ⟨_, (pss_one (ps_ret (pe_and (pe_fn D_is_integer (hr.mono (by decide)) pass0 (pa_cons (pv 0) pa_nil)) (pe_one (pe_chain op_le op_le (pv 1) (pv 0) (pv 2)))))), ?_⟩
    walk_at "dl"
    refine ⟨v, rfl, _, rfl, fun _ => ?_, fun c => nomatch c⟩
    refine Ev.chain ?_
    walk_at "dl"
    refine ⟨_, rfl, fun c => ?_, fun c => ?_⟩
    · walk_at "dl"
      rw [c, Bool.true_and] at k
      exact k
    · rw [c, Bool.false_and] at k
      exact k
/-- Values.__eq__ of values -/
def fsEqV (CV CC : Addr) : FS := fun ds O Q _ => ∃ z y, ds = [.fr (dVals CV CC z), .fr (dVals CV CC y)] ∧ Q (fBl (decide (z = y))) O
theorem okd_eqV {f : Addr} {fd : FuncData} (F : Fun K "__eq__" "Values.__eq__" s_ValuesDD_eqDD f fd) (B : Blt mg) (VV : VF K CV CC) (TV : ClsT K CV) (kv : PySem.W.kitOne K (.ref CV) (.ref CV) = some true) (gV : mg "Values" = some (.ref CV)) : FnOk P w K mg base CX0 1 f fd ["self", "other"] (spD (fsEqV CV CC)) := by
  refine okD F sc_ValuesDD_eqDD (fun ds O Q KX h => ?_) (fun cdv A outer s H E hr b ds O Q KX h _ => ?_)
  · obtain ⟨z, y, rfl, _⟩ := h; rfl
  · obtain ⟨z, y, rfl, k⟩ := h
    refine ⟨_, (pss_one (ps_ret (pe_and (pe_callB call_isi (by rfl) B.n_isinstance (by decide +kernel) (pa_cons (pv 1) (pa_cons (pe_glob (v := .ref _) rfl gV rfl) pa_nil))) (pe_one (pe_cmpR op_eq (pe_fld (pv 0) rfl) (pe_fld (pv 1) rfl) (nomark _)))))), ?_⟩
    walk_at "dl"
    refine OpN.isiC (.ins TV dVals.ins) kv ⟨_, rfl, fun _ => ?_, fun c => nomatch c⟩
    walk_at "dl"
    refine ⟨_, dVals.let VV, ?_⟩
    walk_at "dl"
    refine ⟨_, dVals.let VV, Op2.eq rfl ?_⟩
    rw [show decide (V.str z = V.str y) = decide (z = y) by by_cases h : z = y <;> simp [h]]
    exact k
/-- same_values of things of equal values -/
def fsSame (K : PySem.W.Frag) (CV CC : Addr) : FS := fun ds O Q _ => ∃ d1 d2 z, ds = [.fr d1, .fr d2] ∧ FldD K "alphabet" [] (.fr d1) (dVals CV CC z) ∧ FldD K "alphabet" [] (.fr d2) (dVals CV CC z) ∧ Q (fV .non) O
theorem okd_same {f : Addr} {fd : FuncData} (F : Fun K "same_values" "same_values" s_same_values f fd) (B : Blt mg) (VV : VF K CV CC) (NE : NeOwn K CV) (D_eqV : HasMe P w K mg base CX0 1 CV "__eq__" ["self", "other"] (spD (fsEqV CV CC))) : FnOk P w K mg base CX0 3 f fd ["one", "other"] (spD (fsSame K CV CC)) := by
  refine okD F sc_same_values (fun ds O Q KX h => ?_) (fun cdv A outer s H E hr b ds O Q KX h _ => ?_)
  · obtain ⟨d1, d2, z, rfl, _⟩ := h; rfl
  · obtain ⟨d1, d2, z, rfl, h1, h2, k⟩ := h
    refine ⟨_, (pss_one (ps_if (pt_cmpR (op_neMe D_eqV (hr.mono (by decide)) pass0 NE) (pe_fld (pv 0) rfl) (pe_fld (pv 1) rfl) (nomark _)) (pss_one ps_never) pss_nil)), ?_⟩
    walk_at "dl"
    refine ⟨_, h1, ?_⟩
    walk_at "dl"
    refine ⟨_, h2, Op2.neOwn dVals.ins dVals.ins ⟨z, z, rfl, _, rfl, _, rfl, fun c => ?_, fun c => ?_⟩⟩
    · simp at c
    · exact EvS.next k
/-- values.numbered(n) -/
def fsNumb (CV CC : Addr) : FS := fun ds O Q _ => ∃ z n, ds = [.fr (dVals CV CC z), fInt (n : Nat)] ∧ LB.Good z ∧ n < 2 ^ z.cps.size ∧ Q (.fr (dCell CV CC z n)) O
theorem okd_numb {f : Addr} {fd : FuncData} (F : Fun K "numbered" "Values.numbered" s_Values_numbered f fd) (B : Blt mg) (VV : VF K CV CC) (D_is_from : HasFn P w K mg base CX0 2 "is_from" ["value", "low", "high"] (spD fsFrom)) : FnOk P w K mg base CX0 3 f fd ["self", "number"] (spD (fsNumb CV CC)) := by
  refine okD F sc_Values_numbered (fun ds O Q KX h => ?_) (fun cdv A outer s H E hr b ds O Q KX h _ => ?_)
  · obtain ⟨z, n, rfl, _⟩ := h; rfl
  · obtain ⟨z, n, rfl, gz, hn, k⟩ := h
    refine ⟨_, (pss_cons (ps_if (pt_not (pt_val (pe_fn D_is_from (hr.mono (by decide)) pass0 (pa_cons (pv 1) (pa_cons pe_int (pa_cons (pe_op op_sub (pe_callB call_len (by rfl) B.n_len (by decide +kernel) (pa_cons (pe_fld (pv 0) rfl) pa_nil)) pe_int) pa_nil)))))) (pss_one ps_never) pss_nil)
      (pss_one (ps_ret (pe_ix ix_tup (pe_fld (pv 0) rfl) (pv 1) (fun _ _ => rfl))))), ?_⟩
    walk_at "dl"
    refine ⟨_, dVals.by VV, ?_⟩
    walk_at "dl"
    refine OpN.lenT ?_
    walk_at "dl"
    refine ⟨_, _, _, rfl, _, rfl, ?_⟩
    have l : (cellsD CV CC z).length = 2 ^ z.cps.size := cellsD_len
    have e1 : decide ((0 : Int) ≤ (n : Int)) = true := decide_eq_true (by omega)
    have e2 : decide ((n : Int) ≤ ((cellsD CV CC z).length : Int) - 1) = true := decide_eq_true (by rw [l]; omega)
    rw [e1, e2]
    refine ⟨fun c => (nomatch c), fun _ => EvS.next ?_⟩
    walk_at "dl"
    refine ⟨_, dVals.by VV, ?_⟩
    walk_at "dl"
    exact Op2.ixT (atI_nat (cellsD_at hn)) k
end
end K41

namespace DL
open PySem L2 LB PyProof.Rows
/-! ### letters at places -/
def atL (z : Str) (ks : List Nat) : Str := ⟨(ks.map fun k => z.cps.getD k 0).toArray⟩
theorem getD_at {z : Str} {k : Nat} (h : k < z.cps.size) : z.cps.toList[k]? = some (z.cps.getD k 0) := by
  rw [Array.getElem?_toList, Array.getElem?_eq_getElem h, Array.getD_eq_getD_getElem?, Array.getElem?_eq_getElem h]
  rfl
theorem atL_nd {z : Str} {ks : List Nat} (nd : z.cps.toList.Nodup) (hk : ∀ k ∈ ks, k < z.cps.size) (hn : ks.Nodup) : (ks.map fun k => z.cps.getD k 0).Nodup := by
  refine List.pairwise_map.mpr (List.Pairwise.imp_of_mem (fun {a b} ma mb ne e => ne ?_) hn)
  obtain ⟨h1, e1⟩ := List.getElem?_eq_some_iff.mp (getD_at (hk a ma))
  obtain ⟨h2, e2⟩ := List.getElem?_eq_some_iff.mp (getD_at (hk b mb))
  exact (List.getElem_inj nd).mp (e1.trans (e.trans e2.symm))
theorem atL_len {z : Str} {ks : List Nat} : (atL z ks).length = ks.length := by show ((ks.map fun k => z.cps.getD k 0).toArray).size = _; simp
theorem atL_list {z : Str} {ks : List Nat} : (atL z ks).cps.toList = ks.map fun k => z.cps.getD k 0 := by simp [atL]
def sumP (ks : List Nat) : Nat := (ks.map fun k => 2 ^ k).sum
theorem sumI (l : List Nat) : (l.map fun n => ((2 ^ n : Nat) : Int)).sum = ((sumP l : Nat) : Int) := by
  unfold sumP
  induction l with
  | nil => rfl
  | cons a r ih => rw [List.map_cons, List.sum_cons, ih, List.map_cons, List.sum_cons]; omega
def bitsL (n s : Nat) : List Nat := (List.range s).filter fun k => n.testBit k
theorem bitsL_lt {n s k : Nat} (h : k ∈ bitsL n s) : k < s := by
  have := (List.mem_filter.mp h).1; simpa using this
theorem bitsL_nd {n s : Nat} : (bitsL n s).Nodup := List.Nodup.sublist List.filter_sublist List.nodup_range
theorem bitsL_len {n s : Nat} : (bitsL n s).length ≤ s := Nat.le_trans (List.length_filter_le _ _) (by simp)
theorem cellT_at {z : Str} {n : Nat} : cellT z n = atL z (bitsL n z.cps.size) := rfl
theorem bits_sum : ∀ s, s ≤ 4 → ∀ n, n < 2 ^ s → sumP (bitsL n s) = n := by
  have : ∀ s : Fin 5, ∀ n : Fin 16, n.val < 2 ^ s.val → sumP (bitsL n.val s.val) = n.val := by decide +kernel
  intro s hs n hn
  have h16 : n < 16 := Nat.lt_of_lt_of_le hn (Nat.le_trans (Nat.pow_le_pow_right (by decide) hs) (by decide))
  exact this ⟨s, by omega⟩ ⟨n, h16⟩ hn
theorem good_len {z : Str} (h : LB.Good z) : z.length ≤ sizeLine := Nat.le_trans (show z.length ≤ 4 from h.hi) (by decide)
theorem good_pow {z : Str} (h : LB.Good z) : 2 ^ z.cps.size ≤ 16 := Nat.le_trans (Nat.pow_le_pow_right (by decide) h.hi) (by decide)
theorem signs_nd {z : Str} (h : z.cps.toList.Nodup) : (LB.signs z).Nodup := by
  unfold LB.signs
  exact List.Pairwise.map _ (fun a b hab e => hab (by injection e with e; injection e with e; injection e)) h
theorem cellT_len {z : Str} {n : Nat} (h : LB.Good z) : (cellT z n).length ≤ 4 := by
  rw [cellT_at, atL_len]; exact Nat.le_trans bitsL_len h.hi
theorem fcs_at {z : Str} {ks : List Nat} : fcs (atL z ks) = ks.map fun k => dV (.str ⟨#[z.cps.getD k 0]⟩) := by
  unfold fcs; rw [atL_list, List.map_map]; rfl
section
variable {b : Wd} {en : En} {O : Ow} {KF : PySem.W.Frag} {K : DK}
theorem Ev.lenSet {ta : TE} (h : Ev b ta en O fun d O1 => ∃ z, d = fStr z ∧ z.cps.size ≤ 4000 ∧ K (fInt (dd (LB.signs z)).length) O1) : Ev b (tLenSetT KF ta) en O K := fun w σ e o en' Q q => h w σ e o en' _ fun d O1 x w1 k1 e1 o1 p1 => by
  obtain ⟨z, rfl, l, k⟩ := k1
  exact .inl ⟨z, p1, l, q _ O1 _ w1 k e1 o1 rfl⟩
/-- (x) in [..] or (..), flat things -/
theorem Op2.inSeq {xs : List V} {x : V} {d : Da} {neg : Bool} (h : SeqD O (xs.map dV) d) (f1 : flatV x = true) (f2 : xs.all flatV = true) (k : K (fBl (if neg then !inV x xs else inV x xs)) O) : Op2 b (L2.rIn KF neg) (fV x) d O K := fun w u v e o p q Q n => by
  obtain ⟨a, vs, rfl, f, pl⟩ := h.at_ (KF := KF) o q
  have := pl.eq
  subst this
  have p : u = x := p
  subst p
  exact ⟨a, vs, rfl, f, f1, f2, n _ O _ w k (Grow.refl w) o rfl⟩
end
end DL

namespace K41
open PySem L2 LB PyProof.Rows DL
abbrev s_number_of_letters : Stmt := top 26
theorem sc_number_of_letters : FnScope ["letters", "some", "letter"] ["letters", "some"] (defScope s_number_of_letters) := ⟨rfl, rfl, rfl, by decide +kernel, rfl, by decide +kernel, by decide +kernel⟩
abbrev s_Values_cell : Stmt := inClass (top 22) 7
theorem sc_Values_cell : FnScope ["self", "letters", "number"] ["self", "letters"] (defScope s_Values_cell) := ⟨rfl, rfl, rfl, by decide +kernel, rfl, by decide +kernel, by decide +kernel⟩
abbrev s_cell_from : Stmt := top 27
theorem sc_cell_from : FnScope ["values", "thing", "number"] ["values", "thing"] (defScope s_cell_from) := ⟨rfl, rfl, rfl, by decide +kernel, rfl, by decide +kernel, by decide +kernel⟩
abbrev s_is_row : Stmt := top 17
theorem sc_is_row : FnScope ["value", "fewest", "most"] ["value", "fewest", "most"] (defScope s_is_row) := ⟨rfl, rfl, rfl, by decide +kernel, rfl, by decide +kernel, by decide +kernel⟩
abbrev s_numbers_of : Stmt := top 28
theorem sc_numbers_of : FnScope ["cells", "cell"] ["cells"] (defScope s_numbers_of) := ⟨rfl, rfl, rfl, by decide +kernel, rfl, by decide +kernel, by decide +kernel⟩
abbrev s_CellDD_orDD : Stmt := inClass (top 23) 9
theorem sc_CellDD_orDD : FnScope ["self", "other"] ["self", "other"] (defScope s_CellDD_orDD) := ⟨rfl, rfl, rfl, by decide +kernel, rfl, by decide +kernel, by decide +kernel⟩
local macro_rules | `(tactic| walk_at "dl") => `(tactic| repeat (first
  | (with_reducible show Ev _ (tVar _) _ _ _; refine Ev.var rfl ?_) | with_reducible refine' Ev.con ?_ | with_reducible refine' EvA.cons ?_ | with_reducible refine' EvA.nil ?_
  | with_reducible refine' Ev.op ?_ | with_reducible refine' Ev.un ?_ | with_reducible refine' Ev.cb ?_ | with_reducible refine' Ev.call ?_ | with_reducible refine' Ev.meth ?_ | with_reducible refine' Ev.prop ?_
  | with_reducible refine' EvT.tB ?_ | with_reducible refine' EvT.test ?_ | with_reducible refine' EvT.and ?_ | with_reducible refine' EvT.or ?_ | with_reducible refine' EvT.not ?_
  | with_reducible refine' Ev.andV ?_ | with_reducible refine' Ev.orV ?_ | with_reducible refine' Ev.notV ?_ | with_reducible refine' Ev.ifE ?_ | with_reducible refine' Ev.fld ?_ | with_reducible refine' Ev.sl ?_ | with_reducible refine' Ev.m1 ?_ | with_reducible refine' Ev.bm ?_ | with_reducible refine' Ev.bm0 ?_
  | with_reducible refine' EvS.seq ?_ | with_reducible refine' EvS.next ?_ | with_reducible refine' EvS.ite ?_ | with_reducible refine' EvS.ret ?_ | with_reducible refine' EvS.set ?_ | with_reducible refine' EvS.drp ?_ | with_reducible refine' EvS.par ?_ | with_reducible refine' EvS.asg ?_ | with_reducible refine' EvG.name ?_
  | with_reducible refine' Op2.i0 ?_ | with_reducible refine' Op1.i ?_ | with_reducible refine' EvT.yes ?_ | with_reducible refine' EvO.no ?_ | with_reducible refine' EvO.part ?_))

section
variable {P : Program} {w : World} {K : PySem.W.Frag} {mg : Str → Option Value} {base : Heap} {CV CC : Addr}
/-- number_of_letters(z, letters of z at the places ks) -/
def fsNol : FS := fun ds O Q _ => ∃ z ks, ds = [fStr z, fStr (atL z ks)] ∧ LB.Good z ∧ ks.Nodup ∧ ks.length ≤ z.cps.size ∧ (∀ k ∈ ks, k < z.cps.size) ∧ Q (fInt ((sumP ks : Nat) : Int)) O
theorem okd_nol {f : Addr} {fd : FuncData} (F : Fun K "number_of_letters" "number_of_letters" s_number_of_letters f fd) (B : Blt mg) : FnOk P w K mg base CX0 1 f fd ["letters", "some"] (spD fsNol) := by
  refine okD F sc_number_of_letters (fun ds O Q KX h => ?_) (fun cdv A outer s H E hr b ds O Q KX h _ => ?_)
  · obtain ⟨z, ks, rfl, _⟩ := h; rfl
  · obtain ⟨z, ks, rfl, gz, nk, lk, hk, k⟩ := h
    refine ⟨_, (pss_cons (ps_if (PW.pt (pw_or (pt_not (pt_val (pe_callB call_isi (by rfl) B.n_isinstance (by decide +kernel) (pa_cons (pv 1) (pa_cons (pe_bltn (v := .ty "str") (by rfl) B.n_str (by decide +kernel) rfl) pa_nil))))) (pw_or (pt_cmpR op_gt (pe_callB call_len (by rfl) B.n_len (by decide +kernel) (pa_cons (pv 1) pa_nil)) (pe_callB call_len (by rfl) B.n_len (by decide +kernel) (pa_cons (pv 0) pa_nil)) (nomark _)) (pw_or1 (pt_cmpR op_lt (pe_lenSetT rfl (by rfl) B.n_len (by rfl) B.n_set (pv 1)) (pe_callB call_len (by rfl) B.n_len (by decide +kernel) (pa_cons (pv 1) pa_nil)) (nomark _)))))) (pss_one (ps_ret pe_non)) pss_nil)
      (pss_cons (ps_if (pt_not (pt_val (pe_callB (cr_all rfl) (by rfl) B.n_all (by decide +kernel) (pa_cons (pe_lc rfl sc_number_of_letters.nd (pi_str (pv 1)) (blkOk_by (own := [("letter", 2)]) (N := ["letters", "some", "letter"]) (sc := defScope s_number_of_letters) (by decide +kernel)) (fun _ _ _ _ _ => (pg_name (i := 2) sc_number_of_letters.nd rfl (.inl rfl))) (fun _ _ _ _ _ => pts_nil) (fun _ _ _ _ _ => (pe_cmpR op_in_sign (pv 2) (pv 0) (by rfl)))) pa_nil)))) (pss_one (ps_ret pe_non)) pss_nil)
      (pss_one (ps_ret (pe_callB (cr_sum rfl) (by rfl) B.n_sum (by decide +kernel) (pa_cons (pe_lc rfl sc_number_of_letters.nd (pi_str (pv 1)) (blkOk_by (own := [("letter", 2)]) (N := ["letters", "some", "letter"]) (sc := defScope s_number_of_letters) (by decide +kernel)) (fun _ _ _ _ _ => (pg_name (i := 2) sc_number_of_letters.nd rfl (.inl rfl))) (fun _ _ _ _ _ => pts_nil) (fun _ _ _ _ _ => (pe_op op_shl pe_int (pe_bmB PySem.F.plainAttrs_str PySem.F.slot_str_index PySem.F.type_str_index mt_sindex (pv 0) (pa_cons (pv 2) pa_nil))))) pa_nil)))))), ?_⟩
    have hi := gz.hi
    have big : 4 < sizeLine := by decide
    have la : (atL z ks).length ≤ sizeLine := by rw [atL_len]; omega
    have nd2 : (atL z ks).cps.toList.Nodup := by rw [atL_list]; exact atL_nd gz.nd hk nk
    have e2 : (dd (LB.signs (atL z ks))).length = ks.length := by rw [dd_nodup (signs_nd nd2), signs_len]; exact atL_len
    walk_at "dl"
    refine OpN.isiT (c := true) .str (kit_ty (by decide +kernel)) ⟨_, rfl, fun _ => ?_, fun c => nomatch c⟩
    walk_at "dl"
    refine OpN.lenS la ?_
    walk_at "dl"
    refine OpN.lenS (good_len gz) ?_
    walk_at "dl"
    refine ⟨_, rfl, fun _ => ?_, fun c => absurd (of_decide_eq_true c) (by rw [atL_len]; show ¬ ((z.cps.size : Nat) : Int) < _; omega)⟩
    walk_at "dl"
    refine Ev.lenSet ?_
    walk_at "dl"
    refine ⟨_, rfl, by have := atL_len (z := z) (ks := ks); show (atL z ks).length ≤ 4000; omega, ?_⟩
    walk_at "dl"
    refine OpN.lenS la ?_
    walk_at "dl"
    refine ⟨_, rfl, fun c => absurd (of_decide_eq_true c) (by rw [e2, atL_len]; omega), fun _ => EvS.next ?_⟩
    walk_at "dl"
    refine Ev.lc (α := Nat) (Tame.name (by decide)) (fun _ => dV (.bl true)) (EvI.str (Ev.var rfl ⟨_, rfl, ks, fun k => dV (.str ⟨#[z.cps.getD k 0]⟩), fcs_at, by omega, fun k mk => EvG.name ⟨rfl, ?_⟩, ?_⟩))
    · walk_at "dl"
      refine Op2.val (z := .bl true) (fun H Q q => ⟨_, z, rfl, rfl, ?_⟩) ⟨rfl, rfl⟩
      rw [decide_eq_true (List.mem_of_getElem? (getD_at (hk k mk)))]
      exact q
    · walk_at "dl"
      refine OpN.all (bs := ks.map fun _ => true) (by show dLst _ = dLst _; unfold dBs; rw [List.map_map]; rfl) ⟨_, rfl, fun c => absurd c (by simp), fun _ => EvS.next ?_⟩
      walk_at "dl"
      refine Ev.lc (α := Nat) (Tame.name (by decide)) (fun k => dV (.int ((2 ^ k : Nat) : Int))) (EvI.str (Ev.var rfl ⟨_, rfl, ks, fun k => dV (.str ⟨#[z.cps.getD k 0]⟩), fcs_at, by omega, fun k mk => EvG.name ⟨rfl, ?_⟩, ?_⟩))
      · walk_at "dl"
        refine ⟨TyD.str, ?_⟩
        walk_at "dl"
        intro w x xs e o px pxs Q q
        obtain ⟨v, rfl, pv⟩ := pxs.one
        have px : x = .str z := px
        have pv : v = .str ⟨#[z.cps.getD k 0]⟩ := pv
        subst px pv
        refine ⟨z, _, k, [], rfl, rfl, index_sign gz.nd (getD_at (hk k mk)), ?_⟩
        refine q (fInt ((k : Nat) : Int)) O _ w (Op2.iC ⟨Int.natCast_nonneg _, by have := hk k mk; show ((k : Nat) : Int) ≤ 1000000; omega, by decide⟩ ⟨?_, rfl⟩) (Grow.refl w) o rfl
        congr 3
        rw [Int.toNat_natCast, Int.one_mul]
        simp
      · walk_at "dl"
        refine OpN.sum (ns := ks.map fun k => ((2 ^ k : Nat) : Int)) (by show dLst _ = dLst _; unfold dIs; rw [List.map_map]; rfl) ?_
        rw [sumI]
        exact k
/-- values.cell(letters of z at the places ks) -/
def fsCellM (CV CC : Addr) : FS := fun ds O Q _ => ∃ z ks, ds = [.fr (dVals CV CC z), fStr (atL z ks)] ∧ LB.Good z ∧ ks.Nodup ∧ ks.length ≤ z.cps.size ∧ (∀ k ∈ ks, k < z.cps.size) ∧ sumP ks < 2 ^ z.cps.size ∧ Q (.fr (dCell CV CC z (sumP ks))) O
theorem okd_cellM {f : Addr} {fd : FuncData} (F : Fun K "cell" "Values.cell" s_Values_cell f fd) (B : Blt mg) (VV : VF K CV CC) (D_number_of_letters : HasFn P w K mg base CX0 1 "number_of_letters" ["letters", "some"] (spD fsNol)) : FnOk P w K mg base CX0 2 f fd ["self", "letters"] (spD (fsCellM CV CC)) := by
  refine okD F sc_Values_cell (fun ds O Q KX h => ?_) (fun cdv A outer s H E hr b ds O Q KX h _ => ?_)
  · obtain ⟨z, ks, rfl, _⟩ := h; rfl
  · obtain ⟨z, ks, rfl, gz, nk, lk, hk, lt, k⟩ := h
    refine ⟨_, (pss_cons (ps_set (i := 2) sc_Values_cell.nd rfl (.inl rfl) (pe_fn D_number_of_letters (hr.mono (by decide)) pass0 (pa_cons (pe_fld (pv 0) rfl) (pa_cons (pv 1) pa_nil))))
      (pss_cons (ps_if (pt_cmpR op_isN (pv 2) pe_non (nomark _)) (pss_one ps_never) pss_nil)
      (pss_one (ps_ret (pe_ix ix_tup (pe_fld (pv 0) rfl) (pv 2) (fun _ _ => rfl)))))), ?_⟩
    walk_at "dl"
    refine ⟨_, dVals.let VV, ?_⟩
    walk_at "dl"
    refine ⟨z, ks, rfl, gz, nk, lk, hk, ?_⟩
    walk_at "dl"
    refine Op2.val (z := .bl false) (fun H Q q => ⟨rfl, q⟩) ⟨_, rfl, fun c => (nomatch c), fun _ => EvS.next ?_⟩
    walk_at "dl"
    refine ⟨_, dVals.by VV, ?_⟩
    walk_at "dl"
    exact Op2.ixT (atI_nat (cellsD_at lt)) k
end
end K41

namespace DL
open PySem L2 LB PyProof.Rows
/-! ### bits of numbers that are not negative -/
theorem z_and (a b : Nat) : Builtin.bitAnd (a : Int) (b : Int) = ((a &&& b : Nat) : Int) := by
  rw [bitAnd_pp (Int.natCast_nonneg _) (Int.natCast_nonneg _), Int.toNat_natCast, Int.toNat_natCast]
theorem and_le (a b : Nat) : a &&& b ≤ a := Nat.and_le_left
theorem z_andnot (a b : Nat) : Builtin.bitAnd (a : Int) (Builtin.bitNot (b : Int)) = ((a - (a &&& b) : Nat) : Int) := by
  rw [bitAnd_not, z_and]
  have := and_le a b
  omega
theorem z_or (a b : Nat) : Builtin.bitOr (a : Int) (b : Int) = ((a ||| b : Nat) : Int) := by
  rw [bitOr_nn (Int.natCast_nonneg _) (Int.natCast_nonneg _), Int.toNat_natCast, Int.toNat_natCast]
/-- a is within b -/
def sub (a b : Nat) : Bool := decide (a &&& b = a)
theorem sub_zero {a b : Nat} : a - (a &&& b) = 0 ↔ a &&& b = a := by have := and_le a b; omega
theorem eqI {a b : Int} : decide (V.int a = V.int b) = decide (a = b) := by by_cases h : a = b <;> simp [h]
theorem eqS {a b : Str} : decide (V.str a = V.str b) = decide (a = b) := by by_cases h : a = b <;> simp [h]
theorem kit_row {K : PySem.W.Frag} {t : String} (h : t = "list" ∨ t = "tuple") : PySem.W.kitAny K (.type t) [.type "list", .type "tuple"] = some true := by
  rcases h with rfl | rfl
  · exact kitAny_cons (b := true) (kit_ty (by decide +kernel)) (fun c => nomatch c) (fun _ => rfl)
  · exact kitAny_cons (b := false) (kit_ty (by decide +kernel)) (fun _ => kitAny_cons (b := true) (kit_ty (by decide +kernel)) (fun c => nomatch c) (fun _ => rfl)) (fun c => nomatch c)
theorem cls_row : Paired ClsV [.ty "list", .ty "tuple"] [.type "list", .type "tuple"] := .cons (.ty _) (.cons (.ty _) .nil)
section
variable {b : Wd} {O : Ow} {KF : PySem.W.Frag} {K : DK}
theorem SeqD.typ {ds : List D} {d : Da} (h : SeqD O ds d) : ∃ t, (t = "list" ∨ t = "tuple") ∧ TyP KF O d (.type t) := by
  rcases h with h | rfl
  · exact ⟨"list", .inl rfl, .lst h⟩
  · exact ⟨"tuple", .inr rfl, .tup⟩
theorem OpN.lenQ {ds : List D} {d : Da} (h : SeqD O ds d) (k : K (fInt ds.length) O) : OpN b (fun xs H Q => ∃ x n, xs = [x] ∧ LenV KF x H n ∧ Q (.int n) H) [d] O K := by
  rcases h with h | rfl
  · exact OpN.len h k
  · exact OpN.lenT k
end
end DL

namespace K41
open PySem L2 LB PyProof.Rows DL
local macro_rules | `(tactic| walk_at "dl") => `(tactic| repeat (first
  | (with_reducible show Ev _ (tVar _) _ _ _; refine Ev.var rfl ?_) | with_reducible refine' Ev.con ?_ | with_reducible refine' EvA.cons ?_ | with_reducible refine' EvA.nil ?_
  | with_reducible refine' Ev.op ?_ | with_reducible refine' Ev.un ?_ | with_reducible refine' Ev.cb ?_ | with_reducible refine' Ev.call ?_ | with_reducible refine' Ev.meth ?_ | with_reducible refine' Ev.prop ?_
  | with_reducible refine' EvT.tB ?_ | with_reducible refine' EvT.test ?_ | with_reducible refine' EvT.and ?_ | with_reducible refine' EvT.or ?_ | with_reducible refine' EvT.not ?_
  | with_reducible refine' Ev.andV ?_ | with_reducible refine' Ev.orV ?_ | with_reducible refine' Ev.notV ?_ | with_reducible refine' Ev.ifE ?_ | with_reducible refine' Ev.fld ?_ | with_reducible refine' Ev.sl ?_ | with_reducible refine' Ev.m1 ?_ | with_reducible refine' Ev.bm ?_ | with_reducible refine' Ev.bm0 ?_
  | with_reducible refine' EvS.seq ?_ | with_reducible refine' EvS.next ?_ | with_reducible refine' EvS.ite ?_ | with_reducible refine' EvS.ret ?_ | with_reducible refine' EvS.set ?_ | with_reducible refine' EvS.drp ?_ | with_reducible refine' EvS.par ?_ | with_reducible refine' EvS.asg ?_ | with_reducible refine' EvG.name ?_
  | with_reducible refine' Op2.i0 ?_ | with_reducible refine' Op1.i ?_ | with_reducible refine' EvT.yes ?_ | with_reducible refine' EvO.no ?_ | with_reducible refine' EvO.part ?_))

section
variable {P : Program} {w : World} {K : PySem.W.Frag} {mg : Str → Option Value} {base : Heap} {CV CC : Addr}
/-- cell_from(values, letters at places) or (values, a cell) -/
def fsCF (CV CC : Addr) : FS := fun ds O Q _ => ∃ z n d, ds = [.fr (dVals CV CC z), .fr d] ∧ LB.Good z ∧ n < 2 ^ z.cps.size ∧ (d = dCell CV CC z n ∨ ∃ ks, d = dV (.str (atL z ks)) ∧ ks.Nodup ∧ ks.length ≤ z.cps.size ∧ (∀ k ∈ ks, k < z.cps.size) ∧ sumP ks = n) ∧ Q (.fr (dCell CV CC z n)) O
theorem okd_cf {f : Addr} {fd : FuncData} (F : Fun K "cell_from" "cell_from" s_cell_from f fd) (B : Blt mg) (VV : VF K CV CC) (TC : ClsT K CC) (kc : PySem.W.kitOne K (.ref CC) (.ref CC) = some true) (ks : PySem.W.kitOne K (.type "str") (.ref CC) = some false) (gC : mg "Cell" = some (.ref CC))
    (D_eqV : HasMe P w K mg base CX0 1 CV "__eq__" ["self", "other"] (spD (fsEqV CV CC))) (D_numbered : HasMe P w K mg base CX0 3 CV "numbered" ["self", "number"] (spD (fsNumb CV CC))) (D_number_of_letters : HasFn P w K mg base CX0 1 "number_of_letters" ["letters", "some"] (spD fsNol)) :
    FnOk P w K mg base CX0 4 f fd ["values", "thing"] (spD (fsCF CV CC)) := by
  refine okD F sc_cell_from (fun ds O Q KX h => ?_) (fun cdv A outer s H E hr b ds O Q KX h _ => ?_)
  · obtain ⟨z, n, d, rfl, _⟩ := h; rfl
  · obtain ⟨z, n, d, rfl, gz, hn, hd, k⟩ := h
    refine ⟨_, (pss_cons (ps_if (pt_val (pe_callB call_isi (by rfl) B.n_isinstance (by decide +kernel) (pa_cons (pv 1) (pa_cons (pe_glob (v := .ref _) rfl gC rfl) pa_nil)))) (pss_one (ps_ret (pe_ifExp (pt_cmpR (op_eqMe D_eqV (hr.mono (by decide)) pass0) (pe_fld (pv 1) rfl) (pv 0) (nomark _)) (pe_me (pv 0) D_numbered VV.cv (hr.mono (by decide)) pass0 (pa_cons (pe_fld (pv 1) rfl) pa_nil)) pe_non))) pss_nil)
      (pss_cons (ps_set (i := 2) sc_cell_from.nd rfl (.inl rfl) (pe_fn D_number_of_letters (hr.mono (by decide)) pass0 (pa_cons (pe_fld (pv 0) rfl) (pa_cons (pv 1) pa_nil))))
      (pss_one (ps_ret (pe_ifExp (pt_cmpR op_isN (pv 2) pe_non (nomark _)) pe_non (pe_me (pv 0) D_numbered VV.cv (hr.mono (by decide)) pass0 (pa_cons (pv 2) pa_nil))))))), ?_⟩
    walk_at "dl"
    rcases hd with rfl | ⟨ks', rfl, nk, lk, hk, rfl⟩
    · refine OpN.isiC (.ins TC dCell.ins) kc ⟨_, rfl, fun _ => ?_, fun c => (nomatch c)⟩
      walk_at "dl"
      refine ⟨_, dCell.alp VV, ?_⟩
      walk_at "dl"
      refine Op2.own dVals.ins dVals.ins ⟨z, z, rfl, _, rfl, fun _ => ?_, fun c => by simp at c⟩
      walk_at "dl"
      refine ⟨dVals.no (by decide +kernel) (by decide +kernel), ?_⟩
      walk_at "dl"
      refine ⟨_, dCell.num VV, ?_⟩
      walk_at "dl"
      exact ⟨z, n, rfl, gz, hn, k⟩
    · refine OpN.isiC .str ks ⟨_, rfl, fun c => (nomatch c), fun _ => ?_⟩
      walk_at "dl"
      refine ⟨_, dVals.let VV, ?_⟩
      walk_at "dl"
      refine ⟨z, ks', rfl, gz, nk, lk, hk, ?_⟩
      walk_at "dl"
      refine Op2.val (z := .bl false) (fun H Q q => ⟨rfl, q⟩) ⟨_, rfl, fun c => (nomatch c), fun _ => ?_⟩
      walk_at "dl"
      refine ⟨dVals.no (by decide +kernel) (by decide +kernel), ?_⟩
      walk_at "dl"
      exact ⟨z, sumP ks', rfl, gz, hn, k⟩
/-- is_row of a list or tuple -/
def fsRow : FS := fun ds O Q _ => ∃ d es lo hi, ds = [d, fInt lo, fInt hi] ∧ SeqD O es d ∧ Q (fBl (decide (lo ≤ (es.length : Int)) && decide ((es.length : Int) ≤ hi))) O
theorem okd_row {f : Addr} {fd : FuncData} (F : Fun K "is_row" "is_row" s_is_row f fd) (B : Blt mg) : FnOk P w K mg base CX0 1 f fd ["value", "fewest", "most"] (spD fsRow) := by
  refine okD F sc_is_row (fun ds O Q KX h => ?_) (fun cdv A outer s H E hr b ds O Q KX h _ => ?_)
  · obtain ⟨d, es, lo, hi, rfl, _⟩ := h; rfl
  · obtain ⟨d, es, lo, hi, rfl, hd, k⟩ := h
    obtain ⟨t, ht, ty⟩ := hd.typ (KF := K)
    refine ⟨_, (pss_one (ps_ret (pe_and (pe_callB call_isiT (by rfl) B.n_isinstance (by decide +kernel) (pa_cons (pv 0) (pa_cons (pe_tup (pa_cons (pe_bltn (v := .ty "list") (by rfl) B.n_list (by decide +kernel) rfl) (pa_cons (pe_bltn (v := .ty "tuple") (by rfl) B.n_tuple (by decide +kernel) rfl) pa_nil))) pa_nil))) (pe_one (pe_chain op_le op_le (pv 1) (pe_callB call_len (by rfl) B.n_len (by decide +kernel) (pa_cons (pv 0) pa_nil)) (pv 2)))))), ?_⟩
    walk_at "dl"
    refine Ev.tup ?_
    walk_at "dl"
    refine ⟨_, rfl, by decide, ?_⟩
    walk_at "dl"
    refine OpN.isiTT (cs := [.ty "list", .ty "tuple"]) ty cls_row (kit_row ht) ⟨_, rfl, fun _ => ?_, fun c => (nomatch c)⟩
    refine Ev.chain ?_
    walk_at "dl"
    refine OpN.lenQ hd ?_
    walk_at "dl"
    refine ⟨_, rfl, fun c => ?_, fun c => ?_⟩
    · walk_at "dl"
      rw [c, Bool.true_and] at k
      exact k
    · rw [c, Bool.false_and] at k
      exact k
/-- one | other, of cells -/
def fsOrC (CV CC : Addr) : FS := fun ds O Q _ => ∃ z a b', ds = [.fr (dCell CV CC z a), .fr (dCell CV CC z b')] ∧ LB.Good z ∧ a < 2 ^ z.cps.size ∧ b' < 2 ^ z.cps.size ∧ Q (.fr (dCell CV CC z (a ||| b'))) O
theorem okd_orC {f : Addr} {fd : FuncData} (F : Fun K "__or__" "Cell.__or__" s_CellDD_orDD f fd) (B : Blt mg) (VV : VF K CV CC) (D_same_values : HasFn P w K mg base CX0 3 "same_values" ["one", "other"] (spD (fsSame K CV CC))) (D_numbered : HasMe P w K mg base CX0 3 CV "numbered" ["self", "number"] (spD (fsNumb CV CC))) :
    FnOk P w K mg base CX0 4 f fd ["self", "other"] (spD (fsOrC CV CC)) := by
  refine okD F sc_CellDD_orDD (fun ds O Q KX h => ?_) (fun cdv A outer s H E hr b ds O Q KX h _ => ?_)
  · obtain ⟨z, a, b', rfl, _⟩ := h; rfl
  · obtain ⟨z, a, b', rfl, gz, ha, hb, k⟩ := h
    refine ⟨_, (pss_cons (ps_expr (pe_fn D_same_values (hr.mono (by decide)) pass0 (pa_cons (pv 0) (pa_cons (pv 1) pa_nil))))
      (pss_one (ps_ret (pe_me (pe_fld (pv 0) rfl) D_numbered VV.cv (hr.mono (by decide)) pass0 (pa_cons (pe_op op_or (pe_fld (pv 0) rfl) (pe_fld (pv 1) rfl)) pa_nil))))), ?_⟩
    walk_at "dl"
    refine ⟨_, _, z, rfl, dCell.alp VV, dCell.alp VV, ?_⟩
    walk_at "dl"
    refine ⟨_, dCell.alp VV, ?_⟩
    refine ⟨dVals.no (by decide +kernel) (by decide +kernel), ?_⟩
    walk_at "dl"
    refine ⟨_, dCell.num VV, ?_⟩
    walk_at "dl"
    refine ⟨_, dCell.num VV, ?_⟩
    walk_at "dl"
    exact ⟨z, a ||| b', by rw [z_or], gz, Nat.or_lt_two_pow ha hb, k⟩
/-- one.within(other), of cells -/
def fsWithC (CV CC : Addr) : FS := fun ds O Q _ => ∃ z a b', ds = [.fr (dCell CV CC z a), .fr (dCell CV CC z b')] ∧ Q (fBl (sub a b')) O
end
end K41

namespace DL
open PySem L2 LB PyProof.Rows
section
variable {b : Wd} {en : En} {O : Ow} {KF : PySem.W.Frag} {K : DK} {fs : FS} {t : TA}
theorem Grow.as_le {w w' : Wd} (g : Grow w w') : w.as.length ≤ w'.as.length := by
  rcases Nat.lt_or_ge w'.as.length w.as.length with l | l
  · have := g.pre w'.as.length _ (List.getElem?_eq_getElem l)
    rw [List.getElem?_eq_none (Nat.le_refl _)] at this
    cases this
  · exact l
/-- C(..): the new instance stands still -/
theorem Ev.makeF {C : Addr} (h : EvA b t en O fun ds O1 => fs (.ow O1.length :: ds) (O1 ++ [some (oIns C [])]) (fun d O2 => d = fV .non ∧ ∃ fl, O2 = O1 ++ [some (oIns C fl)] ∧ K (.fr (dIns C fl)) O1) noX) : Ev b (tMake C (spD fs) [] E0 t) en O K :=
  fun w σ e o en' Q q => h w σ e o en' _ fun ds O1 vs w1 k1 e1 o1 p1 => by
    intro x dx nx nd ne
    rw [List.append_nil]
    have g1 := Grow.new o1 (.own x) nd
    have o2 := o1.new (.own x) nd
    have nx' : upd w1.H dx (.own x) x = none := (upd_ne ne.symm).trans nx
    have o3 := o2.newOw (.ins C dx []) (od := oIns C []) nx' ⟨dx, [], rfl, .nil⟩
    have g2 : Grow w1 ⟨w1.as ++ [x], upd w1.F dx (.own x), upd (upd w1.H dx (.own x)) x (.ins C dx [])⟩ := g1.trans (Grow.newOw nx')
    have self : (Da.ow O1.length).p (w1.as ++ [x]) (upd w1.F dx (.own x)) (.ref x) := ⟨x, by rw [← o1.len, List.getElem?_append_right (Nat.le_refl _), Nat.sub_self]; rfl, rfl⟩
    refine spD_at (w := ⟨w1.as ++ [x], upd w1.F dx (.own x), upd (upd w1.H dx (.own x)) x (.ins C dx [])⟩) o3 (.cons self (DsP.mono g2 p1)) k1 (fun d O' v w' k' e' o' p' => ?_) .no
    obtain ⟨rfl, fl, rfl, k'⟩ := k'
    refine ⟨p', ?_⟩
    obtain ⟨a, ha, ea⟩ := Da.mono e' self
    have ea : x = a := by injection ea
    subst ea
    have hk : (O1 ++ [some (oIns C fl)])[O1.length]? = some (some (oIns C fl)) := ow_last
    obtain ⟨_, u, hu, dx', gs, rfl, pf⟩ := o'.own _ _ _ ha hk
    obtain ⟨o4, g4⟩ := o'.still ha hk hu
    have gg : Grow w ⟨w'.as, upd w'.F x (.ins C dx' gs), w'.H⟩ := ((e1.trans g2).trans e').trans g4
    have lw : w.as.length ≤ O1.length := by rw [← o1.len]; exact e1.as_le
    have o5 := o4.cut (n := O1.length)
    have eO : (((O1 ++ [some (oIns C fl)]).set O1.length none).take O1.length) = O1 := by rw [ow_lastset, List.take_left' rfl]
    rw [eO] at o5
    exact q (.fr (dIns C fl)) O1 (.ref x) ⟨w'.as.take O1.length, upd w'.F x (.ins C dx' gs), w'.H⟩ k' (gg.cut lw) o5 ⟨x, dx', gs, rfl, upd_same, pf.mono g4.F⟩
theorem Ev.cval {ta : TE} {f : Str} (h : Ev b ta en O fun d O1 => ∃ C mc v u, d = fV (.ref C) ∧ ClX.CRead KF C mc ∧ ClX.CVal KF C mc f v u ∧ K (fV v) O1) : Ev b (ClX.tCVal KF ta f) en O K :=
  fun w σ e o en' Q q => h w σ e o en' _ fun d O1 x w1 k1 e1 o1 p1 => by
    obtain ⟨C, mc, v, u, rfl, cr, cv, k⟩ := k1
    exact ⟨C, mc, v, u, p1, cr, cv, q _ O1 _ w1 k e1 o1 rfl⟩
/-- x is None, x an object -/
theorem Op2.isRef {d : D} {neg : Bool} (h : ∀ F v, d.p F v → v ≠ .non) (k : K (fBl neg) O) : Op2 b (fun x y H Q => y = .non ∧ Q (.bl (if neg then !decide (x = .non) else decide (x = .non))) H) (.fr d) (fV .non) O K := fun w x y e o p q Q n => by
  refine ⟨q, ?_⟩
  rw [decide_eq_false (h _ _ p)]
  exact n _ O _ w k (Grow.refl w) o (by cases neg <;> rfl)
theorem Op2.isN {d : D} (h : ∀ F v, d.p F v → v ≠ .non) (k : K (fBl false) O) : Op2 b (fun x y H Q => y = .non ∧ Q (.bl (decide (x = .non))) H) (.fr d) (fV .non) O K := fun w x y e o p q Q n => by
  refine ⟨q, ?_⟩
  rw [decide_eq_false (h _ _ p)]
  exact n _ O _ w k (Grow.refl w) o rfl
theorem WalkD.zipT {w : Wd} {a c : Addr} {ds es : List D} {vs us : List V} (h : w.F a = some (.tup vs)) (p : LsP w.F ds vs) (h' : w.F c = some (.tup us)) (p' : LsP w.F es us) : WalkD w (RZ.ItzT KF a c) ((ds.zip es).map fun z => pr z.1 z.2) := by
  have at1 : ∀ {w2 : Wd} {O : Ow}, Grow w w2 → WOk w2 O → SqT KF w2.H a vs := fun g o => SqT.of (o.sub _ _ (g.F _ _ h))
  have at2 : ∀ {w2 : Wd} {O : Ow}, Grow w w2 → WOk w2 O → SqT KF w2.H c us := fun g o => SqT.of (o.sub _ _ (g.F _ _ h'))
  refine ⟨fun i w2 O l g o => ?_, fun w2 O g o => ⟨vs, us, at1 g o, at2 g o, ?_⟩, fun i w2 O x H' d e g o y => ?_⟩
  · rw [List.length_map, List.length_zip] at l
    obtain ⟨v1, r1, _⟩ := p.get (List.getElem?_eq_getElem (show i < ds.length by omega))
    obtain ⟨v2, s1, _⟩ := p'.get (List.getElem?_eq_getElem (show i < es.length by omega))
    exact ⟨vs, us, v1, v2, at1 g o, at2 g o, r1, s1⟩
  · rw [List.length_map, List.length_zip, p.len, p'.len]; omega
  · have l : i < min ds.length es.length := by have := (List.getElem?_eq_some_iff.mp e).1; simpa using this
    obtain ⟨T, x1, y1, rfl, hT, rfl, q1, q2⟩ := y
    rw [List.getElem?_map, (List.getElem?_zip_eq_some (z := (ds[i]'(by omega), es[i]'(by omega)))).mpr ⟨List.getElem?_eq_getElem _, List.getElem?_eq_getElem _⟩] at e
    have e : some (pr (ds[i]'(by omega)) (es[i]'(by omega))) = some d := e
    injection e with e
    subst e
    obtain ⟨v1, r1, r2⟩ := (p.mono g.F).get (List.getElem?_eq_getElem (show i < ds.length by omega))
    obtain ⟨v2, s1, s2⟩ := (p'.mono g.F).get (List.getElem?_eq_getElem (show i < es.length by omega))
    have q1 := q1 vs (at1 g o)
    have q2 := q2 us (at2 g o)
    rw [r1] at q1; injection q1 with q1; subst q1
    rw [s1] at q2; injection q2 with q2; subst q2
    exact pair_new o hT r2 s2
theorem EvI.zipT {ta : TA} {K : List D → Ow → Prop} (h : EvA b ta en O fun ds O1 => ∃ es gs, ds = [.fr (dTup es), .fr (dTup gs)] ∧ K ((es.zip gs).map fun z => pr z.1 z.2) O1) : EvI b (RZ.iZipA KF ta) en O K := fun w σ e o en' R q => h w σ e o en' _ fun ds O1 xs w1 k1 e1 o1 p1 => by
  obtain ⟨es, gs, rfl, k⟩ := k1
  obtain ⟨v, u, rfl, ⟨a, vs, rfl, f, p⟩, ⟨c, us, rfl, f', p'⟩⟩ := p1.two
  exact ⟨a, c, vs, us, rfl, .inr ⟨SqT.of (o1.sub _ _ f), SqT.of (o1.sub _ _ f'), q _ _ O1 w1 k e1 o1 (.zipT f p f' p')⟩⟩
end
end DL

namespace K41
open PySem L2 LB PyProof.Rows DL
abbrev s_LineDD_initDD : Stmt := inClass (top 41) 1
theorem sc_LineDD_initDD : FnScope ["self", "values", "cells", "held", "at", "cell"] ["self", "values", "cells"] (defScope s_LineDD_initDD) := ⟨rfl, rfl, rfl, by decide +kernel, rfl, by decide +kernel, by decide +kernel⟩
abbrev s_LineDD_iterDD : Stmt := inClass (top 41) 10
theorem sc_LineDD_iterDD : FnScope ["self"] ["self"] (defScope s_LineDD_iterDD) := ⟨rfl, rfl, rfl, by decide +kernel, rfl, by decide +kernel, by decide +kernel⟩
abbrev s_same_form : Stmt := top 43
theorem sc_same_form : FnScope ["one", "other"] ["one", "other"] (defScope s_same_form) := ⟨rfl, rfl, rfl, by decide +kernel, rfl, by decide +kernel, by decide +kernel⟩
abbrev s_LineDD_orDD : Stmt := inClass (top 41) 17
theorem sc_LineDD_orDD : FnScope ["self", "other", "mine", "their"] ["self", "other"] (defScope s_LineDD_orDD) := ⟨rfl, rfl, rfl, by decide +kernel, rfl, by decide +kernel, by decide +kernel⟩
abbrev s_LineDD_getitemDD : Stmt := inClass (top 41) 11
theorem sc_LineDD_getitemDD : FnScope ["self", "at"] ["self", "at"] (defScope s_LineDD_getitemDD) := ⟨rfl, rfl, rfl, by decide +kernel, rfl, by decide +kernel, by decide +kernel⟩
local macro_rules | `(tactic| walk_at "dl") => `(tactic| repeat (first
  | (with_reducible show Ev _ (tVar _) _ _ _; refine Ev.var rfl ?_) | with_reducible refine' Ev.con ?_ | with_reducible refine' EvA.cons ?_ | with_reducible refine' EvA.nil ?_
  | with_reducible refine' Ev.op ?_ | with_reducible refine' Ev.un ?_ | with_reducible refine' Ev.cb ?_ | with_reducible refine' Ev.call ?_ | with_reducible refine' Ev.meth ?_ | with_reducible refine' Ev.prop ?_
  | with_reducible refine' EvT.tB ?_ | with_reducible refine' EvT.test ?_ | with_reducible refine' EvT.and ?_ | with_reducible refine' EvT.or ?_ | with_reducible refine' EvT.not ?_
  | with_reducible refine' Ev.andV ?_ | with_reducible refine' Ev.orV ?_ | with_reducible refine' Ev.notV ?_ | with_reducible refine' Ev.ifE ?_ | with_reducible refine' Ev.fld ?_ | with_reducible refine' Ev.sl ?_ | with_reducible refine' Ev.m1 ?_ | with_reducible refine' Ev.bm ?_ | with_reducible refine' Ev.bm0 ?_
  | with_reducible refine' EvS.seq ?_ | with_reducible refine' EvS.next ?_ | with_reducible refine' EvS.ite ?_ | with_reducible refine' EvS.ret ?_ | with_reducible refine' EvS.set ?_ | with_reducible refine' EvS.drp ?_ | with_reducible refine' EvS.par ?_ | with_reducible refine' EvS.asg ?_ | with_reducible refine' EvG.name ?_
  | with_reducible refine' Op2.i0 ?_ | with_reducible refine' Op1.i ?_ | with_reducible refine' EvT.yes ?_ | with_reducible refine' EvO.no ?_ | with_reducible refine' EvO.part ?_))

theorem look_a {x y : D} : ([("alphabet", x), ("held", y)] : List (Str × D)).lookup (("alphabet" : Str)) = some x := by rw [List.lookup_cons]; simp
theorem look_h {x y : D} : ([("alphabet", x), ("held", y)] : List (Str × D)).lookup (("held" : Str)) = some y := by
  rw [List.lookup_cons, show (("held" : Str) == ("alphabet" : Str)) = false by decide +kernel, List.lookup_cons]; simp
theorem look_n {x y : D} {m : Str} (h1 : ¬ m = "alphabet") (h2 : ¬ m = "held") : ([("alphabet", x), ("held", y)] : List (Str × D)).lookup m = none := by
  rw [List.lookup_cons, show (m == ("alphabet" : Str)) = false by simpa using h1, List.lookup_cons, show (m == ("held" : Str)) = false by simpa using h2]; rfl
/-- the class of lines -/
structure LF (K : PySem.W.Frag) (CL : Addr) : Prop where
  cl : Cls K CL
  la : NoAttr K CL "alphabet"
  lh : NoAttr K CL "held"
  longest : ∃ mc u, ClX.CRead K CL mc ∧ ClX.CVal K CL mc "LONGEST" (.int 4001) u
def lineFs (CV CC : Addr) (z : Str) (ns : List Nat) : List (Str × D) := [("alphabet", dVals CV CC z), ("held", dTup (ns.map (dCell CV CC z)))]
def dLine (CV CC CL : Addr) (z : Str) (ns : List Nat) : D := dIns CL (lineFs CV CC z ns)
/-- the numbers of a line over s letters -/
def Row (s : Nat) (ns : List Nat) : Prop := ∀ n ∈ ns, n ≠ 0 ∧ n < 2 ^ s
/-- a thing that stands for the cell of this number -/
def Like (CV CC : Addr) (z : Str) (d : D) (n : Nat) : Prop := d = dCell CV CC z n ∨ ∃ ks, d = dV (.str (atL z ks)) ∧ ks.Nodup ∧ ks.length ≤ z.cps.size ∧ (∀ k ∈ ks, k < z.cps.size) ∧ sumP ks = n
section
variable {K : PySem.W.Frag} {CV CC CL : Addr} {O : Ow} {z : Str} {ns : List Nat} {n : Nat}
theorem dLine.alp (LL : LF K CL) : FldD K "alphabet" O (.fr (dLine CV CC CL z ns)) (dVals CV CC z) := FldD.ins LL.cl LL.la look_a
theorem dLine.held (LL : LF K CL) : FldD K "held" O (.fr (dLine CV CC CL z ns)) (dTup (ns.map (dCell CV CC z))) := FldD.ins LL.cl LL.lh look_h
theorem dLine.no {m : Str} (h1 : ¬ m = "alphabet") (h2 : ¬ m = "held") : InsNo CL m O (.fr (dLine CV CC CL z ns)) := fun F v ⟨a, dx, gs, e, f, p⟩ => ⟨a, dx, gs, e, f, by
  rcases p.look m with ⟨_, q⟩ | ⟨d, u, q, _⟩
  · exact q
  · rw [show (lineFs CV CC z ns).lookup m = none from look_n h1 h2] at q; cases q⟩
theorem dLine.ins : IsIns CL O (.fr (dLine CV CC CL z ns)) := IsIns.dins
theorem dLine.tup : TupF CL "held" (dLine CV CC CL z ns) (ns.map (dCell CV CC z)) := fun F v ⟨a, dx, gs, e, f, p⟩ => by
  rcases p.look (("held" : Str)) with ⟨q, _⟩ | ⟨d, u, q, q2, pu⟩
  · rw [show (lineFs CV CC z ns).lookup (("held" : Str)) = _ from look_h] at q; cases q
  · rw [show (lineFs CV CC z ns).lookup (("held" : Str)) = _ from look_h] at q
    injection q with q
    subst q
    obtain ⟨t, vs, rfl, ft, pl⟩ := pu
    exact ⟨a, dx, gs, t, vs, e, f, q2, ft, pl⟩
theorem putD_new {x : D} {m : Str} : putD m x [] = [(m, x)] := rfl
theorem putD_ah {x y : D} : putD "held" y [("alphabet", x)] = ([("alphabet", x), ("held", y)] : List (Str × D)) := by
  unfold putD
  rw [if_neg (by decide +kernel)]
  rfl
theorem dCell.nn : ∀ F v, (dCell CV CC z n).p F v → v ≠ .non := fun F v ⟨c, p, cs, e, _⟩ => by subst e; intro h; cases h
theorem cellT_ne (gz : LB.Good z) (h0 : n ≠ 0) (h : n < 2 ^ z.cps.size) : (((cellT z n).length : Int) != 0) = true := by
  have e := bits_sum z.cps.size gz.hi n h
  have : (cellT z n).length ≠ 0 := by
    rw [cellT_at, atL_len]
    intro q
    rw [List.length_eq_zero_iff.mp q] at e
    exact h0 e.symm
  simpa using this
end
section
variable {P : Program} {w : World} {K : PySem.W.Frag} {mg : Str → Option Value} {base : Heap} {CV CC CL : Addr}
/-- Line.__init__ -/
def fsLineI (CV CC CL : Addr) : FS := fun ds O Q _ => ∃ (k : Nat) (z : Str) (ps : List (D × Nat)), ds = [.ow k, .fr (dVals CV CC z), .fr (dLst (ps.map (·.1)))] ∧ O[k]? = some (some (oIns CL [])) ∧ LB.Good z ∧ 1 ≤ ps.length ∧ ps.length ≤ 4001 ∧
  Row z.cps.size (ps.map (·.2)) ∧ (∀ p ∈ ps, Like CV CC z p.1 p.2) ∧ Q (fV .non) (O.set k (some (oIns CL (lineFs CV CC z (ps.map (·.2))))))
theorem okd_lineI {f : Addr} {fd : FuncData} (F : Fun K "__init__" "Line.__init__" s_LineDD_initDD f fd) (B : Blt mg) (VV : VF K CV CC) (LL : LF K CL) (gL : mg "Line" = some (.ref CL)) (D_is_row : HasFn P w K mg base CX0 1 "is_row" ["value", "fewest", "most"] (spD fsRow))
    (D_cell_from : HasFn P w K mg base CX0 4 "cell_from" ["values", "thing"] (spD (fsCF CV CC))) : FnOk P w K mg base CX0 5 f fd ["self", "values", "cells"] (spD (fsLineI CV CC CL)) := by
  refine okD F sc_LineDD_initDD (fun ds O Q KX h => ?_) (fun cdv A outer s H E hr b ds O Q KX h _ => ?_)
  · obtain ⟨k, z, ps, rfl, _⟩ := h; rfl
  · obtain ⟨k, z, ps, rfl, hk, gz, l1, l2, row, like, kq⟩ := h
    have big : 4001 ≤ sizeLine := by decide
    obtain ⟨mc, u, cr, cv⟩ := LL.longest
    refine ⟨_, (pss_cons (ps_if (pt_not (pt_val (pe_fn D_is_row (hr.mono (by decide)) pass0 (pa_cons (pv 2) (pa_cons pe_int (pa_cons (ClX.pe_cval (pe_glob (v := .ref _) rfl gL rfl) rfl) pa_nil)))))) (pss_one ps_never) pss_nil)
      (pss_cons (ps_setLc (i := 3) rfl sc_LineDD_initDD.nd rfl rfl (sw_true rfl rfl rfl (by decide +kernel)) (pi_list (pv 2)) (blkOk_by (own := [("cell", 5)]) (N := ["self", "values", "cells", "held", "at", "cell"]) (sc := defScope s_LineDD_initDD) (by decide +kernel)) (fun _ _ _ _ _ => (pg_name (i := 5) sc_LineDD_initDD.nd rfl (.inl rfl))) (fun _ _ _ _ _ => pts_nil) (fun _ _ _ _ _ => (pe_fn D_cell_from (hr.mono (by decide)) pass0 (pa_cons (pv 1) (pa_cons (pv 5) pa_nil)))))
      (pss_cons (ps_for PassesOwn.never rfl (pi_enum (by rfl) B.n_enumerate (pa_cons (pv 3) pa_nil)) (pg_tup (n := 2) rfl (pgs_cons (pg_name (i := 4) sc_LineDD_initDD.nd rfl (.inl rfl)) (pgs_cons (pg_name (i := 5) sc_LineDD_initDD.nd rfl (.inl rfl)) pgs_nil))) (pss_one (ps_if (PW.pt (pw_or (pt_cmpR op_isN (pv 5) pe_non (nomark _)) (pw_or1 (pt_not (pt_truth (pe_fld (pv 5) rfl) (by intro _; rfl)))))) (pss_one ps_never) pss_nil)))
      (pss_cons (ps_fld (pv 0) (pv 1) rfl)
      (pss_one (ps_fld (pv 0) (pe_callTy call_tuple_of (by rfl) B.n_tuple (by decide +kernel) (pa_cons (pv 3) pa_nil)) rfl)))))), ?_⟩
    walk_at "dl"
    refine Ev.cval ?_
    walk_at "dl"
    refine ⟨CL, mc, _, u, rfl, cr, cv, ?_⟩
    walk_at "dl"
    refine ⟨_, _, _, _, rfl, .inl .fr, _, rfl, ?_⟩
    rw [decide_eq_true (show (1 : Int) ≤ ((ps.map (·.1)).length : Int) by rw [List.length_map]; omega), decide_eq_true (show (((ps.map (·.1)).length : Nat) : Int) ≤ 4001 by rw [List.length_map]; omega)]
    refine ⟨fun c => (nomatch c), fun _ => ?_⟩
    walk_at "dl"
    refine Ev.lc (α := D × Nat) (Tame.name (by decide)) (fun p => dCell CV CC z p.2) (EvI.list (Ev.var rfl ⟨_, rfl, ps, (·.1), rfl, by omega, fun p hp => EvG.name ⟨rfl, ?_⟩, ?_⟩))
    · walk_at "dl"
      obtain ⟨h0, hlt⟩ := row p.2 (List.mem_map_of_mem hp)
      exact ⟨z, p.2, p.1, rfl, gz, hlt, like p hp, rfl, rfl⟩
    · walk_at "dl"
      refine EvS.for_ (EvI.enum ?_)
      walk_at "dl"
      refine ⟨_, rfl, fun _ en' O' => O' = O ∧ ∃ x y, en' = [some (.ow k), some (.fr (dVals CV CC z)), some (.fr (dLst (ps.map (·.1)))), some (.fr (dLst (ps.map fun p => dCell CV CC z p.2))), x, y], ⟨rfl, _, _, rfl⟩, fun i d en2 O2 hd hI => ?_, fun en2 O2 hI => ?_⟩
      · obtain ⟨rfl, x, y, rfl⟩ := hI
        rw [List.getElem?_mapIdx, List.getElem?_map] at hd
        cases hp : ps[i]? with
        | none => rw [hp] at hd; cases hd
        | some p =>
          rw [hp] at hd
          have hd : pr (dV (.int (i : Nat))) (dCell CV CC z p.2) = d := by simpa using hd
          subst hd
          obtain ⟨h0, hlt⟩ := row p.2 (List.mem_map_of_mem (List.mem_of_getElem? hp))
          refine EvG.pair ?_
          walk_at "dl"
          refine Op2.isN dCell.nn ⟨_, rfl, fun _ => ?_, fun c => (nomatch c)⟩
          walk_at "dl"
          refine EvT.truth ?_
          walk_at "dl"
          refine ⟨_, dCell.let VV, _, TruD.str (Nat.le_trans (cellT_len gz) (by decide)), ?_⟩
          rw [cellT_ne gz h0 hlt]
          refine ⟨fun c => (nomatch c), fun _ => EvS.next ⟨rfl, _, _, rfl⟩⟩
      · obtain ⟨rfl, x, y, rfl⟩ := hI
        refine EvS.seq (EvS.fld ?_)
        walk_at "dl"
        refine ⟨_, rfl, ?_⟩
        walk_at "dl"
        refine ⟨k, CL, [], rfl, hk, LL.cl, LL.la, by decide, ?_⟩
        refine EvS.fld ?_
        walk_at "dl"
        refine OpN.tuple (.inl .fr) ⟨_, rfl, ?_⟩
        walk_at "dl"
        refine ⟨k, CL, _, rfl, ow_set _ hk, LL.cl, LL.lh, by show 1 < 1000; decide, ?_⟩
        rw [List.set_set]
        refine cast ?_ kq
        congr 3
        unfold lineFs
        rw [List.map_map]
        rw [putD_new, putD_ah]
        rfl
end
end K41

namespace K41
open PySem L2 LB PyProof.Rows DL

local macro_rules | `(tactic| walk_at "dl") => `(tactic| repeat (first
  | (with_reducible show Ev _ (tVar _) _ _ _; refine Ev.var rfl ?_) | with_reducible refine' Ev.con ?_ | with_reducible refine' EvA.cons ?_ | with_reducible refine' EvA.nil ?_
  | with_reducible refine' Ev.op ?_ | with_reducible refine' Ev.un ?_ | with_reducible refine' Ev.cb ?_ | with_reducible refine' Ev.call ?_ | with_reducible refine' Ev.meth ?_ | with_reducible refine' Ev.prop ?_
  | with_reducible refine' EvT.tB ?_ | with_reducible refine' EvT.test ?_ | with_reducible refine' EvT.and ?_ | with_reducible refine' EvT.or ?_ | with_reducible refine' EvT.not ?_
  | with_reducible refine' Ev.andV ?_ | with_reducible refine' Ev.orV ?_ | with_reducible refine' Ev.notV ?_ | with_reducible refine' Ev.ifE ?_ | with_reducible refine' Ev.fld ?_ | with_reducible refine' Ev.sl ?_ | with_reducible refine' Ev.m1 ?_ | with_reducible refine' Ev.bm ?_ | with_reducible refine' Ev.bm0 ?_
  | with_reducible refine' EvS.seq ?_ | with_reducible refine' EvS.next ?_ | with_reducible refine' EvS.ite ?_ | with_reducible refine' EvS.ret ?_ | with_reducible refine' EvS.set ?_ | with_reducible refine' EvS.drp ?_ | with_reducible refine' EvS.par ?_ | with_reducible refine' EvS.asg ?_ | with_reducible refine' EvG.name ?_
  | with_reducible refine' Op2.i0 ?_ | with_reducible refine' Op1.i ?_ | with_reducible refine' EvT.yes ?_ | with_reducible refine' EvO.no ?_ | with_reducible refine' EvO.part ?_))

section
variable {P : Program} {w : World} {K : PySem.W.Frag} {mg : Str → Option Value} {base : Heap} {CV CC CL : Addr}
abbrev dNs (ns : List Nat) : D := dLst (ns.map fun n => dV (.int ((n : Nat) : Int)))
/-- numbers_of a list of cells, or of a line -/
def fsNums (CV CC : Addr) : FS := fun ds O Q _ => ∃ z ns, ds = [.fr (dLst (ns.map (dCell CV CC z)))] ∧ ns.length ≤ 4001 ∧ Q (.fr (dNs ns)) O
def fsNumsL (CV CC CL : Addr) : FS := fun ds O Q _ => ∃ z ns, ds = [.fr (dLine CV CC CL z ns)] ∧ ns.length ≤ 4001 ∧ Q (.fr (dNs ns)) O
theorem okd_nums {f : Addr} {fd : FuncData} (F : Fun K "numbers_of" "numbers_of" s_numbers_of f fd) (VV : VF K CV CC) : FnOk P w K mg base CX0 1 f fd ["cells"] (spD (fsNums CV CC)) := by
  refine okD F sc_numbers_of (fun ds O Q KX h => ?_) (fun cdv A outer s H E hr b ds O Q KX h _ => ?_)
  · obtain ⟨z, ns, rfl, _⟩ := h; rfl
  · obtain ⟨z, ns, rfl, l, k⟩ := h
    have big : 4001 ≤ sizeLine := by decide
    refine ⟨_, (pss_one (ps_ret (pe_lc rfl sc_numbers_of.nd (pi_list (pv 0)) (blkOk_by (own := [("cell", 1)]) (N := ["cells", "cell"]) (sc := defScope s_numbers_of) (by decide +kernel)) (fun _ _ _ _ _ => (pg_name (i := 1) sc_numbers_of.nd rfl (.inl rfl))) (fun _ _ _ _ _ => pts_nil) (fun _ _ _ _ _ => (pe_fldB (pv 1) rfl))))), ?_⟩
    walk_at "dl"
    refine Ev.lc (α := Nat) (Tame.name (by decide)) (fun n => dV (.int ((n : Nat) : Int))) (EvI.list (Ev.var rfl ⟨_, rfl, ns, dCell CV CC z, rfl, by omega, fun p hp => EvG.name ⟨rfl, ?_⟩, k⟩))
    walk_at "dl"
    exact ⟨_, dCell.num VV, rfl, rfl⟩
theorem okd_numsL {f : Addr} {fd : FuncData} (F : Fun K "numbers_of" "numbers_of" s_numbers_of f fd) (VV : VF K CV CC) (D_iter : HasMeS P w K mg base CX0 1 CL "__iter__" ["self"] (spIterT CL "held")) : FnOk P w K mg base CX0 2 f fd ["cells"] (spD (fsNumsL CV CC CL)) := by
  refine okD F sc_numbers_of (fun ds O Q KX h => ?_) (fun cdv A outer s H E hr b ds O Q KX h _ => ?_)
  · obtain ⟨z, ns, rfl, _⟩ := h; rfl
  · obtain ⟨z, ns, rfl, l, k⟩ := h
    have big : 4001 ≤ sizeLine := by decide
    refine ⟨_, (pss_one (ps_ret (pe_lc rfl sc_numbers_of.nd (pi_ownT D_iter (hr.mono (by decide)) (pv 0)) (blkOk_by (own := [("cell", 1)]) (N := ["cells", "cell"]) (sc := defScope s_numbers_of) (by decide +kernel)) (fun _ _ _ _ _ => (pg_name (i := 1) sc_numbers_of.nd rfl (.inl rfl))) (fun _ _ _ _ _ => pts_nil) (fun _ _ _ _ _ => (pe_fldB (pv 1) rfl))))), ?_⟩
    walk_at "dl"
    refine Ev.lc (α := Nat) (Tame.name (by decide)) (fun n => dV (.int ((n : Nat) : Int))) (EvI.ownT (Ev.var rfl ⟨_, _, rfl, dLine.tup, ns, dCell CV CC z, rfl, by omega, fun p hp => EvG.name ⟨rfl, ?_⟩, k⟩))
    walk_at "dl"
    exact ⟨_, dCell.num VV, rfl, rfl⟩
theorem oks_iter {f : Addr} {fd : FuncData} (F : Fun K "__iter__" "Line.__iter__" s_LineDD_iterDD f fd) (n_iter : mg "iter" = none) (LL : LF K CL) : FnS P w K mg base CX0 1 f fd ["self"] (spIterT CL "held") := by
  refine okS F sc_LineDD_iterDD (fun s vs H Q E h => ?_) (fun cdv A outer s H vs Q E hr h => ?_)
  · obtain ⟨a, t, dx, fs, zs, rfl, _⟩ := h; rfl
  · obtain ⟨a, t, dx, fs, zs, rfl, ha, hl, ht, k⟩ := h
    refine ⟨_, (pss_one (ps_ret (pe_callB call_iterT (by rfl) n_iter (by decide +kernel) (pa_cons (pe_fld (pv 0) rfl) pa_nil)))), ?_⟩
    refine ⟨.ref a, rfl, a, CL, dx, fs, .ref t, rfl, ha, LL.cl, LL.lh, hl, ?_⟩
    exact ⟨t, zs, rfl, .of ht, fun it h1 h2 => k it h1 h2⟩
/-- same_form of lines of one form -/
def fsForm (CV CC CL : Addr) : FS := fun ds O Q _ => ∃ z ns ms, ds = [.fr (dLine CV CC CL z ns), .fr (dLine CV CC CL z ms)] ∧ ns.length = ms.length ∧ Q (fV .non) O
theorem okd_form {f : Addr} {fd : FuncData} (F : Fun K "same_form" "same_form" s_same_form f fd) (B : Blt mg) (LL : LF K CL) (D_same_values : HasFn P w K mg base CX0 3 "same_values" ["one", "other"] (spD (fsSame K CV CC))) : FnOk P w K mg base CX0 4 f fd ["one", "other"] (spD (fsForm CV CC CL)) := by
  refine okD F sc_same_form (fun ds O Q KX h => ?_) (fun cdv A outer s H E hr b ds O Q KX h _ => ?_)
  · obtain ⟨z, ns, ms, rfl, _⟩ := h; rfl
  · obtain ⟨z, ns, ms, rfl, l, k⟩ := h
    refine ⟨_, (pss_cons (ps_expr (pe_fn D_same_values (hr.mono (by decide)) pass0 (pa_cons (pv 0) (pa_cons (pv 1) pa_nil))))
      (pss_one (ps_if (pt_cmpR op_ne (pe_callB call_len (by rfl) B.n_len (by decide +kernel) (pa_cons (pe_fld (pv 0) rfl) pa_nil)) (pe_callB call_len (by rfl) B.n_len (by decide +kernel) (pa_cons (pe_fld (pv 1) rfl) pa_nil)) (nomark _)) (pss_one ps_never) pss_nil))), ?_⟩
    walk_at "dl"
    refine ⟨_, _, z, rfl, dLine.alp LL, dLine.alp LL, ?_⟩
    walk_at "dl"
    refine ⟨_, dLine.held LL, ?_⟩
    walk_at "dl"
    refine OpN.lenT ?_
    walk_at "dl"
    refine ⟨_, dLine.held LL, ?_⟩
    walk_at "dl"
    refine OpN.lenT (Op2.ne rfl ⟨_, rfl, fun c => ?_, fun _ => EvS.next k⟩)
    rw [List.length_map, List.length_map, l] at c
    simp at c
/-- one | other, of lines -/
def orR (ns ms : List Nat) : List Nat := (ns.zip ms).map fun p => p.1 ||| p.2
def fsOrL (CV CC CL : Addr) : FS := fun ds O Q _ => ∃ z ns ms, ds = [.fr (dLine CV CC CL z ns), .fr (dLine CV CC CL z ms)] ∧ LB.Good z ∧ Row z.cps.size ns ∧ Row z.cps.size ms ∧ ns.length = ms.length ∧ 1 ≤ ns.length ∧ ns.length ≤ 4001 ∧ Q (.fr (dLine CV CC CL z (orR ns ms))) O
theorem Row.or {s : Nat} {ns ms : List Nat} (h : Row s ns) (k : Row s ms) : Row s (orR ns ms) := fun n hn => by
  unfold orR at hn
  obtain ⟨⟨x, y⟩, m, rfl⟩ := List.mem_map.mp hn
  obtain ⟨m1, m2⟩ := List.of_mem_zip m
  obtain ⟨a1, a2⟩ := h x m1
  obtain ⟨b1, b2⟩ := k y m2
  refine ⟨fun e => a1 ?_, Nat.or_lt_two_pow a2 b2⟩
  have := Nat.left_le_or (n := x) (m := y)
  simp only at e
  omega
theorem okd_orL {f : Addr} {fd : FuncData} (F : Fun K "__or__" "Line.__or__" s_LineDD_orDD f fd) (n_zip : mg "zip" = none) (sfC : PySem.W.selfFirst K CC = true) (VV : VF K CV CC) (LL : LF K CL) (D_same_form : HasFn P w K mg base CX0 4 "same_form" ["one", "other"] (spD (fsForm CV CC CL)))
    (D_orC : HasMe P w K mg base CX0 4 CC "__or__" ["self", "other"] (spD (fsOrC CV CC))) (M_Line : HasMk P w K mg base CX0 5 CL "Line" ["self", "values", "cells"] (spD (fsLineI CV CC CL))) : FnOk P w K mg base CX0 7 f fd ["self", "other"] (spD (fsOrL CV CC CL)) := by
  refine okD F sc_LineDD_orDD (fun ds O Q KX h => ?_) (fun cdv A outer s H E hr b ds O Q KX h _ => ?_)
  · obtain ⟨z, ns, ms, rfl, _⟩ := h; rfl
  · obtain ⟨z, ns, ms, rfl, gz, r1, r2, l, l1, l2, k⟩ := h
    have big : 4001 ≤ sizeLine := by decide
    refine ⟨_, (pss_cons (ps_expr (pe_fn D_same_form (hr.mono (by decide)) pass0 (pa_cons (pv 0) (pa_cons (pv 1) pa_nil))))
      (pss_one (ps_ret (pe_mk M_Line (hr.mono (by decide)) pass0 (pa_cons (pe_fld (pv 0) rfl) (pa_cons (pe_lc rfl sc_LineDD_orDD.nd (RZ.pi_zipA (by rfl) n_zip (pa_cons (pe_fld (pv 0) rfl) (pa_cons (pe_fld (pv 1) rfl) pa_nil))) (blkOk_by (own := [("mine", 2), ("their", 3)]) (N := ["self", "other", "mine", "their"]) (sc := defScope s_LineDD_orDD) (by decide +kernel)) (fun _ _ _ _ _ => (pg_tupB (n := 2) rfl (pgs_cons (pg_name (i := 2) sc_LineDD_orDD.nd rfl (.inl rfl)) (pgs_cons (pg_name (i := 3) sc_LineDD_orDD.nd rfl (.inl rfl)) pgs_nil)))) (fun _ _ _ _ _ => pts_nil) (fun _ _ _ _ _ => (pe_op (op_orMe D_orC (hr.mono (by decide)) pass0 sfC) (pv 2) (pv 3)))) pa_nil)))))), ?_⟩
    walk_at "dl"
    refine ⟨z, ns, ms, rfl, l, ?_⟩
    walk_at "dl"
    refine Ev.makeF ?_
    walk_at "dl"
    refine ⟨_, dLine.alp LL, ?_⟩
    refine EvA.cons (Ev.lc (α := Nat × Nat) (Tame.tup (by decide) (by decide)) (fun p => dCell CV CC z (p.1 ||| p.2)) (EvI.zipT ?_))
    walk_at "dl"
    refine ⟨_, dLine.held LL, ?_⟩
    walk_at "dl"
    refine ⟨_, dLine.held LL, ?_⟩
    walk_at "dl"
    refine ⟨_, _, rfl, ns.zip ms, fun p => pr (dCell CV CC z p.1) (dCell CV CC z p.2), ?_, ?_, fun p hp => EvG.pair ⟨rfl, ?_⟩, ?_⟩
    · rw [List.zip_map, List.map_map]; rfl
    · rw [List.length_zip]; omega
    · walk_at "dl"
      obtain ⟨m1, m2⟩ := List.of_mem_zip hp
      refine Op2.own dCell.ins dCell.ins ⟨z, p.1, p.2, rfl, gz, (r1 _ m1).2, (r2 _ m2).2, rfl, rfl⟩
    · walk_at "dl"
      refine ⟨O.length, z, (ns.zip ms).map fun p => (dCell CV CC z (p.1 ||| p.2), p.1 ||| p.2), ?_, ow_last, gz, ?_, ?_, ?_, fun p hp => ?_, rfl, _, ow_lastset, ?_⟩
      · rw [List.map_map]; rfl
      · rw [List.length_map, List.length_zip]; omega
      · rw [List.length_map, List.length_zip]; omega
      · rw [List.map_map]; exact r1.or r2
      · obtain ⟨q, _, rfl⟩ := List.mem_map.mp hp
        exact .inl rfl
      · rw [List.map_map]; exact k
/-- one.within(other), of lines -/
def subR (ns ms : List Nat) : Bool := (ns.zip ms).all fun p => sub p.1 p.2
def fsWithL (CV CC CL : Addr) : FS := fun ds O Q _ => ∃ z ns ms, ds = [.fr (dLine CV CC CL z ns), .fr (dLine CV CC CL z ms)] ∧ ns.length = ms.length ∧ ns.length ≤ 4001 ∧ Q (fBl (subR ns ms)) O
/-- line[at] -/
def fsAtL (CV CC CL : Addr) : FS := fun ds O Q _ => ∃ z ns i n, ds = [.fr (dLine CV CC CL z ns), fInt (i : Nat)] ∧ ns[i]? = some n ∧ Q (.fr (dCell CV CC z n)) O
theorem okd_atL {f : Addr} {fd : FuncData} (F : Fun K "__getitem__" "Line.__getitem__" s_LineDD_getitemDD f fd) (B : Blt mg) (LL : LF K CL) (D_is_from : HasFn P w K mg base CX0 2 "is_from" ["value", "low", "high"] (spD fsFrom)) : FnOk P w K mg base CX0 3 f fd ["self", "at"] (spD (fsAtL CV CC CL)) := by
  refine okD F sc_LineDD_getitemDD (fun ds O Q KX h => ?_) (fun cdv A outer s H E hr b ds O Q KX h _ => ?_)
  · obtain ⟨z, ns, i, n, rfl, _⟩ := h; rfl
  · obtain ⟨z, ns, i, n, rfl, hi, k⟩ := h
    refine ⟨_, (pss_cons (ps_if (pt_not (pt_val (pe_fn D_is_from (hr.mono (by decide)) pass0 (pa_cons (pv 1) (pa_cons pe_int (pa_cons (pe_op op_sub (pe_callB call_len (by rfl) B.n_len (by decide +kernel) (pa_cons (pe_fld (pv 0) rfl) pa_nil)) pe_int) pa_nil)))))) (pss_one ps_never) pss_nil)
      (pss_one (ps_ret (pe_ix ix_tup (pe_fld (pv 0) rfl) (pv 1) (fun _ _ => rfl))))), ?_⟩
    walk_at "dl"
    refine ⟨_, dLine.held LL, ?_⟩
    walk_at "dl"
    refine OpN.lenT ?_
    walk_at "dl"
    refine ⟨_, _, _, rfl, _, rfl, ?_⟩
    have l : i < ns.length := (List.getElem?_eq_some_iff.mp hi).1
    rw [decide_eq_true (show (0 : Int) ≤ (i : Int) by omega), decide_eq_true (show (i : Int) ≤ (((ns.map (dCell CV CC z)).length : Nat) : Int) - 1 by rw [List.length_map]; omega)]
    refine ⟨fun c => (nomatch c), fun _ => EvS.next ?_⟩
    walk_at "dl"
    refine ⟨_, dLine.held LL, ?_⟩
    walk_at "dl"
    exact Op2.ixT (atI_nat (by rw [List.getElem?_map, hi]; rfl)) k
/-- letter in cell -/
def fsInC (CV CC : Addr) : FS := fun ds O Q _ => ∃ z n k, ds = [.fr (dCell CV CC z n), fStr ⟨#[z.cps.getD k 0]⟩] ∧ LB.Good z ∧ k < z.cps.size ∧ Q (fBl (n.testBit k)) O
def fsLetC : FS := fun ds O Q _ => ∃ z n k, ds = [fStr (cellT z n), fStr ⟨#[z.cps.getD k 0]⟩] ∧ LB.Good z ∧ k < z.cps.size ∧ Q (fBl (n.testBit k)) O
theorem getD_ne {z : Str} (nd : z.cps.toList.Nodup) {j k : Nat} (hj : j < z.cps.size) (hk : k < z.cps.size) (l : j < k) : z.cps.getD j 0 ≠ z.cps.getD k 0 := by
  have a := getD_at hj
  have c := getD_at hk
  have hj' : j < z.cps.toList.length := by simpa using hj
  have hk' : k < z.cps.toList.length := by simpa using hk
  rw [List.getElem?_eq_getElem hj'] at a
  rw [List.getElem?_eq_getElem hk'] at c
  rw [← Option.some.inj a, ← Option.some.inj c]
  exact List.pairwise_iff_getElem.mp nd j k hj' hk' l
theorem getD_inj {z : Str} (nd : z.cps.toList.Nodup) {j k : Nat} (hj : j < z.cps.size) (hk : k < z.cps.size) (e : z.cps.getD j 0 = z.cps.getD k 0) : j = k := by
  rcases Nat.lt_trichotomy j k with q | q | q
  · exact absurd e (getD_ne nd hj hk q)
  · exact q
  · exact absurd e.symm (getD_ne nd hk hj q)
theorem cell_mem {z : Str} {n k : Nat} (gz : LB.Good z) (hk : k < z.cps.size) : (z.cps.getD k 0 ∈ (cellT z n).cps.toList) ↔ n.testBit k = true := by
  rw [cellT_at, atL_list]
  constructor
  · intro h
    obtain ⟨j, mj, e⟩ := List.mem_map.mp h
    rw [← getD_inj gz.nd (bitsL_lt mj) hk e]
    exact (List.mem_filter.mp mj).2
  · intro h
    exact List.mem_map.mpr ⟨k, List.mem_filter.mpr ⟨List.mem_range.mpr hk, h⟩, rfl⟩
theorem okd_letC {f : Addr} {fd : FuncData} (F : Fun K "is_letter_of" "is_letter_of" s_is_letter_of f fd) (B : Blt mg) : FnOk P w K mg base CX0 1 f fd ["letters", "value"] (spD fsLetC) := by
  refine okD F sc_is_letter_of (fun ds O Q KX h => ?_) (fun cdv A outer s H E hr b ds O Q KX h _ => ?_)
  · obtain ⟨z, n, k, rfl, _⟩ := h; rfl
  · obtain ⟨z, n, k, rfl, gz, hk, kq⟩ := h
    refine ⟨_, (pss_one (ps_ret (pe_and (pe_callB call_isi (by rfl) B.n_isinstance (by decide +kernel) (pa_cons (pv 1) (pa_cons (pe_bltn (v := .ty "str") (by rfl) B.n_str (by decide +kernel) rfl) pa_nil))) (pe_and (pe_cmpR op_eq (pe_callB call_len (by rfl) B.n_len (by decide +kernel) (pa_cons (pv 1) pa_nil)) pe_int (nomark _)) (pe_one (pe_cmpR op_in_sign (pv 1) (pv 0) (by rfl))))))), ?_⟩
    walk_at "dl"
    refine OpN.isiT (c := true) .str (kit_ty (by decide +kernel)) ⟨_, rfl, fun _ => ?_, fun c => nomatch c⟩
    walk_at "dl"
    refine OpN.lenS (by show 1 ≤ sizeLine; decide) ?_
    walk_at "dl"
    refine Op2.eq rfl ⟨_, rfl, fun _ => ?_, fun c => ?_⟩
    · walk_at "dl"
      refine Op2.val (z := .bl (n.testBit k)) (fun H Q q => ⟨_, cellT z n, rfl, rfl, ?_⟩) kq
      refine cast ?_ q
      congr 2
      refine Bool.eq_iff_iff.mpr ?_
      rw [← cell_mem gz hk]
      simp
    · exact nomatch (show decide (V.int 1 = V.int 1) = false from c)
theorem okd_inC {f : Addr} {fd : FuncData} (F : Fun K "__contains__" "Cell.__contains__" s_CellDD_containsDD f fd) (VV : VF K CV CC) (D_letC : HasFn P w K mg base CX0 1 "is_letter_of" ["letters", "value"] (spD fsLetC)) : FnOk P w K mg base CX0 2 f fd ["self", "x"] (spD (fsInC CV CC)) := by
  refine okD F sc_CellDD_containsDD (fun ds O Q KX h => ?_) (fun cdv A outer s H E hr b ds O Q KX h _ => ?_)
  · obtain ⟨z, n, k, rfl, _⟩ := h; rfl
  · obtain ⟨z, n, k, rfl, gz, hk, kq⟩ := h
    refine ⟨_, (pss_one (ps_ret (pe_fn D_letC (hr.mono (by decide)) pass0 (pa_cons (pe_fld (pv 0) rfl) (pa_cons (pv 1) pa_nil))))), ?_⟩
    walk_at "dl"
    refine ⟨_, dCell.let VV, ?_⟩
    walk_at "dl"
    exact ⟨z, n, k, rfl, gz, hk, kq⟩
/-- len(values) -/
def fsLenV (CV CC : Addr) : FS := fun ds O Q _ => ∃ z, ds = [.fr (dVals CV CC z)] ∧ LB.Good z ∧ Q (fInt ((z.cps.size : Nat) : Int)) O
theorem okd_lenV {f : Addr} {fd : FuncData} (F : Fun K "__len__" "Values.__len__" s_ValuesDD_lenDD f fd) (B : Blt mg) (VV : VF K CV CC) : FnOk P w K mg base CX0 1 f fd ["self"] (spD (fsLenV CV CC)) := by
  refine okD F sc_ValuesDD_lenDD (fun ds O Q KX h => ?_) (fun cdv A outer s H E hr b ds O Q KX h _ => ?_)
  · obtain ⟨z, rfl, _⟩ := h; rfl
  · obtain ⟨z, rfl, gz, k⟩ := h
    refine ⟨_, (pss_one (ps_ret (pe_callB call_len (by rfl) B.n_len (by decide +kernel) (pa_cons (pe_fld (pv 0) rfl) pa_nil)))), ?_⟩
    walk_at "dl"
    refine ⟨_, dVals.let VV, ?_⟩
    walk_at "dl"
    exact OpN.lenS (good_len gz) k
end
end K41

namespace DL
open PySem L2 LB PyProof.Rows
section
variable {b : Wd} {en : En} {O : Ow} {KF : PySem.W.Frag} {K : DK} {fs : FS} {t tk : TA}
/-- not e as a value, by truth -/
theorem Ev.notT {ta : TE} (h : Ev b ta en O fun d O1 => ∃ k, TruD KF O1 d k ∧ K (fBl (!k)) O1) : Ev b (tNotT KF ta) en O K := fun w σ e o en' Q q => h w σ e o en' _ fun d O1 x w1 k1 e1 o1 p1 =>
  let ⟨k, tr, kk⟩ := k1; ⟨k, tr w1 x o1 p1, q _ O1 _ w1 kk e1 o1 rfl⟩
theorem DsP.app {as : List Addr} {F : Hp} : ∀ {ds es : List Da} {vs us : List V}, DsP as F ds vs → DsP as F es us → DsP as F (ds ++ es) (vs ++ us)
  | _, _, _, _, .nil, h => h
  | _, _, _, _, .cons p h, k => .cons p (DsP.app h k)
/-- C(.., k = v, ..): the new instance stands still -/
theorem Ev.makeKF {C : Addr} {n m : Nat} (h : EvA b t en O fun ds O1 => EvA b tk en O1 fun es O2 => ds.length = n ∧ es.length = m ∧ fs (.ow O2.length :: ds ++ es) (O2 ++ [some (oIns C [])]) (fun d O3 => d = fV .non ∧ ∃ fl, O3 = O2 ++ [some (oIns C fl)] ∧ K (.fr (dIns C fl)) O2) noX) :
    Ev b (tMakeK C n m (spD fs) (fun vs zs => vs ++ zs) E0 t tk) en O K :=
  fun w σ e o en' Q q => h w σ e o en' _ fun ds O1 vs w1 k1 e1 o1 p1 => k1 w1 σ (e.trans e1) o1 (en'.ext e1) _ fun es O2 us w2 k2 e2 o2 p2 => by
    obtain ⟨l1, l2, k2⟩ := k2
    refine ⟨by have := DsP.len p1; omega, by have := DsP.len p2; omega, ?_⟩
    intro x dx nx nd ne
    have g1 := Grow.new o2 (.own x) nd
    have o3 := o2.new (.own x) nd
    have nx' : upd w2.H dx (.own x) x = none := (upd_ne ne.symm).trans nx
    have o4 := o3.newOw (.ins C dx []) (od := oIns C []) nx' ⟨dx, [], rfl, .nil⟩
    have g2 : Grow w2 ⟨w2.as ++ [x], upd w2.F dx (.own x), upd (upd w2.H dx (.own x)) x (.ins C dx [])⟩ := g1.trans (Grow.newOw nx')
    have self : (Da.ow O2.length).p (w2.as ++ [x]) (upd w2.F dx (.own x)) (.ref x) := ⟨x, by rw [← o2.len, List.getElem?_append_right (Nat.le_refl _), Nat.sub_self]; rfl, rfl⟩
    refine spD_at (w := ⟨w2.as ++ [x], upd w2.F dx (.own x), upd (upd w2.H dx (.own x)) x (.ins C dx [])⟩) o4 (DsP.app (.cons self (DsP.mono (e2.trans g2) p1)) (DsP.mono g2 p2)) k2 (fun d O' v w' k' e' o' p' => ?_) .no
    obtain ⟨rfl, fl, rfl, k'⟩ := k'
    refine ⟨p', ?_⟩
    obtain ⟨a, ha, ea⟩ := Da.mono e' self
    have ea : x = a := by injection ea
    subst ea
    have hk : (O2 ++ [some (oIns C fl)])[O2.length]? = some (some (oIns C fl)) := ow_last
    obtain ⟨_, u, hu, dx', gs, rfl, pf⟩ := o'.own _ _ _ ha hk
    obtain ⟨o4, g4⟩ := o'.still ha hk hu
    have gg : Grow w ⟨w'.as, upd w'.F x (.ins C dx' gs), w'.H⟩ := (((e1.trans e2).trans g2).trans e').trans g4
    have lw : w.as.length ≤ O2.length := by rw [← o2.len]; exact (e1.trans e2).as_le
    have o5 := o4.cut (n := O2.length)
    have eO : (((O2 ++ [some (oIns C fl)]).set O2.length none).take O2.length) = O2 := by rw [ow_lastset, List.take_left' rfl]
    rw [eO] at o5
    exact q (.fr (dIns C fl)) O2 (.ref x) ⟨w'.as.take O2.length, upd w'.F x (.ins C dx' gs), w'.H⟩ k' (gg.cut lw) o5 ⟨x, dx', gs, rfl, upd_same, pf.mono g4.F⟩
end
section
variable {X : Cx} {s : Shared} {H : Hp} {sc : Scope} {ev : Env} {fp : List Addr} {a : Expr} {pos : Pos} {ta : TE}
theorem pe_notTB (ha : PE (X.blk s H sc ev fp) a ta) : PE (X.blk s H sc ev fp) (.UnaryOp .Not a pos) (tNotT X.K ta) := pe_notT ha
end
/-- a class made with n values and keywords -/
def HasMkN (P : Program) (w : World) (K : PySem.W.Frag) (mg : Str → Option Value) (base : Heap) (CX : CXT) (k : Nat) (C : Addr) (x : Str) (ps : List Str) (n : Nat) (ks : List Str) (sp : Sp) : Prop :=
  ∃ (f : Addr) (fd : FuncData), FnOk P w K mg base CX k f fd ps sp ∧ Mk K C f ∧ mg x = some (.ref C) ∧ KBn K fd ps (n + 1) ks (fun us ws => us ++ ws) (fun vs zs => vs ++ zs)
section
variable {X : Cx} {CX : CXT} {k n : Nat} {C : Addr} {ps ks : List Str} {sp : Sp} {E : XK} {x : Str} {p pos : Pos} {e : Expr} {es : List Expr} {kws : List Keyword} {t tk : TA}
theorem pe_mkN (h : HasMkN X.prog X.w X.K X.mg X.base CX k C x ps n ks sp) (hr : Room (k + 1) X.A) (hx : Passes CX X E) (ha : PA X (e :: es) t) (hkw : PK X kws tk) (hg : Gl X x := by rfl)
    (hall : (backToKw pos (keywordEach kws X.env)).all (·.1.isSome) = true := by rfl) (hks : (backToKw pos (keywordEach kws X.env)).filterMap (·.1) = ks := by rfl) (hdb : (x == ("__debug__" : Str)) = false := by decide)
    (he : starEach (e :: es) X.env = (false, eval e X.env) :: starEach es X.env := by rfl) (hpl : ((backTo pos (starEach (e :: es) X.env)).any (·.1) || (backToKw pos (keywordEach kws X.env)).any (·.1.isNone)) = false := by rfl) :
    PE X (.Call (.Name x p) (e :: es) kws pos) (tMakeK C n ks.length sp (fun vs zs => vs ++ zs) E t tk) := by
  obtain ⟨f, fd, F, M, hm, hb⟩ := h
  exact pe_makeK M F hr hg hm hb hx ha hkw hall hks hdb he hpl
end
end DL

namespace LB
open PySem L2 PySem.Spec PyProof.Rows
open Sem (wp)
open AutoSeq1 (wpAny_loadPart')
/-! ### enumerate(tuple) -/
theorem meets_enumerate_newT (l : Addr) (items : Array Value) (n : Nat) (dct : Option Addr) (sl : Array (Option Value)) :
    Meets (Builtin.«enumerate.__new__» ⟨[.type "enumerate", .ref l], []⟩) (fun _ R s => s.heap.get? l = some { cls := .type "tuple", dict := dct, data := .seq items n, slots := sl } ∧
      R (.ok (.ret (.ref (s.heap.push { cls := .type "tuple_iterator", data := .fields #[.ref l, .int 0 0] }).objs.size)))
        { s with heap := (s.heap.push { cls := .type "tuple_iterator", data := .fields #[.ref l, .int 0 0] }).push { cls := .type "enumerate", data := .fields #[.none, .bool false, .ref s.heap.objs.size, rawInt 0, .none, .none] } }) :=
  .of_wp fun prog w A R s h => by
    obtain ⟨hp, g, d, tk, os⟩ := s; obtain ⟨hl, h⟩ := h
    have hsub := sub_enumerate
    have hL : Heap.IsTuple (Shared.heap ⟨hp, g, d, tk, os⟩) l items := ⟨_, hl, rfl, n, rfl⟩
    wp_walk using wpAny_loadPart' hl
    refine wpAny_stack_any fun st => wpAny_pure ?_
    split
    · rename_i c _ _ _ _ _
      cases (c == Value.type "enumerate")
      · wp_walk using wpAny_loadPart' hl, wpAny_pyIter_tuple hL
        exact ⟨_, rfl, h⟩
      · wp_walk using wpAny_loadPart' hl, wpAny_pyIter_tuple hL
        exact ⟨_, rfl, h⟩
    · wp_walk using wpAny_loadPart' hl, wpAny_pyIter_tuple hL
      exact ⟨_, rfl, h⟩
section
variable {prog : Program} {w : World} {A : Around} {E : Value → Shared → Prop} {s : Shared}
theorem call_enumerate_tuple {l : Addr} {items : Array Value} {Q : Value → Shared → Prop} (hL : s.heap.IsTuple l items)
    (h : ∀ h', IsEnum h' (s.heap.objs.size + 1) s.heap.objs.size 0 .none → h'.IsTupleIter s.heap.objs.size l 0 → h'.objs.size = s.heap.objs.size + 2 →
      (∀ b o, s.heap.get? b = some o → h'.get? b = some o) → Q (.ref (s.heap.objs.size + 1)) { s with heap := h' }) :
    wpAny (model prog w) A (call (.type "enumerate") [.ref l]) Q E s := by
  obtain ⟨⟨c, dct, dt, sl⟩, hl, hc, n, hd⟩ := hL
  replace hc : c = .type "tuple" := hc
  replace hd : dt = .seq items n := hd
  subst hc hd
  refine callType_new F.called_enumerate (by decide) (F.typeCall_enumerate_1 _) (F.newCall_enumerate_1 _) (fun obj => F.args_object_init_2 obj _) F.entry_enumerate_new
    (meets_enumerate_newT l items n dct sl) ⟨hl, ?_⟩
  have hz : (s.heap.push { cls := .type "tuple_iterator", data := .fields #[.ref l, .int 0 0] }).objs.size = s.heap.objs.size + 1 := Heap.size_push ..
  show _ ∧ _
  rw [hz]
  have he : IsEnum ((s.heap.push { cls := .type "tuple_iterator", data := .fields #[.ref l, .int 0 0] }).push
      { cls := .type "enumerate", data := .fields #[.none, .bool false, .ref s.heap.objs.size, rawInt 0, .none, .none] }) (s.heap.objs.size + 1) s.heap.objs.size 0 .none := by
    have := Heap.get?_push_size (s.heap.push { cls := .type "tuple_iterator", data := .fields #[.ref l, .int 0 0] })
      (o := { cls := .type "enumerate", data := .fields #[.none, .bool false, .ref s.heap.objs.size, rawInt 0, .none, .none] }) rfl
    rw [hz] at this; exact this
  refine ⟨⟨_, he, rfl⟩, h _ he ⟨_, Heap.get?_push_of_some _ (Heap.get?_push_size _ rfl), rfl, rfl⟩ (by rw [Heap.size_push, hz]) fun b o x => Heap.get?_push_of_some _ (Heap.get?_push_of_some _ x)⟩
end
section
variable {prog : Program} {w : World} {A : Around} {E : Value → Shared → Prop} {s : Shared}
theorem enum_endT {e it l : Addr} {i : Nat} {items : Array Value} {old : Value} {Q : Option Value → Shared → Prop} (hh : A.handled = none)
    (he : IsEnum s.heap e it i old) (hit : s.heap.IsTupleIter it l i) (hl : s.heap.IsTuple l items) (hx : items[i]? = none)
    (hQ : ∀ h', Heap.ExtBut it s.heap h' → Q none { s with heap := h' }) : wpAny (model prog w) A (pyNext (.ref e)) Q E s := by
  have hT : s.TypeIs (.ref e) "enumerate" := ⟨_, he, rfl⟩
  unfold pyNext
  refine wpAny_bind (wpAny_attempt (wpAny_callSpecial?_slot (name := Str.ofString "__next__") hT F.slot_enumerate_next
    (wpAny_call_entry F.slot_enumerate_next hT F.entry_enumerate_next ?_ (F.args_enumerate_next_1 _))))
  show wpAny _ _ (field (.ref e) 2 >>= _) _ _ _
  refine wpAny_bind (wpAny_field he rfl (x := .ref it) rfl ?_)
  refine wpAny_bind (wpAny_nextOf_tuple_end hh hit hl hx fun h' x he' hx' => ?_)
  obtain ⟨o, ho, hc⟩ := hx'
  refine wpAny_bind (wpAny_isInstance (T := "StopIteration") (b := true) ⟨o, ho, hc⟩ isSubtype_stop ?_)
  exact wpAny_pure (hQ _ he')
end
/-- the tuple at a, each item in a new pair -/
def IteT (K : PySem.W.Frag) (a : Addr) : It :=
  ⟨fun i H => ∃ (xs : List V) (x : V), SqT K H a xs ∧ xs[i]? = some x, fun i H v H' => ∃ T x, v = .ref T ∧ H T = none ∧ H' = upd H T (.tup [.int (i : Nat), x]) ∧ ∀ xs, SqT K H a xs → xs[i]? = some x, fun i H => ∃ xs : List V, SqT K H a xs ∧ xs.length ≤ i⟩
theorem turn_enumT {P : Program} {w : World} {K : PySem.W.Frag} {elts : List Expr} {kk : Nat} {tpos : Pos} (a e it : Addr) (lt : a < it) (lt2 : it < e) :
    Turn P w K (.Tuple elts kk tpos) (IteT K a) [e, it] e (fun i h => (∃ old, IsEnum h e it ((i : Nat) : Int) old) ∧ h.IsTupleIter it a i ∧ e ≠ it) where
  mem := by simp
  obj := fun i h st b hb => by
    obtain ⟨⟨old, he⟩, ⟨o, ho, hc, hd⟩, _⟩ := st
    have e' : b = e ∨ b = it := by simpa using hb
    rcases e' with z | z
    · rw [z]; exact ⟨_, he, fun v q => nomatch q⟩
    · rw [z]; exact ⟨o, ho, fun v q => by rw [hd] at q; cases q⟩
  keep := fun i h h' st k => let ⟨⟨old, he⟩, hi, hne⟩ := st; ⟨⟨old, k e (by simp) _ he⟩, hi.at fun o q => k it (by simp) o q, hne⟩
  item := by
    intro X hP hw hK hc i pins s σ H E I hf st hg
    subst hP hw hK
    obtain ⟨⟨old, he⟩, hit, hne⟩ := st
    obtain ⟨xs, x, hq, hx⟩ := hg
    obtain ⟨its, rv, p, hz⟩ := I.tuple hq
    obtain ⟨u, hu, ru⟩ := rv.get hx
    have hel : e < s.heap.objs.size := Heap.lt_size he
    have hil : it < s.heap.objs.size := by obtain ⟨_, q, _⟩ := hit; exact Heap.lt_size q
    have hl : i < its.toArray.size := by have := (List.getElem?_eq_some_iff.mp hu).1; simpa using this
    refine wpAny_pyNext_enum_itemD (Draws.tuple (A := X.A.in1) (I.ok.hd hc) it a (Nat.ne_of_lt lt) its.toArray) he ⟨hit, p⟩ hl hne (by simp; exact ⟨hne, Nat.ne_of_gt (Nat.lt_trans lt lt2)⟩) fun x' h' tk hx' ho hst' hT hsz hk => ?_
    obtain rfl : x' = u := by
      have hx' : its.toArray[i]? = some x' := hx'
      have : its[i]? = some x' := by simpa using hx'
      rw [hu] at this; exact (Option.some.inj this).symm
    refine ⟨_, rfl, wpAny_letOwnedTupleGo_enum (s := { s with heap := h', toks := tk + 1 }) ho fun h'' he' sb => ?_⟩
    have hT2 : h''.get? s.heap.objs.size = some { cls := .type "tuple", data := .seq #[.int i tk, x'] } := (sb.2 _ (Nat.ne_of_gt hel)).trans hT
    have new : ObjOk X.prog X.w (upd H s.heap.objs.size (.tup [.int (i : Nat), x])) h'' s.heap.objs.size (.tup [.int (i : Nat), x]) :=
      ⟨by show 2 ≤ sizeLine; decide, [.int i tk, x'], .cons ⟨_, rfl⟩ (.cons ru .nil), ⟨_, hT2, rfl, _, rfl⟩⟩
    have I1 : Inv X pins σ (upd H s.heap.objs.size (.tup [.int (i : Nat), x])) { s with heap := h'', toks := tk + 1 } :=
      I.turnedNew (ch := [e, it]) (fun b ob hb q => (sb.2 b (fun z => hb (by simp [z]))).trans (hk b ob (fun z => hb (by simp [z])) (fun z => hb (by simp [z])) q)) hf (Nat.le_refl _) new
    refine ⟨.ref s.heap.objs.size, _, I1, rfl, ⟨_, x, rfl, I.hok.fresh (Nat.le_refl _), rfl, fun ys hy => by rw [I.tuple_inj hy hq]; exact hx⟩, ⟨⟨x', ?_⟩, hst'.1.at fun o q => (sb.2 it (Ne.symm hne)).trans q, hne⟩, fun b hb => ?_⟩
    · have e1 : ((i + 1 : Nat) : Int) = (i : Int) + 1 := by omega
      rw [e1]; exact he'
    · have hb' : b < s.heap.objs.size := by
        have e' : b = e ∨ b = it := by simpa using hb
        rcases e' with z | z
        · rw [z]; exact hel
        · rw [z]; exact hil
      rw [upd_ne (Nat.ne_of_lt hb')]
      exact (hf b hb).1
  done := by
    intro X hP hw hK hc i pins s σ H E I hf st hg
    subst hP hw hK
    obtain ⟨⟨old, he⟩, hit, hne⟩ := st
    obtain ⟨xs, hq, hx⟩ := hg
    obtain ⟨its, rv, p, hz⟩ := I.tuple hq
    obtain ⟨f0, f1, f2, f3, f4, f5⟩ := hf it (by simp)
    have hl := rv.length
    exact enum_endT (I.ok.hd hc) he hit p (by simp; omega) fun h' eb => ⟨rfl, I.turned (t' := s.toks) (fun b o hb q => eb b o hb q) f0 f1 f3 f4 f5⟩
  self := fun A i s Q E st h => let ⟨⟨_, he⟩, _⟩ := st; wpAny_pyIter_enum he h
def iEnumT (K : PySem.W.Frag) (ta : TA) : TI := fun σ H R => ta σ H fun vs H1 => ∃ a xs, vs = [.ref a] ∧ SqT K H1 a xs ∧ R (IteT K a) H1
theorem pi_enumT {X : Cx} {e : Expr} {ta : TA} {p pos tpos : Pos} {elts : List Expr} {kk : Nat} (hg : Gl X "enumerate") (hm : X.mg "enumerate" = none) (ha : PA X [e] ta) (hs : starEach [e] X.env = [(false, eval e X.env)] := by rfl) :
    PI X (.Tuple elts kk tpos) (.Call (.Name "enumerate" p) [e] [] pos) (iEnumT X.K ta) := by
  refine ⟨fun pins s σ H R I h => ?_⟩
  refine Call_ (ld_blt I hg hm boot_enumerate (PyProof.Rows.callWith_type1 (thn (ha.run pos pins s σ H _ I h) fun us s1 ⟨vs, H1, I1, r1, q1⟩ => ?_) hs rfl))
  obtain ⟨a, xs, ex, hq, q⟩ := q1
  subst ex
  cases r1 with
  | cons r rr =>
    cases rr
    cases r
    obtain ⟨its, rv, p', hz⟩ := I1.tuple hq
    have la : a < s1.heap.objs.size := p'.lt
    refine call_enumerate_tuple p' fun h' he hit hsz hk => wpAny_pyIter_enum he ?_
    have I2 : Inv X pins σ H1 { s1 with heap := h' } := I1.kept (t' := s1.toks) hk
    refine ⟨s1.heap.objs.size + 1, [s1.heap.objs.size + 1, s1.heap.objs.size], _, _, H1, rfl, I2, turn_enumT a (s1.heap.objs.size + 1) s1.heap.objs.size la (Nat.lt_succ_self _), ⟨⟨.none, he⟩, hit, Nat.succ_ne_self _⟩, fun b hb => ?_, q⟩
    have e' : b = s1.heap.objs.size + 1 ∨ b = s1.heap.objs.size := by simpa using hb
    have hle : s1.heap.objs.size ≤ b := by
      rcases e' with z | z
      · rw [z]; exact Nat.le_add_right _ _
      · rw [z]; exact Nat.le_refl _
    exact I1.fpOk hle (I1.hok.fresh hle)
end LB

namespace DL
open PySem L2 LB PyProof.Rows
section
variable {b : Wd} {en : En} {O : Ow} {KF : PySem.W.Frag}
theorem walk_enumT {a : Addr} {xs : List V} : Walk (IteT KF a) xs.length (fun H => SqT KF H a xs) (YPair (fun i => some (.int (i : Nat))) (fun i => xs[i]?)) := by
  refine ⟨fun i _ hi q => ⟨xs, xs[i], q, by simp [hi]⟩, fun _ q => ⟨xs, q, Nat.le_refl _⟩, fun i H v H' _ q y => ?_⟩
  obtain ⟨T, x, h1, h2, h3, h4⟩ := y
  exact ⟨T, .int (i : Nat), x, h1, h2, h3, rfl, h4 xs q⟩
theorem WalkD.enumT {w : Wd} {a : Addr} {ds : List D} {vs : List V} (h : w.F a = some (.tup vs)) (p : LsP w.F ds vs) : WalkD w (IteT KF a) (ds.mapIdx fun (i : Nat) d => pr (dV (.int i)) d) := by
  have at_ : ∀ {w2 : Wd} {O : Ow}, Grow w w2 → WOk w2 O → SqT KF w2.H a vs := fun g o => SqT.of (o.sub _ _ (g.F _ _ h))
  refine ⟨fun i w2 O l g o => walk_enumT.goes i _ (by rw [← p.len]; simpa using l) (at_ g o), fun w2 O g o => by rw [List.length_mapIdx, p.len]; exact walk_enumT.stops _ (at_ g o), fun i w2 O x H' d e g o y => ?_⟩
  have l : i < vs.length := by rw [← p.len]; have := (List.getElem?_eq_some_iff.mp e).1; simpa using this
  obtain ⟨T, x1, y1, rfl, hT, rfl, q1, q2⟩ := walk_enumT.yields i _ x H' l (at_ g o) y
  rw [List.getElem?_mapIdx] at e
  cases e1 : ds[i]? with
  | none => rw [e1] at e; cases e
  | some d1 =>
    rw [e1] at e
    have e : pr (dV (.int i)) d1 = d := by simpa using e
    subst e
    obtain ⟨v, r1, r2⟩ := (p.mono g.F).get e1
    have q2 : vs[i]? = some y1 := q2
    have q1 : some (V.int (i : Nat)) = some x1 := q1
    rw [r1] at q2; injection q2 with q2; subst q2
    injection q1 with q1; subst q1
    exact pair_new o hT rfl r2
theorem EvI.enumT {K : List D → Ow → Prop} {ta : TA} (h : EvA b ta en O fun ds O1 => ∃ es, ds = [.fr (dTup es)] ∧ K (es.mapIdx fun (i : Nat) d => pr (dV (.int i)) d) O1) : EvI b (iEnumT KF ta) en O K := fun w σ e o en' R q => h w σ e o en' _ fun ds O1 xs w1 k1 e1 o1 p1 => by
  obtain ⟨es, rfl, k⟩ := k1
  obtain ⟨v, rfl, a, vs, rfl, f, p⟩ := p1.one
  exact ⟨a, vs, rfl, SqT.of (o1.sub _ _ f), q _ _ O1 w1 k e1 o1 (.enumT f p)⟩
/-- a, b, c, d, e = a tuple -/
theorem EvG.tup5 {i1 i2 i3 i4 i5 : Nat} {x1 x2 x3 x4 x5 : D} {K : EK} (k : K (((((en.set i1 (some (.fr x1))).set i2 (some (.fr x2))).set i3 (some (.fr x3))).set i4 (some (.fr x4))).set i5 (some (.fr x5))) O) :
    EvG b (gTup KF 5 (gCons (gName i1) (gCons (gName i2) (gCons (gName i3) (gCons (gName i4) (gCons (gName i5) gNil)))))) (.fr (dTup [x1, x2, x3, x4, x5])) en O K := fun w σ v e o en' p Q q => by
  obtain ⟨a, vs, rfl, f, p⟩ := p
  cases p with
  | cons p1 p => cases p with
    | cons p2 p => cases p with
      | cons p3 p => cases p with
        | cons p4 p => cases p with
          | cons p5 p => cases p with
            | nil => exact ⟨a, _, rfl, SqT.of (o.sub _ _ f), rfl, _, _, rfl, _, _, rfl, _, _, rfl, _, _, rfl, _, _, rfl, rfl, q _ O _ w k (Grow.refl w) o (((((EnOk.set en' i1 (d := .fr x1) p1).set i2 (d := .fr x2) p2).set i3 (d := .fr x3) p3).set i4 (d := .fr x4) p4).set i5 (d := .fr x5) p5)⟩
/-- list + list -/
theorem Op2.cat {xs ys : List D} {K : DK} (l : xs.length + ys.length ≤ sizeLine) (k : K (.fr (dLst (xs ++ ys))) O) : Op2 b L2.rCat (.fr (dLst xs)) (.fr (dLst ys)) O K := fun w u v e o p q Q n => by
  obtain ⟨a, vs, rfl, f, p⟩ := p
  obtain ⟨c, us, rfl, g, q⟩ := q
  refine ⟨a, c, vs, us, rfl, rfl, o.sub _ _ f, o.sub _ _ g, by rw [← p.len, ← q.len]; exact l, fun t ht => ?_⟩
  have g1 := Grow.new o (.lst (vs ++ us)) ht
  exact n _ O _ ⟨w.as, upd w.F t (.lst (vs ++ us)), upd w.H t (.lst (vs ++ us))⟩ k g1 (o.new _ ht) ⟨t, _, rfl, upd_same, (p.mono g1.F).app (q.mono g1.F)⟩
/-- a thing that no one else holds becomes one's own -/
theorem WOk.adopt {w : Wd} {O : Ow} (h : WOk w O) {p : Addr} {o : HO} {od : OD} (hp : w.H p = some o) (fp : w.F p = none) (np' : ¬ p ∈ w.as) (ho : od.p w.F o) : WOk ⟨w.as ++ [p], w.F, w.H⟩ (O ++ [some od]) := by
  have np : ∀ a ∈ w.as, a ≠ p := fun a ha z => np' (z ▸ ha)
  refine ⟨h.sub, ?_, by simp [h.len], fun a ha => ?_, fun k a od' q1 q2 => ?_, fun k a q1 q2 => ?_⟩
  · refine List.nodup_append.mpr ⟨h.nd, by simp, fun a ha b hb e => ?_⟩
    have hb : b = p := by simpa using hb
    exact np a ha (e.trans hb)
  · rcases List.mem_append.mp ha with ha | ha
    · exact h.al a ha
    · have ha : a = p := by simpa using ha
      subst ha
      exact ⟨o, hp⟩
  · rcases Nat.lt_or_ge k w.as.length with l | l
    · rw [List.getElem?_append_left l] at q1
      rw [List.getElem?_append_left (h.len ▸ l)] at q2
      exact h.own k a od' q1 q2
    · rw [List.getElem?_append_right l] at q1
      rw [List.getElem?_append_right (h.len ▸ l)] at q2
      have e0 : k - w.as.length = 0 := by
        rcases Nat.eq_zero_or_pos (k - w.as.length) with e | e
        · exact e
        · rw [List.getElem?_eq_none (by simp; omega)] at q1; cases q1
      rw [e0] at q1
      rw [← h.len, e0] at q2
      simp only [List.getElem?_cons_zero, Option.some.injEq] at q1 q2
      subst q1; subst q2
      exact ⟨fp, o, hp, ho⟩
  · rcases Nat.lt_or_ge k w.as.length with l | l
    · rw [List.getElem?_append_left l] at q1
      rw [List.getElem?_append_left (h.len ▸ l)] at q2
      exact h.ded k a q1 q2
    · rw [List.getElem?_append_right (h.len ▸ l)] at q2
      cases e : k - O.length with
      | zero => rw [e] at q2; simp at q2
      | succ n => rw [e] at q2; simp at q2
theorem Grow.adopt {w w' : Wd} (g : Grow w w') {p : Addr} (hp : w.H p = none) : Grow w ⟨w'.as ++ [p], w'.F, w'.H⟩ :=
  ⟨fun k a q => by
    show (w'.as ++ [p])[k]? = some a
    have := g.pre k a q
    rw [List.getElem?_append_left (List.getElem?_eq_some_iff.mp this).1]; exact this, g.F, g.keep, g.froz, fun a q n => by
    rcases List.mem_append.mp q with q | q
    · exact g.nw a q n
    · have q : a = p := by simpa using q
      rw [q]; exact hp⟩
/-- [e for x in .. if t], as a thing of one's own -/
theorem Ev.lcIO {wi : TI} {g : TG} {tt : TT} {te : TE} {vs : List Nat} {K : DK} (tm : Tame g vs) (h : EvI b wi en O fun ds O1 => ∃ I : Nat → List D → Ow → Prop, I 0 [] O1 ∧ ds.length ≤ sizeLine ∧
    (∀ (i : Nat) (d : D) acc O2, ds[i]? = some d → acc.length ≤ i → I i acc O2 → EvG b g (.fr d) (wipeE en vs) O2 fun en3 O3 => EvT b tt en3 O3 fun c O4 => (c = true → Ev b te en3 O4 fun y O5 => ∃ z, y = .fr z ∧ I (i + 1) (acc ++ [z]) O5) ∧ (c = false → I (i + 1) acc O4)) ∧
      ∀ acc O2, I ds.length acc O2 → K (.ow O2.length) (O2 ++ [some (oLst acc)])) : Ev b (tLc wi g tt te vs) en O K := fun w σ e o en' Q q => h w σ e o en' _ fun J ds O1 w1 k1 e1 o1 wk => by
  obtain ⟨I, i0, big, st, fin⟩ := k1
  intro C hC
  let Pv : Nat → Hp → Prop := fun i H => ∃ w2 acc vs2 O2, w2.H = H ∧ Grow w1 w2 ∧ WOk w2 O2 ∧ w2.H C = some (.lst vs2) ∧ w2.F C = none ∧ ¬ C ∈ w2.as ∧ LsP w2.F acc vs2 ∧ acc.length ≤ i ∧ I i acc O2
  have nC : ¬ C ∈ w1.as := fun z => by obtain ⟨u, hu⟩ := o1.al C z; rw [hC] at hu; cases hu
  have fC : w1.F C = none := o1.sub.free hC
  have h0 : Pv 0 (upd w1.H C (.lst [])) := ⟨⟨w1.as, w1.F, upd w1.H C (.lst [])⟩, [], [], O1, rfl, Grow.more (same_new hC), o1.more (same_new hC), upd_same, fC, nC, .nil, Nat.le_refl _, i0⟩
  refine ⟨fun i m H => m = ds.length - i ∧ i ≤ ds.length ∧ Pv i H, ⟨ds.length, by simp, Nat.zero_le _, h0⟩, ?_⟩
  rintro i m H ⟨rfl, hi, w2, acc, vs2, O2, rfl, g2, o2, hc, fc, nc, pl, la, ii⟩
  by_cases l : i < ds.length
  · refine .inr ⟨wk.goes i w2 O2 l g2 o2, Pv (i + 1), fun H' p' => ⟨ds.length - (i + 1), by omega, rfl, l, p'⟩, fun x H' y => ?_⟩
    obtain ⟨w3, rfl, g3, o3, px⟩ := wk.yields i w2 O2 x H' _ (List.getElem?_eq_getElem l) g2 o2 y
    have stay : ∀ {w4 : Wd}, Grow w2 w4 → w4.H C = some (.lst vs2) ∧ w4.F C = none ∧ ¬ C ∈ w4.as := fun {w4} g => ⟨g.keep C _ hc nc, g.froz C _ hc trivial nc fc, fun z => by have := g.nw C z nc; rw [hc] at this; cases this⟩
    have base := st i _ acc O2 (List.getElem?_eq_getElem l) la ii w3 (L2.wipe σ vs) x ((e.trans e1).trans (g2.trans g3)) o3 ((en'.ext (e1.trans (g2.trans g3))).wipe vs) px
    refine tm x (L2.wipe σ vs) w3.H _ _ (fun σ' H' z ez => ⟨by rw [ez, wipe_idem], z⟩) (base (fun σ2 H2 => tt σ2 H2 fun b H3 => if b = true then te σ2 H3 fun y H4 => ∃ acc, H4 C = some (.lst acc) ∧ acc.length < sizeLine ∧ Pv (i + 1) (upd H4 C (.lst (acc ++ [y]))) else Pv (i + 1) H3) fun en4 O4 σ4 w4 k4 g4 o4 n4 => ?_)
    · refine k4 w4 σ4 ((e.trans e1).trans ((g2.trans g3).trans g4)) o4 n4 _ fun c O5 w5 k5 g5 o5 => ?_
      have gg : Grow w2 w5 := (g3.trans g4).trans g5
      cases c with
      | false =>
        obtain ⟨s1, s2, s3⟩ := stay gg
        exact iteF ⟨w5, acc, vs2, O5, rfl, g2.trans gg, o5, s1, s2, s3, pl.mono gg.F, by omega, k5.2 rfl⟩
      | true =>
        refine iteT (k5.1 rfl w5 σ4 ((e.trans e1).trans (g2.trans gg)) o5 (n4.ext g5) _ fun d O6 y w6 k6 g6 o6 p6 => ?_)
        obtain ⟨z, rfl, k6⟩ := k6
        have g7 : Grow w2 w6 := gg.trans g6
        obtain ⟨s1, s2, s3⟩ := stay g7
        refine ⟨vs2, s1, by rw [← pl.len]; omega, ⟨w6.as, w6.F, upd w6.H C (.lst (vs2 ++ [y]))⟩, acc ++ [z], _, O6, rfl, ?_, ?_, upd_same, s2, s3, (pl.mono g7.F).app (.one p6), by simp; omega, k6⟩
        · have ga : Grow w1 w6 := g2.trans g7
          exact ⟨ga.pre, ga.F, fun p o h n => (upd_ne (ne_of_none h hC)).trans (ga.keep p o h n), ga.froz, ga.nw⟩
        · refine ⟨fun p o h => (upd_ne (ne_of_none h s2)).trans (o6.sub _ _ h), o6.nd, o6.len, fun p hp => ?_, fun k p od q1 q2 => ?_, o6.ded⟩
          · obtain ⟨u, hu⟩ := o6.al p hp
            exact ⟨u, (upd_ne (fun z : p = C => s3 (by rw [← z]; exact hp))).trans hu⟩
          · obtain ⟨f6, u, hu, pu⟩ := o6.own k p od q1 q2
            exact ⟨f6, u, (upd_ne (fun z : p = C => s3 (by rw [← z]; exact List.mem_of_getElem? q1))).trans hu, pu⟩
  · have ei : i = ds.length := by omega
    subst ei
    refine .inl ⟨wk.stops w2 O2 g2 o2, ?_⟩
    have wC : w.H C = none := by
      cases hw : w.H C with
      | none => rfl
      | some u =>
        by_cases m : C ∈ w.as
        · obtain ⟨k, hk⟩ := List.mem_iff_getElem?.mp m
          exact absurd (List.mem_of_getElem? (e1.pre k C hk)) nC
        · have := e1.keep C u hw m; rw [hC] at this; cases this
    have hl : w2.as[O2.length]? = none := by rw [← o2.len]; exact List.getElem?_eq_none (Nat.le_refl _)
    exact q (.ow O2.length) (O2 ++ [some (oLst acc)]) (.ref C) ⟨w2.as ++ [C], w2.F, w2.H⟩ (fin acc O2 ii) ((e1.trans g2).adopt wC) (o2.adopt hc fc nc ⟨vs2, rfl, pl⟩) ⟨C, by rw [← o2.len]; exact List.getElem?_concat_length, rfl⟩
end
end DL

namespace LB
open PySem L2 PySem.Spec PyProof.Rows
def ConstX (K : PySem.W.Frag) (C : Addr) (f : Str) (i : Int) : Prop := ∃ t, PySem.W.findCls K (.ref C) (.type "type") f = some (.val (.int i t))
theorem ConstX.mk {K : PySem.W.Frag} {C : Addr} {f : Str} {i : Int} {t : Tok} (h : PySem.W.findCls K (.ref C) (.type "type") f = some (.val (.int i t))) : ConstX K C f i := ⟨t, h⟩
/-! ### a[b] by an own __getitem__ -/
def HasIx (P : Program) (w : World) (K : PySem.W.Frag) (mg : Str → Option Value) (base : Heap) (CX : CXT) (k : Nat) (C : Addr) (ps : List Str) (sp : Sp) : Prop :=
  ∃ (f : Addr) (fd : FuncData), FnOk P w K mg base CX k f fd ps sp ∧ Own K C f "__getitem__" ∧ PySem.W.fnIn K f = true ∧ Binds K fd ps []
def rIxO (C : Addr) (sp : Sp) (E : XK) : R2 := fun x y H Q => ∃ a dx fs, x = .ref a ∧ H a = some (.ins C dx fs) ∧ sp [x, y] H Q E
section
variable {X : Cx} {CX : CXT} {k : Nat} {C : Addr} {ps : List Str} {sp : Sp} {E : XK} {a b : Expr} {ta tb : TE} {pos : Pos}
theorem pe_ixMe (h : HasIx X.prog X.w X.K X.mg X.base CX k C ps sp) (hr : Room (k + 1) X.A) (hx : Passes CX X E) (ha : PE X a ta) (hb : PE X b tb)
    (hs : ∀ o i, subscripted b true o i = runValue (.builtin "lifetime.subscript" ⟨[o, i], []⟩) := by intro o i; with_unfolding_all rfl) : PE X (.Subscript a b pos) (tOp (rIxO C sp E) ta tb) := by
  obtain ⟨f, fd, F, ho, hf, hb0⟩ := h
  refine ⟨fun pins s σ H Q I h => ?_⟩
  refine Subscript_ (binT ha hb I h fun v u s2 x y H2 I2 rx ry q => ?_)
  obtain ⟨c, dx, fs, rfl, hc, q⟩ := q
  cases rx
  obtain ⟨od, J⟩ := inst_of I2 hc
  obtain ⟨m, hF⟩ := I2.fr
  exact PySem.W.sub_K hF I2.ok.mod.kin J ho.at_ hf ho.fn (run_in1 (us := [.ref c, u]) (vs := [.ref c, y]) F hr hb0 hx I2 (.cons rfl (.cons ry .nil)) q) (hs _ _)
end
theorem fnIn_of {K : PySem.W.Frag} {f : Addr} {x qual : Str} {st : Stmt} {fd : FuncData} (F : Fun K x qual st f fd) : PySem.W.fnIn K f = true := by
  obtain ⟨oc, od, kV, doc, pm, an, cdv, ct, osl, rfl, lk, hcd⟩ := F.ex
  unfold PySem.W.fnIn
  rw [lk]
section
variable {P : Program} {w : World} {K : PySem.W.Frag} {mg : Str → Option Value} {base : Heap} {CX : CXT}
theorem has_ix {C f : Addr} {qual : Str} {st : Stmt} {ps : List Str} {k : Nat} {sp : Sp} (a : PySem.W.findIn K (.ref C) "__getitem__" = some (some (.ref f))) (i : PySem.W.isFn K (.ref f) = true) (F : FnX K f "__getitem__" qual st)
    (hb : ∀ (kV doc pm : Value) (an : Option Addr) (cdv ct : Value) (us : List Value), us.length = ps.length → bindArgs (PySem.W.fnOf "__getitem__" qual (defArgs st) (defBody st) (defScope st) .none kV doc pm an cdv ct) ⟨us, []⟩ = pure (ps.zip us))
    (ok : ∀ fd, Fun K "__getitem__" qual st f fd → FnOk P w K mg base CX k f fd ps sp) : HasIx P w K mg base CX k C ps sp :=
  let ⟨fd, F'⟩ := F.get
  ⟨f, fd, ok fd F', ⟨a, i⟩, fnIn_of F', F'.binds hb⟩
/-- an own __iter__ -/
theorem has_meS {C f : Addr} {x qual : Str} {st : Stmt} {ps : List Str} {k : Nat} {sp : SpS} (a : PySem.W.findIn K (.ref C) x = some (some (.ref f))) (i : PySem.W.isFn K (.ref f) = true) (F : FnX K f x qual st)
    (hb : ∀ (kV doc pm : Value) (an : Option Addr) (cdv ct : Value) (us : List Value), us.length = ps.length → bindArgs (PySem.W.fnOf x qual (defArgs st) (defBody st) (defScope st) .none kV doc pm an cdv ct) ⟨us, []⟩ = pure (ps.zip us))
    (ok : ∀ fd, Fun K x qual st f fd → FnS P w K mg base CX k f fd ps sp) : HasMeS P w K mg base CX k C x ps sp :=
  let ⟨fd, F'⟩ := F.get
  ⟨f, fd, ok fd F', ⟨a, i⟩, F.kp, F'.binds hb⟩
end
end LB

namespace DL
open PySem L2 LB PyProof.Rows
/-- a[b] by an own __getitem__ -/
theorem Op2.ixO {b : Wd} {O : Ow} {C : Addr} {fs : FS} {d1 d2 : Da} {K : DK} (h1 : IsIns C O d1) (h : fs [d1, d2] O K noX) : Op2 b (rIxO C (spD fs) E0) d1 d2 O K := fun w x y e o p q Q n => by
  obtain ⟨a, dx, gs, rfl, ha⟩ := h1.at_ o p
  exact ⟨a, dx, gs, rfl, ha, spD_at o (.cons p (.cons q .nil)) h n .no⟩
section
variable {P : Program} {w : World} {K : PySem.W.Frag} {mg : Str → Option Value} {base : Heap} {CX : CXT} {h : Heap}
/-- C(a, .., k = v, ..), all parameters are told -/
theorem has_mkN {C f : Addr} {x qual : Str} {st : Stmt} {ps ks : List Str} {k n : Nat} {sp : Sp} (X : K.In h) (G : h.Ns mainGlobals mg) (g : PySem.W.nsIn K mainGlobals x = some (some (.ref C))) (a : PySem.W.findIn K (.ref C) "__init__" = some (some (.ref f)))
    (i : PySem.W.isFn K (.ref f) = true) (m : PySem.W.makesIn K C = true) (kc : PySem.W.keepIn K (.ref C) = true) (F : FnX K f "__init__" qual st)
    (hb : ∀ (kV doc pm : Value) (an : Option Addr) (cdv ct : Value) (us ws : List Value), us.length = n + 1 → ws.length = ks.length → bindArgs (PySem.W.fnOf "__init__" qual (defArgs st) (defBody st) (defScope st) .none kV doc pm an cdv ct) ⟨us, ks.zip ws⟩ = pure (ps.zip (us ++ ws)))
    (ok : ∀ fd, Fun K "__init__" qual st f fd → FnOk P w K mg base CX k f fd ps sp) : HasMkN P w K mg base CX k C x ps n ks sp := by
  obtain ⟨fd, F'⟩ := F.get
  refine ⟨f, fd, ok fd F', ⟨m, a, i, kc⟩, PySem.W.mg_of X G g, ⟨fun s us ws _ h1 h2 => ?_, fun r1 r2 => r1.append r2⟩⟩
  obtain ⟨oc, od, kV, doc, pm, an, cdv, ct, osl, e1, e2, e3⟩ := F'.ex
  subst e1
  exact .of_eq (hb kV doc pm an cdv ct us ws h1 h2)
end
end DL

namespace DL
open PySem L2 LB PyProof.Rows
/-! ### == and != of data that stand still -/
def DpF (KF : PySem.W.Frag) (d : D) (p : PyData) : Prop := ∀ (F H : Hp) (v : V), Same F H → d.p F v → Dp KF H v p
section
variable {KF : PySem.W.Frag}
theorem DpF.str {z : Str} : DpF KF (dV (.str z)) (.str z) := fun F H v s p => by rw [show v = V.str z from p]; exact .str z
theorem DpF.int {i : Int} : DpF KF (dV (.int i)) (.int i) := fun F H v s p => by rw [show v = V.int i from p]; exact .int i
theorem DpF.bl {c : Bool} : DpF KF (dV (.bl c)) (.bool c) := fun F H v s p => by rw [show v = V.bl c from p]; exact .bl c
theorem DpF.non : DpF KF (dV .non) .none := fun F H v s p => by rw [show v = V.non from p]; exact .non
inductive DpFs (KF : PySem.W.Frag) : List D → List PyData → Prop
  | nil : DpFs KF [] []
  | cons {d p ds ps} : DpF KF d p → DpFs KF ds ps → DpFs KF (d :: ds) (p :: ps)
theorem DpFs.map {α : Type} {f : α → D} {g : α → PyData} (h : ∀ a, DpF KF (f a) (g a)) : ∀ xs : List α, DpFs KF (xs.map f) (xs.map g)
  | [] => .nil
  | x :: xs => .cons (h x) (DpFs.map h xs)
theorem DpFs.all {ds : List D} {ps : List PyData} (h : DpFs KF ds ps) : ∀ {F H : Hp} {vs : List V}, Same F H → LsP F ds vs → DpAll KF H vs ps := by
  induction h with
  | nil => intro F H vs s q; cases q; exact .nil
  | cons h _ ih => intro F H vs s q; cases q with
    | cons q1 q2 => exact .cons (h _ _ _ s q1) (ih s q2)
theorem DpF.lst {ds : List D} {ps : List PyData} (h : DpFs KF ds ps) : DpF KF (dLst ds) (.list ps) := fun F H v s ⟨a, vs, e, f, q⟩ => by
  subst e
  exact .lst (SqL.of (s _ _ f)) (h.all s q)
theorem DpF.tup {ds : List D} {ps : List PyData} (h : DpFs KF ds ps) : DpF KF (dTup ds) (.tuple ps) := fun F H v s ⟨a, vs, e, f, q⟩ => by
  subst e
  exact .tup (SqT.of (s _ _ f)) (h.all s q)
section
variable {b : Wd} {O : Ow} {K : DK}
theorem Op2.eqD {d1 d2 : D} {p1 p2 : PyData} (h1 : DpF KF d1 p1) (h2 : DpF KF d2 p2) (s1 : SeqAt.shaped p1 = true) (s2 : SeqAt.shaped p2 = true) (k : K (fBl (PyData.eqv p1 p2)) O) : Op2 b (rEqD KF) (.fr d1) (.fr d2) O K := fun w x y e o p q Q n =>
  ⟨p1, p2, h1 _ _ _ o.sub p, h2 _ _ _ o.sub q, s1, s2, n _ O _ w k (Grow.refl w) o rfl⟩
theorem Op2.neD {d1 d2 : D} {p1 p2 : PyData} (h1 : DpF KF d1 p1) (h2 : DpF KF d2 p2) (s1 : SeqAt.shaped p1 = true) (s2 : SeqAt.shaped p2 = true) (k : K (fBl (!PyData.eqv p1 p2)) O) : Op2 b (rNeD KF) (.fr d1) (.fr d2) O K := fun w x y e o p q Q n =>
  ⟨p1, p2, h1 _ _ _ o.sub p, h2 _ _ _ o.sub q, s1, s2, n _ O _ w k (Grow.refl w) o rfl⟩
end
end
/-! texts, numbers, bools in lists -/
def pSs (zs : List Str) : PyData := .list (zs.map PyData.str)
def pIs (ns : List Int) : PyData := .list (ns.map PyData.int)
def pBs (bs : List Bool) : PyData := .list (bs.map PyData.bool)
theorem DpF.strs {KF : PySem.W.Frag} (zs : List Str) : DpF KF (dLst (dSs zs)) (pSs zs) := .lst (.map (fun _ => .str) zs)
theorem DpF.ints {KF : PySem.W.Frag} (ns : List Int) : DpF KF (dLst (dIs ns)) (pIs ns) := .lst (.map (fun _ => .int) ns)
theorem DpF.bls {KF : PySem.W.Frag} (bs : List Bool) : DpF KF (dLst (dBs bs)) (pBs bs) := .lst (.map (fun _ => .bl) bs)
theorem eqvAll_map {α : Type} {f : α → PyData} {q : α → α → Bool} (h : ∀ a b, PyData.eqv (f a) (f b) = q a b) : ∀ xs ys : List α, PyData.eqvAll (xs.map f) (ys.map f) = (decide (xs.length = ys.length) && (xs.zip ys).all fun p => q p.1 p.2)
  | [], [] => by simp [PyData.eqvAll]
  | [], _ :: _ => by simp [PyData.eqvAll]
  | _ :: _, [] => by simp [PyData.eqvAll]
  | x :: xs, y :: ys => by
    rw [List.map_cons, List.map_cons, PyData.eqvAll, h, eqvAll_map h xs ys]
    simp only [List.length_cons, List.zip_cons_cons, List.all_cons, Nat.add_right_cancel_iff]
    cases q x y <;> simp
theorem list_eq_zip {α : Type} [DecidableEq α] : ∀ xs ys : List α, (decide (xs.length = ys.length) && (xs.zip ys).all fun p => decide (p.1 = p.2)) = decide (xs = ys)
  | [], [] => by simp
  | [], _ :: _ => by simp
  | _ :: _, [] => by simp
  | x :: xs, y :: ys => by
    have ih := list_eq_zip xs ys
    simp only [List.length_cons, List.zip_cons_cons, List.all_cons, Nat.add_right_cancel_iff]
    by_cases e : x = y
    · subst e
      simp only [decide_true, Bool.true_and]
      rw [ih]
      by_cases e2 : xs = ys <;> simp [e2]
    · simp [e]
theorem eqv_strs (xs ys : List Str) : PyData.eqv (pSs xs) (pSs ys) = decide (xs = ys) := by
  unfold pSs
  rw [PyData.eqv, eqvAll_map (q := fun a b => decide (a = b)) (fun a b => by rw [PyData.eqv]; by_cases h : a = b <;> simp [h]), list_eq_zip]
theorem eqv_ints (xs ys : List Int) : PyData.eqv (pIs xs) (pIs ys) = decide (xs = ys) := by
  unfold pIs
  rw [PyData.eqv, eqvAll_map (q := fun a b => decide (a = b)) (fun a b => by rw [PyData.eqv]; by_cases h : a = b <;> simp [h]), list_eq_zip]
theorem can_map {α : Type} {f : α → PyData} : ∀ xs : List α, (∀ a ∈ xs, PyData.canLay0 (f a) = true) → PyData.canLayAll0 (xs.map f) = true
  | [], _ => by rw [List.map_nil, PyData.canLayAll0]
  | x :: xs, h => by rw [List.map_cons, PyData.canLayAll0, h x List.mem_cons_self, can_map xs fun a m => h a (List.mem_cons_of_mem _ m)]; rfl
theorem depth_map {α : Type} {f : α → PyData} {n : Nat} : ∀ xs : List α, (∀ a ∈ xs, PyData.depth (f a) ≤ n) → PyData.depthAll (xs.map f) ≤ n
  | [], _ => by rw [List.map_nil, PyData.depthAll]; exact Nat.zero_le _
  | x :: xs, h => by
    rw [List.map_cons, PyData.depthAll]
    exact Nat.max_le.mpr ⟨h x List.mem_cons_self, depth_map xs fun a m => h a (List.mem_cons_of_mem _ m)⟩
theorem shaped_map {α : Type} {f : α → PyData} {xs : List α} {n : Nat} (h : ∀ a ∈ xs, PyData.canLay0 (f a) = true) (d : ∀ a ∈ xs, PyData.depth (f a) ≤ n) (l : n < 64) : SeqAt.shaped (.list (xs.map f)) = true := by
  unfold SeqAt.shaped
  rw [PyData.canLay0, can_map xs h, Bool.true_and, PyData.depth]
  exact decide_eq_true (by have := depth_map xs d; omega)
theorem shaped_strs {xs : List Str} (h : ∀ x ∈ xs, PyData.strOk x = true) : SeqAt.shaped (pSs xs) = true := shaped_map (n := 0) (fun a m => by rw [PyData.canLay0]; exact h a m) (fun a m => by rw [PyData.depth]; exact Nat.le_refl _) (by decide)
theorem shaped_ints {xs : List Int} : SeqAt.shaped (pIs xs) = true := shaped_map (n := 0) (fun a m => by rw [PyData.canLay0]) (fun a m => by rw [PyData.depth]; exact Nat.le_refl _) (by decide)
theorem shaped_bls {xs : List Bool} : SeqAt.shaped (pBs xs) = true := shaped_map (n := 0) (fun a m => by rw [PyData.canLay0]) (fun a m => by rw [PyData.depth]; exact Nat.le_refl _) (by decide)
end DL

namespace DL
open PySem L2 LB PySem.Spec PyProof.Rows
open LamX (LamS lamEnv lamCx CodeO TabS TabB inv_table lam_start2)
/-! ### lambdas handed to a def: what their errors are asked may look at that def's slots -/
section
variable {X : Cx} {pins : List (Addr × Obj)} {σ : L2.St} {H : Hp} {s : Shared}
/-- the context of the def at g, entered at s -/
abbrev cxG (X : Cx) (CXg : CXT) (Ng : List Str) (qg : Str) (sg : Scope) (g : Addr) (cdg : Value) (s : Shared) (H : Hp) (Eg : XK) : Cx := cxOf CXg X.prog X.w X.K X.mg X.base Ng qg sg g cdg X.A X.stack s H Eg
/-- what the variable's call asks: it stands for the lambda at f, whose code object is known -/
def tAct (i : Nat) (f c' : Addr) (q : Str) (tl : L2.St → Hp → VK → Prop) : TE := fun σZ HZ Q => σZ[i]? = some (some (.ref f)) ∧ HZ c' = some (CodeO c' q) ∧ tl σZ HZ Q
theorem actS {CXg : CXT} {Eg : XK} {Ng : List Str} {qg : Str} {sg : Scope} {g f c' : Addr} {cdg pm ctv : Value} {params : Arguments} {body : Expr} {scope : Scope} {k i : Nat} {a : Str} {pn : List (Addr × Obj)} {xe : Value → Shared → Prop} {E : L2.St → XK} {tb : XK → TE} {p1 p2 : Pos}
    (I : Inv X pins σ H s) (L : LamS X.env.scope scope) (hob : s.heap.get? f = some (PySem.W.kla_obj "<lambda>" (X.env.qual ++ "<lambda>") params body scope (cloFrom X.env.cells scope.names []) pm c' ctv)) (hno : H f = none) (hout : f ∉ L2.frs X.stack)
    (hargs : bindArgs (PySem.W.kla_fn "<lambda>" (X.env.qual ++ "<lambda>") params body scope (cloFrom X.env.cells scope.names []) pm (.ref c') ctv) ⟨[], []⟩ = pure [])
    (hx : ∀ σZ, PassesAt (L2.CX X.prog X.w) ((cxG X CXg Ng qg sg g cdg s H Eg).tr pn xe) σZ (E σZ)) (room : Room (k + 1) (X.A.deeper (envOfC qg sg s.heap.objs.size g cdg)))
    (hbody : ∀ (A : Around) (outer : List Env) (s : Shared) (H : Hp) (E : XK), Room k (A.deeper (lamEnv X scope s.heap.objs.size f c')) → PE (lamCx X A outer s H E scope f c') body (tb E))
    (hN : Ng[i]? = some a) (hv : Vis sg a) (n1 : (a == ("__debug__" : Str)) = false := by decide) (n2 : (a == ("__classdict__" : Str)) = false := by decide) :
    PE ((cxG X CXg Ng qg sg g cdg s H Eg).tr pn xe) (.Call (.Name a p1) [] [] p2) (tAct i f c' (X.env.qual ++ "<lambda>") fun σZ HZ Q => tb (E σZ) σ HZ Q) := by
  constructor
  intro pinsZ sZ σZ HZ Q IZ hw
  obtain ⟨slot, code, told⟩ := hw
  have read := (pe_var (pos := p1) (i := i) hN hv n1 n2).run pinsZ sZ σZ HZ (fun v H1 => v = .ref f ∧ H1 = HZ) IZ ⟨.ref f, slot, rfl, rfl⟩
  refine wpAny_Call_Name_kw (thn read ?_)
  rintro u t ⟨v, HY, IY, rv, rfl, rfl⟩
  have hu : u = Value.ref f := rv
  subst hu
  have there := IY.base.keep f _ hob hno hout (by intro z; cases z)
  refine PySem.W.callWith_F0 ⟨_, _, _, _, there⟩ ?_
  have un : Un (L2.frs X.stack) [] H HY s.heap t.heap := IY.base
  have cd := (IY.hok c' _ code).1
  obtain ⟨oc, vs, tk, hoc, hdc, hvc⟩ := cd
  have inner : codeAny (model X.prog X.w) (X.A.deeper (envOfC qg sg s.heap.objs.size g cdg)) (.call (.ref f) ⟨[], []⟩)
      (CR (L2.CX X.prog X.w) (envOfC qg sg s.heap.objs.size g cdg :: X.stack) X.prog X.w HY t Q (E σZ)) t := by
    refine PySem.W.kla_callFunE room.depth there rfl L.co L.gen rfl ⟨c', oc, vs, tk, rfl, hoc, hdc, hvc⟩ ?_
    rw [hargs]
    refine wpAny_pure (wpAny_newFunctionEnv (fun y hy => (L.own y hy).2) (by intro y hy; cases hy) ?_ L.kind)
    intro h₁ hns hsb
    refine ⟨IY.nolimit.fresh _ hsb, ?_⟩
    have kp : ∀ b o, t.heap.get? b = some o → h₁.get? b = some o := by
      intro b o e
      exact hsb.extBut b o (Nat.ne_of_lt (Heap.lt_size e)) (Heap.get?_push_of_some _ e)
    have start := lam_start2 (E := E σZ) (f := f) (c' := c') (tk := t.toks + ([] : List (Str × Value)).length) I L IY.env0 room.hd un hns kp
    have go := (hbody _ _ t HY (E σZ) (room.deeper _)).run [] _ _ HY Q start told
    refine PySem.W.kla_codeExpr (wpAny_mono go ?_ fun _ _ z => z)
    rintro v t' ⟨w', H', J, rw', q⟩
    exact ⟨w', H', J.os, J.bare, J.base, J.hok, rw', q⟩
  refine wpAny_call (codeAny_mono inner ?_)
  intro r t' hq
  rcases r with e | fl
  · exact hx σZ pinsZ HY t e t' IY hq
  · cases fl with
    | ret u => exact IY.after hq
    | next => exact hq.elim
    | brk => exact hq.elim
    | cont => exact hq.elim
end
/-- the def that calls the lambda that it got: what it makes of the lambda's reading -/
def GivesS (P : Program) (w : World) (K : PySem.W.Frag) (mg : Str → Option Value) (base : Heap) (k : Nat) (Ng : List Str) (x : Str) (st : Stmt) (g : Addr) (a : Str) (TT : (XK → Hp → VK → Prop) → Hp → VK → Prop) : Prop :=
  ∀ (A : Around) (outer : List Env) (f c' : Addr) (cdg : Value) (q : Str) (s : Shared) (H : Hp) (Q : VK) (tl : XK → Hp → VK → Prop), Room k (A.deeper (envOfC x (defScope st) s.heap.objs.size g cdg)) →
    (∀ (W : WX) (pn : List (Addr × Obj)) (xe : Value → Shared → Prop) (p1 p2 : Pos), Takes ((cxOf L2.CX0 P w K mg base Ng x (defScope st) g cdg A outer s H E0).tr pn xe) W →
      PE ((cxOf L2.CX0 P w K mg base Ng x (defScope st) g cdg A outer s H E0).tr pn xe) (.Call (.Name a p1) [] [] p2) (tAct 0 f c' q fun σZ HZ Q => tl (WE W σZ) HZ Q)) →
    H c' = some (CodeO c' q) → TT tl H Q →
    ∃ t, PSs (cxOf L2.CX0 P w K mg base Ng x (defScope st) g cdg A outer s H E0).nox (defBody st) t ∧ t { nx := fun _ H' => Q .non H', rt := Q } (L2.start Ng [.ref f]) H
/-- one table changes, by a new code object at most; all else is kept -/
structure LamTo (H H1 : Hp) (P : Addr) (q : Str) : Prop where
  keep : ∀ (b : Addr) (o : HO), b ≠ P → H b = some o → H1 b = some o
  tab : TabS H1 P q
theorem LamTo.refl {H : Hp} {P : Addr} {q : Str} (t : TabS H P q) : LamTo H H P q := ⟨fun _ _ _ e => e, t⟩
section
variable {X : Cx} {pins : List (Addr × Obj)} {σ : L2.St} {H : Hp} {s : Shared}
/-- a lambda is made: by a code object that the maker's table has, or by a new one -/
theorem lam_mk {c P : Addr} {params : Arguments} {body : Expr} {scope : Scope} {pos : Pos} {E Q : Value → Shared → Prop} (I : Inv X pins σ H s) (TB : TabB X.base X.mg c P) (hcode : X.env.code = .ref c) (hT : TabS H P (X.env.qual ++ "<lambda>"))
    (hdef : defaultsOf params X.env = ([], [])) (hfree : ∀ y ∈ scope.names, y.2 = .free → ∃ c, X.env.cells.lookup y.1 = some c)
    (go : ∀ (f c' : Addr) (pm ct : Value) (H1 : Hp) (t : Shared), LamTo H H1 P (X.env.qual ++ "<lambda>") → Inv X pins σ H1 t → H1 f = none → f ∉ L2.frs X.stack → H1 c' = some (CodeO c' (X.env.qual ++ "<lambda>")) →
      t.heap.get? f = some (PySem.W.kla_obj "<lambda>" (X.env.qual ++ "<lambda>") params body scope (cloFrom X.env.cells scope.names []) pm c' ct) → Q (.ref f) t) :
    wpAny (model X.prog X.w) X.A (eval (.Lambda params body scope pos) X.env) Q E s := by
  have hT0 := hT
  obtain ⟨ps, atP, triples, among⟩ := hT
  have bm := TB.bm.keeps I.bk
  have gl := I.mod.glob.keeps I.bk
  have cd := TB.code.keeps I.bk
  have obP : s.heap.get? P = some { cls := .none, data := .fields ps } := I.hok P _ atP
  have young : ∀ f, s.heap.objs.size ≤ f → f ∉ L2.frs X.stack := by
    intro f old m
    rcases List.mem_cons.mp (I.stkSub _ m) with e | e
    · have := I.lt
      rw [← e] at this
      exact absurd (Nat.lt_of_lt_of_le this old) (Nat.lt_irrefl _)
    · exact I.nofs old e
  refine PySem.W.kla_eval hdef ?_
  rcases found : codeAmong pos ps.toList with _ | cv
  · refine PySem.W.kla_makeFunction (mg := X.mg) (c := c) (P := P) (ps := ps) (closure_ok hfree) I.ok.glob gl hcode cd obP triples found TB.gP bm ?_
    intro c' ct h' tk kept lo hi rec tbl
    obtain ⟨c2, oc, vs, t, same, g1, g2, g3⟩ := rec
    injection same with same
    subst same
    have larger : s.heap.objs.size ≤ h'.objs.size := by omega
    have freshC := I.hok.fresh lo
    let more : Array Value := #[rawInt pos.line, rawInt pos.col, .ref c']
    let hF := h'.push (PySem.W.kla_obj "<lambda>" (X.env.qual ++ "<lambda>") params body scope (cloFrom X.env.cells scope.names []) ((X.mg "__name__").getD .none) c' ct)
    have J : Inv X pins σ (upd (upd H P (.tbl (ps ++ more))) c' (CodeO c' (X.env.qual ++ "<lambda>"))) { s with heap := hF, toks := tk } :=
      inv_table I atP (fun b o ne e => Heap.get?_push_of_some _ (kept b o ne e)) (Heap.get?_push_of_some _ tbl) lo ⟨oc, vs, t, Heap.get?_push_of_some _ g1, g2, g3⟩
    have neC : ∀ {b o}, H b = some o → b ≠ c' := fun e => ne_of_none e freshC
    have lists : (ps ++ more).toList = ps.toList ++ [rawInt pos.line, rawInt pos.col, .ref c'] := by simp [more]
    have all : LamTo H (upd (upd H P (.tbl (ps ++ more))) c' (CodeO c' (X.env.qual ++ "<lambda>"))) P (X.env.qual ++ "<lambda>") := by
      refine ⟨fun b o ne e => ?_, ps ++ more, ?_, ?_, fun p' u hu => ?_⟩
      · rw [upd_ne (neC e), upd_ne ne]; exact e
      · rw [upd_ne (neC atP), upd_same]
      · rw [lists]; exact PySem.TriplesOk_snoc _ _ _ _ triples
      · rw [lists] at hu
        rcases LamX.among_app _ triples hu with old | new
        · obtain ⟨c0, e1, e2⟩ := among p' u old
          have n0 : c0 ≠ P := fun z => by
            rw [z, atP] at e2
            exact LamX.codeO_ne ps (Option.some.inj e2).symm
          exact ⟨c0, e1, by rw [upd_ne (neC e2), upd_ne n0]; exact e2⟩
        · exact ⟨c', new, upd_same⟩
    refine go h'.objs.size c' _ ct _ _ all J ?_ (young _ larger) upd_same (Heap.get?_push_size _ rfl)
    rw [upd_ne (Nat.ne_of_gt hi), upd_ne (Nat.ne_of_gt (Nat.lt_of_lt_of_le (Heap.lt_size obP) larger))]
    exact I.hok.fresh larger
  · obtain ⟨c', rfl, known⟩ := among pos cv found
    refine PySem.W.kla_makeFunctionHit (mg := X.mg) (c := c) (P := P) (ps := ps) (closure_ok hfree) I.ok.glob gl hcode cd obP triples found bm ?_
    intro ct h' tk kept larger
    have J : Inv X pins σ H { s with heap := h'.push (PySem.W.kla_obj "<lambda>" (X.env.qual ++ "<lambda>") params body scope (cloFrom X.env.cells scope.names []) ((X.mg "__name__").getD .none) c' ct), toks := tk } :=
      I.kept fun b o e => Heap.get?_push_of_some _ (kept b o e)
    exact go h'.objs.size c' _ ct H _ (.refl hT0) J (I.hok.fresh larger) (young _ larger) known (Heap.get?_push_size _ rfl)
end
/-- x(lambda: body) -/
def tLamS (P : Addr) (q : Str) (TT : (XK → Hp → VK → Prop) → Hp → VK → Prop) (t : XK → TE) : TE := fun σ H Q => TabS H P q ∧ ∀ H1, LamTo H H1 P q → TT (fun E H' Q' => t E σ H' Q') H1 Q
section
variable {X : Cx}
theorem pe_lamS {TT : (XK → Hp → VK → Prop) → Hp → VK → Prop} {x a : Str} {g c P : Addr} {k : Nat} {st : Stmt} {fd : FuncData} {Ng : List Str} {params : Arguments} {body : Expr} {scope : Scope} {t : XK → TE} {p lpos pos : Pos}
    (F : Fun X.K x x st g fd) (hm : X.mg x = some (.ref g)) (hb : L2.Binds X.K fd [a] []) (Sg : FnScope Ng [a] (defScope st)) (hNg : Ng[0]? = some a) (hva : Vis (defScope st) a)
    (G : GivesS X.prog X.w X.K X.mg X.base (k + 1) Ng x st g a TT) (TB : TabB X.base X.mg c P) (hcode : X.env.code = .ref c) (hr : Room (k + 2) X.A) (L : LamS X.env.scope scope)
    (hdef : defaultsOf params X.env = ([], [])) (hbind : ∀ (q : Str) (cl : List (Str × Addr)) (pm cv ctv : Value), bindArgs (PySem.W.kla_fn "<lambda>" q params body scope cl pm cv ctv) ⟨[], []⟩ = pure [])
    (hbody : ∀ (A : Around) (outer : List Env) (s : Shared) (H : Hp) (E : XK) (f c' : Addr), Room k (A.deeper (lamEnv X scope s.heap.objs.size f c')) → PE (lamCx X A outer s H E scope f c') body (t E))
    (hg : Gl X x := by rfl) (d1 : (x == ("__debug__" : Str)) = false := by decide) (d2 : (a == ("__debug__" : Str)) = false := by decide) (d3 : (a == ("__classdict__" : Str)) = false := by decide) :
    PE X (.Call (.Name x p) [.Lambda params body scope lpos] [] pos) (tLamS P (X.env.qual ++ "<lambda>") TT t) := by
  constructor
  intro pins s σ H Q I hw
  obtain ⟨tabs, hw⟩ := hw
  obtain ⟨⟨oc, od, kV, doc, pm, an, cdv, ct, osl, rfl, lk, hcd⟩, kp⟩ := F
  refine wpAny_Call_Name_kw (ld_glob I hg hm ?_ d1)
  refine PySem.W.callWith_K (h₀ := X.base) I.ok.mod.kin kp ?_ (by rfl) (by rfl)
  show wpAny _ _ (spliced ((false, eval (.Lambda params body scope lpos) X.env) :: backTo pos (starEach [] X.env))) _ _ s
  refine Calls.spliced_cons (lam_mk I TB hcode tabs hdef (L.has I.ok) ?_)
  intro f c' pm' ctv H1 s' to I1 hfn hfr hco hf
  refine Calls.spliced_nil ⟨I1.kIn, ?_⟩
  have inner : codeAny (model X.prog X.w) X.A (.call (.ref g) ⟨[.ref f], []⟩) (CR L2.CX0 X.stack X.prog X.w H1 s' Q E0) s' := by
    refine LamX.run_ofS (N := Ng) (ps := [a]) (us := [.ref f]) (vs := [.ref f]) lk hcd Sg hr I1.env0 (hb s' [.ref f] I1.kIn rfl) (.cons rfl .nil) rfl ?_
    intro room
    have G1 := G X.A X.stack f c' cdv (X.env.qual ++ "<lambda>") s' H1 Q (fun E H' Q' => t E σ H' Q') room (fun W pn xe p1 p2 tk => ?_) hco (hw H1 to)
    · obtain ⟨t', ht', hq'⟩ := G1
      exact ⟨t', ht'.nox, hq'⟩
    · exact actS (X := X) (CXg := L2.CX0) (Eg := E0) (E := WE W) (tb := t) I1 L hf hfn hfr (hbind _ _ _ _ _) (fun σZ => passAt tk σZ) room (fun A outer s H E r => hbody A outer s H E f c' r) hNg hva d2 d3
  refine wpAny_call (codeAny_mono inner ?_)
  intro r t' hq
  rcases r with e | fl
  · exact (show False from hq).elim
  · cases fl with
    | ret u => exact I1.after hq
    | next => exact hq.elim
    | brk => exact hq.elim
    | cont => exact hq.elim
end
end DL

namespace DL
open PySem L2 LB PyProof.Rows
open LamX (CodeO TabS)
/-! ### lambdas over data: a table of code objects is a thing of one's own -/
/-- a table of code objects whose lambdas bear the name q -/
def oTab (q : Str) : OD := ⟨fun F o => ∃ ps : Array Value, o = .tbl ps ∧ TriplesOk ps.toList ∧ ∀ (pos : Pos) (cv : Value), codeAmong pos ps.toList = some cv → ∃ c, cv = .ref c ∧ F c = some (CodeO c q), fun s ⟨ps, e, t, h⟩ => ⟨ps, e, t, fun pos cv hc => let ⟨c, e1, e2⟩ := h pos cv hc; ⟨c, e1, s _ _ e2⟩⟩⟩
theorem mutTab {q : Str} : ∀ od, some (oTab q) = some od → ∀ F o, od.p F o → isMut o := fun od e F o p => by
  injection e with e
  subst e
  obtain ⟨ps, rfl, _⟩ := p
  trivial
/-- own things that are no objects told from outside -/
def OwN (O : Ow) : Prop := ∀ (k : Nat) (od : OD), O[k]? = some (some od) → ∀ F o, od.p F o → ∀ g, o ≠ .ext g
def extF (F H : Hp) : Hp := fun a => match F a with
  | some o => some o
  | none => match H a with
    | some (.ext g) => some (.ext g)
    | _ => none
theorem extF_F {F H : Hp} : Same F (extF F H) := fun a o e => by unfold extF; rw [e]
theorem extF_code {F H : Hp} {c : Addr} {q : Str} (s : ∀ o, F c = some o → H c = some o) (h : H c = some (CodeO c q)) : extF F H c = some (CodeO c q) := by
  unfold extF
  cases e : F c with
  | some u => have := s u e; rw [h] at this; exact this.symm
  | none => rw [h]; rfl
theorem WOk.lam {w : Wd} {O : Ow} {H1 : Hp} {j : Nat} {P : Addr} {q : Str} (o : WOk w O) (n : OwN O) (hj : w.as[j]? = some P) (hO : O[j]? = some (some (oTab q))) (x : LamTo w.H H1 P q) :
    WOk ⟨w.as, extF w.F H1, H1⟩ O ∧ Grow w ⟨w.as, extF w.F H1, H1⟩ ∧ ∀ c r, H1 c = some (CodeO c r) → extF w.F H1 c = some (CodeO c r) := by
  obtain ⟨fP, _, _, _⟩ := o.own j P _ hj hO
  have fk : ∀ {a u}, w.F a = some u → H1 a = some u := fun {a u} e => x.keep a u (fun z => by rw [z, fP] at e; cases e) (o.sub _ _ e)
  have nx : ∀ {a u}, w.F a = none → H1 a = some u → (∀ g, u ≠ .ext g) → extF w.F H1 a = none := fun {a u} e1 e2 e3 => by
    unfold extF
    rw [e1, e2]
    cases u <;> first | rfl | exact absurd rfl (e3 _)
  refine ⟨⟨fun a u e => ?_, o.nd, o.len, fun a m => ?_, fun k a od q1 q2 => ?_, fun k a q1 q2 => let ⟨u, e⟩ := o.ded k a q1 q2; ⟨u, extF_F _ _ e⟩⟩, ⟨fun _ _ h => h, extF_F, fun a u e m => ?_, fun a u e mt m f => ?_, fun _ h m => absurd h m⟩, fun c r h => extF_code (fun u e => fk e) h⟩
  · have e : extF w.F H1 a = some u := e
    unfold extF at e
    cases e1 : w.F a with
    | some v => rw [e1] at e; injection e with e; subst e; exact fk e1
    | none =>
      rw [e1] at e
      simp only at e
      show H1 a = some u
      cases e2 : H1 a with
      | none => rw [e2] at e; cases e
      | some v => rw [e2] at e; cases v <;> first | (cases e; done) | exact e
  · by_cases e : a = P
    · subst e; obtain ⟨ps, e1, _⟩ := x.tab; exact ⟨_, e1⟩
    · obtain ⟨u, e1⟩ := o.al a m; exact ⟨u, x.keep a u e e1⟩
  · obtain ⟨f, u, e1, pu⟩ := o.own k a od q1 q2
    by_cases e : a = P
    · subst e
      have kj : k = j := by
        obtain ⟨l1, z1⟩ := List.getElem?_eq_some_iff.mp q1
        obtain ⟨l2, z2⟩ := List.getElem?_eq_some_iff.mp hj
        exact (List.getElem_inj o.nd).mp (z1.trans z2.symm)
      subst kj
      rw [hO] at q2
      injection q2 with q2
      injection q2 with q2
      subst q2
      obtain ⟨ps, e2, tr, co⟩ := x.tab
      refine ⟨nx f e2 (fun g z => by cases z), _, e2, ps, rfl, tr, fun pos cv h => ?_⟩
      obtain ⟨c, e3, e4⟩ := co pos cv h
      exact ⟨c, e3, extF_code (fun u e => fk e) e4⟩
    · have e2 := x.keep a u e e1
      exact ⟨nx f e2 (n k od q2 _ _ pu), u, e2, od.mono extF_F pu⟩
  · exact x.keep a u (fun z => m (by rw [z]; exact List.mem_of_getElem? hj)) e
  · have e2 := x.keep a u (fun z => m (by rw [z]; exact List.mem_of_getElem? hj)) e
    exact nx f e2 (fun g z => by subst z; exact mt)
/-- what a def makes of a lambda that it got, over data: fn, what is asked of a value; fx, what is asked of an error -/
def TTof (fn : DK → DK) (fx : DK → XKD) : (XK → Hp → VK → Prop) → Hp → VK → Prop := fun tl H Q => ∃ w O K, w.H = H ∧ WOk w O ∧ Wn w K Q ∧ (∀ c q, H c = some (CodeO c q) → w.F c = some (CodeO c q)) ∧
  ∀ w' E Q', Grow w w' → WOk w' O → Wn w' (fn K) Q' → RaiseTo w' E (fx K) → tl E w'.H Q'
section
variable {b : Wd} {en : En} {O : Ow} {K : DK}
theorem Ev.lam {j : Nat} {P : Addr} {q : Str} {fn : DK → DK} {fx : DK → XKD} {t : XK → TE} (hj : b.as[j]? = some P) (hO : O[j]? = some (some (oTab q))) (n : OwN O) (h : ∀ b' E, Grow b b' → RaiseTo b' E (fx K) → Ev b' (t E) en O (fn K)) : Ev b (tLamS P q (TTof fn fx) t) en O K :=
  fun w σ e o en' Q qq => by
    have hj := e.pre j P hj
    refine ⟨?_, fun H1 to => ?_⟩
    · obtain ⟨_, _, e1, ps, rfl, tr, co⟩ := o.own j P _ hj hO
      exact ⟨ps, e1, tr, fun pos cv h => let ⟨c, e2, e3⟩ := co pos cv h; ⟨c, e2, o.sub _ _ e3⟩⟩
    · obtain ⟨o1, g1, co⟩ := o.lam n hj hO to
      exact ⟨_, O, K, rfl, o1, qq.grow g1, co, fun w' E Q' g o' wn rt => h w' E ((e.trans g1).trans g) rt w' σ (Grow.refl w') o' (en'.ext (g1.trans g)) Q' wn⟩
/-- what is asked of the errors of a try's body, the slots being en -/
def RaiseAt (b : Wd) (W : WX) (en : En) (KX : XKD) : Prop := ∀ C fl O' w' dd σ', KX C fl O' → Grow b w' → WOk w' O' → EnOk w' σ' en → XdP w'.F dd fl → W (.ref C) dd σ' w'.H
theorem Ev.act {i : Nat} {f c' : Addr} {q : Str} {W : WX} {tl : XK → Hp → VK → Prop} {KX : XKD} (hi : en[i]? = some (some (fV (.ref f)))) (hc : b.F c' = some (CodeO c' q)) (r : RaiseAt b W en KX)
    (h : ∀ w' E Q', Grow b w' → WOk w' O → Wn w' K Q' → RaiseTo w' E KX → tl E w'.H Q') : Ev b (tAct i f c' q fun σZ HZ Q => tl (WE W σZ) HZ Q) en O K :=
  fun w σ e o en' Q qq => by
    obtain ⟨v, e1, e2⟩ := en'.at_ i _ hi
    have e2 : v = .ref f := e2
    subst e2
    exact ⟨e1, o.sub _ _ (e.F _ _ hc), h w _ Q e o qq fun C fl O' w' dd kx g o' xd => r C fl O' w' dd σ kx (e.trans g) o' (en'.ext g) xd⟩
end
/-- an error that was kept: its class, its attributes -/
def dErr (C : Addr) (fl : List (Str × D)) : D := ⟨fun F v => ∃ a dd, v = .ref a ∧ F a = some (exr a C dd) ∧ XdP F dd fl, fun s ⟨a, dd, e, h, x⟩ => ⟨a, dd, e, s _ _ h, x.imp id fun ⟨d, gs, e1, e2, e3⟩ => ⟨d, gs, e1, s _ _ e2, e3.mono s⟩⟩⟩
theorem EvS.tryK {b : Wd} {en : En} {O : Ow} {K : Ks} {KF : PySem.W.Frag} {KX : XKD} {tb : WX → TS} {i j : Nat} {c : Value} (li : i < en.length)
    (hb : ∀ b' W, Grow b b' → RaiseAt b' W en KX → EvS b' (tb W) en O K) (hx : ∀ C fl O', KX C fl O' → PySem.W.exmOne KF (.ref C) c = some true ∧ K.n (((en.set i none).set j (some (.fr (dErr C fl)))).set i none) O') :
    EvS b (fun D σ H => tb (wKp KF c i (fun _ _ _ => tAsg (tVar i) (gName j)) D) D σ H) en O K := fun w σ e o en' D qn qr qb qc => by
  refine hb w _ e (fun C fl O' w' dd σ' kx g o' en2 xd => ?_) w σ (Grow.refl w) o en' D qn qr qb qc
  obtain ⟨ex, kn⟩ := hx C fl O' kx
  refine ⟨ex, C, rfl, fun a na => ?_⟩
  have g2 := Grow.new o' (exr a C dd) na
  have o2 := o'.new (exr a C dd) na
  have er : Da.p (.fr (dErr C fl)) w'.as (upd w'.F a (exr a C dd)) (.ref a) := ⟨a, dd, rfl, upd_same, xd.imp id fun ⟨d, gs, e1, e2, e3⟩ => ⟨d, gs, e1, g2.F _ _ e2, e3.mono g2.F⟩⟩
  refine ⟨.ref a, by rw [List.getElem?_set, if_pos rfl, if_pos (by rw [en2.len]; exact li)], ?_⟩
  exact qn _ O' _ _ kn (g.trans g2) o2 ((((en2.ext g2).drop i (some (.ref a))).set j er).drop i none)
section
variable {b : Wd} {en : En} {O : Ow} {K : DK} {KF : PySem.W.Frag}
theorem kept_of {F H : Hp} {C : Addr} {fl : List (Str × D)} {v : V} (s : Same F H) (h : (dErr C fl).p F v) : ∃ a dd fs, v = .ref a ∧ KeptAt H a C dd fs ∧ FsP F fl fs := by
  obtain ⟨a, dd, rfl, e, x⟩ := h
  rcases x with ⟨rfl, rfl⟩ | ⟨d, gs, rfl, e2, e3⟩
  · exact ⟨a, none, [], rfl, ⟨s _ _ e, .inl ⟨rfl, rfl⟩⟩, .nil⟩
  · exact ⟨a, _, gs, rfl, ⟨s _ _ e, .inr ⟨d, rfl, s _ _ e2⟩⟩, e3⟩
theorem OpN.isR {C : Addr} {fl : List (Str × D)} {cl : V} {cv : Value} {c : Bool} (T : ExK KF C) (hc : ClsV cl cv) (hk : PySem.W.kitOne KF (.ref C) cv = some c) (k : K (fBl c) O) : OpN b (rIsR KF) [.fr (dErr C fl), fV cl] O K := fun w xs e o p Q n => by
  obtain ⟨v, u, rfl, pv, pu⟩ := p.two
  have pu : u = cl := pu
  subst pu
  obtain ⟨a, dd, fs, rfl, ka, _⟩ := kept_of o.sub pv
  exact ⟨C, a, dd, fs, _, cv, c, T, rfl, ka, hc, hk, n _ O _ w k (Grow.refl w) o rfl⟩
theorem OpN.isRT {C : Addr} {fl : List (Str × D)} {cs : List V} {ws : List Value} {c : Bool} (T : ExK KF C) (hc : Paired ClsV cs ws) (hk : PySem.W.kitAny KF (.ref C) ws = some c) (k : K (fBl c) O) : OpN b (rIsRT KF) [.fr (dErr C fl), .fr (dTup (cs.map dV))] O K := fun w xs e o p Q n => by
  obtain ⟨v, u, rfl, pv, pu⟩ := p.two
  obtain ⟨tp, us, rfl, ht, q⟩ := pu
  have := q.eq
  subst this
  obtain ⟨a, dd, fs, rfl, ka, _⟩ := kept_of o.sub pv
  exact ⟨C, a, dd, fs, tp, _, ws, c, T, rfl, ka, o.sub _ _ ht, hc, hk, n _ O _ w k (Grow.refl w) o rfl⟩
theorem Ev.exF {ta : TE} {n : Str} (h : Ev b ta en O fun d O1 => ∃ C fl r, d = .fr (dErr C fl) ∧ ExK KF C ∧ PySem.W.findIn KF (.ref C) n = some none ∧ fl.lookup n = some r ∧ K (.fr r) O1) : Ev b (tExR KF n ta) en O K :=
  fun w σ e o en' Q q => h w σ e o en' _ fun d O1 x w1 k1 e1 o1 p1 => by
    obtain ⟨C, fl, r, rfl, T, hf, hl, k⟩ := k1
    obtain ⟨a, dd, rfl, ea, x⟩ := p1
    rcases x with ⟨rfl, rfl⟩ | ⟨d, gs, rfl, e2, e3⟩
    · cases hl
    · rcases e3.look n with ⟨z, _⟩ | ⟨r', u, h1, h2, h3⟩
      · rw [z] at hl; cases hl
      · rw [h1] at hl
        injection hl with hl
        subst hl
        exact ⟨a, C, d, gs, u, rfl, T, hf, o1.sub _ _ ea, o1.sub _ _ e2, h2, q _ O1 _ w1 k e1 o1 h3⟩
end
end DL

namespace DL
open PySem L2 LB PyProof.Rows
/-! ### defs that make lambdas, and those that call them -/
/-- the own things at these places stand at these addresses -/
def AtAs (w : Wd) (T : List (Nat × Addr)) : Prop := ∀ t ∈ T, w.as[t.1]? = some t.2
theorem AtAs.grow {w w' : Wd} {T : List (Nat × Addr)} (a : AtAs w T) (g : Grow w w') : AtAs w' T := fun t h => g.pre _ _ (a t h)
def spDT (T : List (Nat × Addr)) (fs : FS) : Sp := fun vs H Q E => ∃ w O ds K KX, w.H = H ∧ WOk w O ∧ DsP w.as w.F ds vs ∧ fs ds O K KX ∧ Wn w K Q ∧ RaiseTo w E KX ∧ AtAs w T
section
variable {b : Wd} {en : En} {O : Ow} {K : DK} {KX : XKD} {E : XK} {fs : FS} {t : TA} {ta : TE} {T : List (Nat × Addr)}
theorem Ev.callXT (a : AtAs b T) (r : RaiseTo b E KX) (h : EvA b t en O fun ds O1 => fs ds O1 K KX) : Ev b (tCall (spDT T fs) [] E t) en O K :=
  fun w σ e o en' Q q => h w σ e o en' _ fun ds O1 vs w1 k1 e1 o1 p1 => by
    rw [List.append_nil]
    exact ⟨w1, O1, ds, K, KX, rfl, o1, p1, k1, Wn.grow q e1, r.grow (e.trans e1), a.grow (e.trans e1)⟩
theorem Ev.callT (a : AtAs b T) (h : EvA b t en O fun ds O1 => fs ds O1 K noX) : Ev b (tCall (spDT T fs) [] E0 t) en O K := Ev.callXT a .no h
end
section
variable {P : Program} {w : World} {K : PySem.W.Frag} {mg : Str → Option Value} {base : Heap}
/-- THE RULE for a def that makes lambdas: its code object is known -/
theorem okDT {x qual : Str} {st : Stmt} {f : Addr} {fd : FuncData} {N ps : List Str} {k : Nat} {fs : FS} {T : List (Nat × Addr)} {p : He.Defn} (F : Fun K x qual st f fd) (hf : He.fAd K p = f) (S : FnScope N ps (defScope st)) (len : ∀ ds O Q KX, fs ds O Q KX → ds.length = ps.length)
    (h : ∀ (cdv : Value) (A : Around) (outer : List Env) (s : Shared) (H : Hp) (E : XK), cdv = .ref (He.codeOf K p) → Room k (A.deeper (envOfC qual (defScope st) s.heap.objs.size f cdv)) → ∀ b ds O Q KX, fs ds O Q KX → RaiseTo b E KX → AtAs b T →
      ∃ t, PSs (cxOf CX0 P w K mg base N qual (defScope st) f cdv A outer s H E).nox (defBody st) t ∧ EvS b t (stE N ds) O { n := fun _ O' => Q (fV .non) O', r := Q }) : FnOk P w K mg base CX0 (k + 1) f fd ps (spDT T fs) := by
  obtain ⟨⟨oc, od, kV, doc, pm, an, cdv, ct, osl, rfl, lk, hcd⟩, kp⟩ := F
  have code : cdv = .ref (He.codeOf K p) := by
    obtain ⟨c, rfl⟩ := He.codeIn_ref hcd
    subst hf
    rw [He.codeOf_eq lk rfl]
  refine fn_of lk hcd S (fun vs H Q E h => ?_) (fun A outer s H vs Q E hr hh => ?_)
  · obtain ⟨w, O, ds, K, KX, _, _, p, q, _⟩ := h
    exact p.len.symm.trans (len _ _ _ _ q)
  · obtain ⟨w1, O, ds, K1, KX, rfl, o, p, q, k1, k2, a⟩ := hh
    obtain ⟨t, pt, r⟩ := h cdv A outer s w1.H E code hr w1 ds O K1 KX q k2 a
    exact ⟨t, pt.nox, r w1 _ (Grow.refl w1) o (EnOk.start p) _ (fun en' O' σ' w' k e ok _ => k1 _ O' _ w' k e ok rfl) k1 (fun _ _ _ _ z => z.elim) (fun _ _ _ _ z => z.elim)⟩
/-- .. that makes none, but calls such defs -/
theorem okDC {x qual : Str} {st : Stmt} {f : Addr} {fd : FuncData} {N ps : List Str} {k : Nat} {fs : FS} {T : List (Nat × Addr)} (F : Fun K x qual st f fd) (S : FnScope N ps (defScope st)) (len : ∀ ds O Q KX, fs ds O Q KX → ds.length = ps.length)
    (h : ∀ (cdv : Value) (A : Around) (outer : List Env) (s : Shared) (H : Hp) (E : XK), Room k (A.deeper (envOfC qual (defScope st) s.heap.objs.size f cdv)) → ∀ b ds O Q KX, fs ds O Q KX → RaiseTo b E KX → AtAs b T →
      ∃ t, PSs (cxOf CX0 P w K mg base N qual (defScope st) f cdv A outer s H E).nox (defBody st) t ∧ EvS b t (stE N ds) O { n := fun _ O' => Q (fV .non) O', r := Q }) : FnOk P w K mg base CX0 (k + 1) f fd ps (spDT T fs) := by
  refine F.ok S (fun vs H Q E h => ?_) (fun cdv A outer s H vs Q E hr hh => ?_)
  · obtain ⟨w, O, ds, K, KX, _, _, p, q, _⟩ := h
    exact p.len.symm.trans (len _ _ _ _ q)
  · obtain ⟨w1, O, ds, K1, KX, rfl, o, p, q, k1, k2, a⟩ := hh
    obtain ⟨t, pt, r⟩ := h cdv A outer s w1.H E hr w1 ds O K1 KX q k2 a
    exact ⟨t, pt, r w1 _ (Grow.refl w1) o (EnOk.start p) _ (fun en' O' σ' w' k e ok _ => k1 _ O' _ w' k e ok rfl) k1 (fun _ _ _ _ z => z.elim) (fun _ _ _ _ z => z.elim)⟩
end
/-! ### the start of a law with tables -/
/-- the heap but for the tables -/
def offT (H : Hp) (Ps : List Addr) : Hp := fun a => if a ∈ Ps then none else H a
theorem WOk.startT {H : Hp} {Ps : List Addr} {qs : List Str} (nd : Ps.Nodup) (hl : Ps.length = qs.length) (h : ∀ P ∈ Ps, H P = some (.tbl #[])) : WOk ⟨Ps, offT H Ps, H⟩ (qs.map fun q => some (oTab q)) := by
  refine ⟨fun a o e => ?_, nd, by rw [List.length_map]; exact hl, fun a m => ⟨_, h a m⟩, fun k a od q1 q2 => ?_, fun k a q1 q2 => ?_⟩
  · have e : offT H Ps a = some o := e
    unfold offT at e
    split at e
    · cases e
    · exact e
  · have m : a ∈ Ps := List.mem_of_getElem? q1
    rw [List.getElem?_map] at q2
    cases e : qs[k]? with
    | none => rw [e] at q2; cases q2
    | some q =>
      rw [e] at q2
      injection q2 with q2
      injection q2 with q2
      subst q2
      exact ⟨if_pos m, _, h a m, #[], rfl, trivial, fun pos cv hc => by simp [codeAmong] at hc⟩
  · rw [List.getElem?_map] at q2
    cases e : qs[k]? with
    | none => rw [e] at q2; cases q2
    | some q => rw [e] at q2; cases q2
theorem SqL.off {KF : PySem.W.Frag} {H : Hp} {Ps : List Addr} {a : Addr} {xs : List V} (h : ∀ P ∈ Ps, H P = some (.tbl #[])) (s : SqL KF H a xs) : SqL KF (offT H Ps) a xs := by
  rcases s with s | s
  · refine .inl ?_
    have na : ¬ a ∈ Ps := fun m => by
      have e := h a m
      rcases s with q | ⟨o, q⟩
      · rw [e] at q; cases q
      · rw [e] at q; cases q
    have e : offT H Ps a = H a := if_neg na
    rcases s with q | ⟨o, q⟩
    · exact .inl (e.trans q)
    · exact .inr ⟨o, e.trans q⟩
  · exact .inr s
/-! ### the def that hears -/
section
variable {P : Program} {w : World} {K : PySem.W.Frag} {mg : Str → Option Value} {base : Heap}
open LamX (CodeO)
/-- THE RULE for a def that calls the lambda that it got, over data -/
theorem GivesS.of {k : Nat} {Ng : List Str} {x : Str} {st : Stmt} {g : Addr} {a : Str} {fn : DK → DK} {fx : DK → XKD}
    (h : ∀ (A : Around) (outer : List Env) (f c' : Addr) (cdg : Value) (q : Str) (s : Shared) (H : Hp) (tl : XK → Hp → VK → Prop), Room k (A.deeper (envOfC x (defScope st) s.heap.objs.size g cdg)) →
      (∀ (W : WX) (pn : List (Addr × Obj)) (xe : Value → Shared → Prop) (p1 p2 : Pos), Takes ((cxOf L2.CX0 P w K mg base Ng x (defScope st) g cdg A outer s H E0).tr pn xe) W →
        PE ((cxOf L2.CX0 P w K mg base Ng x (defScope st) g cdg A outer s H E0).tr pn xe) (.Call (.Name a p1) [] [] p2) (tAct 0 f c' q fun σZ HZ Q => tl (WE W σZ) HZ Q)) →
      ∀ b O KK, b.F c' = some (CodeO c' q) → (∀ w' E Q', Grow b w' → WOk w' O → Wn w' (fn KK) Q' → RaiseTo w' E (fx KK) → tl E w'.H Q') →
      ∃ t, PSs (cxOf L2.CX0 P w K mg base Ng x (defScope st) g cdg A outer s H E0).nox (defBody st) t ∧ EvS b t (stE Ng [fV (.ref f)]) O { n := fun _ O' => KK (fV .non) O', r := KK }) :
    GivesS P w K mg base k Ng x st g a (TTof fn fx) := by
  intro A outer f c' cdg q s H Q tl room act hc tt
  obtain ⟨w1, O, KK, rfl, o, qq, co, hl⟩ := tt
  obtain ⟨t, pt, r⟩ := h A outer f c' cdg q s w1.H tl room act w1 O KK (co _ _ hc) hl
  exact ⟨t, pt, r w1 _ (Grow.refl w1) o (EnOk.start (.cons rfl .nil)) _ (fun en' O' σ' w' k e ok _ => qq _ O' _ w' k e ok rfl) qq (fun _ _ _ _ z => z.elim) (fun _ _ _ _ z => z.elim)⟩
end
end DL

namespace DL
open PySem L2 LB PyProof.Rows
/-! ### defs whose guards are known; repr -/
section
variable {P : Program} {w : World} {K : PySem.W.Frag} {mg : Str → Option Value} {base : Heap}
theorem okDG {x qual : Str} {st : Stmt} {f : Addr} {fd : FuncData} {N ps : List Str} {k : Nat} {fs : FS} {T : List (Nat × Addr)} (F : Fun K x qual st f fd) (S : FnScope N ps (defScope st)) (len : ∀ ds O Q KX, fs ds O Q KX → ds.length = ps.length)
    (h : ∀ (cdv : Value) (A : Around) (outer : List Env) (s : Shared) (H : Hp) (E : XK), Room k (A.deeper (envOfC qual (defScope st) s.heap.objs.size f cdv)) → A.guards = some [] → ∀ b ds O Q KX, fs ds O Q KX → RaiseTo b E KX → AtAs b T →
      ∃ t, PSs (cxOf CX0 P w K mg base N qual (defScope st) f cdv A outer s H E).nox (defBody st) t ∧ EvS b t (stE N ds) O { n := fun _ O' => Q (fV .non) O', r := Q }) : FnG P w K mg base CX0 (k + 1) f fd ps (spDT T fs) := by
  refine okG F S (fun vs H Q E h => ?_) (fun cdv A outer s H vs Q E hr hg hh => ?_)
  · obtain ⟨w, O, ds, K, KX, _, _, p, q, _⟩ := h
    exact p.len.symm.trans (len _ _ _ _ q)
  · obtain ⟨w1, O, ds, K1, KX, rfl, o, p, q, k1, k2, a⟩ := hh
    obtain ⟨t, pt, r⟩ := h cdv A outer s w1.H E hr hg w1 ds O K1 KX q k2 a
    exact ⟨t, pt, r w1 _ (Grow.refl w1) o (EnOk.start p) _ (fun en' O' σ' w' k e ok _ => k1 _ O' _ w' k e ok rfl) k1 (fun _ _ _ _ z => z.elim) (fun _ _ _ _ z => z.elim)⟩
end
section
variable {P : Program} {w : World} {K : PySem.W.Frag} {mg : Str → Option Value} {base : Heap}
/-- okDT for a def that leaves none of its own things behind -/
theorem okDTc {x qual : Str} {st : Stmt} {f : Addr} {fd : FuncData} {N ps : List Str} {k : Nat} {fs : FS} {T : List (Nat × Addr)} {p : He.Defn} (F : Fun K x qual st f fd) (hf : He.fAd K p = f) (S : FnScope N ps (defScope st)) (len : ∀ ds O Q KX, fs ds O Q KX → ds.length = ps.length)
    (h : ∀ (cdv : Value) (A : Around) (outer : List Env) (s : Shared) (H : Hp) (E : XK), cdv = .ref (He.codeOf K p) → Room k (A.deeper (envOfC qual (defScope st) s.heap.objs.size f cdv)) → ∀ b ds O Q KX, fs ds O Q KX → RaiseTo b E (cutX O.length KX) → AtAs b T →
      ∃ t, PSs (cxOf CX0 P w K mg base N qual (defScope st) f cdv A outer s H E).nox (defBody st) t ∧ EvS b t (stE N ds) O { n := fun _ O' => cutR O.length Q (fV .non) O', r := cutR O.length Q }) : FnOk P w K mg base CX0 (k + 1) f fd ps (spDT T fs) := by
  obtain ⟨⟨oc, od, kV, doc, pm, an, cdv, ct, osl, rfl, lk, hcd⟩, kp⟩ := F
  have code : cdv = .ref (He.codeOf K p) := by
    obtain ⟨c, rfl⟩ := He.codeIn_ref hcd
    subst hf
    rw [He.codeOf_eq lk rfl]
  refine fn_of lk hcd S (fun vs H Q E h => ?_) (fun A outer s H vs Q E hr hh => ?_)
  · obtain ⟨w, O, ds, K, KX, _, _, p, q, _⟩ := h
    exact p.len.symm.trans (len _ _ _ _ q)
  · obtain ⟨w1, O, ds, K1, KX, rfl, o, p, q, k1, k2, a⟩ := hh
    have l : w1.as.length ≤ O.length := Nat.le_of_eq o.len
    obtain ⟨t, pt, r⟩ := h cdv A outer s w1.H E code hr w1 ds O K1 KX q (k2.cut l) a
    have k1 := k1.cut l
    exact ⟨t, pt.nox, r w1 _ (Grow.refl w1) o (EnOk.start p) _ (fun en' O' σ' w' k e ok _ => k1 _ O' _ w' k e ok rfl) k1 (fun _ _ _ _ z => z.elim) (fun _ _ _ _ z => z.elim)⟩
end
theorem FnG.imp {P : Program} {w : World} {K : PySem.W.Frag} {mg : Str → Option Value} {base : Heap} {CX : CXT} {k : Nat} {f : Addr} {fd : FuncData} {ps : List Str} {sp sp' : Sp} (F : FnG P w K mg base CX k f fd ps sp) (i : ∀ vs H Q E, sp' vs H Q E → sp vs H Q E) : FnG P w K mg base CX k f fd ps sp' :=
  ⟨fun vs H Q E h => F.size vs H Q E (i _ _ _ _ h), fun A outer s H args us vs Q E hr g e b r h => F.goes A outer s H args us vs Q E hr g e b r (i _ _ _ _ h)⟩
/-! ### the law's start -/
def fsLawT (KF : PySem.W.Frag) (qs : List Str) : FS := fun ds O Q _ => ∃ ns : List Int, ds = [.fr (dSq KF (ns.map V.int))] ∧ O = qs.map (fun q => some (oTab q)) ∧ ∀ O', Q (fBl true) O'
def spLawT (KF : PySem.W.Frag) (Ps : List Addr) : Sp := fun vs H Q _ => ∃ (a : Addr) (ns : List Int), vs = [.ref a] ∧ (∀ P ∈ Ps, H P = some (.tbl #[])) ∧ SqL KF H a (ns.map V.int) ∧ ∀ H', Q (.bl true) H'
theorem fsLawT_of {KF : PySem.W.Frag} {Ps : List Addr} {qs : List Str} {T : List (Nat × Addr)} {vs : List V} {H : Hp} {Q : VK} {E : XK} (nd : Ps.Nodup) (hl : Ps.length = qs.length) (hT : ∀ t ∈ T, Ps[t.1]? = some t.2) (h : spLawT KF Ps vs H Q E) : spDT T (fsLawT KF qs) vs H Q E := by
  obtain ⟨a, ns, rfl, hP, hS, k⟩ := h
  refine ⟨⟨Ps, offT H Ps, H⟩, _, [.fr (dSq KF (ns.map V.int))], fun d _ => d = fBl true, noX, rfl, WOk.startT nd hl hP, .cons ⟨a, rfl, SqL.off hP hS⟩ .nil, ⟨ns, rfl, rfl, fun _ => rfl⟩, fun d O' v w' e g o p => ?_, .no, hT⟩
  subst e
  have p : v = .bl true := p
  subst p
  exact k _
section
variable {b : Wd} {en : En} {O : Ow} {K : DK} {KF : PySem.W.Frag}
/-- repr of a list or tuple -/
theorem OpN.repr {d : D} {p : PyData} (h : DpF KF d p) (hr : ∀ F v, d.p F v → ∃ a, v = .ref a) (s : p.showable = true) (n : p.hasDict = false) (dp : p.depth ≤ 50) (l : p.shown.length ≤ sizeLine) (k : K (fStr p.shown) O) :
    OpN b (fun xs H Q => ∃ (a : Addr) (d : PyData), xs = [.ref a] ∧ Dp KF H (.ref a) d ∧ d.showable = true ∧ d.hasDict = false ∧ d.depth ≤ 50 ∧ d.shown.length ≤ sizeLine ∧ Q (.str d.shown) H) [.fr d] O K := fun w xs e o q Q n' => by
  obtain ⟨v, rfl, pv⟩ := q.one
  obtain ⟨a, rfl⟩ := hr _ _ pv
  exact ⟨a, p, rfl, h _ _ _ o.sub pv, s, n, dp, l, n' _ O _ w k (Grow.refl w) o rfl⟩
theorem dLst_ref {ds : List D} : ∀ F v, (dLst ds).p F v → ∃ a, v = .ref a := fun F v ⟨a, _, e, _⟩ => ⟨a, e⟩
theorem dTup_ref {ds : List D} : ∀ F v, (dTup ds).p F v → ∃ a, v = .ref a := fun F v ⟨a, _, e, _⟩ => ⟨a, e⟩
/-- [x for x in o.m()], m a generator over a tuple in a field -/
theorem Ev.lcY {C : Addr} {m fld : Str} {ta : TE} (h : Ev b ta en O fun d O1 => ∃ (x : D) (ds : List D), d = .fr x ∧ ds.length < 1000 ∧ (∀ F v, x.p F v → ∃ a dx fs t vs, v = .ref a ∧ F a = some (.ins C dx fs) ∧ fs.lookup m = none ∧ fs.lookup fld = some (.ref t) ∧ F t = some (.tup vs) ∧ LsP F ds vs) ∧ K (.fr (dLst ds)) O1) :
    Ev b (tLcY (tY KF C m fld ta)) en O K := fun w σ e o en' Q q => h w σ e o en' _ fun d O1 v w1 k1 e1 o1 p1 => by
  obtain ⟨x, ds, rfl, l, hx, k⟩ := k1
  obtain ⟨a, dx, fs, t, vs, rfl, ha, l1, l2, ht, pl⟩ := hx _ _ p1
  refine ⟨a, dx, fs, t, vs, rfl, o1.sub _ _ ha, l1, l2, SqT.of (o1.sub _ _ ht), by rw [← pl.len]; exact l, fun p hp => ?_⟩
  have g := Grow.new o1 (.lst vs) hp
  exact q _ O1 _ _ k (e1.trans g) (o1.new (.lst vs) hp) ⟨p, vs, rfl, upd_same, pl.mono g.F⟩
theorem LsP.rep {F : Hp} {ds : List D} {vs : List V} (h : LsP F ds vs) : ∀ n : Nat, LsP F (List.replicate n ds).flatten (List.replicate n vs).flatten
  | 0 => .nil
  | n + 1 => by rw [List.replicate_succ, List.replicate_succ, List.flatten_cons, List.flatten_cons]; exact h.app (LsP.rep h n)
/-- [..] * n -/
theorem Op2.rep {ds : List D} {n : Int} (h1 : -(2 ^ 63) ≤ n) (h2 : n < 2 ^ 63) (l : ds.length * n.toNat ≤ sizeLine) (k : K (.fr (dLst (List.replicate n.toNat ds).flatten)) O) : Op2 b rRep (.fr (dLst ds)) (fInt n) O K := fun w x y e o p q Q nn => by
  obtain ⟨a, vs, rfl, f, pl⟩ := p
  have q : y = .int n := q
  subst q
  refine ⟨a, n, vs, rfl, rfl, o.sub _ _ f, h1, h2, by rw [← pl.len]; exact l, fun p hp => ?_⟩
  have g := Grow.new o (.lst (List.replicate n.toNat vs).flatten) hp
  exact nn _ O _ _ k g (o.new _ hp) ⟨p, _, rfl, upd_same, (pl.rep n.toNat).mono g.F⟩
/-- -x, ~x of an own instance -/
theorem Op1.own {C : Addr} {fs : FS} {d : Da} (h1 : IsIns C O d) (h : fs [d] O K noX) : Op1 b (fun x H Q => ∃ a dx gs, x = .ref a ∧ H a = some (.ins C dx gs) ∧ spD fs [x] H Q E0) d O K := fun w x e o p Q n => by
  obtain ⟨a, dx, gs, rfl, ha⟩ := h1.at_ o p
  exact ⟨a, dx, gs, rfl, ha, spD_at o (.cons p .nil) h n .no⟩
/-- o.m(k = e, ..) -/
theorem Ev.methK {C : Addr} {m : Str} {n : Nat} {fs : FS} {ta : TE} {tk : TA} {E : XK} {KX : XKD} (r : RaiseTo b E KX) (h : Ev b ta en O fun d O1 => InsNo C m O1 d ∧ EvA b tk en O1 fun ds O2 => ds.length = n ∧ fs (d :: ds) O2 K KX) : Ev b (tMethK C m n (spD fs) E ta tk) en O K :=
  fun w σ e o en' Q q => h w σ e o en' _ fun d O1 x w1 k e1 o1 p1 => by
    obtain ⟨a, dx, gs, rfl, ha, l⟩ := k.1.at_ o1 p1
    refine ⟨a, dx, gs, rfl, ha, l, k.2 w1 σ (e.trans e1) o1 (en'.ext e1) _ fun ds O2 vs w2 k2 e2 o2 p2 => ?_⟩
    exact ⟨p2.len.symm.trans k2.1, spD_at o2 (.cons (Da.mono e2 p1) p2) k2.2 (Wn.grow q (e1.trans e2)) (r.grow ((e.trans e1).trans e2))⟩
theorem EvG.tup3 {i1 i2 i3 : Nat} {x1 x2 x3 : D} {K : EK} (k : K (((en.set i1 (some (.fr x1))).set i2 (some (.fr x2))).set i3 (some (.fr x3))) O) : EvG b (gTup KF 3 (gCons (gName i1) (gCons (gName i2) (gCons (gName i3) gNil)))) (.fr (dTup [x1, x2, x3])) en O K := fun w σ v e o en' p Q q => by
  obtain ⟨a, vs, rfl, f, p⟩ := p
  cases p with
  | cons p1 p => cases p with
    | cons p2 p => cases p with
      | cons p3 p => cases p with
        | nil => exact ⟨a, _, rfl, SqT.of (o.sub _ _ f), rfl, _, _, rfl, _, _, rfl, _, _, rfl, rfl, q _ O _ w k (Grow.refl w) o (((EnOk.set en' i1 (d := .fr x1) p1).set i2 (d := .fr x2) p2).set i3 (d := .fr x3) p3)⟩
theorem EvG.tup4 {i1 i2 i3 i4 : Nat} {x1 x2 x3 x4 : D} {K : EK} (k : K ((((en.set i1 (some (.fr x1))).set i2 (some (.fr x2))).set i3 (some (.fr x3))).set i4 (some (.fr x4))) O) :
    EvG b (gTup KF 4 (gCons (gName i1) (gCons (gName i2) (gCons (gName i3) (gCons (gName i4) gNil))))) (.fr (dTup [x1, x2, x3, x4])) en O K := fun w σ v e o en' p Q q => by
  obtain ⟨a, vs, rfl, f, p⟩ := p
  cases p with
  | cons p1 p => cases p with
    | cons p2 p => cases p with
      | cons p3 p => cases p with
        | cons p4 p => cases p with
          | nil => exact ⟨a, _, rfl, SqT.of (o.sub _ _ f), rfl, _, _, rfl, _, _, rfl, _, _, rfl, _, _, rfl, rfl, q _ O _ w k (Grow.refl w) o ((((EnOk.set en' i1 (d := .fr x1) p1).set i2 (d := .fr x2) p2).set i3 (d := .fr x3) p3).set i4 (d := .fr x4) p4)⟩
end
theorem Room.u64 {k : Nat} {A : Around} (hr : Room k A) : A.units + 64 < cLine := by have := hr.un; omega
section
variable {X : Cx} {CX : CXT} {k : Nat} {C : Addr} {ps : List Str} {sp : Sp} {E : XK}
theorem iop_andMe (h : HasMe X.prog X.w X.K X.mg X.base CX k C "__and__" ps sp) (hr : Room k X.A) (hx : Passes CX X E) (hc : NoI X.K C "__iand__") : PIp X .BitAnd (rOwn2 C C sp E) := by
  obtain ⟨f, fd, F, O, _, hb⟩ := h
  exact iop_own F hr hb hx hc O
theorem iop_orMe (h : HasMe X.prog X.w X.K X.mg X.base CX k C "__or__" ps sp) (hr : Room k X.A) (hx : Passes CX X E) (hc : NoI X.K C "__ior__") : PIp X .BitOr (rOwn2 C C sp E) := by
  obtain ⟨f, fd, F, O, _, hb⟩ := h
  exact iop_own F hr hb hx hc O
theorem iop_xorMe (h : HasMe X.prog X.w X.K X.mg X.base CX k C "__xor__" ps sp) (hr : Room k X.A) (hx : Passes CX X E) (hc : NoI X.K C "__ixor__") : PIp X .BitXor (rOwn2 C C sp E) := by
  obtain ⟨f, fd, F, O, _, hb⟩ := h
  exact iop_own F hr hb hx hc O
end
/-- the slots, written otherwise -/
theorem EvS.as {b : Wd} {ts : TS} {en en' : En} {O : Ow} {K : Ks} (e : en = en') (h : EvS b ts en' O K) : EvS b ts en O K := e ▸ h
/-- own things: lists, or forgotten ones -/
def OwL (r : Ow) : Prop := ∀ x ∈ r, x = none ∨ ∃ ds, x = some (oLst ds)
theorem OwL.nil : OwL [] := fun x h => by cases h
theorem OwL.app {r : Ow} (h : OwL r) {x : Option OD} (hx : x = none ∨ ∃ ds, x = some (oLst ds)) : OwL (r ++ [x]) := fun y hy => by
  rcases List.mem_append.mp hy with hy | hy
  · exact h y hy
  · rw [List.mem_singleton.mp hy]; exact hx
theorem OwN.nil : OwN [] := fun k od h => by simp at h
theorem OwN.tab {q : Str} {O : Ow} (h : OwN O) : OwN (some (oTab q) :: O) := fun k od e => by
  cases k with
  | zero => intro F o p g z; simp at e; subst e; obtain ⟨ps, e, _⟩ := p; rw [e] at z; cases z
  | succ k => exact h k od (by simpa using e)
theorem OwN.pen {B : Nat} {O : Ow} (h : OwN O) : OwN (pB B :: O) := fun k od e => by
  cases k with
  | zero => intro F o p g z; simp [pB] at e; subst e; obtain ⟨ns, i, r, q, _, _, e, _⟩ := p; rw [e] at z; cases z
  | succ k => exact h k od (by simpa using e)
theorem OwN.appL {O r : Ow} (h : OwN O) (l : OwL r) : OwN (O ++ r) := fun k od e => by
  rcases Nat.lt_or_ge k O.length with c | c
  · rw [List.getElem?_append_left c] at e; exact h k od e
  · rw [List.getElem?_append_right c] at e
    intro F o p g z
    rcases l _ (List.mem_of_getElem? e) with q | ⟨ds, q⟩
    · cases q
    · injection q with q
      subst q
      obtain ⟨vs, e2, _⟩ := p
      rw [e2] at z; cases z
end DL

namespace LB
open PySem L2 PySem.Spec PyProof.Rows
section
variable {X : Cx} {CX : CXT} {k : Nat} {f C : Addr} {fd : FuncData} {ps : List Str} {sp : Sp} {E : XK}
/-- str(o), o an instance with its own __str__ -/
theorem call_strMe (h : HasMe X.prog X.w X.K X.mg X.base CX k C "__str__" ps sp) (hr : Room (k + 1) X.A) (hx : Passes CX X E) :
    CallR X (.type "str") (fun xs H Q => ∃ a dx fs, xs = [.ref a] ∧ H a = some (.ins C dx fs) ∧ sp [.ref a] H (fun z H' => ∃ y, z = .str y ∧ Q (.str y) H') E) := by
  obtain ⟨f, fd, F, O, _, hb⟩ := h
  intro pins s σ H xs us Q I rx hq
  obtain ⟨a, dx, fs, rfl, ha, h⟩ := hq
  obtain ⟨u, rfl, ru⟩ := vals1 rx
  cases ru
  obtain ⟨od, J⟩ := inst_of I ha
  obtain ⟨m, hF⟩ := I.fr
  refine PySem.W.kso_call (by have := hr.un; show X.A.units + 1 + 1 < _; omega) I.kIn J O.at_ O.fn (thn (run_in2 (us := [.ref a]) (vs := [.ref a]) F hr hb hx I (.cons rfl .nil) h) fun u s' z => ?_)
  obtain ⟨w, H', I', r, y, rfl, q⟩ := z
  obtain ⟨t, rfl⟩ := r
  exact ⟨.str y, H', I', ⟨t, rfl⟩, q⟩
end
end LB

namespace LB
open PySem L2 PySem.Spec PyProof.Rows
section
variable {X : Cx}
/-- is not of two bools -/
theorem op_isNotBl : OpR X (compareOp .IsNot) (fun x y H Q => ∃ a b : Bool, x = .bl a ∧ y = .bl b ∧ Q (.bl (!decide (a = b))) H) := by
  intro pins s σ H x y v u Q I rx ry h
  obtain ⟨a, b, rfl, rfl, q⟩ := h
  cases (show v = Value.bool a from rx)
  cases (show u = Value.bool b from ry)
  exact wpAny_isNot_plain rfl (fin_bl I q (by cases a <;> cases b <;> rfl))
/-- == of an instance with its own __eq__ and a whole number -/
theorem op_eqMeI {CX : CXT} {k : Nat} {C : Addr} {ps : List Str} {sp : Sp} {E : XK} (h : HasMe X.prog X.w X.K X.mg X.base CX k C "__eq__" ps sp) (hr : Room k X.A) (hx : Passes CX X E) (ns : PySem.W.notFirst X.K C (.type "int") = true) :
    OpR X (compareOp .Eq) (fun x y H Q => ∃ a dx fs i, x = .ref a ∧ H a = some (.ins C dx fs) ∧ y = .int i ∧ sp [x, y] H Q E) := by
  obtain ⟨f, fd, F, ho, _, hb⟩ := h
  intro pins s σ H x y v u Q I rx ry hq
  obtain ⟨a, dx, fs, i, rfl, ha, rfl, h⟩ := hq
  cases rx
  obtain ⟨od, J⟩ := inst_of I ha
  obtain ⟨m, hF⟩ := I.fr
  show wpAny (model X.prog X.w) X.A (richCompare .Eq (.ref a) u) (EP X pins σ Q) X.xe s
  have ry2 := ry
  obtain ⟨t, rfl⟩ := ry
  refine PySem.W.cmp_K (op := .Eq) (tb := .type "int") hr.units0 hF I.ok.mod.kin J (PySem.W.Looks.of_pure rfl) ns ho.at_ ho.fn (thn ?_ fun _ _ z => cmpBack_of z)
  exact run_fn (us := [.ref a, .int i t]) (vs := [.ref a, .int i]) (dvs := []) (ds := []) F hr hb .nil hx I (.cons rfl (.cons ry2 .nil)) h
/-- (t, x) != (t, x), t a scalar, x a scalar or an object -/
theorem op_neT2 (hu : X.A.units + 64 < cLine) : OpR X (compareOp .NotEq) (fun x y H Q => ∃ a b t z, x = .ref a ∧ y = .ref b ∧ SqT X.K H a [t, z] ∧ SqT X.K H b [t, z] ∧ flatV t = true ∧ (flatV z = true ∨ ∃ c, z = .ref c) ∧ Q (.bl false) H) := by
  intro pins s σ H x y v u Q I rx ry hq
  obtain ⟨a, b, t, z, rfl, rfl, ha, hb, ht, hz, q⟩ := hq
  cases rx
  cases ry
  obtain ⟨its, r, e, _⟩ := I.tuple ha
  obtain ⟨its2, r2, e2, _⟩ := I.tuple hb
  obtain ⟨t1, u1, rfl, rt1, ru1⟩ := vals2 r
  obtain ⟨t2, u2, rfl, rt2, ru2⟩ := vals2 r2
  have ht : SeqAt.EqAt X.A.in1 s t1 t2 true := by
    have := eqAt_V (A := X.A.in1) (s := s) rt1 rt2 ht ht
    rw [eqV_refl ht] at this
    exact this
  have he : SeqAt.EqAt X.A.in1 s u1 u2 true := by
    rcases hz with f | ⟨c, rfl⟩
    · have := eqAt_V (A := X.A.in1) (s := s) ru1 ru2 f f
      rw [eqV_refl f] at this
      exact this
    · cases ru1
      cases ru2
      exact SeqAt.EqAt.same _
  refine SeqAt.RcNeAt.tuples e e2 (by omega) (e := fun _ => true) (fun j h1 h2 => ?_) X.prog X.w X.xe _ ?_
  · have : j = 0 ∨ j = 1 := by
      have : j < 2 := h1
      omega
    rcases this with rfl | rfl
    · exact ht
    · exact he
  · exact ⟨.bl false, H, I, rfl, q⟩
/-- a sign, twice -/
theorem op_twice : OpR X (binaryOp .Mult) (fun x y H Q => ∃ c, x = .str ⟨#[c]⟩ ∧ y = .int 2 ∧ Q (.str ⟨#[c, c]⟩) H) := by
  intro pins s σ H x y v u Q I rx ry h
  obtain ⟨c, rfl, rfl, q⟩ := h
  obtain ⟨t, rfl⟩ := rx
  obtain ⟨t', rfl⟩ := ry
  refine PySem.P.mul_str (by decide) (fun _ _ => by show ¬ ((1 : Int) > _); decide) (fun _ _ => rfl) ?_
  exact ⟨by show 2 ≤ _; decide, .str _, H, I.tok _, ⟨_, rfl⟩, q⟩
end
end LB

namespace DL
open PySem L2 LB PySem.Spec PyProof.Rows
section
variable {b : Wd} {en : En} {O : Ow} {K : DK} {KF : PySem.W.Frag}
/-- str(o), bool(o) by own dunders -/
theorem OpN.strOwn {C : Addr} {fs : FS} {d : Da} {K : DK} (h1 : IsIns C O d) (h : fs [d] O (fun r O' => ∃ y : Str, r = fStr y ∧ K (fStr y) O') noX) :
    OpN b (fun xs H Q => ∃ a dx fs', xs = [.ref a] ∧ H a = some (.ins C dx fs') ∧ spD fs [.ref a] H (fun z H' => ∃ y, z = .str y ∧ Q (.str y) H') E0) [d] O K := fun w xs e o p Q q => by
  obtain ⟨v, rfl, pv⟩ := p.one
  obtain ⟨a, dx, gs, rfl, ha⟩ := h1.at_ o pv
  refine ⟨a, dx, gs, rfl, ha, spD_at o (.cons pv .nil) h (fun d O' v w' k g o' p' => ?_) .no⟩
  obtain ⟨y, rfl, k⟩ := k
  exact ⟨y, p', q _ O' _ w' k g o' rfl⟩
theorem OpN.boolOwn {C : Addr} {fs : FS} {d : Da} {K : DK} (h1 : IsIns C O d) (h : fs [d] O (fun r O' => ∃ c : Bool, r = fBl c ∧ K (fBl c) O') noX) :
    OpN b (fun xs H Q => ∃ a dx fs', xs = [.ref a] ∧ H a = some (.ins C dx fs') ∧ spD fs [.ref a] H (fun z H' => ∃ c, z = .bl c ∧ Q (.bl c) H') E0) [d] O K := fun w xs e o p Q q => by
  obtain ⟨v, rfl, pv⟩ := p.one
  obtain ⟨a, dx, gs, rfl, ha⟩ := h1.at_ o pv
  refine ⟨a, dx, gs, rfl, ha, spD_at o (.cons pv .nil) h (fun d O' v w' k g o' p' => ?_) .no⟩
  obtain ⟨y, rfl, k⟩ := k
  exact ⟨y, p', q _ O' _ w' k g o' rfl⟩
/-- the one value that x is -/
def dOne (d : D) (x : V) : D := ⟨fun F v => v = x ∧ d.p F v, fun s ⟨e, h⟩ => ⟨e, d.mono s h⟩⟩
/-- from here on it is known which one it is -/
theorem Ev.is {te : TE} {K : DK} (h : Ev b te en O fun d O' => ∃ d', d = .fr d' ∧ ∀ x, K (.fr (dOne d' x)) O') : Ev b te en O K := fun w σ e o en' Q q => h w σ e o en' Q fun d O' v w' ⟨d', e', k⟩ g o p => by
  subst e'
  exact q _ _ v w' (k v) g o ⟨rfl, p⟩
theorem TyP.is {d : D} {x : V} {t : Value} (h : TyP KF O (.fr d) t) : TyP KF O (.fr (dOne d x)) t := fun w v o p => h w v o p.2
theorem Ev.orS {ta tb : TE} (h : Ev b ta en O fun d O1 => ∃ z : Str, d = fStr z ∧ z.length ≤ sizeLine ∧ (z.length = 0 → Ev b tb en O1 K) ∧ (z.length ≠ 0 → K (fStr z) O1)) : Ev b (tOrT KF ta tb) en O K :=
  fun w σ e o en' Q q => h w σ e o en' _ fun d O1 x w1 k1 e1 o1 p1 => by
    obtain ⟨z, rfl, hs, kf, kt⟩ := k1
    have p1 : x = .str z := p1
    subst p1
    by_cases hz : z.length = 0
    · exact ⟨false, ⟨hs, by rw [hz]; rfl⟩, iteF (kf hz w1 σ (e.trans e1) o1 (en'.ext e1) Q (Wn.grow q e1))⟩
    · exact ⟨true, ⟨hs, (bne_iff_ne.mpr (fun e => hz (by exact_mod_cast e))).symm⟩, iteT (q _ O1 _ w1 (kt hz) e1 o1 rfl)⟩
/-- == of an instance and a scalar of another type -/
theorem Op2.eqOwnI {C : Addr} {fs : FS} {d : Da} {i : Int} (h1 : IsIns C O d) (h : fs [d, fInt i] O K noX) :
    Op2 b (fun x y H Q => ∃ a dx gs i, x = .ref a ∧ H a = some (.ins C dx gs) ∧ y = .int i ∧ spD fs [x, y] H Q E0) d (fInt i) O K := fun w x y e o p p2 Q n => by
  obtain ⟨a, dx, gs, rfl, ha⟩ := h1.at_ o p
  exact ⟨a, dx, gs, i, rfl, ha, p2, spD_at o (.cons p (.cons p2 .nil)) h n .no⟩
theorem Op2.eqOwnX {C : Addr} {fs : FS} {d : Da} {v : V} (h1 : IsIns C O d) (hv : (∃ z, v = .str z) ∨ v = .non) (h : fs [d, fV v] O K noX) :
    Op2 b (fun x y H Q => ∃ a dx gs, x = .ref a ∧ H a = some (.ins C dx gs) ∧ ((∃ z, y = .str z) ∨ y = .non) ∧ spD fs [x, y] H Q E0) d (fV v) O K := fun w x y e o p p2 Q n => by
  obtain ⟨a, dx, gs, rfl, ha⟩ := h1.at_ o p
  have p3 : y = v := p2
  subst p3
  exact ⟨a, dx, gs, rfl, ha, hv, spD_at o (.cons p (.cons p2 .nil)) h n .no⟩
/-- (t, x) != (t, x) of the same x -/
theorem Op2.neT2 {t x : V} {d : D} (ht : flatV t = true) (h1 : ∀ F v, d.p F v → v = x) (hd : ∀ F v, d.p F v → flatV v = true ∨ ∃ c, v = .ref c) (k : K (fBl false) O) :
    Op2 b (fun x y H Q => ∃ a b t z, x = .ref a ∧ y = .ref b ∧ SqT KF H a [t, z] ∧ SqT KF H b [t, z] ∧ flatV t = true ∧ (flatV z = true ∨ ∃ c, z = .ref c) ∧ Q (.bl false) H) (.fr (dTup [dV t, d])) (.fr (dTup [dV t, d])) O K := fun w u v e o p p2 Q n => by
  obtain ⟨a, us, rfl, fa, q⟩ := p
  obtain ⟨a2, us2, rfl, fa2, q2⟩ := p2
  cases q with
  | cons q0 q =>
    cases q with
    | cons q1 q =>
      cases q
      cases q2 with
      | cons r0 r =>
        cases r with
        | cons r1 r =>
          cases r
          have e0 : _ = t := q0
          have e1 := h1 _ _ q1
          have f0 : _ = t := r0
          have f1 := h1 _ _ r1
          have hz := hd _ _ q1
          subst e0 e1 f0
          subst f1
          exact ⟨a, a2, _, _, rfl, rfl, SqT.of (o.sub _ _ fa), SqT.of (o.sub _ _ fa2), ht, hz, n _ O _ w k (Grow.refl w) o rfl⟩
/-- from here on it is known which one it is, if it isn't known already -/
theorem Ev.isOr {te : TE} {K : DK} (h : Ev b te en O fun d O' => ∃ d', d = .fr d' ∧ ((∃ v, d' = dV v) ∧ K (.fr d') O' ∨ ∀ x, K (.fr (dOne d' x)) O')) : Ev b te en O K := fun w σ e o en' Q q => h w σ e o en' Q fun d O' v w' ⟨d', e', k⟩ g o p => by
  subst e'
  rcases k with ⟨_, k⟩ | k
  · exact q _ _ v w' k g o p
  · exact q _ _ v w' (k v) g o ⟨rfl, p⟩
theorem EnOk.fix {w : Wd} {σ : L2.St} {en : En} {i : Nat} {d : D} (h : EnOk w σ en) (hi : en[i]? = some (some (.fr d))) : ∃ v, d.p w.F v ∧ ∀ d' : D, d'.p w.F v → EnOk w σ (en.set i (some (.fr d'))) := by
  obtain ⟨v, hv, pv⟩ := h.at_ i _ hi
  refine ⟨v, pv, fun d' p' => ⟨by rw [List.length_set]; exact h.len, fun j e q => ?_⟩⟩
  by_cases ji : i = j
  · subst ji
    rw [List.getElem?_set_self (List.getElem?_eq_some_iff.mp hi).1] at q
    injection q with q
    injection q with q
    subst q
    exact ⟨v, hv, p'⟩
  · rw [List.getElem?_set_ne ji] at q
    exact h.at_ j e q
/-- which one it is, is known from here on -/
theorem EvS.odd {ts : TS} {K : Ks} {i : Nat} {d : D} {Pr : D → Prop} (hi : en[i]? = some (some (.fr d))) (hd : (∃ v, d = dV v ∧ flatV v = true ∧ Pr (dV v)) ∨ ((∀ F v, d.p F v → ∃ c, v = .ref c) ∧ ∀ x, Pr (dOne d x)))
    (k : ∀ d' x0, (∀ F v, d'.p F v → v = x0) → (∀ F v, d'.p F v → flatV v = true ∨ ∃ c, v = .ref c) → Pr d' → EvS b ts (en.set i (some (.fr d'))) O K) : EvS b ts en O K := fun w σ e o en' => by
  obtain ⟨v, pv, key⟩ := en'.fix hi
  rcases hd with ⟨u, rfl, fl, p⟩ | ⟨rf, p⟩
  · exact k (dV u) u (fun F v h => h) (fun F v h => .inl (by rw [show v = u from h]; exact fl)) p w σ e o (key _ pv)
  · exact k (dOne d v) v (fun F v h => h.1) (fun F u h => .inr (rf F u h.2)) (p v) w σ e o (key _ ⟨rfl, pv⟩)
/-- list(range(n)) -/
theorem Ev.listRg {ta : TE} {K : DK} (h : Ev b ta en O fun d O1 => ∃ n : Nat, d = fInt (n : Nat) ∧ n ≤ 1000 ∧ K (.fr (dLst (dIs ((List.range n).map fun i => ((i : Nat) : Int))))) O1) : Ev b (tLstRg (tRg1 ta)) en O K := fun w σ e o en' Q q => h w σ e o en' _ fun d O1 x w1 k1 e1 o1 p1 => by
  obtain ⟨n, rfl, hn, k⟩ := k1
  refine ⟨_, p1, ⟨by omega, by omega, by omega, by omega, by omega⟩, fun c hc => ?_⟩
  refine q _ O1 _ _ k (e1.trans (Grow.new o1 (.lst (rgV 0 (n : Nat))) hc)) (o1.new _ hc) ⟨c, _, rfl, upd_same, ?_⟩
  have := LsP.vals (F := upd w1.F c (.lst (rgV 0 (n : Nat)))) (rgV 0 (n : Nat))
  have e2 : (rgV 0 (n : Nat)).map dV = dIs ((List.range n).map fun i => ((i : Nat) : Int)) := by
    unfold rgV dIs
    rw [List.map_map, List.map_map, Int.sub_zero, Int.toNat_natCast]
    refine List.map_congr_left fun i _ => ?_
    show dV (V.int (0 + (i : Nat))) = dV (V.int (i : Nat))
    rw [Int.zero_add]
  rw [e2] at this
  exact this
end
end DL

namespace LB
open PySem L2 PySem.Spec PyProof.Rows
/-! ### repr of a dict with scalar keys, its values data without dicts -/
mutual
/-- what is read without dicts lies at lists -/
theorem reads_lists {h : Heap} : ∀ {u : Value} {d : PyData} {as : List Addr}, Reads h u d as → d.hasDict = false → ∀ b ∈ as, ∃ o, h.get? b = some o ∧ o.cls = .type "list"
  | _, _, _, .none, _, b, m => nomatch m
  | _, _, _, .bool _, _, b, m => nomatch m
  | _, _, _, .int _ _, _, b, m => nomatch m
  | _, _, _, .str _ _, _, b, m => nomatch m
  | _, _, _, .list e c _ r, hd, b, m => by
    rcases List.mem_cons.mp m with rfl | m
    · exact ⟨_, e, c⟩
    · exact readsAll_lists r hd b m
  | _, _, _, .tuple e c _ r, hd, b, m => readsAll_lists r hd b m
  | _, _, _, .dict _ _ _ _ _, hd, b, m => by cases hd
theorem readsAll_lists {h : Heap} : ∀ {us : List Value} {ds : List PyData} {as : List Addr}, ReadsAll h us ds as → PyData.hasDictAll ds = false → ∀ b ∈ as, ∃ o, h.get? b = some o ∧ o.cls = .type "list"
  | _, _, _, .nil, _, b, m => nomatch m
  | _, _, _, .cons (as := as) (bs := bs) r rs, hd, b, m => by
    obtain ⟨h1, h2⟩ := Bool.or_eq_false_iff.mp (show (PyData.hasDict _ || PyData.hasDictAll _) = false from hd)
    rcases List.mem_append.mp m with m | m
    · exact reads_lists r h1 b m
    · exact readsAll_lists rs h2 b m
end
/-- a key as data -/
def kD : Key → PyData
  | .inl i => .int i
  | .inr x => .str x
theorem pairs_keys {P : Program} {w : World} {h : Heap} : ∀ {es : List DictEntry} {kvs : List (Key × Value)}, Pairs (mixKind P w) es kvs → ReadsAll h (es.map (·.key)) (kvs.map fun kv => kD kv.1) []
  | _, _, .nil => .nil
  | _, _, .cons (e := e) (kv := kv) hk _ r => by
    have hk : keyIs kv.1 e.key = true := hk
    have one : Reads h e.key (kD kv.1) [] := by
      rcases keyIs_shape hk with ⟨i, t, e1, e2⟩ | ⟨x, t, e1, e2⟩
      · rw [e1, e2]; exact .int i t
      · rw [e1, e2]; exact .str x t
    exact .cons (as := []) (bs := []) one (pairs_keys r)
theorem pairs_vals {P : Program} {w : World} : ∀ {es : List DictEntry} {kvs : List (Key × Value)}, Pairs (mixKind P w) es kvs → es.map (·.val) = kvs.map (·.2)
  | _, _, .nil => rfl
  | _, _, .cons _ hv r => by rw [List.map_cons, List.map_cons, hv, pairs_vals r]
theorem kv_keys : ∀ {kvs : List (Key × V)} {vs : List (Key × Value)}, KV kvs vs → vs.map (fun kv => kD kv.1) = kvs.map (fun kv => kD kv.1) ∧ Vals (kvs.map (·.2)) (vs.map (·.2))
  | _, _, .nil => ⟨rfl, .nil⟩
  | _, _, .cons ⟨e, r⟩ p => by
    obtain ⟨h1, h2⟩ := kv_keys p
    exact ⟨by rw [List.map_cons, List.map_cons, h1, e], .cons r h2⟩
theorem dpAll_len {K : PySem.W.Frag} {H : Hp} : ∀ {vs : List V} {ds : List PyData}, DpAll K H vs ds → ds.length = vs.length
  | _, _, .nil => rfl
  | _, _, .cons _ r => by rw [List.length_cons, List.length_cons, dpAll_len r]
/-- the table of modules is in K -/
def SysX (K : PySem.W.Frag) : Prop := ∃ o, K.lookup sysModules = some o ∧ o.cls = .type "dict"
section
variable {X : Cx}
theorem call_reprK (hg : X.A.guards = some []) (hu : X.A.units + 64 < cLine) (hS : ∃ o, X.K.lookup sysModules = some o ∧ o.cls = .type "dict") : CallR X (.builtin "repr") (fun xs H Q => ∃ (a : Addr) (kvs : List (Key × V)) (ds : List PyData), xs = [.ref a] ∧ H a = some (.dK kvs) ∧ DpAll X.K H (kvs.map (·.2)) ds ∧ PyData.hasDictAll ds = false ∧
    (PyData.dict ((kvs.map fun kv => kD kv.1).zip ds)).showable = true ∧ (PyData.dict ((kvs.map fun kv => kD kv.1).zip ds)).depth ≤ 50 ∧ (PyData.dict ((kvs.map fun kv => kD kv.1).zip ds)).shown.length ≤ sizeLine ∧ Q (.str (PyData.dict ((kvs.map fun kv => kD kv.1).zip ds)).shown) H) := by
  intro pins s σ H xs us Q I r h
  obtain ⟨a, kvs, ds, rfl, ha, dp, nd, sh, dpt, len, q⟩ := h
  obtain ⟨u, rfl, ru⟩ := vals1 r
  cases ru
  obtain ⟨_, ns, vs, kv, o, es, ep, ho, ex, hd, _, pr, _⟩ := dk_of I.hok ha
  obtain ⟨k1, k2⟩ := kv_keys kv
  obtain ⟨bs, rv⟩ := Dp.readsAll I ds _ _ dp k2
  have lds : ds.length = kvs.length := by rw [dpAll_len dp, List.length_map]
  have rk : ReadsAll s.heap (es.toList.map (·.key)) (((kvs.map fun kv => kD kv.1).zip ds).map (·.1)) [] := by
    have := pairs_keys (h := s.heap) pr
    rw [k1] at this
    rw [List.map_fst_zip (by rw [List.length_map, lds]; exact Nat.le_refl _)]
    exact this
  have rvs : ReadsAll s.heap (es.toList.map (·.val)) (((kvs.map fun kv => kD kv.1).zip ds).map (·.2)) bs := by
    rw [List.map_snd_zip (by rw [List.length_map, lds]; exact Nat.le_refl _), pairs_vals pr]
    exact rv
  have rd := Reads.dict ho ex.1 hd rk rvs
  refine repr_of_reads' rd sh (fun _ m => ?_) hg (by omega) (fun _ _ e => e) (fun h' u tk k => ⟨.str _, H, I.kept k, ⟨u, rfl⟩, q⟩) len
  rcases List.mem_append.mp m with m | m
  · rcases List.mem_cons.mp m with m | m
    · rw [m] at ns
      simp at ns
    · cases m
  · obtain ⟨o2, e2, c2⟩ := readsAll_lists rv nd _ m
    obtain ⟨o3, e3, c3⟩ := hS
    have := I.kIn _ _ e3
    rw [e2] at this
    injection this with this
    rw [this, c3] at c2
    injection c2 with c2
    exact absurd c2 (by decide)
end
end LB

namespace DL
open PySem L2 LB PySem.Spec PyProof.Rows
section
variable {b : Wd} {en : En} {O : Ow} {K : DK} {KF : PySem.W.Frag}
/-- dict(d): a dict of one's own, or one that stands still -/
theorem OpN.dictO {ds : List (Key × D)} {d : Da} (h : DctD O ds d) (k : K (.ow O.length) (O ++ [some (oDK ds)])) : OpN b (fun xs H Q => ∃ (a : Addr) (kvs : List (Key × V)), xs = [.ref a] ∧ Rd H a (.dK kvs) ∧ ∀ p, H p = none → Q (.ref p) (upd H p (.dK kvs))) [d] O K := fun w xs e o p Q n => by
  obtain ⟨v, rfl, pv⟩ := p.one
  obtain ⟨a, vs, rfl, f, q⟩ := h.at_ o pv
  exact ⟨a, vs, rfl, .of f, fun l hl => n _ _ _ _ k (Grow.newOw hl) (o.newOw (.dK vs) hl ⟨vs, rfl, q⟩) ⟨l, by rw [← o.len, List.getElem?_append_right (Nat.le_refl _), Nat.sub_self]; rfl, rfl⟩⟩
theorem OpN.dictF {ds : List (Key × D)} {d : Da} (h : DctD O ds d) (k : K (.fr (dDK ds)) O) : OpN b (fun xs H Q => ∃ (a : Addr) (kvs : List (Key × V)), xs = [.ref a] ∧ Rd H a (.dK kvs) ∧ ∀ p, H p = none → Q (.ref p) (upd H p (.dK kvs))) [d] O K := fun w xs e o p Q n => by
  obtain ⟨v, rfl, pv⟩ := p.one
  obtain ⟨a, vs, rfl, f, q⟩ := h.at_ o pv
  exact ⟨a, vs, rfl, .of f, fun l hl => n _ O _ _ k (Grow.new o (.dK vs) hl) (o.new _ hl) ⟨l, vs, rfl, upd_same, q.mono fun c u ec => (upd_ne (ne_of_none ec (o.sub.free hl))).trans ec⟩⟩
/-- d.pop(k), d of one's own -/
theorem Ev.dpop1 {td ty : TE} (h : Ev b td en O fun d O1 => ∃ (j : Nat) (ds0 : List (Key × D)), d = .ow j ∧ O1[j]? = some (some (oDK ds0)) ∧ Ev b ty en O1 fun d2 O2 => ∃ (ds : List (Key × D)) (k : Key) (x : D), O2[j]? = some (some (oDK ds)) ∧ d2 = fV (kV k) ∧ lookD ds k = some x ∧ K (.fr x) (O2.set j (some (oDK (dropD ds k))))) : Ev b (tDPop1 td ty) en O K :=
  fun w σ e o en' Q q => h w σ e o en' _ fun d O1 x w1 k1 e1 o1 p1 => by
    obtain ⟨j, ds0, rfl, h0, k1⟩ := k1
    obtain ⟨a, ha, rfl⟩ := p1
    obtain ⟨_, u0, hu0, vs0, rfl, _⟩ := o1.own j a _ ha h0
    refine ⟨a, rfl, .inl ⟨_, .of hu0⟩, k1 w1 σ (e.trans e1) o1 (en'.ext e1) _ fun d2 O2 z w2 k2 e2 o2 p2 => ?_⟩
    obtain ⟨ds, k, x, hk, rfl, hl, kk⟩ := k2
    have ha := e2.pre j a ha
    have p2 : z = kV k := p2
    subst p2
    obtain ⟨_, u, hu, vs, rfl, pu⟩ := o2.own j a _ ha hk
    rcases pu.look k with ⟨n, _⟩ | ⟨d, v, l1, l2, pv⟩
    · rw [hl] at n; cases n
    rw [hl] at l1
    injection l1 with l1
    subst l1
    have g := Grow.put (o := .dK (dropK vs k)) (List.mem_of_getElem? ha)
    exact ⟨vs, k, v, hu, rfl, l2, q _ _ _ _ kk ((e1.trans e2).trans g) (o2.put ha hk ⟨_, rfl, pu.drop k⟩) (DL.D.mono _ (Same.refl _) pv)⟩
theorem ksp_ls {F : Hp} : ∀ {kds : List (Key × D)} {vs : List (Key × V)}, KsP F kds vs → LsP F (kds.map (·.2)) (vs.map (·.2)) ∧ vs.map (fun kv => kD kv.1) = kds.map (fun kv => kD kv.1)
  | _, _, .nil => ⟨.nil, rfl⟩
  | _, _, .cons p r => by
    obtain ⟨h1, h2⟩ := ksp_ls r
    exact ⟨.cons p h1, by rw [List.map_cons, List.map_cons, h2]⟩
/-- repr of a dict that stands still -/
theorem OpN.reprK {kds : List (Key × D)} {ds : List PyData} (h : DpFs KF (kds.map (·.2)) ds) (nd : PyData.hasDictAll ds = false) (sh : (PyData.dict ((kds.map fun kv => kD kv.1).zip ds)).showable = true) (dp : (PyData.dict ((kds.map fun kv => kD kv.1).zip ds)).depth ≤ 50)
    (l : (PyData.dict ((kds.map fun kv => kD kv.1).zip ds)).shown.length ≤ sizeLine) (k : K (fStr (PyData.dict ((kds.map fun kv => kD kv.1).zip ds)).shown) O) :
    OpN b (fun xs H Q => ∃ (a : Addr) (kvs : List (Key × V)) (ds : List PyData), xs = [.ref a] ∧ H a = some (.dK kvs) ∧ DpAll KF H (kvs.map (·.2)) ds ∧ PyData.hasDictAll ds = false ∧
      (PyData.dict ((kvs.map fun kv => kD kv.1).zip ds)).showable = true ∧ (PyData.dict ((kvs.map fun kv => kD kv.1).zip ds)).depth ≤ 50 ∧ (PyData.dict ((kvs.map fun kv => kD kv.1).zip ds)).shown.length ≤ sizeLine ∧ Q (.str (PyData.dict ((kvs.map fun kv => kD kv.1).zip ds)).shown) H) [.fr (dDK kds)] O K := fun w xs e o p Q n => by
  obtain ⟨v, rfl, a, vs, rfl, f, q⟩ := p.one
  obtain ⟨h1, h2⟩ := ksp_ls q
  refine ⟨a, vs, ds, rfl, o.sub _ _ f, h.all o.sub h1, nd, ?_⟩
  rw [h2]
  exact ⟨sh, dp, l, n _ O _ w k (Grow.refl w) o rfl⟩
end
end DL

namespace LB
open PySem L2 PySem.Spec PyProof.Rows
/-! ### repr of a dict, a value of it may be an empty dict -/
inductive DpE (K : PySem.W.Frag) (H : Hp) : V → PyData → Prop
  | dp {v : V} {d : PyData} : Dp K H v d → d.hasDict = false → DpE K H v d
  | emp {a : Addr} : H a = some (.dK []) → DpE K H (.ref a) (.dict [])
inductive DpEs (K : PySem.W.Frag) (H : Hp) : List V → List PyData → Prop
  | nil : DpEs K H [] []
  | cons {v : V} {vs : List V} {d : PyData} {ds : List PyData} : DpE K H v d → DpEs K H vs ds → DpEs K H (v :: vs) (d :: ds)
theorem dpEs_len {K : PySem.W.Frag} {H : Hp} : ∀ {vs : List V} {ds : List PyData}, DpEs K H vs ds → ds.length = vs.length
  | _, _, .nil => rfl
  | _, _, .cons _ r => by rw [List.length_cons, List.length_cons, dpEs_len r]
section
variable {X : Cx} {pins : List (Addr × Obj)} {σ : L2.St} {H : Hp} {s : Shared}
/-- an address of lists, or at least not of the table of modules -/
def NotSys (h : Heap) (b : Addr) : Prop := (∃ o, h.get? b = some o ∧ o.cls = .type "list") ∨ b ≠ sysModules
theorem DpE.reads (I : Inv X pins σ H s) {v : V} {u : Value} {d : PyData} (h : DpE X.K H v d) (r : RelV v u) : ∃ as, Reads s.heap u d as ∧ ∀ b ∈ as, NotSys s.heap b := by
  cases h with
  | dp p nd =>
    obtain ⟨as, q⟩ := Dp.reads I d _ _ p r
    exact ⟨as, q, fun b m => .inl (reads_lists q nd b m)⟩
  | @emp a ha =>
    cases r
    obtain ⟨_, ns, vs, kv, o, es, ep, ho, ex, hd, _, pr, _⟩ := dk_of I.hok ha
    cases kv
    have e0 : es.toList = [] := by
      cases h : es.toList with
      | nil => rfl
      | cons x xs => rw [h] at pr; cases pr
    refine ⟨_, Reads.dict (kvs := []) (as := []) (bs := []) ho ex.1 hd (by rw [e0]; exact .nil) (by rw [e0]; exact .nil), fun b m => .inr ?_⟩
    have m : b = a := by simpa using m
    subst m
    intro z
    rw [z] at ns
    simp at ns
theorem DpEs.reads (I : Inv X pins σ H s) : ∀ {vs : List V} {us : List Value} {ds : List PyData}, DpEs X.K H vs ds → Vals vs us → ∃ as, ReadsAll s.heap us ds as ∧ ∀ b ∈ as, NotSys s.heap b
  | _, _, _, .nil, r => by cases r; exact ⟨_, .nil, fun _ m => nomatch m⟩
  | _, _, _, .cons h1 h2, r => by
    cases r with
    | cons r1 r2 =>
      obtain ⟨as, q1, n1⟩ := h1.reads I r1
      obtain ⟨bs, q2, n2⟩ := DpEs.reads I h2 r2
      exact ⟨_, .cons q1 q2, fun b m => (List.mem_append.mp m).elim (n1 b) (n2 b)⟩
theorem call_reprE (hg : X.A.guards = some []) (hu : X.A.units + 64 < cLine) (hS : ∃ o, X.K.lookup sysModules = some o ∧ o.cls = .type "dict") : CallR X (.builtin "repr") (fun xs H Q => ∃ (a : Addr) (kvs : List (Key × V)) (ds : List PyData), xs = [.ref a] ∧ H a = some (.dK kvs) ∧ DpEs X.K H (kvs.map (·.2)) ds ∧
    (PyData.dict ((kvs.map fun kv => kD kv.1).zip ds)).showable = true ∧ (PyData.dict ((kvs.map fun kv => kD kv.1).zip ds)).depth ≤ 50 ∧ (PyData.dict ((kvs.map fun kv => kD kv.1).zip ds)).shown.length ≤ sizeLine ∧ Q (.str (PyData.dict ((kvs.map fun kv => kD kv.1).zip ds)).shown) H) := by
  intro pins s σ H xs us Q I r h
  obtain ⟨a, kvs, ds, rfl, ha, dp, sh, dpt, len, q⟩ := h
  obtain ⟨u, rfl, ru⟩ := vals1 r
  cases ru
  obtain ⟨_, ns, vs, kv, o, es, ep, ho, ex, hd, _, pr, _⟩ := dk_of I.hok ha
  obtain ⟨k1, k2⟩ := kv_keys kv
  obtain ⟨bs, rv, nb⟩ := dp.reads I k2
  have lds : ds.length = kvs.length := by rw [dpEs_len dp, List.length_map]
  have rk : ReadsAll s.heap (es.toList.map (·.key)) (((kvs.map fun kv => kD kv.1).zip ds).map (·.1)) [] := by
    have := pairs_keys (h := s.heap) pr
    rw [k1] at this
    rw [List.map_fst_zip (by rw [List.length_map, lds]; exact Nat.le_refl _)]
    exact this
  have rvs : ReadsAll s.heap (es.toList.map (·.val)) (((kvs.map fun kv => kD kv.1).zip ds).map (·.2)) bs := by
    rw [List.map_snd_zip (by rw [List.length_map, lds]; exact Nat.le_refl _), pairs_vals pr]
    exact rv
  have rd := Reads.dict ho ex.1 hd rk rvs
  refine repr_of_reads' rd sh (fun _ m => ?_) hg (by omega) (fun _ _ e => e) (fun h' u tk k => ⟨.str _, H, I.kept k, ⟨u, rfl⟩, q⟩) len
  rcases List.mem_append.mp m with m | m
  · rcases List.mem_cons.mp m with m | m
    · rw [m] at ns
      simp at ns
    · cases m
  · rcases nb _ m with ⟨o2, e2, c2⟩ | n
    · obtain ⟨o3, e3, c3⟩ := hS
      have := I.kIn _ _ e3
      rw [e2] at this
      injection this with this
      rw [this, c3] at c2
      injection c2 with c2
      exact absurd c2 (by decide)
    · exact n rfl
end
/-! ### list(d.values()) -/
def tLstVals (td : TE) : TE := fun σ H Q => td σ H fun x H1 => ∃ a kvs, x = V.ref a ∧ H1 a = some (.dK kvs) ∧ ∀ q, H1 q = none → Q (.ref q) (upd H1 q (.lst (kvs.map (·.2))))
section
variable {X : Cx} {o : Expr} {p pos apos mpos : Pos} {td : TE}
theorem pe_listVals (hc : X.calm = true) (hg : Gl X "list") (hm : X.mg "list" = none) (hd : PE X o td) (hbase : attributeBase o "values" X.env (eval o X.env) = eval o X.env := by rfl) (hline : (apos.endLine == mpos.line) = true := by rfl)
    (na : starEach [Expr.Call (.Attribute o "values" apos) [] [] mpos] X.env = (false, eval (Expr.Call (.Attribute o "values" apos) [] [] mpos) X.env) :: starEach [] X.env := by rfl) :
    PE X (.Call (.Name "list" p) [.Call (.Attribute o "values" apos) [] [] mpos] [] pos) (tLstVals td) := by
  refine ⟨fun pins s σ H Q I h => ?_⟩
  refine Call_ (ld_blt I hg hm boot_list (PyProof.Rows.callWith_type1 (args_cons (wpAny_Call_method0_late hbase hline (thn (hd.run pins s σ H _ I h) fun v s1 ⟨x, H1, I1, r1, a, kvs, ex, ha, q⟩ => ?_)) na) na))
  subst ex
  obtain rfl : v = Value.ref a := r1
  obtain ⟨z, hsys, vs, rel, dof⟩ := dk_of I1.hok ha
  obtain ⟨ep, dat⟩ := dof.dictAt
  have dat' := dat
  obtain ⟨ob, es, ho, ex, hdat, hko, hpr, hnd⟩ := dat'
  refine ⟨"dict", "dict.values", F.plainAttrs_dict, F.slot_dict_values, F.type_dict_values, ⟨ob, ho, ex.1⟩, fun b e => ?_, Calls.callWith_builtin rfl (PySem.evalArgs_none ?_)⟩
  · cases e
    exact ⟨ob, ho, ex.2.1⟩
  refine call_meetsIn F.slot_dict_values ⟨ob, ho, ex.1⟩ F.entry_dict_values (F.args_dict_values_1 _) (meets_dict_values (mixKind X.prog X.w) a hsys) ⟨⟨vs, dof⟩, ?_⟩
  refine args_nil ?_
  have k1 : ∀ b u, s1.heap.get? b = some u → (s1.heap.push { cls := .type "dict_values", data := .fields #[.ref a] }).get? b = some u := fun b u e => Heap.get?_push_of_some _ e
  have dat1 : (s1.heap.push { cls := .type "dict_values", data := .fields #[.ref a] }).DictAt (mixKind X.prog X.w) a vs ep := dat.keep k1
  have hl : kvs.length = vs.length := KV.length rel
  have I2 : Inv X pins σ H1 { s1 with heap := s1.heap.push { cls := .type "dict_values", data := .fields #[.ref a] } } := I1.kept (t' := s1.toks) k1
  refine PySem.W.kdl_call (PySem.W.kdl_values (knd := mixKind X.prog X.w) (kvs := vs) (ep := ep) (r := s1.heap.objs.size) (d := a)) (I.ok.hd hc) ⟨⟨_, Heap.get?_push_size _ rfl, rfl, rfl⟩, dat1⟩ (by rw [← hl]; exact z) fun h' tk acc' c' hkeep hS hacc => ?_
  refine ⟨.ref _, upd H1 _ (.lst (kvs.map (·.2))), I2.laid hkeep (Nat.le_refl _) (show ObjOk X.prog X.w _ _ _ (.lst (kvs.map (·.2))) from ⟨?_, acc'.toList, c', ?_, ?_⟩), rfl, q _ (I2.hok.fresh (Nat.le_refl _))⟩
  · rw [List.length_map]; exact z
  · have el : acc'.toList.length = acc'.size := by simp
    refine vals_of_at (by rw [List.length_map, el, hacc.1, hl]) fun j x w h1 h2 => ?_
    obtain ⟨k, hky⟩ := hacc.2 j w (by rw [← Array.getElem?_toList]; exact h2)
    obtain ⟨x', g1, g2⟩ := KV.at' rel hky
    rw [List.getElem?_map, g1] at h1
    have h1 : x' = x := by simpa using h1
    subst h1
    exact g2
  · rw [Array.toArray_toList]; exact hS
end
end LB

namespace LB
open PySem L2 PyProof.Rows
/-! ### more rules inside of a comprehension: what they read is read in the def around it -/
section
variable {X : Cx} {s : Shared} {H : Hp} {sc : Scope} {ev : Env} {fp : List Addr} {a b o e : Expr} {ta tb te to : TE} {pos : Pos} {f : Str}
theorem op_in_seqB : OpR (X.blk s H sc ev fp) (compareOp .In) (L2.rIn X.K false) := op_in_seq
theorem op_notIn_seqB : OpR (X.blk s H sc ev fp) (compareOp .NotIn) (L2.rIn X.K true) := op_notIn_seq
theorem cr_sumB (hc : (X.blk s H sc ev fp).calm = true) : CallR (X.blk s H sc ev fp) (.builtin "sum") (rSum X.K) := cr_sum hc
theorem cr_allB (hc : (X.blk s H sc ev fp).calm = true) : CallR (X.blk s H sc ev fp) (.builtin "all") (rAll X.K) := cr_all hc
theorem cr_anyB (hc : (X.blk s H sc ev fp).calm = true) : CallR (X.blk s H sc ev fp) (.builtin "any") (rAny X.K) := cr_any hc
theorem call_isiTB : CallR (X.blk s H sc ev fp) (.builtin "isinstance") (rIsiT X.K) := call_isiT
theorem call_list_ofB : CallR (X.blk s H sc ev fp) (.type "list") (fun xs H Q => ∃ p ys, xs = [.ref p] ∧ (SqL X.K H p ys ∨ SqT X.K H p ys) ∧ ∀ l, H l = none → Q (.ref l) (upd H l (.lst ys))) := call_list_of
theorem call_tuple_ofB : CallR (X.blk s H sc ev fp) (.type "tuple") (fun xs H Q => ∃ p ys, xs = [.ref p] ∧ ((SqL X.K H p ys ∧ ∀ l, H l = none → Q (.ref l) (upd H l (.tup ys))) ∨ (SqT X.K H p ys ∧ Q (.ref p) H))) := call_tuple_of
theorem cr_sortedSB : CallR (X.blk s H sc ev fp) (.builtin "sorted") (rSortedS X.K) := cr_sortedS
end
end LB


namespace DL
open PySem L2 LB PySem.Spec PyProof.Rows
/-! ### sorted texts, twice the same -/
theorem ltCps_anti : ∀ (a b : List Nat), ltCps a b = false → ltCps b a = false → a = b
  | [], [], _, _ => rfl
  | [], _ :: _, h, _ => by simp [ltCps] at h
  | _ :: _, [], _, h => by simp [ltCps] at h
  | x :: a, y :: b, h1, h2 => by
    unfold ltCps at h1 h2
    obtain ⟨p1, p2⟩ := Bool.or_eq_false_iff.mp h1
    obtain ⟨q1, q2⟩ := Bool.or_eq_false_iff.mp h2
    have p1 : ¬ x < y := of_decide_eq_false p1
    have q1 : ¬ y < x := of_decide_eq_false q1
    have e : x = y := by omega
    subst e
    simp at p2 q2
    rw [ltCps_anti a b p2 q2]
theorem ltCps_trans : ∀ (a b c : List Nat), ltCps b a = false → ltCps c b = false → ltCps c a = false
  | [], b, [], _, _ => rfl
  | [], [], _ :: _, _, h => by simp [ltCps] at h ⊢
  | [], _ :: _, _ :: _, _, _ => by simp [ltCps]
  | _ :: _, [], _, h, _ => by simp [ltCps] at h
  | _ :: _, _ :: _, [], _, h => by simp [ltCps] at h
  | x :: a, y :: b, z :: c, h1, h2 => by
    unfold ltCps at h1 h2 ⊢
    obtain ⟨p1, p2⟩ := Bool.or_eq_false_iff.mp h1
    obtain ⟨q1, q2⟩ := Bool.or_eq_false_iff.mp h2
    have p1 : ¬ y < x := of_decide_eq_false p1
    have q1 : ¬ z < y := of_decide_eq_false q1
    refine Bool.or_eq_false_iff.mpr ⟨decide_eq_false (by omega), ?_⟩
    by_cases e : z = x
    · have e1 : y = x := by omega
      have e2 : z = y := by omega
      subst e1 e2
      simp at p2 q2 ⊢
      exact ltCps_trans a b c p2 q2
    · have : (z == x) = false := by simpa using e
      rw [this]; rfl
theorem rising_pw : ∀ (l : List Str) (p : Str), risingS p l = true → (p :: l).Pairwise fun a b => ltCps b.cps.toList a.cps.toList = false
  | [], _, _ => List.pairwise_singleton _ _
  | x :: r, p, h => by
    unfold risingS at h
    obtain ⟨h1, h2⟩ := Bool.and_eq_true_iff.mp h
    have h1 : ltCps x.cps.toList p.cps.toList = false := by simpa using h1
    have ih := rising_pw r x h2
    refine List.pairwise_cons.mpr ⟨fun y hy => ?_, ih⟩
    rcases List.mem_cons.mp hy with rfl | hy
    · exact h1
    · exact ltCps_trans _ _ _ h1 ((List.pairwise_cons.mp ih).1 y hy)
theorem sortedS_pw : ∀ (l : List Str), sortedS l = true → l.Pairwise fun a b => ltCps b.cps.toList a.cps.toList = false
  | [], _ => .nil
  | x :: r, h => rising_pw r x h
theorem str_cps {a b : Str} (h : a.cps.toList = b.cps.toList) : a = b := by
  cases a; cases b
  congr 1
  exact Array.toList_inj.mp h
theorem sorted_one : ∀ {ys zs : List Str}, ys.Perm zs → ys.Pairwise (fun a b => ltCps b.cps.toList a.cps.toList = false) → zs.Pairwise (fun a b => ltCps b.cps.toList a.cps.toList = false) → ys = zs
  | [], zs, p, _, _ => (List.nil_perm.mp p).symm
  | y :: ys, [], p, _, _ => absurd p.length_eq (by simp)
  | y :: ys, z :: zs, p, h1, h2 => by
    obtain ⟨a1, a2⟩ := List.pairwise_cons.mp h1
    obtain ⟨b1, b2⟩ := List.pairwise_cons.mp h2
    have self : ∀ l : List Nat, ltCps l l = false := fun l => by
      induction l with
      | nil => rfl
      | cons x l ih => simp [ltCps, ih]
    have e : y = z := by
      have m1 : y ∈ z :: zs := p.mem_iff.mp List.mem_cons_self
      have m2 : z ∈ y :: ys := p.mem_iff.mpr List.mem_cons_self
      refine str_cps (ltCps_anti _ _ ?_ ?_)
      · rcases List.mem_cons.mp m1 with e | m1
        · rw [e]; exact self _
        · exact b1 y m1
      · rcases List.mem_cons.mp m2 with e | m2
        · rw [e]; exact self _
        · exact a1 z m2
    subst e
    rw [sorted_one (List.Perm.cons_inv p) a2 b2]
theorem sortedS_one {xs ys zs : List Str} (p : ys.Perm xs) (q : zs.Perm xs) (h1 : sortedS ys = true) (h2 : sortedS zs = true) : ys = zs := sorted_one (p.trans q.symm) (sortedS_pw _ h1) (sortedS_pw _ h2)
section
variable {b : Wd} {en : En} {O : Ow} {K : DK} {KF : PySem.W.Frag}
/-! ### repr of a dict in which an empty dict may stand -/
def DpFE (KF : PySem.W.Frag) (d : D) (p : PyData) : Prop := ∀ (F H : Hp) (v : V), Same F H → d.p F v → DpE KF H v p
theorem DpFE.of {d : D} {p : PyData} (h : DpF KF d p) (n : p.hasDict = false) : DpFE KF d p := fun F H v s q => .dp (h F H v s q) n
theorem DpFE.emp : DpFE KF (dDK []) (.dict []) := fun F H v s ⟨a, vs, e, f, k⟩ => by
  subst e
  cases k
  exact .emp (s _ _ f)
inductive DpFEs (KF : PySem.W.Frag) : List D → List PyData → Prop
  | nil : DpFEs KF [] []
  | cons {d p ds ps} : DpFE KF d p → DpFEs KF ds ps → DpFEs KF (d :: ds) (p :: ps)
theorem DpFEs.all {ds : List D} {ps : List PyData} (h : DpFEs KF ds ps) : ∀ {F H : Hp} {vs : List V}, Same F H → LsP F ds vs → DpEs KF H vs ps := by
  induction h with
  | nil => intro F H vs s q; cases q; exact .nil
  | cons h _ ih => intro F H vs s q; cases q with
    | cons p q => exact .cons (h _ _ _ s p) (ih s q)
theorem OpN.reprE {kds : List (Key × D)} {ds : List PyData} (h : DpFEs KF (kds.map (·.2)) ds) (sh : (PyData.dict ((kds.map fun kv => kD kv.1).zip ds)).showable = true) (dp : (PyData.dict ((kds.map fun kv => kD kv.1).zip ds)).depth ≤ 50)
    (l : (PyData.dict ((kds.map fun kv => kD kv.1).zip ds)).shown.length ≤ sizeLine) (k : K (fStr (PyData.dict ((kds.map fun kv => kD kv.1).zip ds)).shown) O) :
    OpN b (fun xs H Q => ∃ (a : Addr) (kvs : List (Key × V)) (ds : List PyData), xs = [.ref a] ∧ H a = some (.dK kvs) ∧ DpEs KF H (kvs.map (·.2)) ds ∧
      (PyData.dict ((kvs.map fun kv => kD kv.1).zip ds)).showable = true ∧ (PyData.dict ((kvs.map fun kv => kD kv.1).zip ds)).depth ≤ 50 ∧ (PyData.dict ((kvs.map fun kv => kD kv.1).zip ds)).shown.length ≤ sizeLine ∧ Q (.str (PyData.dict ((kvs.map fun kv => kD kv.1).zip ds)).shown) H) [.fr (dDK kds)] O K := fun w xs e o p Q n => by
  obtain ⟨v, rfl, a, vs, rfl, f, q⟩ := p.one
  obtain ⟨h1, h2⟩ := ksp_ls q
  refine ⟨a, vs, ds, rfl, o.sub _ _ f, h.all o.sub h1, ?_⟩
  rw [h2]
  exact ⟨sh, dp, l, n _ O _ w k (Grow.refl w) o rfl⟩
/-! ### list(d.values()) -/
theorem Ev.lstVals {td : TE} (h : Ev b td en O fun d O1 => ∃ kds, DctD O1 kds d ∧ K (.fr (dLst (kds.map (·.2)))) O1) : Ev b (tLstVals td) en O K :=
  fun w σ e o en' Q q => h w σ e o en' _ fun d O1 x w1 k1 e1 o1 p1 => by
    obtain ⟨kds, hd, k⟩ := k1
    obtain ⟨a, vs, rfl, f, pk⟩ := hd.at_ o1 p1
    refine ⟨a, vs, rfl, f, fun c hc => ?_⟩
    have g := Grow.new o1 (.lst (vs.map (·.2))) hc
    exact q _ O1 _ _ k (e1.trans g) (o1.new _ hc) ⟨c, _, rfl, upd_same, ((ksp_ls pk).1).mono g.F⟩
/-! ### dict([(k, v), ..]) -/
def kPair (kd : Key × D) : D := dTup [dV (kV kd.1), kd.2]
theorem merge_new : ∀ (more acc : List (Key × V)), (more.map (·.1)).Nodup → (∀ p ∈ acc, ∀ q ∈ more, p.1 ≠ q.1) → mergeK acc more = acc ++ more
  | [], acc, _, _ => (List.append_nil _).symm
  | q :: r, acc, nd, h => by
    have nd' := List.nodup_cons.mp (show (q.1 :: r.map (·.1)).Nodup from nd)
    have e : putK acc q.1 q.2 = acc ++ [q] := by
      unfold putK
      rw [if_neg]
      intro z
      obtain ⟨p, hp, e⟩ := List.any_eq_true.mp z
      exact h p hp q List.mem_cons_self (of_decide_eq_true e)
    show mergeK (putK acc q.1 q.2) r = _
    rw [e, merge_new r _ nd'.2 fun p hp s hs => ?_]
    · simp
    · rcases List.mem_append.mp hp with hp | hp
      · exact h p hp s (List.mem_cons_of_mem _ hs)
      · have hp : p = q := by simpa using hp
        subst hp
        intro z
        exact nd'.1 (z ▸ List.mem_map_of_mem hs)
theorem pairs_at {F H : Hp} (s : Same F H) : ∀ {kds : List (Key × D)} {vs : List V}, LsP F (kds.map kPair) vs → ∃ (ps : List Addr) (kvs : List (Key × V)), vs = ps.map V.ref ∧ Paired (fun p kv => SqT KF H p [kV kv.1, kv.2]) ps kvs ∧ KsP F kds kvs
  | [], _, .nil => ⟨[], [], rfl, .nil, .nil⟩
  | kd :: kds, _, .cons p r => by
    obtain ⟨ps, kvs, rfl, h2, h3⟩ := pairs_at s r
    obtain ⟨a, us, rfl, f, q⟩ := p
    cases q with
    | cons q1 q2 => cases q2 with
      | cons q2 q3 => cases q3 with
        | nil =>
          have q1 : _ = kV kd.1 := q1
          subst q1
          exact ⟨a :: ps, (kd.1, _) :: kvs, rfl, .cons (SqT.of (s _ _ f)) h2, .cons q2 h3⟩
theorem ksp_keys {F : Hp} : ∀ {kds : List (Key × D)} {vs : List (Key × V)}, KsP F kds vs → vs.map (·.1) = kds.map (·.1)
  | _, _, .nil => rfl
  | _, _, .cons _ r => by rw [List.map_cons, List.map_cons, ksp_keys r]
theorem OpN.dictP {kds : List (Key × D)} {d : Da} (h : LstD O (kds.map kPair) d) (nd : (kds.map (·.1)).Nodup) (k : K (.fr (dDK kds)) O) : OpN b (fun xs H Q => ∃ (a : Addr) (ps : List Addr) (kvs : List (Key × V)), xs = [.ref a] ∧ SqL KF H a (ps.map V.ref) ∧ Paired (fun p kv => SqT KF H p [kV kv.1, kv.2]) ps kvs ∧
    ∀ p, H p = none → Q (.ref p) (upd H p (.dK (mergeK [] kvs)))) [d] O K := fun w xs e o p Q n => by
  obtain ⟨v, rfl, pv⟩ := p.one
  obtain ⟨a, vs, rfl, f, q⟩ := h.at_ o pv
  obtain ⟨ps, kvs, rfl, h2, h3⟩ := pairs_at (KF := KF) o.sub q
  refine ⟨a, ps, kvs, rfl, SqL.of f, h2, fun c hc => ?_⟩
  have em : mergeK [] kvs = kvs := merge_new kvs [] (by rw [ksp_keys h3]; exact nd) (fun _ m => nomatch m)
  rw [em]
  have g := Grow.new o (.dK kvs) hc
  exact n _ O _ _ k g (o.new _ hc) ⟨c, kvs, rfl, upd_same, h3.mono g.F⟩
/-! ### [str(k) + d[k] for k in d], texts -/
theorem wipe_get {i : Nat} : ∀ {vs : List Nat} {σ : L2.St}, i ∉ vs → (L2.wipe σ vs)[i]? = σ[i]?
  | [], _, _ => rfl
  | v :: vs, σ, h => by
    show ((L2.wipe σ vs).set v none)[i]? = σ[i]?
    rw [List.getElem?_set_ne (fun z : v = i => h (z ▸ List.mem_cons_self)), wipe_get fun m => h (List.mem_cons_of_mem _ m)]
theorem wipe_len : ∀ {vs : List Nat} {σ : L2.St}, (L2.wipe σ vs).length = σ.length
  | [], _ => rfl
  | v :: vs, σ => by
    show ((L2.wipe σ vs).set v none).length = _
    rw [List.length_set, wipe_len]
def tabTD (tb : List (Str × Str)) : List (Key × D) := tb.map fun p => (.inr p.1, dV (.str p.2))
def tabTV (tb : List (Str × Str)) : List (Key × V) := tb.map fun p => (.inr p.1, .str p.2)
theorem tabT_v {F : Hp} : ∀ {tb : List (Str × Str)} {vs : List (Key × V)}, KsP F (tabTD tb) vs → vs = tabTV tb
  | [], _, .nil => rfl
  | p :: tb, _, .cons e r => by
    have e : _ = V.str p.2 := e
    subst e
    rw [tabT_v r]; rfl
theorem tabT_get : ∀ {tb : List (Str × Str)} {i : Nat} {p : Str × Str}, (tb.map (·.1)).Nodup → tb[i]? = some p → valV (tabTV tb) (.inr p.1) = some (.str p.2)
  | [], i, p, _, h => by simp at h
  | q :: tb, 0, p, _, h => by
    have h : q = p := by simpa using h
    subst h
    unfold valV tabTV
    rw [List.map_cons, List.find?_cons]
    simp
  | q :: tb, i + 1, p, nd, h => by
    have nd := List.nodup_cons.mp (show (q.1 :: tb.map (·.1)).Nodup from nd)
    have h : tb[i]? = some p := by simpa using h
    have ne : ¬ q.1 = p.1 := fun z => nd.1 (z ▸ List.mem_map_of_mem (List.mem_of_getElem? h))
    have := tabT_get nd.2 h
    unfold valV tabTV at this ⊢
    rw [List.map_cons, List.find?_cons]
    have e : (decide (((Sum.inr q.1 : Key), V.str q.2).1 = Sum.inr p.1)) = false := decide_eq_false fun z => ne (by injection z)
    simp only [e]
    exact this
theorem Ev.tabS {i j : Nat} {vs : List Nat} {tb : List (Str × Str)} {d : Da} (hi : en[i]? = some (some d)) (hd : DctD O (tabTD tb) d) (ni : i ∉ vs) (hj : j ∈ vs) (lj : j < en.length) (nd : (tb.map (·.1)).Nodup) (l : tb.length ≤ 1000) (lt : ∀ p ∈ tb, p.1.length + p.2.length ≤ sizeLine)
    (k : K (.fr (dLst (dSs (tb.map fun p => p.1 ++ p.2)))) O) :
    Ev b (tLockE (tLc (iKeys (tVar i)) (gName j) tYes (tOp (fun x y H Q => ∃ i j, x = .str i ∧ y = .str j ∧ i.length + j.length ≤ sizeLine ∧ Q (.str (i ++ j)) H) (tCB (fun xs H Q => ∃ a, xs = [.str a] ∧ Q (.str a) H) (tCons (tVar j) tNil)) (tDGet (tVar i) (tVar j))) vs)) en O K := fun w σ e o en' Q q => by
  have big : 1000 < sizeLine := by decide
  have ij : i ≠ j := fun z => ni (z ▸ hj)
  obtain ⟨x, hx, px⟩ := en'.at_ i d hi
  obtain ⟨a, kvs, rfl, ha, pk⟩ := hd.at_ o px
  have := tabT_v pk
  subst this
  refine ⟨a, _, ha, trivial, fun od => ?_⟩
  refine ⟨.ref a, hx, a, od, rfl, .inl ⟨_, upd_same, fun D hD => ?_⟩⟩
  have Da : D ≠ a := fun z => by rw [z, upd_same] at hD; cases hD
  have hD0 : w.H D = none := (upd_ne Da).symm.trans hD
  have lv : (tabTV tb).length = tb.length := by unfold tabTV; rw [List.length_map]
  refine lc_it walk_keys (fun n H => H a = some (.frz od (.dK (tabTV tb))) ∧ H D = some (.lst ((tb.take n).map fun p => V.str (p.1 ++ p.2))) ∧ ∀ c, c ≠ D → c ≠ a → H c = w.H c) ⟨(upd_ne Da.symm).trans upd_same, upd_same, fun c h1 h2 => (upd_ne h1).trans (upd_ne h2)⟩ (fun n H _ h => h.1) (fun n x H H' hn h y => ?_) (fun H h => ?_)
  · obtain ⟨rfl, k', v, hk, rfl⟩ := y
    obtain ⟨h1, h2, h3⟩ := h
    have ln : n < tb.length := by rw [← lv]; exact hn
    have hp := List.getElem?_eq_getElem ln
    have ek : k' = .inr tb[n].1 := by
      unfold tabTV at hk
      rw [List.getElem?_map, hp] at hk
      injection hk with hk
      exact (congrArg Prod.fst hk).symm
    subst ek
    refine ⟨wipe_set hj |>.trans wipe_idem, ?_⟩
    have sj : ((L2.wipe σ vs).set j (some (kV (.inr tb[n].1))))[j]? = some (some (.str tb[n].1)) := by
      rw [List.getElem?_set_self (by rw [wipe_len, en'.len]; exact lj)]; rfl
    have si : ((L2.wipe σ vs).set j (some (kV (.inr tb[n].1))))[i]? = some (some (.ref a)) := by
      rw [List.getElem?_set_ne (Ne.symm ij), wipe_get ni]; exact hx
    refine ⟨_, sj, _, rfl, _, si, _, sj, a, .str tb[n].2, rfl, ?_, _, _, rfl, rfl, lt _ (List.getElem_mem ln), _, h2, ?_, ?_, upd_same.trans ?_, fun c c1 c2 => (upd_ne c1).trans (h3 c c1 c2)⟩
    · exact .inl ⟨_, .inr tb[n].1, .inr ⟨_, h1⟩, rfl, (tabT_get nd hp).symm⟩
    · rw [List.length_map, List.length_take]; omega
    · exact (upd_ne Da.symm).trans h1
    · rw [List.take_add_one, hp, List.map_append]; rfl
  · obtain ⟨h1, h2, h3⟩ := h
    refine ⟨h1, ?_⟩
    rw [lv, List.take_of_length_le (Nat.le_refl _)] at h2
    have eH : upd H a (.dK (tabTV tb)) = upd w.H D (.lst (tb.map fun p => V.str (p.1 ++ p.2))) := by
      funext c
      by_cases c1 : c = a
      · subst c1; rw [upd_same, upd_ne Da.symm, ha]
      · rw [upd_ne c1]
        by_cases c2 : c = D
        · subst c2; rw [h2, upd_same]
        · rw [h3 c c2 c1, upd_ne c2]
    rw [eH]
    have g := Grow.new o (.lst (tb.map fun p => V.str (p.1 ++ p.2))) hD0
    refine q _ O _ ⟨w.as, upd w.F D (.lst (tb.map fun p => V.str (p.1 ++ p.2))), upd w.H D (.lst (tb.map fun p => V.str (p.1 ++ p.2)))⟩ k g (o.new _ hD0) ⟨D, _, rfl, upd_same, ?_⟩
    unfold dSs
    rw [List.map_map]
    have := LsP.vals (F := upd w.F D (.lst (tb.map fun p => V.str (p.1 ++ p.2)))) (tb.map fun p => V.str (p.1 ++ p.2))
    rw [List.map_map] at this
    exact this
end
end DL

namespace DL
open PySem L2 LB PyProof.Rows
/-! ### how long what repr tells may be -/
theorem strLen_app (a b : Str) : (a ++ b).length = a.length + b.length := Array.size_append
theorem textFrom_le : ∀ (ts : List Str) (k : Nat) (acc : Str) (m : Nat), (∀ t ∈ ts, t.length ≤ m) → (textFrom k acc ts).length ≤ acc.length + ts.length * (m + 2)
  | [], k, acc, m, _ => by show acc.length ≤ _; omega
  | t :: r, k, acc, m, h => by
    have h1 := textFrom_le r (k + 1) (acc ++ (if k > 0 then ", " else "" : String) ++ t) m fun u hu => h u (List.mem_cons_of_mem _ hu)
    have h2 := h t List.mem_cons_self
    have e : (acc ++ (if k > 0 then ", " else "" : String) ++ t).length ≤ acc.length + 2 + t.length := by
      rw [strLen_app, strLen_app]
      have : ((if k > 0 then ", " else "" : String) : Str).length ≤ 2 := by split <;> decide
      omega
    show (textFrom (k + 1) _ r).length ≤ _
    rw [List.length_cons, Nat.add_mul]
    omega
theorem listText_le {ts : List Str} {m : Nat} (h : ∀ t ∈ ts, t.length ≤ m) : (listText ts).length ≤ ts.length * (m + 2) + 2 := by
  have := textFrom_le ts 0 "[" m h
  show (textFrom 0 "[" ts ++ "]").length ≤ _
  rw [strLen_app]
  have e1 : (Str.ofString "[").length = 1 := by decide
  have e2 : (Str.ofString "]").length = 1 := by decide
  omega
theorem joinS_le : ∀ (ts : List Str) (m : Nat), (∀ t ∈ ts, t.length ≤ m) → (Str.join ", " ts).length ≤ ts.length * (m + 2)
  | [], m, _ => Nat.zero_le _
  | [x], m, h => by have := h x List.mem_cons_self; show x.length ≤ _; rw [List.length_singleton]; omega
  | x :: y :: r, m, h => by
    have h1 := joinS_le (y :: r) m fun u hu => h u (List.mem_cons_of_mem _ hu)
    have h2 := h x List.mem_cons_self
    show (x ++ (", " : String) ++ Str.join ", " (y :: r)).length ≤ _
    rw [strLen_app, strLen_app, List.length_cons, Nat.add_mul]
    have e1 : (Str.ofString ", ").length = 2 := by decide
    omega
theorem shownAll_mem : ∀ {ps : List PyData} {t : Str}, t ∈ PyData.shownAll ps → ∃ p ∈ ps, t = p.shown
  | [], t, h => by simp [PyData.shownAll] at h
  | p :: ps, t, h => by
    rw [PyData.shownAll] at h
    rcases List.mem_cons.mp h with rfl | h
    · exact ⟨p, List.mem_cons_self, rfl⟩
    · obtain ⟨q, m, e⟩ := shownAll_mem h; exact ⟨q, List.mem_cons_of_mem _ m, e⟩
theorem shownAll_len : ∀ {ps : List PyData}, (PyData.shownAll ps).length = ps.length
  | [] => by simp [PyData.shownAll]
  | p :: ps => by rw [PyData.shownAll, List.length_cons, List.length_cons, shownAll_len]
theorem shown_list_le {ps : List PyData} {m : Nat} (h : ∀ p ∈ ps, p.shown.length ≤ m) : (PyData.list ps).shown.length ≤ ps.length * (m + 2) + 2 := by
  rw [PyData.shown, ← shownAll_len (ps := ps)]
  exact listText_le fun t ht => let ⟨p, mp, e⟩ := shownAll_mem ht; e ▸ h p mp
theorem shown_tuple_le {ps : List PyData} {m : Nat} (h : ∀ p ∈ ps, p.shown.length ≤ m) : (PyData.tuple ps).shown.length ≤ ps.length * (m + 2) + 3 := by
  rw [PyData.shown]
  have h1 := joinS_le (PyData.shownAll ps) m fun t ht => let ⟨p, mp, e⟩ := shownAll_mem ht; e ▸ h p mp
  rw [shownAll_len] at h1
  show (("(" : Str) ++ Str.join ", " (PyData.shownAll ps) ++ (if (PyData.shownAll ps).length == 1 then ",)" else ")" : String)).length ≤ _
  rw [strLen_app, strLen_app]
  have e1 : (("(" : Str)).length = 1 := by decide
  have e2 : ((if (PyData.shownAll ps).length == 1 then ",)" else ")" : String) : Str).length ≤ 2 := by split <;> decide
  omega
theorem shownKv_mem : ∀ {ps : List (PyData × PyData)} {t : Str}, t ∈ PyData.shownKv ps → ∃ p ∈ ps, t = p.1.shown ++ ": " ++ p.2.shown
  | [], t, h => by simp [PyData.shownKv] at h
  | (k, v) :: ps, t, h => by
    rw [PyData.shownKv] at h
    rcases List.mem_cons.mp h with rfl | h
    · exact ⟨_, List.mem_cons_self, rfl⟩
    · obtain ⟨q, m, e⟩ := shownKv_mem h; exact ⟨q, List.mem_cons_of_mem _ m, e⟩
theorem shownKv_len : ∀ {ps : List (PyData × PyData)}, (PyData.shownKv ps).length = ps.length
  | [] => by simp [PyData.shownKv]
  | (k, v) :: ps => by rw [PyData.shownKv, List.length_cons, List.length_cons, shownKv_len]
theorem shown_dict_le {ps : List (PyData × PyData)} {n m : Nat} (h : ∀ p ∈ ps, p.1.shown.length ≤ n ∧ p.2.shown.length ≤ m) : (PyData.dict ps).shown.length ≤ ps.length * (n + m + 4) + 2 := by
  rw [PyData.shown]
  have h1 := joinS_le (PyData.shownKv ps) (n + m + 2) fun t ht => by
    obtain ⟨p, mp, rfl⟩ := shownKv_mem ht
    obtain ⟨a1, a2⟩ := h p mp
    rw [strLen_app, strLen_app]
    have e1 : ((": " : Str)).length = 2 := by decide
    omega
  rw [shownKv_len, show n + m + 2 + 2 = n + m + 4 by omega] at h1
  show (("{" : Str) ++ Str.join ", " (PyData.shownKv ps) ++ "}").length ≤ _
  rw [strLen_app, strLen_app]
  have e1 : (("{" : Str)).length = 1 := by decide
  have e2 : (("}" : Str)).length = 1 := by decide
  omega
theorem shown_str_le {x : Str} (h : PyData.strOk x = true) : (PyData.str x).shown.length ≤ 10 * x.length + 2 := by
  rw [PyData.shown]
  refine PySem.StrLaws.reprText_len x fun c hc => ?_
  unfold PyData.strOk at h
  have := Array.all_eq_true_iff_forall_mem.mp h c (by simpa using hc)
  have : c < 0x110000 := of_decide_eq_true this
  exact Nat.lt_of_lt_of_le this (by decide)
/-- an int from -9 to 999 -/
theorem shown_int_le {i : Nat} (h : i < 1000) : (PyData.int (i : Nat)).shown.length ≤ 3 := by
  have all : ∀ m : Nat, m < 1000 → (PyData.int ((m : Nat) : Int)).shown.length ≤ 3 := by decide +kernel
  exact all i h
theorem showableAll_of {ps : List PyData} (h : ∀ p ∈ ps, p.showable = true) : PyData.showableAll ps = true := by
  induction ps with
  | nil => rfl
  | cons p ps ih => rw [PyData.showableAll, h p List.mem_cons_self, ih fun q m => h q (List.mem_cons_of_mem _ m)]; rfl
theorem showable_list {ps : List PyData} (h : ∀ p ∈ ps, p.showable = true) : (PyData.list ps).showable = true := by rw [PyData.showable]; exact showableAll_of h
theorem showable_tuple {ps : List PyData} (h : ∀ p ∈ ps, p.showable = true) : (PyData.tuple ps).showable = true := by rw [PyData.showable]; exact showableAll_of h
theorem showable_dict {ps : List (PyData × PyData)} (h : ∀ p ∈ ps, p.1.showable = true ∧ p.2.showable = true) : (PyData.dict ps).showable = true := by
  rw [PyData.showable]
  induction ps with
  | nil => rfl
  | cons p ps ih =>
    obtain ⟨k, v⟩ := p
    obtain ⟨a1, a2⟩ := h (k, v) List.mem_cons_self
    rw [PyData.showableKv, a1, a2, ih fun q m => h q (List.mem_cons_of_mem _ m)]; rfl
theorem hasDict_list {ps : List PyData} (h : ∀ p ∈ ps, p.hasDict = false) : (PyData.list ps).hasDict = false := by
  show PyData.hasDictAll ps = false
  induction ps with
  | nil => rfl
  | cons p ps ih => show (p.hasDict || PyData.hasDictAll ps) = false; rw [h p List.mem_cons_self, ih fun q m => h q (List.mem_cons_of_mem _ m)]; rfl
theorem hasDict_tuple {ps : List PyData} (h : ∀ p ∈ ps, p.hasDict = false) : (PyData.tuple ps).hasDict = false := by
  exact hasDict_list h
theorem depthAll_le {ps : List PyData} {n : Nat} (h : ∀ p ∈ ps, p.depth ≤ n) : PyData.depthAll ps ≤ n := by
  induction ps with
  | nil => rw [PyData.depthAll]; exact Nat.zero_le _
  | cons p ps ih => rw [PyData.depthAll]; exact Nat.max_le.mpr ⟨h p List.mem_cons_self, ih fun q m => h q (List.mem_cons_of_mem _ m)⟩
end DL

namespace DL
open PySem L2 LB PyProof.Rows
/-! ### dicts as data: what is where -/
theorem mem_putKD {ds : List (Key × D)} {k : Key} {d : D} {kd : Key × D} (h : kd ∈ putKD ds k d) : kd ∈ ds ∨ kd = (k, d) := by
  unfold putKD at h
  split at h
  · obtain ⟨q, mq, e⟩ := List.mem_map.mp h
    by_cases c : q.1 = k
    · rw [if_pos c] at e; exact .inr (by rw [← e, c])
    · rw [if_neg c] at e; exact .inl (e ▸ mq)
  · rcases List.mem_append.mp h with h | h
    · exact .inl h
    · exact .inr (by simpa using h)
theorem mem_dropD {ds : List (Key × D)} {k : Key} {kd : Key × D} (h : kd ∈ dropD ds k) : kd ∈ ds := (List.mem_filter.mp h).1
theorem lookD_cons {kd : Key × D} {ds : List (Key × D)} {k : Key} : lookD (kd :: ds) k = if kd.1 = k then some kd.2 else lookD ds k := by
  unfold lookD
  rw [List.find?_cons]
  by_cases c : kd.1 = k
  · simp [c]
  · simp [c]
theorem lookD_none {ds : List (Key × D)} {k : Key} : lookD ds k = none ↔ ∀ kd ∈ ds, kd.1 ≠ k := by
  induction ds with
  | nil => exact ⟨fun _ _ m => (nomatch m), fun _ => rfl⟩
  | cons q ds ih =>
    rw [lookD_cons]
    by_cases c : q.1 = k
    · rw [if_pos c]
      exact ⟨fun h => (by cases h), fun h => absurd c (h q List.mem_cons_self)⟩
    · rw [if_neg c, ih]
      exact ⟨fun h kd m => (List.mem_cons.mp m).elim (fun e => e ▸ c) (h kd), fun h kd m => h kd (List.mem_cons_of_mem _ m)⟩
theorem lookD_mem {ds : List (Key × D)} {k : Key} {d : D} (h : lookD ds k = some d) : (k, d) ∈ ds := by
  induction ds with
  | nil => cases h
  | cons q ds ih =>
    rw [lookD_cons] at h
    by_cases c : q.1 = k
    · rw [if_pos c] at h
      injection h with h
      exact List.mem_cons.mpr (.inl (by rw [← c, ← h]))
    · rw [if_neg c] at h
      exact List.mem_cons_of_mem _ (ih h)
theorem lookD_app {ds es : List (Key × D)} {k : Key} : lookD (ds ++ es) k = (lookD ds k).or (lookD es k) := by
  induction ds with
  | nil => rfl
  | cons q ds ih =>
    rw [List.cons_append, lookD_cons, lookD_cons]
    by_cases c : q.1 = k
    · rw [if_pos c, if_pos c]; rfl
    · rw [if_neg c, if_neg c, ih]
theorem any_key {ds : List (Key × D)} {k : Key} : (ds.any fun kv => decide (kv.1 = k)) = (lookD ds k).isSome := by
  induction ds with
  | nil => rfl
  | cons q ds ih =>
    rw [List.any_cons, ih, lookD_cons]
    by_cases c : q.1 = k
    · simp [c]
    · simp [c]
theorem lookD_mapPut {ds : List (Key × D)} {k k' : Key} {d : D} : lookD (ds.map (fun kv => if kv.1 = k then (kv.1, d) else kv)) k' = if k = k' then (lookD ds k').map (fun _ => d) else lookD ds k' := by
  induction ds with
  | nil => split <;> rfl
  | cons q ds ih =>
    rw [List.map_cons, lookD_cons, lookD_cons, ih]
    by_cases c : q.1 = k
    · subst c
      by_cases e : q.1 = k'
      · simp [e]
      · simp [e]
    · by_cases e : k = k'
      · subst e; simp [c]
      · simp [c, e]
theorem lookD_put {ds : List (Key × D)} {k : Key} {d : D} : lookD (putKD ds k d) k = some d := by
  unfold putKD
  rw [any_key]
  cases e : lookD ds k with
  | none => simp only [Option.isSome_none, Bool.false_eq_true, if_false]; rw [lookD_app, e]; simp [lookD_cons]
  | some x => simp only [Option.isSome_some, if_true]; rw [lookD_mapPut, if_pos rfl, e]; rfl
theorem lookD_put_ne {ds : List (Key × D)} {k k' : Key} {d : D} (h : k ≠ k') : lookD (putKD ds k d) k' = lookD ds k' := by
  unfold putKD
  split
  · rw [lookD_mapPut, if_neg h]
  · rw [lookD_app, lookD_cons, if_neg h]
    cases lookD ds k' <;> rfl
theorem lookD_drop {ds : List (Key × D)} {k : Key} : lookD (dropD ds k) k = none := lookD_none.mpr fun kd m => of_decide_eq_true (List.mem_filter.mp m).2
theorem lookD_drop_ne {ds : List (Key × D)} {k k' : Key} (h : k ≠ k') : lookD (dropD ds k) k' = lookD ds k' := by
  induction ds with
  | nil => rfl
  | cons q ds ih =>
    unfold dropD at ih ⊢
    rw [List.filter_cons, lookD_cons]
    by_cases c : q.1 = k
    · have e : ¬ q.1 = k' := fun z => h (c.symm.trans z)
      simp only [c, ne_eq, not_true_eq_false, decide_false, Bool.false_eq_true, if_false]
      rw [if_neg (by rw [← c]; exact e)]
      exact ih
    · simp only [c, ne_eq, not_false_eq_true, decide_true, if_true]
      rw [lookD_cons, ih]
theorem len_put_new {ds : List (Key × D)} {k : Key} {d : D} (h : lookD ds k = none) : (putKD ds k d).length = ds.length + 1 := by
  unfold putKD
  rw [any_key, h]
  simp
theorem len_put_old {ds : List (Key × D)} {k : Key} {d x : D} (h : lookD ds k = some x) : (putKD ds k d).length = ds.length := by
  unfold putKD
  rw [any_key, h]
  simp
theorem len_put_le {ds : List (Key × D)} {k : Key} {d : D} : (putKD ds k d).length ≤ ds.length + 1 := by
  cases h : lookD ds k with
  | none => rw [len_put_new h]; exact Nat.le_refl _
  | some x => rw [len_put_old h]; exact Nat.le_succ _
theorem len_drop {ds : List (Key × D)} {k : Key} {x : D} (h : lookD ds k = some x) : (dropD ds k).length < ds.length := by
  have m := lookD_mem h
  unfold dropD
  refine Nat.lt_of_le_of_ne (List.length_filter_le _ _) fun e => ?_
  have := List.filter_eq_self.mp ((List.filter_sublist).eq_of_length e) (k, x) m
  exact of_decide_eq_true this rfl
end DL

namespace LB
open PySem L2 PyProof.Rows
section
variable {X : Cx}
/-- tuple(text) -/
theorem call_tuple_text (hc : X.calm = true) : CallR X (.type "tuple") (fun xs H Q => ∃ z : Str, xs = [.str z] ∧ z.cps.size ≤ sizeLine ∧ ∀ p, H p = none → Q (.ref p) (upd H p (.tup ((signs z).map V.str)))) := by
  intro pins s σ H xs us Q I rx hq
  obtain ⟨z, rfl, hz, q⟩ := hq
  obtain ⟨u, rfl, t, rfl⟩ := vals1 rx
  refine call_tuple_str (I.ok.hd hc) z t (fun h' tk acc' hk hacc => ?_) hz
  obtain ⟨hsz, hat⟩ := hacc
  have gen : ∀ (cs : List Nat) (us : List Value), cs.length = us.length → (∀ (i : Nat) (c : Nat) (u : Value), cs[i]? = some c → us[i]? = some u → ∃ t, u = Value.str ⟨#[c]⟩ t) → Vals ((cs.map fun c => (⟨#[c]⟩ : Str)).map V.str) us := by
    intro cs
    induction cs with
    | nil => intro us hl _; cases us with
      | nil => exact .nil
      | cons _ _ => simp at hl
    | cons c r ih => intro us hl h; cases us with
      | nil => simp at hl
      | cons u us =>
        refine .cons ?_ (ih us (by simpa using hl) fun i c' u' h1 h2 => h (i + 1) c' u' (by simpa using h1) (by simpa using h2))
        obtain ⟨t, e⟩ := h 0 c u rfl rfl
        exact ⟨t, e⟩
  have rv : Vals ((signs z).map V.str) acc'.toList := gen z.cps.toList acc'.toList (by simp [hsz]) fun i c u h1 h2 => by
    obtain ⟨c', u', h3, h4⟩ := hat i u (by rw [← Array.getElem?_toList]; exact h2)
    rw [← Array.getElem?_toList, h1] at h3
    cases h3
    exact ⟨u', h4⟩
  have I2 : Inv X pins σ H { s with heap := h', toks := tk } := I.kept (t' := tk) hk
  refine ⟨.ref h'.objs.size, upd H h'.objs.size (.tup ((signs z).map V.str)), I2.laid (t' := tk) (fun c o e => Heap.get?_push_of_some _ e) (Nat.le_refl _) (show ObjOk X.prog X.w _ _ _ (.tup ((signs z).map V.str)) from ⟨?_, acc'.toList, rv, ?_⟩), rfl, q _ (I2.hok.fresh (Nat.le_refl _))⟩
  · rw [List.length_map, signs_len]; exact hz
  · rw [Array.toArray_toList]; exact IsTup.new _ _
end
end LB

namespace DL
open PySem L2 LB PyProof.Rows
section
variable {b : Wd} {en : En} {O : Ow} {K : DK} {KF : PySem.W.Frag}
/-- tuple(text) -/
theorem OpN.tupS {z : Str} (l : z.cps.size ≤ sizeLine) (k : K (.fr (dTup (fcs z))) O) : OpN b (fun xs H Q => ∃ z : Str, xs = [.str z] ∧ z.cps.size ≤ sizeLine ∧ ∀ p, H p = none → Q (.ref p) (upd H p (.tup ((LB.signs z).map V.str)))) [fStr z] O K := fun w xs e o p Q n => by
  obtain ⟨v, rfl, pv⟩ := p.one
  refine ⟨z, by rw [show v = V.str z from pv], l, fun c hc => ?_⟩
  have g := Grow.new o (.tup ((LB.signs z).map V.str)) hc
  exact n _ O _ _ k g (o.new _ hc) ⟨c, _, rfl, upd_same, signs_fcs z⟩
end
end DL

namespace GQB
open PySem PySem.SeqAt GQ
open AutoSeq1 (wpAny_loadPart')
open MeetsSeq MeetsSeq2 MeetsSeq3 SeqRoads2
/-! ### == of tuples by their items' own ==, whatever it tells -/
section
variable {prog : Program} {w : World} {A : Around} {R : Result → Shared → Prop}
theorem tuple_eqB (l b : Addr) (items items2 : Array Value) (n n2 : Nat) (dd dd2 : Option Addr) (sl sl2 : Array (Option Value)) (e : Nat → Bool) (I : Shared → Prop)
    (turn : ∀ i (h1 : i < items.size) (h2 : i < items2.size) s, I s → wpAny (model prog w) A.in1 (eqBool items[i] items2[i]) (fun r s' => r = e i ∧ I s') (fun e s' => R (.error e) s') s)
    (fin : ∀ s, I s → R (.ok (.ret (.bool ((List.range (min items.size items2.size)).all e && items.size == items2.size)))) s) {s : Shared} (hl1 : s.heap.get? l = some { cls := .type "tuple", dict := dd, data := .seq items n, slots := sl }) (hb1 : s.heap.get? b = some { cls := .type "tuple", dict := dd2, data := .seq items2 n2, slots := sl2 }) (h : I s) :
    wpAny (model prog w) A.in1 (Builtin.«tuple.__eq__» ⟨[.ref l, .ref b], []⟩) (FinOf prog w A R) (fun e s' => R (.error e) s') s := by
  have f2 := AutoSeq1.sub_tuple_tuple
  have hZ : (items.toList.zip items2.toList).length = min items.size items2.size := by simp
  have h0 := h
  obtain ⟨hp, g, d, tk, os⟩ := s
  wp_walk using wpAny_loadPart' hl1, wpAny_loadPart' hb1, wpAny_forIn_list _ (fun rest b s' => b.1 = none ∧ I s' ∧ ∃ i, rest = (items.toList.zip items2.toList).drop i ∧ i ≤ min items.size items2.size ∧ (List.range i).all e = true) _
  case turn =>
    rintro ⟨y, x⟩ rest b s' ⟨hb', hI, i, hz, hi, hall⟩
    have hlt : i < (items.toList.zip items2.toList).length := by
      rcases Nat.lt_or_ge i (items.toList.zip items2.toList).length with h' | h'
      · exact h'
      · rw [List.drop_of_length_le h'] at hz; cases hz
    have hm : i < min items.size items2.size := hZ ▸ hlt
    have h1 : i < items.size := Nat.lt_of_lt_of_le hm (Nat.min_le_left _ _)
    have h2 : i < items2.size := Nat.lt_of_lt_of_le hm (Nat.min_le_right _ _)
    rw [List.drop_eq_getElem_cons hlt] at hz
    injection hz with hyx hrest
    have hy : y = items[i] := by have := congrArg Prod.fst hyx; simpa using this
    have hx : x = items2[i] := by have := congrArg Prod.snd hyx; simpa using this
    subst hy hx
    refine wpAny_bind (wpAny_mono (turn i h1 h2 s' hI) (fun r s2 q2 => ?_) fun _ _ x => x)
    obtain ⟨hr, q2⟩ := q2
    subst hr
    cases he : e i with
    | true =>
      wp_walk
      refine ⟨rfl, q2, i + 1, hrest, hm, ?_⟩
      rw [List.range_succ, List.all_append, hall, List.all_cons, he, List.all_nil]; rfl
    | false =>
      have hf : (List.range (min items.size items2.size)).all e = false := List.all_eq_false.mpr ⟨i, List.mem_range.mpr hm, by rw [he]; decide⟩
      have hR := fin s2 q2
      rw [hf, Bool.false_and] at hR
      wp_walk
      exact hR
  case fin =>
    rintro ⟨b1, b2⟩ s' ⟨hb', hI, i, hz, hi, hall⟩
    simp only at hb'
    subst hb'
    have hge : min items.size items2.size ≤ i := by
      rcases Nat.lt_or_ge i (items.toList.zip items2.toList).length with h' | h'
      · rw [List.drop_eq_getElem_cons h'] at hz; cases hz
      · exact hZ ▸ h'
    have ei : i = min items.size items2.size := Nat.le_antisymm hi hge
    subst ei
    have hR := fin s' hI
    rw [hall, Bool.true_and] at hR
    wp_walk
    exact hR
  case h =>
    exact ⟨rfl, h0, 0, rfl, Nat.zero_le _, rfl⟩
end
section
variable {prog : Program} {w : World} {A : Around} {E : Value → Shared → Prop} {s : Shared}
theorem rc_tupB {l b : Addr} {items items2 : Array Value} {Q : Value → Shared → Prop} (hu : A.units < cLine) (e : Nat → Bool) (I : Shared → Prop)
    (hl : s.heap.IsTuple l items) (hb : s.heap.IsTuple b items2)
    (turn : ∀ i (h1 : i < items.size) (h2 : i < items2.size) s, I s → wpAny (model prog w) A.in1 (eqBool items[i] items2[i]) (fun r s' => r = e i ∧ I s') E s)
    (fin : ∀ s, I s → Q (.bool ((List.range (min items.size items2.size)).all e && items.size == items2.size)) s) (h : I s) : wpAny (model prog w) A (richCompare .Eq (.ref l) (.ref b)) Q E s := by
  obtain ⟨⟨cls, dd, data, sl⟩, ho, hc, n, hd⟩ := id hl
  obtain ⟨⟨cls2, dd2, data2, sl2⟩, ho2, hc2, n2, hd2⟩ := id hb
  simp only at hc hd hc2 hd2
  subst hc hd hc2 hd2
  refine wpAny_richCompare_same_room (op := .Eq) ⟨_, ho, rfl⟩ ⟨_, ho2, rfl⟩ F.slot_tuple_eq (call_here F.slot_tuple_eq ⟨_, ho, rfl⟩ F.entry_tuple_eq (F.args_tuple_eq_2 _ _) ?_) hu
  exact tuple_eqB (R := wants (fun v s' => v ≠ .notImplemented ∧ Q v s') E) l b items items2 n n2 dd dd2 sl sl2 e I turn (fun s' q => ⟨(fun x => nomatch x), fin s' q⟩) ho ho2 h
end
end GQB

namespace LB
open PySem L2 PySem.Spec PyProof.Rows
/-- how two values compare, by the abstract heap -/
abbrev EqvB := V → V → Bool → Hp → Prop
def MonB (D : EqvB) : Prop := ∀ x y r H H', Ext H H' → D x y r H → D x y r H'
def EqB (X : Cx) (n : Nat) (D : EqvB) : Prop :=
  ∀ (A : Around) (pins : List (Addr × Obj)) (s : Shared) (σ : L2.St) (H : Hp) (x y : V) (u v : Value) (r : Bool), Sub X n A → Inv X pins σ H s → RelV x u → RelV y v → D x y r H →
    wpAny (model X.prog X.w) A (eqBool u v) (fun r' s' => r' = r ∧ ∃ H', Inv X pins σ H' s' ∧ Ext H H') X.xe s
def RcB (X : Cx) (n : Nat) (D : EqvB) : Prop :=
  ∀ (A : Around) (pins : List (Addr × Obj)) (s : Shared) (σ : L2.St) (H : Hp) (x y : V) (u v : Value) (r : Bool), Sub X n A → Inv X pins σ H s → RelV x u → RelV y v → D x y r H →
    wpAny (model X.prog X.w) A (richCompare .Eq u v) (fun r' s' => r' = .bool r ∧ ∃ H', Inv X pins σ H' s' ∧ Ext H H') X.xe s
section
variable {X : Cx} {n : Nat} {D : EqvB}
def DTupB (K : PySem.W.Frag) (D : EqvB) : EqvB := fun x y r H => ∃ (a b : Addr) (xs ys : List V) (rs : Nat → Bool), x = .ref a ∧ y = .ref b ∧ SqT K H a xs ∧ SqT K H b ys ∧ r = ((List.range (min xs.length ys.length)).all rs && xs.length == ys.length) ∧
  ∀ (i : Nat) x y, xs[i]? = some x → ys[i]? = some y → D x y (rs i) H
theorem rcB_tup (hD : MonB D) (h : EqB X n D) : RcB X (n + 1) (DTupB X.K D) := by
  intro A pins s σ H x y u v r sb I rx ry d
  obtain ⟨a, b, xs, ys, rs, rfl, rfl, ha, hb, rfl, p⟩ := d
  cases rx
  cases ry
  obtain ⟨its, r, e, z⟩ := I.tuple ha
  obtain ⟨its2, r2, e2, z2⟩ := I.tuple hb
  refine GQB.rc_tupB sb.room.units0 rs (LoopI X pins σ H) e e2 (fun i h1 h2 s' q => ?_) (fun s' q => ⟨?_, q⟩) ⟨H, I, Ext.rfl'⟩
  · obtain ⟨H1, I1, e1⟩ := q
    have h1' : i < its.length := by simpa using h1
    have h2' : i < its2.length := by simpa using h2
    have k1 : i < xs.length := by rw [r.length]; exact h1'
    have k2 : i < ys.length := by rw [r2.length]; exact h2'
    obtain ⟨u, hu, ru⟩ := r.get (List.getElem?_eq_getElem k1)
    obtain ⟨v, hv, rv⟩ := r2.get (List.getElem?_eq_getElem k2)
    have g1 : its.toArray[i] = u := by
      rw [List.getElem?_eq_getElem h1'] at hu
      simpa using hu
    have g2 : its2.toArray[i] = v := by
      rw [List.getElem?_eq_getElem h2'] at hv
      simpa using hv
    rw [g1, g2]
    refine wpAny_mono (h A.in1 pins s' σ H1 _ _ u v (rs i) sb.in1 I1 ru rv (hD _ _ _ _ _ e1 (p i _ _ (List.getElem?_eq_getElem k1) (List.getElem?_eq_getElem k2)))) (fun r s2 q => ?_) fun _ _ x => x
    obtain ⟨hr, H2, I2, e2⟩ := q
    exact ⟨hr, H2, I2, e1.trans e2⟩
  · rw [List.size_toArray, List.size_toArray, ← r.length, ← r2.length]
/-- instances of the class at C with the text's own == -/
def DInsB (C : Addr) (R : Addr → Addr → Bool → Hp → Prop) : EqvB := fun x y r H => ∃ a b dx dy fs gs, x = .ref a ∧ y = .ref b ∧ H a = some (.ins C dx fs) ∧ H b = some (.ins C dy gs) ∧ R a b r H
theorem monB_ins {C : Addr} {R : Addr → Addr → Bool → Hp → Prop} (hR : ∀ a b r H H', Ext H H' → R a b r H → R a b r H') : MonB (DInsB C R) := fun x y r H H' e d => by
  obtain ⟨a, b, dx, dy, fs, gs, hx, hy, h1, h2, q⟩ := d
  exact ⟨a, b, dx, dy, fs, gs, hx, hy, e _ _ h1, e _ _ h2, hR a b r H H' e q⟩
def spEqB (R : Addr → Addr → Bool → Hp → Prop) : Sp := fun vs H Q _ => ∃ a b r, vs = [.ref a, .ref b] ∧ R a b r H ∧ ∀ H', Ext H H' → Q (.bl r) H'
theorem rcB_ins {CX : CXT} {C f : Addr} {fd : FuncData} {ps : List Str} {R : Addr → Addr → Bool → Hp → Prop} {E : XK} (F : FnOk X.prog X.w X.K X.mg X.base CX n f fd ps (spEqB R))
    (hs : PySem.W.findIn X.K (.ref C) "__eq__" = some (some (.ref f))) (hf : PySem.W.isFn X.K (.ref f) = true) (hb : Binds X.K fd ps []) (hx : Passes CX X E) : RcB X n (DInsB C R) := by
  intro A pins s σ H x y u v r sb I rx ry d
  obtain ⟨a, b, dx, dy, fs, gs, rfl, rfl, ha, hb', hr⟩ := d
  cases rx
  cases ry
  obtain ⟨mA, J, _⟩ := ins_get I.hok ha
  obtain ⟨mB, J', _⟩ := ins_get I.hok hb'
  obtain ⟨od, J, _⟩ := J.look
  obtain ⟨od', J', _⟩ := J'.look
  obtain ⟨m, hF⟩ := I.fr
  refine PySem.W.cmp_K (op := .Eq) (tb := .ref C) sb.room.units0 hF I.ok.mod.kin J J'.type (by simp [PySem.W.notFirst]) hs hf ?_
  have hsp : spEqB R [.ref a, .ref b] H (fun v H' => v = .bl r ∧ Ext H H') E := ⟨a, b, r, rfl, hr, fun H' e => ⟨rfl, e⟩⟩
  have e0 : Env0 X.prog X.w X.K X.mg X.base A X.stack s H := by
    have e := I.env0
    exact ⟨by rw [sb.fr]; exact e.frames, e.mod, e.bs, e.bsz, e.funs, e.frf, e.hok, e.bare⟩
  have hl := F.len _ _ _ _ hsp
  have r2 : Vals [V.ref a, V.ref b] [Value.ref a, Value.ref b] := .cons rfl (.cons rfl .nil)
  refine wpAny_call (codeAny_mono (F.run A X.stack s H ⟨[.ref a, .ref b], []⟩ [.ref a, .ref b] [.ref a, .ref b] _ E sb.room e0 (by
    have := hb s [.ref a, .ref b] I.kIn (by simpa using hl)
    simpa using this) r2 hsp) fun r' s' hq => ?_)
  cases r' with
  | error e => exact hx pins σ H s e s' I hq
  | ok fl =>
    cases fl with
    | ret w =>
      obtain ⟨z, H', I', rz, ez, ex⟩ := I.after hq
      subst ez
      obtain rfl : w = Value.bool r := rz
      exact ⟨rfl, H', I', ex⟩
    | next => exact False.elim hq
    | brk => exact False.elim hq
    | cont => exact False.elim hq
theorem RcB.eqB (h : RcB X n D) (hr : ∀ x y r H, D x y r H → ∃ a b, x = .ref a ∧ y = .ref b) (hs : ∀ x r H, D x x r H → r = true) : EqB X n D := by
  intro A pins s σ H x y u v r sb I rx ry d
  obtain ⟨a, b, rfl, rfl⟩ := hr _ _ _ _ d
  cases rx
  cases ry
  by_cases hab : a = b
  · subst hab
    have := hs _ _ _ d
    subst this
    exact SeqAt.EqAt.same (A := A) (s := s) (.ref a) X.prog X.w X.xe _ ⟨rfl, H, I, Ext.rfl'⟩
  · refine GQ.eqBool_refG hab (wpAny_mono (h A pins s σ H (.ref a) (.ref b) _ _ r sb I rfl rfl d) (fun r' s' q => ?_) fun _ _ x => x)
    obtain ⟨hr', q⟩ := q
    exact ⟨r, hr', rfl, q⟩
/-- x == y as an expression -/
def rEqB (D : EqvB) : R2 := fun x y H Q => ∃ r, D x y r H ∧ ∀ H', Ext H H' → Q (.bl r) H'
theorem op_eqB (h : RcB X n D) (hr : Room n X.A) : OpR X (compareOp .Eq) (rEqB D) := by
  intro pins s σ H x y v u Q I rx ry hq
  obtain ⟨r, d, q⟩ := hq
  show wpAny (model X.prog X.w) X.A (richCompare .Eq v u) (EP X pins σ Q) X.xe s
  refine wpAny_mono (h X.A pins s σ H x y v u r ⟨hr, rfl⟩ I rx ry d) (fun r' s' z => ?_) fun _ _ x => x
  obtain ⟨hr', H', I', e⟩ := z
  subst hr'
  exact ⟨.bl r, H', I', rfl, q H' e⟩
end
end LB

namespace DL
open PySem L2 LB PyProof.Rows
/-! ### == of tuples of own instances, by their own == -/
/-- what an own == tells of two values -/
def RF (fs : FS) : Addr → Addr → Bool → Hp → Prop := fun a b r H => ∃ F d1 d2, Same F H ∧ D.p d1 F (.ref a) ∧ D.p d2 F (.ref b) ∧ fs [.fr d1, .fr d2] [] (fun d _ => d = fBl r) noX ∧ (a = b → r = true)
theorem RF.mon {fs : FS} : ∀ a b r H H', Ext H H' → RF fs a b r H → RF fs a b r H' := fun a b r H H' e ⟨F, d1, d2, s, q⟩ => ⟨F, d1, d2, fun c o h => e _ _ (s _ _ h), q⟩
theorem spEqB_of {fs : FS} {vs : List V} {H : Hp} {Q : VK} {E : XK} (h : spEqB (RF fs) vs H Q E) : spD fs vs H Q E := by
  obtain ⟨a, b, r, rfl, ⟨F, d1, d2, s, p1, p2, q, _⟩, k⟩ := h
  refine ⟨⟨[], F, H⟩, [], [.fr d1, .fr d2], _, noX, rfl, ⟨s, .nil, rfl, fun _ m => (nomatch m), fun k a od q => by simp at q, fun k a q => by simp at q⟩, .cons p1 (.cons p2 .nil), q, ?_, .no⟩
  intro d O' v w' e g o p
  subst e
  have p : v = .bl r := p
  subst p
  exact k _ fun c u h => g.keep c u h (fun m => nomatch m)
section
variable {X : Cx} {CX : CXT} {k : Nat} {C : Addr} {ps : List Str} {fs : FS} {E : XK}
theorem op_eqTupMe (h : HasMe X.prog X.w X.K X.mg X.base CX k C "__eq__" ps (spD fs)) (hr : Room (k + 1) X.A) (hx : Passes CX X E) : OpR X (compareOp .Eq) (rEqB (DTupB X.K (DInsB C (RF fs)))) := by
  obtain ⟨f, fd, F, O, _, hb⟩ := h
  have R1 := rcB_ins (E := E) (F.imp fun vs H Q E h => spEqB_of h) O.at_ O.fn hb hx
  exact op_eqB (rcB_tup (monB_ins RF.mon) (RcB.eqB R1 (fun x y r H ⟨a, b, _, _, _, _, h1, h2, _⟩ => ⟨a, b, h1, h2⟩) fun x r H ⟨a, b, _, _, _, _, h1, h2, _, _, ⟨F, d1, d2, _, _, _, _, q⟩⟩ => q (by rw [h1] at h2; injection h2))) hr
end
section
variable {b : Wd} {O : Ow} {K : DK} {KF : PySem.W.Frag}
theorem Op2.eqTup {C : Addr} {fs : FS} {ds es : List D} {rs : Nat → Bool} (h : ∀ (i : Nat) d e, ds[i]? = some d → es[i]? = some e → IsIns C [] (.fr d) ∧ IsIns C [] (.fr e) ∧ fs [.fr d, .fr e] [] (fun x _ => x = fBl (rs i)) noX ∧ ∀ F v, d.p F v → e.p F v → rs i = true)
    (k : K (fBl ((List.range (min ds.length es.length)).all rs && ds.length == es.length)) O) : Op2 b (rEqB (DTupB KF (DInsB C (RF fs)))) (.fr (dTup ds)) (.fr (dTup es)) O K := fun w x y g o p q Q n => by
  obtain ⟨a, xs, rfl, fa, px⟩ := p
  obtain ⟨c, ys, rfl, fc, py⟩ := q
  refine ⟨_, ⟨a, c, xs, ys, rs, rfl, rfl, SqT.of (o.sub _ _ fa), SqT.of (o.sub _ _ fc), rfl, fun i x y hx hy => ?_⟩, fun H' e => ?_⟩
  · have lx := (List.getElem?_eq_some_iff.mp hx).1
    have ly := (List.getElem?_eq_some_iff.mp hy).1
    obtain ⟨d, hd⟩ : ∃ d, ds[i]? = some d := ⟨_, List.getElem?_eq_getElem (by rw [px.len]; exact lx)⟩
    obtain ⟨e, he⟩ : ∃ e, es[i]? = some e := ⟨_, List.getElem?_eq_getElem (by rw [py.len]; exact ly)⟩
    obtain ⟨v, h1, pv⟩ := px.get hd
    obtain ⟨u, h2, pu⟩ := py.get he
    rw [hx] at h1; injection h1 with h1; subst h1
    rw [hy] at h2; injection h2 with h2; subst h2
    obtain ⟨i1, i2, hf, hs⟩ := h i d e hd he
    obtain ⟨a1, dx, gs, rfl, fa1⟩ := i1 _ _ pv
    obtain ⟨a2, dy, hs2, rfl, fa2⟩ := i2 _ _ pu
    exact ⟨a1, a2, dx, dy, gs, hs2, rfl, rfl, o.sub _ _ fa1, o.sub _ _ fa2, w.F, d, e, o.sub, pv, pu, hf, fun z => hs w.F _ pv (by rw [z]; exact pu)⟩
  · have e : Same w.H H' := e
    rw [← px.len, ← py.len]
    exact n _ O _ ⟨w.as, w.F, H'⟩ k (Grow.more e) (o.more e) rfl
end
end DL

namespace LB
open PySem L2 PySem.Spec PyProof.Rows
/-! ### o[i] = v by an own __setitem__ -/
def rSetO (C : Addr) (sp : Sp) (E : XK) : TSet := fun o i v H Q => ∃ a dx fs, o = .ref a ∧ H a = some (.ins C dx fs) ∧ sp [o, i, v] H (fun _ H' => Q H') E
section
variable {X : Cx} {CX : CXT} {k : Nat} {C : Addr} {ps : List Str} {sp : Sp} {E : XK}
theorem set_ownMe (h : HasMe X.prog X.w X.K X.mg X.base CX k C "__setitem__" ps sp) (ns : PySem.W.noSeq X.K C = true) (hr : Room k X.A) (hx : Passes CX X E) : PSet X (rSetO C sp E) := by
  obtain ⟨f, fd, F, O, _, hb⟩ := h
  intro pins s σ H o i v ov iv u Q I ro ri rv h
  obtain ⟨a, dx, fs, rfl, ha, h⟩ := h
  cases ro
  obtain ⟨od, J⟩ := inst_of I ha
  obtain ⟨m, hF⟩ := I.fr
  refine PySem.W.ksp_setItem hF I.ok.mod.kin J ns O.at_ O.fn (wpAny_mono (run_fn (dvs := []) (us := [.ref a, iv, u]) (vs := [.ref a, i, v]) F hr hb .nil hx I (.cons rfl (.cons ri (.cons rv .nil))) h) (fun v s' z => ?_) fun _ _ z => z)
  obtain ⟨x, H', I', _, q⟩ := z
  exact ⟨H', I', q⟩
end
end LB

namespace DL
open PySem L2 LB PyProof.Rows
section
variable {b : Wd} {en : En} {O : Ow} {K : DK} {KF : PySem.W.Frag}
/-- t + u -/
theorem Op2.catT {xs ys : List D} (l : xs.length + ys.length ≤ sizeLine) (k : K (.fr (dTup (xs ++ ys))) O) : Op2 b (rCatA KF) (.fr (dTup xs)) (.fr (dTup ys)) O K := fun w x y e o p q Q n => by
  obtain ⟨a, vs, rfl, fa, pa⟩ := p
  obtain ⟨c, us, rfl, fc, pc⟩ := q
  refine ⟨a, c, vs, us, rfl, rfl, SqT.of (o.sub _ _ fa), SqT.of (o.sub _ _ fc), by rw [← pa.len, ← pc.len]; exact l, fun h => ?_, fun _ h => ?_, fun _ _ t ht => ?_⟩
  · subst h
    cases pa
    exact n _ O _ w k (Grow.refl w) o ⟨c, us, rfl, fc, pc⟩
  · subst h
    cases pc
    rw [List.append_nil] at k
    exact n _ O _ w k (Grow.refl w) o ⟨a, vs, rfl, fa, pa⟩
  · have g := Grow.new o (.tup (vs ++ us)) ht
    exact n _ O _ _ k g (o.new _ ht) ⟨t, _, rfl, upd_same, (pa.mono g.F).app (pc.mono g.F)⟩
/-- t[lo:hi] -/
theorem OpS.tup {ds : List D} {lo hi : Option Int} (k : K (.fr (dTup (cutD ds lo hi))) O) : OpS b (rSlA KF) (.fr (dTup ds)) lo hi O K := fun w x e o p Q n => by
  obtain ⟨a, vs, rfl, fa, pa⟩ := p
  refine ⟨a, vs, rfl, SqT.of (o.sub _ _ fa), fun h => ?_, fun _ t ht => ?_⟩
  · have e1 : cutD ds lo hi = ds := by
      unfold cutD
      rw [pa.len, h.1, h.2]
      simp [← pa.len]
    rw [e1] at k
    exact n _ O _ w k (Grow.refl w) o ⟨a, vs, rfl, fa, pa⟩
  · have g := Grow.new o (.tup (cutV vs lo hi)) ht
    exact n _ O _ _ k g (o.new _ ht) ⟨t, _, rfl, upd_same, (pa.cut lo hi).mono g.F⟩
theorem TruD.tup {ds : List D} : TruD KF O (.fr (dTup ds)) (!ds.isEmpty) := fun w x o p => by
  obtain ⟨a, vs, rfl, fa, pa⟩ := p
  refine .inr (.inl ⟨vs, SqT.of (o.sub _ _ fa), ?_⟩)
  cases pa <;> rfl
/-- o[i] = e by an own __setitem__ -/
theorem EvG.setOX {C : Addr} {fs : FS} {to ti : TE} {x : Da} {KE : EK} {E : XK} {KX : XKD} (r : RaiseTo b E KX) (h : Ev b to en O fun d O1 => Ev b ti en O1 fun d2 O2 => IsIns C O2 d ∧ fs [d, d2, x] O2 (fun _ O3 => KE en O3) KX) : EvG b (gSub to ti (rSetO C (spD fs) E)) x en O KE := fun w σ v e o en' p Q q =>
  h w σ e o en' _ fun d O1 y w1 k1 e1 o1 p1 => k1 w1 σ (e.trans e1) o1 (en'.ext e1) _ fun d2 O2 z w2 k2 e2 o2 p2 => by
    obtain ⟨a, dx, gs, rfl, ha⟩ := k2.1.at_ o2 (Da.mono e2 p1)
    refine ⟨a, dx, gs, rfl, ha, spD_at o2 (.cons (Da.mono e2 p1) (.cons p2 (.cons (Da.mono (e1.trans e2) p) .nil))) k2.2 (fun d O3 u w3 k3 e3 o3 p3 => ?_) (r.grow ((e.trans e1).trans e2))⟩
    exact q _ _ _ _ k3 ((e1.trans e2).trans e3) o3 (en'.ext ((e1.trans e2).trans e3))
theorem EvG.setO {C : Addr} {fs : FS} {to ti : TE} {x : Da} {KE : EK} (h : Ev b to en O fun d O1 => Ev b ti en O1 fun d2 O2 => IsIns C O2 d ∧ fs [d, d2, x] O2 (fun _ O3 => KE en O3) noX) : EvG b (gSub to ti (rSetO C (spD fs) E0)) x en O KE := EvG.setOX .no h
end
/-- an instance of one's own stands still from here on -/
theorem EvS.stillI {b : Wd} {en : En} {O : Ow} {K : Ks} {ts : TS} {k : Nat} {C : Addr} {fs : List (Str × D)} (hk : O[k]? = some (some (oIns C fs))) (h : EvS b ts (en.map fun s => match s with
    | some (.ow j) => if j = k then some (.fr (dIns C fs)) else s
    | _ => s) (O.set k none) K) : EvS b ts en O K := fun w σ e o en' D qn qr qb qc => by
  obtain ⟨a, u, ha, hu, dx, gs, rfl, pu⟩ := o.at_ hk
  obtain ⟨o2, g⟩ := o.still ha hk hu
  refine h ⟨w.as, upd w.F a (.ins C dx gs), w.H⟩ σ (e.trans g) o2 ⟨by rw [List.length_map]; exact en'.len, fun i d q => ?_⟩ D (qn.grow g) (qr.grow g) (qb.grow g) (qc.grow g)
  rw [List.getElem?_map] at q
  cases e1 : en[i]? with
  | none => rw [e1] at q; cases q
  | some s =>
    rw [e1] at q
    cases s with
    | none => simp at q
    | some d0 =>
      obtain ⟨v, h1, h2⟩ := en'.at_ i d0 e1
      cases d0 with
      | fr d0 =>
        simp at q
        subst q
        exact ⟨v, h1, Da.mono g h2⟩
      | ow j =>
        by_cases ej : j = k
        · subst ej
          simp at q
          subst q
          obtain ⟨a', ha', rfl⟩ := h2
          rw [ha] at ha'
          injection ha' with ha'
          subst ha'
          exact ⟨_, h1, a, dx, gs, rfl, upd_same, pu.mono g.F⟩
        · simp [ej] at q
          subst q
          exact ⟨v, h1, Da.mono g h2⟩
end DL

namespace HT
open PySem PySem.SeqAt PyProof.Rows
section
variable {prog : Program} {w : World} {A : Around} {E : Value → Shared → Prop} {s : Shared}
theorem sliceApplied_rev {sl : Addr} {vk : Value} {n : Nat} {Q : Int × Int × Nat → Shared → Prop} (hs : s.heap.IsSliceOf sl .none .none vk) (pk : IsPart vk (some (-1)))
    (h : Q ((n : Int) - 1, -1, n) s) : wpAny (model prog w) A (Builtin.Slice.sliceApplied (.ref sl) (pure (n : Int))) Q E s := by
  obtain ⟨os, hos, hcs, hds⟩ := id hs
  unfold Builtin.Slice.sliceApplied Builtin.Slice.sliceFields
  refine wpAny_bind (wpAny_bind (wpAny_field hos hds (x := .none) rfl (wpAny_bind (wpAny_field hos hds (x := .none) rfl (wpAny_bind (wpAny_field hos hds (x := vk) rfl (wpAny_pure ?_)))))))
  refine wpAny_bind (slicePart_ pk ?_)
  show wpAny _ _ (if ((-1 : Int) == 0) = true then _ else _) _ _ s
  rw [if_neg (by decide)]
  refine wpAny_bind (slicePart_ .none (wpAny_bind (slicePart_ .none (wpAny_bind (wpAny_pure ?_)))))
  show wpAny _ _ (match Builtin.Slice.sliceAdjust none none (-1) (n : Int) with | (lo, hi) => pure (lo, (-1 : Int), Builtin.Slice.slicePlaces lo hi (-1))) _ _ s
  have e1 : Builtin.Slice.sliceAdjust none none (-1) (n : Int) = ((n : Int) - 1, -1) := by rfl
  have e2 : Builtin.Slice.slicePlaces ((n : Int) - 1) (-1) (-1) = n := by
    unfold Builtin.Slice.slicePlaces
    simp
    split
    · omega
    · omega
  rw [e1]
  show wpAny _ _ (pure ((n : Int) - 1, (-1 : Int), Builtin.Slice.slicePlaces ((n : Int) - 1) (-1) (-1))) _ _ s
  rw [e2]
  exact wpAny_pure h
theorem fm_congr {α β : Type} {f g : α → Option β} : ∀ {l : List α}, (∀ x ∈ l, f x = g x) → l.filterMap f = l.filterMap g
  | [], _ => rfl
  | x :: l, h => by rw [List.filterMap_cons, List.filterMap_cons, h x List.mem_cons_self, fm_congr fun y m => h y (List.mem_cons_of_mem _ m)]
theorem pick_rev (xs : Array Value) : ((List.range xs.size).filterMap fun (m : Nat) => xs[(((xs.size : Int) - 1) + (m : Int) * (-1)).toNat]?).toArray = xs.toList.reverse.toArray := by
  have e : (List.range xs.size).filterMap (fun (m : Nat) => xs[(((xs.size : Int) - 1) + (m : Int) * (-1)).toNat]?) = ((List.range xs.size).map fun k => xs.size - 1 - k).filterMap (xs[·]?) := by
    rw [List.filterMap_map]
    refine fm_congr fun m hm => ?_
    have := List.mem_range.mp hm
    show _ = xs[xs.size - 1 - m]?
    congr 1
    omega
  rw [e, PySem.W.krv_range, List.filterMap_reverse, PySem.W.krv_all]
theorem getItem_tuple_rev {t sl : Addr} {items : Array Value} {vk : Value} {Q : Value → Shared → Prop} (ht : IsTup s.heap t items) (hs : s.heap.IsSliceOf sl .none .none vk) (pk : IsPart vk (some (-1)))
    (h : Q (.ref s.heap.objs.size) { s with heap := s.heap.push { cls := .type "tuple", data := .seq items.toList.reverse.toArray } })
    (hsz : items.size ≤ sizeLine) : wpAny (model prog w) A (getItem (.ref t) (.ref sl)) Q E s := by
  have htake : sizeOk (.seq items.toList.reverse.toArray) := by
    show items.toList.reverse.toArray.size ≤ sizeLine
    rw [List.size_toArray, List.length_reverse, Array.length_toList]
    exact hsz
  obtain ⟨os, hos, hcs, hds⟩ := id hs
  have hTs : s.TypeIs (.ref sl) "slice" := ⟨os, hos, hcs⟩
  unfold getItem
  try with_reducible refine wpAny_holding ?_
  first | refine wpAny_bind (wpAny_pure ?_) | skip
  refine wpAny_bind (wpAny_sequenceKey ht.typeIs (by decide) ?_)
  refine wpAny_bind (wpAny_callSpecial?_slot (name := Str.ofString "__getitem__") ht.typeIs PyProof.Rows.slot_tuple_getitem
    (wpAny_call_entry PyProof.Rows.slot_tuple_getitem ht.typeIs entry_tuple_getitem ?_ (args_tuple_getitem _ _)))
  show wpAny _ _ (Builtin.Tuple.tupleItemsOf (.ref t) >>= _) _ _ s
  refine wpAny_bind (tupleItemsOf_ ht ?_)
  refine wpAny_bind (wpAny_typeOf hTs ?_)
  rw [if_pos (by decide)]
  refine wpAny_bind (sliceApplied_rev hs pk ?_)
  have hno : ¬ ((((items.size : Int) - 1) == 0 && (-1 : Int) == 1 && items.size == items.size) = true) := by
    intro q
    rw [Bool.and_eq_true, Bool.and_eq_true] at q
    exact absurd q.1.2 (by decide)
  show wpAny _ _ (if (((items.size : Int) - 1) == 0 && (-1 : Int) == 1 && items.size == items.size) = true then _ else _) _ _ s
  rw [if_neg hno, pick_rev]
  first
    | exact wpAny_bind (m := Builtin.Tuple.tupleExact _) (wpAny_newObj_type (wpAny_pure ⟨_, rfl, wpAny_pure h⟩) htake)
    | exact wpAny_bind (m := Builtin.Tuple.tupleExact _) (wpAny_newObj_type (wpAny_bind (wpAny_pure (wpAny_pure ⟨_, rfl, wpAny_pure h⟩))) htake)
    | exact wpAny_bind (wpAny_bind (m := Builtin.Tuple.tupleExact _) (wpAny_newObj_type (wpAny_pure (wpAny_pure ⟨_, rfl, wpAny_pure h⟩)) htake))
    | exact wpAny_bind (wpAny_bind (m := Builtin.Tuple.tupleExact _) (wpAny_newObj_type (wpAny_pure ⟨_, rfl, wpAny_pure h⟩) htake))
end
end HT
namespace LB
open PySem L2 PySem.Spec PyProof.Rows
/-- xs[::-1], xs a list or a tuple -/
def tRevQ (K : PySem.W.Frag) (te : TE) : TE := fun σ H Q => te σ H fun x H1 => ∃ a xs, x = .ref a ∧ ((SqL K H1 a xs ∧ ∀ p, H1 p = none → Q (.ref p) (upd H1 p (.lst xs.reverse))) ∨ (SqT K H1 a xs ∧ ∀ p, H1 p = none → Q (.ref p) (upd H1 p (.tup xs.reverse))))
theorem vals_rev {vs : List V} {us : List Value} (h : Vals vs us) : Vals vs.reverse us.reverse := by
  induction h with
  | nil => exact .nil
  | cons q r ih => rw [List.reverse_cons, List.reverse_cons]; exact ih.append (.cons q .nil)
theorem pe_revQ {X : Cx} {e : Expr} {te : TE} {k : Nat} {p1 p2 p3 pos : Pos} (he : PE X e te) : PE X (.Subscript e (.Slice none none (some (.UnaryOp .USub (.Constant (.int 1) k p1) p2)) p3) pos) (tRevQ X.K te) := by
  refine ⟨fun pins s σ H Q I h => ?_⟩
  refine Subscript_ (thn (he.run pins s σ H _ I h) fun v s1 ⟨x, H1, I1, r1, q1⟩ => ?_)
  obtain ⟨a, xs, ex, q⟩ := q1
  subst ex
  cases r1
  have hst : PO X (some (.UnaryOp .USub (.Constant (.int 1) k p1) p2)) (tPart (tUn (rU fun i => .int (-i)) (tC (.int 1)))) := po_some (pe_un un_neg pe_int)
  refine wpAny_Slice (thn (po_none.run pins s1 σ H1 (fun o H2 => o = none ∧ H2 = H1) I1 ⟨rfl, rfl⟩) fun vl s2 ⟨l, H2, I2, pl, el, e2⟩ => ?_)
  subst el e2
  refine thn (po_none.run pins s2 σ H2 (fun o H3 => o = none ∧ H3 = H2) I2 ⟨rfl, rfl⟩) fun vu s3 ⟨u, H3, I3, pu, eu, e3⟩ => ?_
  subst eu e3
  refine thn (hst.run pins s3 σ H3 (fun o H4 => o = some (-1) ∧ H4 = H3) I3 ⟨1, rfl, -1, rfl, rfl, rfl⟩) fun vs s4 ⟨o, H4, I4, ps, eo, e4⟩ => ?_
  subst eo e4
  have I5 : Inv X pins σ H4 { s4 with heap := s4.heap.push { cls := .type "slice", data := .fields #[vl, vu, vs] } } := I4.kept (t' := s4.toks) fun b ob q => Heap.get?_push_of_some _ q
  have el : vl = .none := by cases pl; rfl
  have eu : vu = .none := by cases pu; rfl
  subst el eu
  show wpAny (model X.prog X.w) X.A (subscriptTail e (.Slice none none (some (.UnaryOp .USub (.Constant (.int 1) k p1) p2)) p3) (.ref a) (.ref s4.heap.objs.size)) (EP X pins σ Q) X.xe _
  rcases q with ⟨hl, q⟩ | ⟨ht, q⟩
  · obtain ⟨its, rv, pl, hz⟩ := I5.list hl
    refine tail_any (ops := [.ref a, .ref s4.heap.objs.size]) pl.isList.typeIs slot_list_getitem.lookup ?_ (by with_unfolding_all rfl)
    refine wpAny_getItem_list_slice pl.isList (Heap.IsSliceOf.new ..) .none .none ps (by decide) ?_ (by rw [List.size_toArray]; have := rv.length; omega)
    rw [PySem.W.krv_pick]
    refine ⟨.ref _, _, I5.laid (t' := s4.toks) (o := .lst xs.reverse) (fun b ob q => Heap.get?_push_of_some _ q) (Nat.le_refl _) ?_, rfl, q _ (I5.hok.fresh (Nat.le_refl _))⟩
    refine ⟨?_, its.reverse, 0, vals_rev rv, ?_⟩
    · rw [List.length_reverse]; exact hz
    · exact Heap.get?_push_size _ rfl
  · obtain ⟨its, rv, pt, hz⟩ := I5.tuple ht
    refine tail_any (ops := [.ref a, .ref s4.heap.objs.size]) pt.typeIs PyProof.Rows.slot_tuple_getitem.lookup ?_ (by with_unfolding_all rfl)
    refine HT.getItem_tuple_rev pt (Heap.IsSliceOf.new ..) ps ?_ (by rw [List.size_toArray]; have := rv.length; omega)
    refine ⟨.ref _, _, I5.laid (t' := s4.toks) (o := .tup xs.reverse) (fun b ob q => Heap.get?_push_of_some _ q) (Nat.le_refl _) ?_, rfl, q _ (I5.hok.fresh (Nat.le_refl _))⟩
    exact ⟨by rw [List.length_reverse]; exact hz, its.reverse, vals_rev rv, IsTup.new _ _⟩
end LB

namespace DL
open PySem L2 LB PyProof.Rows
section
variable {b : Wd} {en : En} {O : Ow} {K : DK} {KF : PySem.W.Frag}
/-- xs[::-1], a list or a tuple -/
theorem Ev.revQ {te : TE} (h : Ev b te en O fun d O1 => (∃ ds, LstD O1 ds d ∧ K (.fr (dLst ds.reverse)) O1) ∨ (∃ ds, d = .fr (dTup ds) ∧ K (.fr (dTup ds.reverse)) O1)) : Ev b (tRevQ KF te) en O K :=
  fun w σ e o en' Q q => h w σ e o en' _ fun d O1 x w1 k1 e1 o1 p1 => by
    rcases k1 with ⟨ds, hd, k⟩ | ⟨ds, rfl, k⟩
    · obtain ⟨a, vs, rfl, f, p⟩ := hd.at_ o1 p1
      refine ⟨a, vs, rfl, .inl ⟨SqL.of f, fun c hc => ?_⟩⟩
      have g := Grow.new o1 (.lst vs.reverse) hc
      exact q _ O1 _ _ k (e1.trans g) (o1.new _ hc) ⟨c, _, rfl, upd_same, (p.mono g.F).rev⟩
    · obtain ⟨a, vs, rfl, f, p⟩ := p1
      refine ⟨a, vs, rfl, .inr ⟨SqT.of (o1.sub _ _ f), fun c hc => ?_⟩⟩
      have g := Grow.new o1 (.tup vs.reverse) hc
      exact q _ O1 _ _ k (e1.trans g) (o1.new _ hc) ⟨c, _, rfl, upd_same, (p.mono g.F).rev⟩
/-- text[::-1] -/
theorem Ev.revS {te : TE} (h : Ev b te en O fun d O1 => ∃ z : Str, d = fStr z ∧ z.length ≤ sizeLine ∧ K (fStr (LB.revS z)) O1) : Ev b (tRevS te) en O K :=
  fun w σ e o en' Q q => h w σ e o en' _ fun d O1 x w1 k1 e1 o1 p1 => by
    obtain ⟨z, rfl, l, k⟩ := k1
    have p1 : x = .str z := p1
    subst p1
    exact ⟨z, rfl, l, q _ O1 _ w1 k e1 o1 rfl⟩
end
end DL

namespace K41
open PySem L2 LB PyProof.Rows DL
abbrev s_CellDD_eqDD : Stmt := inClass (top 23) 2
theorem sc_CellDD_eqDD : FnScope ["self", "other"] ["self", "other"] (defScope s_CellDD_eqDD) := ⟨rfl, rfl, rfl, by decide +kernel, rfl, by decide +kernel, by decide +kernel⟩
abbrev s_CellDD_andDD : Stmt := inClass (top 23) 8
theorem sc_CellDD_andDD : FnScope ["self", "other"] ["self", "other"] (defScope s_CellDD_andDD) := ⟨rfl, rfl, rfl, by decide +kernel, rfl, by decide +kernel, by decide +kernel⟩
abbrev s_Line_cells : Stmt := inClass (top 41) 5
theorem sc_Line_cells : FnScope ["self"] ["self"] (defScope s_Line_cells) := ⟨rfl, rfl, rfl, by decide +kernel, rfl, by decide +kernel, by decide +kernel⟩
abbrev s_LineDD_lenDD : Stmt := inClass (top 41) 9
theorem sc_LineDD_lenDD : FnScope ["self"] ["self"] (defScope s_LineDD_lenDD) := ⟨rfl, rfl, rfl, by decide +kernel, rfl, by decide +kernel, by decide +kernel⟩
abbrev s_LineDD_eqDD : Stmt := inClass (top 41) 14
theorem sc_LineDD_eqDD : FnScope ["self", "other"] ["self", "other"] (defScope s_LineDD_eqDD) := ⟨rfl, rfl, rfl, by decide +kernel, rfl, by decide +kernel, by decide +kernel⟩
abbrev s_LineDD_setitemDD : Stmt := inClass (top 41) 12
theorem sc_LineDD_setitemDD : FnScope ["self", "at", "worth", "taken", "both"] ["self", "at", "worth"] (defScope s_LineDD_setitemDD) := ⟨rfl, rfl, rfl, by decide +kernel, rfl, by decide +kernel, by decide +kernel⟩
abbrev s_line_of : Stmt := top 45
theorem sc_line_of : FnScope ["values", "numbers", "number"] ["values", "numbers"] (defScope s_line_of) := ⟨rfl, rfl, rfl, by decide +kernel, rfl, by decide +kernel, by decide +kernel⟩
local macro_rules | `(tactic| walk_at "nrm") => `(tactic| refine EvS.as (by (try simp only [stE, List.map_cons, List.map_nil, List.length_cons, List.length_nil, List.replicate, List.cons_append, List.nil_append, List.set_cons_zero, List.set_cons_succ]); exact rfl) ?_)
local macro_rules | `(tactic| walk_at "dl") => `(tactic| repeat (first
  | (with_reducible show EvS _ _ (List.set _ _ _) _ _; walk_at "nrm") | (with_reducible show EvS _ _ (stE _ _) _ _; walk_at "nrm")
  | (with_reducible show Ev _ (tVar _) _ _ _; refine Ev.var rfl ?_) | with_reducible refine' Ev.con ?_ | with_reducible refine' EvA.cons ?_ | with_reducible refine' EvA.nil ?_
  | with_reducible refine' Ev.op ?_ | with_reducible refine' Ev.un ?_ | with_reducible refine' Ev.cb ?_ | with_reducible refine' Ev.call ?_ | with_reducible refine' Ev.meth ?_ | with_reducible refine' Ev.prop ?_
  | with_reducible refine' EvT.tB ?_ | with_reducible refine' EvT.test ?_ | with_reducible refine' EvT.and ?_ | with_reducible refine' EvT.or ?_ | with_reducible refine' EvT.not ?_
  | with_reducible refine' Ev.andV ?_ | with_reducible refine' Ev.orV ?_ | with_reducible refine' Ev.notV ?_ | with_reducible refine' Ev.ifE ?_ | with_reducible refine' Ev.fld ?_ | with_reducible refine' Ev.sl ?_ | with_reducible refine' Ev.m1 ?_ | with_reducible refine' Ev.bm ?_ | with_reducible refine' Ev.bm0 ?_
  | with_reducible refine' EvS.seq ?_ | with_reducible refine' EvS.next ?_ | with_reducible refine' EvS.ite ?_ | with_reducible refine' EvS.ret ?_ | with_reducible refine' EvS.set ?_ | with_reducible refine' EvS.drp ?_ | with_reducible refine' EvS.par ?_ | with_reducible refine' EvS.asg ?_ | with_reducible refine' EvG.name ?_
  | with_reducible refine' Op2.i0 ?_ | with_reducible refine' Op1.i ?_ | with_reducible refine' EvT.yes ?_ | with_reducible refine' EvO.no ?_ | with_reducible refine' EvO.part ?_))

section
variable {P : Program} {w : World} {K : PySem.W.Frag} {mg : Str → Option Value} {base : Heap} {CV CC CL : Addr}
/-- == of cells -/
def fsEqC (CV CC : Addr) : FS := fun ds O Q _ => ∃ z y a b', ds = [.fr (dCell CV CC z a), .fr (dCell CV CC y b')] ∧ Q (fBl (decide (z = y) && decide (a = b'))) O
theorem okd_eqC {f : Addr} {fd : FuncData} (F : Fun K "__eq__" "Cell.__eq__" s_CellDD_eqDD f fd) (B : Blt mg) (VV : VF K CV CC) (TC : ClsT K CC) (kc : PySem.W.kitOne K (.ref CC) (.ref CC) = some true) (gC : mg "Cell" = some (.ref CC)) (D_eqV : HasMe P w K mg base CX0 1 CV "__eq__" ["self", "other"] (spD (fsEqV CV CC))) :
    FnOk P w K mg base CX0 2 f fd ["self", "other"] (spD (fsEqC CV CC)) := by
  refine okD F sc_CellDD_eqDD (fun ds O Q KX h => ?_) (fun cdv A outer s H E hr b ds O Q KX h _ => ?_)
  · obtain ⟨z, y, a, b', rfl, _⟩ := h; rfl
  · obtain ⟨z, y, a, b', rfl, k⟩ := h
    refine ⟨_, (pss_one (ps_ret (pe_and (pe_callB call_isi (by rfl) B.n_isinstance (by decide +kernel) (pa_cons (pv 1) (pa_cons (pe_glob (v := .ref _) rfl gC rfl) pa_nil))) (pe_and (pe_cmpR (op_eqMe D_eqV (hr.mono (by decide)) pass0) (pe_fld (pv 0) rfl) (pe_fld (pv 1) rfl) (nomark _)) (pe_one (pe_cmpR op_eq (pe_fld (pv 0) rfl) (pe_fld (pv 1) rfl) (nomark _))))))), ?_⟩
    walk_at "dl"
    refine OpN.isiC (.ins TC dCell.ins) kc ⟨_, rfl, fun _ => ?_, fun c => (nomatch c)⟩
    walk_at "dl"
    refine ⟨_, dCell.alp VV, ?_⟩
    walk_at "dl"
    refine ⟨_, dCell.alp VV, ?_⟩
    refine Op2.own dVals.ins dVals.ins ⟨z, y, rfl, _, rfl, fun c => ?_, fun c => ?_⟩
    · walk_at "dl"
      refine ⟨_, dCell.num VV, ?_⟩
      walk_at "dl"
      refine ⟨_, dCell.num VV, Op2.eq rfl ?_⟩
      rw [eqI, show decide ((a : Int) = (b' : Int)) = decide (a = b') by by_cases h : a = b' <;> simp [h] <;> omega]
      rw [c, Bool.true_and] at k
      exact k
    · rw [c, Bool.false_and] at k
      exact k

/-- one & other, of cells -/
def fsAndC (CV CC : Addr) : FS := fun ds O Q _ => ∃ z a b', ds = [.fr (dCell CV CC z a), .fr (dCell CV CC z b')] ∧ LB.Good z ∧ a < 2 ^ z.cps.size ∧ b' < 2 ^ z.cps.size ∧ Q (.fr (dCell CV CC z (a &&& b'))) O
theorem okd_andC {f : Addr} {fd : FuncData} (F : Fun K "__and__" "Cell.__and__" s_CellDD_andDD f fd) (B : Blt mg) (VV : VF K CV CC) (D_same_values : HasFn P w K mg base CX0 3 "same_values" ["one", "other"] (spD (fsSame K CV CC))) (D_numbered : HasMe P w K mg base CX0 3 CV "numbered" ["self", "number"] (spD (fsNumb CV CC))) :
    FnOk P w K mg base CX0 4 f fd ["self", "other"] (spD (fsAndC CV CC)) := by
  refine okD F sc_CellDD_andDD (fun ds O Q KX h => ?_) (fun cdv A outer s H E hr b ds O Q KX h _ => ?_)
  · obtain ⟨z, a, b', rfl, _⟩ := h; rfl
  · obtain ⟨z, a, b', rfl, gz, ha, hb, k⟩ := h
    refine ⟨_, (pss_cons (ps_expr (pe_fn D_same_values (hr.mono (by decide)) pass0 (pa_cons (pv 0) (pa_cons (pv 1) pa_nil))))
      (pss_one (ps_ret (pe_me (pe_fld (pv 0) rfl) D_numbered VV.cv (hr.mono (by decide)) pass0 (pa_cons (pe_op op_and (pe_fld (pv 0) rfl) (pe_fld (pv 1) rfl)) pa_nil))))), ?_⟩
    walk_at "dl"
    refine ⟨_, _, z, rfl, dCell.alp VV, dCell.alp VV, ?_⟩
    walk_at "dl"
    refine ⟨_, dCell.alp VV, ?_⟩
    refine ⟨dVals.no (by decide +kernel) (by decide +kernel), ?_⟩
    walk_at "dl"
    refine ⟨_, dCell.num VV, ?_⟩
    walk_at "dl"
    refine ⟨_, dCell.num VV, ?_⟩
    walk_at "dl"
    exact ⟨z, a &&& b', by rw [z_and], gz, Nat.and_lt_two_pow a hb, k⟩
/-- a line, standing still or one's own -/
def LineD (CV CC CL : Addr) (z : Str) (ns : List Nat) (O : Ow) : Da → Prop
  | .fr d => d = dLine CV CC CL z ns
  | .ow k => O[k]? = some (some (oIns CL (lineFs CV CC z ns)))
theorem LineD.alp {O : Ow} {z : Str} {ns : List Nat} {d : Da} (LL : LF K CL) (h : LineD CV CC CL z ns O d) : FldD K "alphabet" O d (dVals CV CC z) := by
  cases d with
  | fr d => rw [show d = dLine CV CC CL z ns from h]; exact dLine.alp LL
  | ow k => exact FldD.own LL.cl LL.la h look_a
theorem LineD.held {O : Ow} {z : Str} {ns : List Nat} {d : Da} (LL : LF K CL) (h : LineD CV CC CL z ns O d) : FldD K "held" O d (dTup (ns.map (dCell CV CC z))) := by
  cases d with
  | fr d => rw [show d = dLine CV CC CL z ns from h]; exact dLine.held LL
  | ow k => exact FldD.own LL.cl LL.lh h look_h
theorem LineD.ins {O : Ow} {z : Str} {ns : List Nat} {d : Da} (h : LineD CV CC CL z ns O d) : IsIns CL O d := by
  cases d with
  | fr d => rw [show d = dLine CV CC CL z ns from h]; exact dLine.ins
  | ow k => exact ⟨_, h, fun F o ⟨dx, gs, e, _⟩ => ⟨dx, gs, e⟩⟩
theorem LineD.no {O : Ow} {z : Str} {ns : List Nat} {d : Da} {m : Str} (h : LineD CV CC CL z ns O d) (h1 : ¬ m = "alphabet") (h2 : ¬ m = "held") : InsNo CL m O d := by
  cases d with
  | fr d => rw [show d = dLine CV CC CL z ns from h]; exact dLine.no h1 h2
  | ow k => exact ⟨_, h, fun F o ⟨dx, gs, e, p⟩ => ⟨dx, gs, e, by
      rcases p.look m with ⟨_, q⟩ | ⟨d, u, q, _⟩
      · exact q
      · rw [show (lineFs CV CC z ns).lookup m = none from look_n h1 h2] at q; cases q⟩⟩
theorem LineD.fr {O : Ow} {z : Str} {ns : List Nat} : LineD CV CC CL z ns O (.fr (dLine CV CC CL z ns)) := rfl
/-- line.cells -/
def fsCells (CV CC CL : Addr) : FS := fun ds O Q _ => ∃ z ns d, ds = [d] ∧ LineD CV CC CL z ns O d ∧ Q (.fr (dTup (ns.map (dCell CV CC z)))) O
theorem okd_cells {f : Addr} {fd : FuncData} (F : Fun K "cells" "Line.cells" s_Line_cells f fd) (LL : LF K CL) : FnOk P w K mg base CX0 1 f fd ["self"] (spD (fsCells CV CC CL)) := by
  refine okD F sc_Line_cells (fun ds O Q KX h => ?_) (fun cdv A outer s H E hr b ds O Q KX h _ => ?_)
  · obtain ⟨z, ns, d, rfl, _⟩ := h; rfl
  · obtain ⟨z, ns, d, rfl, hd, k⟩ := h
    refine ⟨_, (pss_one (ps_ret (pe_fld (pv 0) rfl))), ?_⟩
    walk_at "dl"
    exact ⟨_, hd.held LL, k⟩
/-- len(line) -/
def fsLenL (CV CC CL : Addr) : FS := fun ds O Q _ => ∃ z ns d, ds = [d] ∧ LineD CV CC CL z ns O d ∧ Q (fInt ((ns.length : Nat) : Int)) O
theorem okd_lenL {f : Addr} {fd : FuncData} (F : Fun K "__len__" "Line.__len__" s_LineDD_lenDD f fd) (B : Blt mg) (LL : LF K CL) : FnOk P w K mg base CX0 1 f fd ["self"] (spD (fsLenL CV CC CL)) := by
  refine okD F sc_LineDD_lenDD (fun ds O Q KX h => ?_) (fun cdv A outer s H E hr b ds O Q KX h _ => ?_)
  · obtain ⟨z, ns, d, rfl, _⟩ := h; rfl
  · obtain ⟨z, ns, d, rfl, hd, k⟩ := h
    refine ⟨_, (pss_one (ps_ret (pe_callB call_len (by rfl) B.n_len (by decide +kernel) (pa_cons (pe_fld (pv 0) rfl) pa_nil)))), ?_⟩
    walk_at "dl"
    refine ⟨_, hd.held LL, ?_⟩
    walk_at "dl"
    refine OpN.lenT ?_
    rw [List.length_map]
    exact k
/-- a cell is the one of just one number of just one alphabet -/
theorem cell_one {F : Hp} {v : V} {z y : Str} {n m : Nat} (h : (dCell CV CC z n).p F v) (k : (dCell CV CC y m).p F v) : z = y ∧ n = m := by
  obtain ⟨c, p, cs, rfl, h1, h2⟩ := h
  obtain ⟨c', p', cs', e, k1, k2⟩ := k
  injection e with e
  subst e
  obtain ⟨dc, e1⟩ := h1.cell n c h2
  obtain ⟨dc', e2⟩ := k1.cell m c k2
  rw [e1] at e2
  have e2 : HO.ins CC dc (cellF p n (cellT z n)) = .ins CC dc' (cellF p' m (cellT y m)) := by injection e2
  injection e2 with _ _ e3
  have l1 : ∀ f, (cellF p n (cellT z n)).lookup f = (cellF p' m (cellT y m)).lookup f := fun f => by rw [e3]
  have q1 := l1 "number"
  rw [cellF_num, cellF_num] at q1
  have q2 := l1 "alphabet"
  rw [cellF_alp, cellF_alp] at q2
  have en : n = m := by injection q1 with q1; injection q1 with q1; omega
  have ep : p = p' := by injection q2 with q2; injection q2
  subst ep
  obtain ⟨dv, t, a1, _⟩ := h1.ob
  obtain ⟨dv', t', a2, _⟩ := k1.ob
  rw [a1] at a2
  have a2 : HO.ins CV dv (valF z t) = .ins CV dv' (valF y t') := by injection a2
  injection a2 with _ _ a3
  have q3 : (valF z t).lookup ("letters" : Str) = (valF y t').lookup ("letters" : Str) := by rw [a3]
  rw [valF_let, valF_let] at q3
  injection q3 with q3
  injection q3 with q3
  exact ⟨q3, en⟩
/-- == of lines -/
def fsEqL (CV CC CL : Addr) : FS := fun ds O Q _ => ∃ z y ns ms d e, ds = [d, e] ∧ LineD CV CC CL z ns O d ∧ LineD CV CC CL y ms O e ∧ Q (fBl (decide (z = y) && decide (ns = ms))) O
theorem eq_range : ∀ (ns ms : List Nat), ((List.range (min ns.length ms.length)).all (fun i => decide (ns[i]? = ms[i]?)) && ns.length == ms.length) = decide (ns = ms) := fun ns ms => by
  by_cases h : ns = ms
  · subst h
    rw [decide_eq_true rfl]
    simp
  · rw [decide_eq_false h]
    by_cases l : ns.length = ms.length
    · have : ((List.range (min ns.length ms.length)).all fun i => decide (ns[i]? = ms[i]?)) = false := by
        cases e : ((List.range (min ns.length ms.length)).all fun i => decide (ns[i]? = ms[i]?)) with
        | false => rfl
        | true =>
          exfalso
          apply h
          refine List.ext_getElem? fun i => ?_
          by_cases li : i < ns.length
          · exact of_decide_eq_true (List.all_eq_true.mp e i (List.mem_range.mpr (by omega)))
          · rw [List.getElem?_eq_none (by omega), List.getElem?_eq_none (by omega)]
      rw [this, Bool.false_and]
    · rw [show (ns.length == ms.length) = false by simpa using l, Bool.and_false]
theorem okd_eqL {f : Addr} {fd : FuncData} (F : Fun K "__eq__" "Line.__eq__" s_LineDD_eqDD f fd) (B : Blt mg) (VV : VF K CV CC) (LL : LF K CL) (TL : ClsT K CL) (kl : PySem.W.kitOne K (.ref CL) (.ref CL) = some true) (gL : mg "Line" = some (.ref CL))
    (D_eqV : HasMe P w K mg base CX0 1 CV "__eq__" ["self", "other"] (spD (fsEqV CV CC))) (D_eqC : HasMe P w K mg base CX0 2 CC "__eq__" ["self", "other"] (spD (fsEqC CV CC))) : FnOk P w K mg base CX0 4 f fd ["self", "other"] (spD (fsEqL CV CC CL)) := by
  refine okD F sc_LineDD_eqDD (fun ds O Q KX h => ?_) (fun cdv A outer s H E hr b ds O Q KX h _ => ?_)
  · obtain ⟨z, y, ns, ms, d, e, rfl, _⟩ := h; rfl
  · obtain ⟨z, y, ns, ms, d, e, rfl, hd, he, k⟩ := h
    refine ⟨_, (pss_one (ps_ret (pe_and (pe_callB call_isi (by rfl) B.n_isinstance (by decide +kernel) (pa_cons (pv 1) (pa_cons (pe_glob (v := .ref _) rfl gL rfl) pa_nil))) (pe_and (pe_cmpR (op_eqMe D_eqV (hr.mono (by decide)) pass0) (pe_fld (pv 0) rfl) (pe_fld (pv 1) rfl) (nomark _)) (pe_one (pe_cmpR (op_eqTupMe D_eqC (hr.mono (by decide)) pass0) (pe_fld (pv 0) rfl) (pe_fld (pv 1) rfl) (nomark _))))))), ?_⟩
    walk_at "dl"
    refine OpN.isiC (.ins TL he.ins) kl ⟨_, rfl, fun _ => ?_, fun c => (nomatch c)⟩
    walk_at "dl"
    refine ⟨_, hd.alp LL, ?_⟩
    walk_at "dl"
    refine ⟨_, he.alp LL, ?_⟩
    refine Op2.own dVals.ins dVals.ins ⟨z, y, rfl, _, rfl, fun c => ?_, fun c => ?_⟩
    · walk_at "dl"
      refine ⟨_, hd.held LL, ?_⟩
      walk_at "dl"
      refine ⟨_, he.held LL, ?_⟩
      have c := of_decide_eq_true c
      subst c
      refine Op2.eqTup (rs := fun i => decide (ns[i]? = ms[i]?)) (fun i d e h1 h2 => ?_) ?_
      · rw [List.getElem?_map] at h1 h2
        cases q1 : ns[i]? with
        | none => rw [q1] at h1; cases h1
        | some n =>
          cases q2 : ms[i]? with
          | none => rw [q2] at h2; cases h2
          | some m =>
            rw [q1] at h1; rw [q2] at h2
            have h1 : dCell CV CC z n = d := by simpa using h1
            have h2 : dCell CV CC z m = e := by simpa using h2
            subst h1 h2
            refine ⟨dCell.ins, dCell.ins, ⟨z, z, n, m, rfl, ?_⟩, fun F v p q => decide_eq_true (by rw [(cell_one p q).2])⟩
            rw [decide_eq_true rfl, Bool.true_and]
            congr 1
            simp
      · rw [List.length_map, List.length_map, eq_range]
        rw [decide_eq_true rfl, Bool.true_and] at k
        exact k
    · rw [c, Bool.false_and] at k
      exact k
/-- line[i] = what stands for a cell that has a letter in common -/
def fsSetL (CV CC CL : Addr) : FS := fun ds O Q _ => ∃ (k : Nat) (z : Str) (ns : List Nat) (i n m : Nat) (d : D), ds = [.ow k, fInt (i : Nat), .fr d] ∧ O[k]? = some (some (oIns CL (lineFs CV CC z ns))) ∧ LB.Good z ∧ Row z.cps.size ns ∧ ns.length ≤ 4001 ∧ ns[i]? = some n ∧ m < 2 ^ z.cps.size ∧ Like CV CC z d m ∧ n &&& m ≠ 0 ∧
  Q (fV .non) (O.set k (some (oIns CL (lineFs CV CC z (ns.set i (n &&& m))))))
theorem putD_held {x y y' : D} : putD "held" y' [("alphabet", x), ("held", y)] = ([("alphabet", x), ("held", y')] : List (Str × D)) := by
  unfold putD
  rw [if_neg (by decide +kernel)]
  unfold putD
  rw [if_pos rfl]
theorem sIx_le {n : Nat} {i : Nat} (h : i ≤ n) (d : Nat) : HT.sIx n d (some (i : Int)) = i := by rw [HT.sIx_nat, Nat.min_eq_left h]
theorem cut_to {α : Type} {xs : List α} {i : Nat} (h : i ≤ xs.length) : DL.cutD xs none (some (i : Int)) = xs.take i := by
  unfold DL.cutD
  rw [sIx_le h, HT.sIx_none, List.drop_zero, Nat.sub_zero]
theorem cut_from {α : Type} {xs : List α} {i : Nat} (h : i ≤ xs.length) : DL.cutD xs (some (i : Int)) none = xs.drop i := by
  unfold DL.cutD
  rw [sIx_le h, HT.sIx_none, List.take_of_length_le (by rw [List.length_drop]; exact Nat.le_refl _)]
theorem set_cut {α : Type} : ∀ {xs : List α} {i : Nat} {x : α}, i < xs.length → xs.take i ++ [x] ++ xs.drop (i + 1) = xs.set i x
  | [], i, x, h => absurd h (Nat.not_lt_zero _)
  | y :: xs, 0, x, _ => rfl
  | y :: xs, i + 1, x, h => congrArg (y :: ·) (set_cut (xs := xs) (i := i) (x := x) (Nat.lt_of_succ_lt_succ h))
theorem okd_setL {f : Addr} {fd : FuncData} (F : Fun K "__setitem__" "Line.__setitem__" s_LineDD_setitemDD f fd) (B : Blt mg) (VV : VF K CV CC) (LL : LF K CL) (sfC : PySem.W.selfFirst K CC = true) (D_is_from : HasFn P w K mg base CX0 2 "is_from" ["value", "low", "high"] (spD fsFrom))
    (D_cell_from : HasFn P w K mg base CX0 4 "cell_from" ["values", "thing"] (spD (fsCF CV CC))) (D_andC : HasMe P w K mg base CX0 4 CC "__and__" ["self", "other"] (spD (fsAndC CV CC))) : FnOk P w K mg base CX0 5 f fd ["self", "at", "worth"] (spD (fsSetL CV CC CL)) := by
  refine okD F sc_LineDD_setitemDD (fun ds O Q KX h => ?_) (fun cdv A outer s H E hr b ds O Q KX h _ => ?_)
  · obtain ⟨k, z, ns, i, n, m, d, rfl, _⟩ := h; rfl
  · obtain ⟨k, z, ns, i, n, m, d, rfl, hk, gz, row, l4, hi, hm, lk, nz, kq⟩ := h
    have big : 10000 ≤ sizeLine := by decide
    have hl : LineD CV CC CL z ns O (.ow k) := hk
    have li : i < ns.length := (List.getElem?_eq_some_iff.mp hi).1
    have lm : (ns.map (dCell CV CC z)).length = ns.length := List.length_map _
    have hn : n < 2 ^ z.cps.size := (row n (List.mem_of_getElem? hi)).2
    refine ⟨_, (pss_cons (ps_if (pt_not (pt_val (pe_fn D_is_from (hr.mono (by decide)) pass0 (pa_cons (pv 1) (pa_cons pe_int (pa_cons (pe_op op_sub (pe_callB call_len (by rfl) B.n_len (by decide +kernel) (pa_cons (pe_fld (pv 0) rfl) pa_nil)) pe_int) pa_nil)))))) (pss_one ps_never) pss_nil)
      (pss_cons (ps_set (i := 3) sc_LineDD_setitemDD.nd rfl (.inl rfl) (pe_fn D_cell_from (hr.mono (by decide)) pass0 (pa_cons (pe_fld (pv 0) rfl) (pa_cons (pv 2) pa_nil))))
      (pss_cons (ps_if (pt_cmpR op_isN (pv 3) pe_non (nomark _)) (pss_one ps_never) pss_nil)
      (pss_cons (ps_set (i := 4) sc_LineDD_setitemDD.nd rfl (.inl rfl) (pe_op (op_andMe D_andC (hr.mono (by decide)) pass0 sfC) (pe_ix ix_tup (pe_fld (pv 0) rfl) (pv 1) (fun _ _ => rfl)) (pv 3)))
      (pss_cons (ps_if (pt_not (pt_truth (pe_fld (pv 4) rfl) (by intro _; rfl))) (pss_one ps_never) pss_nil)
      (pss_one (ps_fld (pv 0) (pe_op op_catA (pe_op op_catA (pe_slice sl_tupA (pe_fld (pv 0) rfl) po_none (po_some (pv 1))) (pe_tup (pa_cons (pv 4) pa_nil))) (pe_slice sl_tupA (pe_fld (pv 0) rfl) (po_some (pe_op op_add (pv 1) pe_int)) po_none)) rfl))))))), ?_⟩
    walk_at "dl"
    refine ⟨_, hl.held LL, ?_⟩
    walk_at "dl"
    refine OpN.lenT ?_
    walk_at "dl"
    refine ⟨_, _, _, rfl, _, rfl, ?_⟩
    rw [decide_eq_true (show (0 : Int) ≤ (i : Int) by omega), decide_eq_true (show (i : Int) ≤ (((ns.map (dCell CV CC z)).length : Nat) : Int) - 1 by rw [lm]; omega)]
    refine ⟨fun c => (nomatch c), fun _ => EvS.next ?_⟩
    walk_at "dl"
    refine ⟨_, hl.alp LL, ?_⟩
    walk_at "dl"
    refine ⟨z, m, d, rfl, gz, hm, lk, ?_⟩
    walk_at "dl"
    refine Op2.isN dCell.nn ⟨_, rfl, fun c => (nomatch c), fun _ => EvS.next ?_⟩
    walk_at "dl"
    refine ⟨_, hl.held LL, ?_⟩
    walk_at "dl"
    refine Op2.ixT (x := dCell CV CC z n) (atI_nat (by rw [List.getElem?_map, hi]; rfl)) ?_
    walk_at "dl"
    refine Op2.own dCell.ins dCell.ins ⟨z, n, m, rfl, gz, hn, hm, ?_⟩
    walk_at "dl"
    refine EvT.truth ?_
    walk_at "dl"
    have hnm : n &&& m < 2 ^ z.cps.size := Nat.and_lt_two_pow n hm
    refine ⟨_, dCell.let VV, _, TruD.str (Nat.le_trans (cellT_len gz) (by decide)), ?_⟩
    rw [cellT_ne gz nz hnm]
    refine ⟨fun c => (nomatch c), fun _ => EvS.next ?_⟩
    refine EvS.fld ?_
    walk_at "dl"
    refine ⟨_, hl.held LL, ?_⟩
    walk_at "dl"
    refine ⟨_, rfl, OpS.tup ?_⟩
    walk_at "dl"
    refine Ev.tup ?_
    walk_at "dl"
    refine ⟨[dCell CV CC z (n &&& m)], rfl, by show 1 ≤ sizeLine; omega, ?_⟩
    rw [cut_to (by omega)]
    refine Op2.catT (by rw [List.length_take, lm]; show _ + 1 ≤ sizeLine; omega) ?_
    walk_at "dl"
    refine ⟨_, hl.held LL, ?_⟩
    walk_at "dl"
    refine ⟨_, rfl, ?_⟩
    walk_at "dl"
    refine OpS.tup ?_
    rw [show ((i : Int) + 1) = ((i + 1 : Nat) : Int) by omega, cut_from (by omega)]
    refine Op2.catT (by rw [List.length_append, List.length_take, List.length_drop, lm]; show _ + 1 + _ ≤ sizeLine; omega) ?_
    rw [set_cut (by omega)]
    refine ⟨_, rfl, ?_⟩
    walk_at "dl"
    refine ⟨k, CL, _, rfl, hk, LL.cl, LL.lh, by show 2 < 1000; decide, ?_⟩
    refine cast ?_ kq
    congr 3
    unfold lineFs
    rw [putD_held, List.map_set]
/-- line_of: a new line of one's own -/
def fsLineOf (CV CC CL : Addr) : FS := fun ds O Q _ => ∃ z ns, ds = [.fr (dVals CV CC z), .fr (dNs ns)] ∧ LB.Good z ∧ Row z.cps.size ns ∧ 1 ≤ ns.length ∧ ns.length ≤ 4001 ∧ Q (.ow O.length) (O ++ [some (oIns CL (lineFs CV CC z ns))])
theorem okd_lineOf {f : Addr} {fd : FuncData} (F : Fun K "line_of" "line_of" s_line_of f fd) (D_numbered : HasMe P w K mg base CX0 3 CV "numbered" ["self", "number"] (spD (fsNumb CV CC))) (VV : VF K CV CC) (M_Line : HasMk P w K mg base CX0 5 CL "Line" ["self", "values", "cells"] (spD (fsLineI CV CC CL))) : FnOk P w K mg base CX0 7 f fd ["values", "numbers"] (spD (fsLineOf CV CC CL)) := by
  refine okD F sc_line_of (fun ds O Q KX h => ?_) (fun cdv A outer s H E hr b ds O Q KX h _ => ?_)
  · obtain ⟨z, ns, rfl, _⟩ := h; rfl
  · obtain ⟨z, ns, rfl, gz, row, l1, l2, k⟩ := h
    have big : 4001 ≤ sizeLine := by decide
    refine ⟨_, (pss_one (ps_ret (pe_mk M_Line (hr.mono (by decide)) pass0 (pa_cons (pv 0) (pa_cons (pe_lc rfl sc_line_of.nd (pi_list (pv 1)) (blkOk_by (own := [("number", 2)]) (N := ["values", "numbers", "number"]) (sc := defScope s_line_of) (by decide +kernel)) (fun _ _ _ _ _ => (pg_name (i := 2) sc_line_of.nd rfl (.inl rfl))) (fun _ _ _ _ _ => pts_nil) (fun _ _ _ _ _ => (pe_me (pv 0) D_numbered VV.cv (hr.mono (by decide)) pass0 (pa_cons (pv 2) pa_nil)))) pa_nil))))), ?_⟩
    walk_at "dl"
    refine Ev.make ?_
    walk_at "dl"
    refine Ev.lc (α := Nat) (Tame.name (by decide)) (fun n => dCell CV CC z n) (EvI.list ?_)
    walk_at "dl"
    refine ⟨_, rfl, ns, fun n => dV (.int ((n : Nat) : Int)), rfl, by omega, fun n hn => EvG.name ⟨rfl, ?_⟩, ?_⟩
    · walk_at "dl"
      refine ⟨dVals.no (by decide +kernel) (by decide +kernel), ?_⟩
      walk_at "dl"
      exact ⟨z, n, rfl, gz, (row n hn).2, rfl, rfl⟩
    · walk_at "dl"
      refine ⟨O.length, z, ns.map fun n => (dCell CV CC z n, n), ?_, ow_last, gz, by rw [List.length_map]; exact l1, by rw [List.length_map]; exact l2, ?_, fun p hp => ?_, rfl, ?_⟩
      · rw [List.map_map]; rfl
      · rw [List.map_map]
        have : ns.map ((fun p : D × Nat => p.2) ∘ fun n => (dCell CV CC z n, n)) = ns := by
          show ns.map (fun n => n) = ns
          exact List.map_id' ns
        rw [this]; exact row
      · obtain ⟨q, _, rfl⟩ := List.mem_map.mp hp
        exact .inl rfl
      · rw [ow_lastset, List.map_map]
        have : ns.map ((fun p : D × Nat => p.2) ∘ fun n => (dCell CV CC z n, n)) = ns := by
          show ns.map (fun n => n) = ns
          exact List.map_id' ns
        rw [this]; exact k
end
end K41

namespace K41
open PySem L2 LB PyProof.Rows DL
abbrev s_law_pick : Stmt := top 51
theorem sc_law_pick : FnScope ["_law_pen_here", "_law_some"] ["_law_pen_here", "_law_some"] (defScope s_law_pick) := ⟨rfl, rfl, rfl, by decide +kernel, rfl, by decide +kernel, by decide +kernel⟩
abbrev s_law_text : Stmt := top 52
theorem sc_law_text : FnScope ["_law_letters", "_law_number", "_law_k"] ["_law_letters", "_law_number"] (defScope s_law_text) := ⟨rfl, rfl, rfl, by decide +kernel, rfl, by decide +kernel, by decide +kernel⟩
abbrev s_law_cell : Stmt := top 53
theorem sc_law_cell : FnScope ["_law_pen_here", "_law_many", "_law_full"] ["_law_pen_here", "_law_many"] (defScope s_law_cell) := ⟨rfl, rfl, rfl, by decide +kernel, rfl, by decide +kernel, by decide +kernel⟩
abbrev s_law_row : Stmt := top 54
theorem sc_law_row : FnScope ["_law_pen_here", "_law_many", "_law_longest", "_law_k"] ["_law_pen_here", "_law_many", "_law_longest"] (defScope s_law_row) := ⟨rfl, rfl, rfl, by decide +kernel, rfl, by decide +kernel, by decide +kernel⟩
abbrev s_law_line : Stmt := top 55
theorem sc_law_line : FnScope ["_law_ground", "_law_row_here", "_law_number"] ["_law_ground", "_law_row_here"] (defScope s_law_line) := ⟨rfl, rfl, rfl, by decide +kernel, rfl, by decide +kernel, by decide +kernel⟩
abbrev s_law_shown : Stmt := top 56
theorem sc_law_shown : FnScope ["_law_strip", "_law_cell_here"] ["_law_strip"] (defScope s_law_shown) := ⟨rfl, rfl, rfl, by decide +kernel, rfl, by decide +kernel, by decide +kernel⟩
abbrev s_law_due : Stmt := top 58
theorem sc_law_due : FnScope ["_law_rows", "_law_found", "_law_row_here", "_law_one", "_law_other"] ["_law_rows"] (defScope s_law_due) := ⟨rfl, rfl, rfl, by decide +kernel, rfl, by decide +kernel, by decide +kernel⟩
local macro_rules | `(tactic| walk_at "nrm") => `(tactic| refine EvS.as (by (try simp only [stE, List.map_cons, List.map_nil, List.length_cons, List.length_nil, List.replicate, List.cons_append, List.nil_append, List.set_cons_zero, List.set_cons_succ]); exact rfl) ?_)
local macro_rules | `(tactic| walk_at "dl") => `(tactic| repeat (first
  | (with_reducible show EvS _ _ (List.set _ _ _) _ _; walk_at "nrm") | (with_reducible show EvS _ _ (stE _ _) _ _; walk_at "nrm")
  | (with_reducible show Ev _ (tVar _) _ _ _; refine Ev.var rfl ?_) | with_reducible refine' Ev.con ?_ | with_reducible refine' EvA.cons ?_ | with_reducible refine' EvA.nil ?_
  | with_reducible refine' Ev.op ?_ | with_reducible refine' Ev.un ?_ | with_reducible refine' Ev.cb ?_ | with_reducible refine' Ev.call ?_ | with_reducible refine' Ev.meth ?_ | with_reducible refine' Ev.prop ?_
  | with_reducible refine' EvT.tB ?_ | with_reducible refine' EvT.test ?_ | with_reducible refine' EvT.and ?_ | with_reducible refine' EvT.or ?_ | with_reducible refine' EvT.not ?_
  | with_reducible refine' Ev.andV ?_ | with_reducible refine' Ev.orV ?_ | with_reducible refine' Ev.notV ?_ | with_reducible refine' Ev.ifE ?_ | with_reducible refine' Ev.fld ?_ | with_reducible refine' Ev.sl ?_ | with_reducible refine' Ev.m1 ?_ | with_reducible refine' Ev.bm ?_ | with_reducible refine' Ev.bm0 ?_
  | with_reducible refine' EvS.seq ?_ | with_reducible refine' EvS.next ?_ | with_reducible refine' EvS.ite ?_ | with_reducible refine' EvS.ret ?_ | with_reducible refine' EvS.set ?_ | with_reducible refine' EvS.drp ?_ | with_reducible refine' EvS.par ?_ | with_reducible refine' EvS.asg ?_ | with_reducible refine' EvG.name ?_
  | with_reducible refine' Op2.i0 ?_ | with_reducible refine' Op1.i ?_ | with_reducible refine' EvT.yes ?_ | with_reducible refine' EvO.no ?_ | with_reducible refine' EvO.part ?_))

abbrev dN (n : Nat) : D := dV (.int ((n : Nat) : Int))
section
variable {P : Program} {w : World} {K : PySem.W.Frag} {mg : Str → Option Value} {base : Heap} {CV CC CL CR : Addr}
abbrev HDraw (P : Program) (w : World) (K : PySem.W.Frag) (mg : Str → Option Value) (base : Heap) : Prop := HasFn P w K mg base CX0 1 "_law_draw" ["_law_pen_here", "_law_many"] (spD fsDraw)
def fsPick : FS := fun ds O Q _ => ∃ (k N : Nat) (es : List D), ds = [.ow k, .fr (dLst es)] ∧ O[k]? = some (pB N) ∧ 0 < es.length ∧ es.length < 1000000 ∧ N < 999990 ∧ ∀ x ∈ es, Q (.fr x) (O.set k (pB (N + 1)))
theorem okd_pick {f : Addr} {fd : FuncData} (F : Fun K "_law_pick" "_law_pick" s_law_pick f fd) (B : Blt mg) (D_law_draw : HDraw P w K mg base) : FnOk P w K mg base CX0 2 f fd ["_law_pen_here", "_law_some"] (spD fsPick) := by
  refine okD F sc_law_pick (fun ds O Q KX h => ?_) (fun cdv A outer s H E hr b ds O Q KX h _ => ?_)
  · obtain ⟨k, N, es, rfl, _⟩ := h; rfl
  · obtain ⟨k, N, es, rfl, hk, l0, l1, hB, kq⟩ := h
    refine ⟨_, (pss_one (ps_ret (pe_ix ix_list (pv 1) (pe_fn D_law_draw (hr.mono (by decide)) pass0 (pa_cons (pv 0) (pa_cons (pe_callB call_len (by rfl) B.n_len (by decide +kernel) (pa_cons (pv 1) pa_nil)) pa_nil))) (fun _ _ => rfl)))), ?_⟩
    walk_at "dl"
    refine OpN.len .fr ?_
    walk_at "dl"
    refine ⟨k, N, _, rfl, hk, by omega, by omega, hB, fun d hd => ?_⟩
    have hd : d < es.length := by omega
    exact Op2.ixL .fr (atI_nat (List.getElem?_eq_getElem hd)) (kq _ (List.getElem_mem hd))
theorem rng0 {n : Nat} : ((List.range n).map fun (i : Nat) => dV (.int (0 + (i : Int)))) = (List.range n).map fun (i : Nat) => dV (.int (i : Int)) := by simp only [Int.zero_add]
/-- the bit of a number, as the law asks for it -/
theorem bit_ask {n k : Nat} : decide (V.int (((n : Int) / 2 ^ k) % 2) = V.int 1) = n.testBit k := by
  rw [eqI]
  refine Bool.eq_iff_iff.mpr ?_
  rw [decide_eq_true_iff, Nat.testBit_eq_decide_div_mod_eq, decide_eq_true_iff]
  have : ((n : Int) / 2 ^ k) % 2 = ((n / 2 ^ k % 2 : Nat) : Int) := by push_cast; rfl
  rw [this]
  omega
theorem sum_ones : ∀ l : List Nat, (l.map fun _ => 1).sum = l.length
  | [] => rfl
  | _ :: r => by rw [List.map_cons, List.sum_cons, sum_ones r, List.length_cons]; omega
def lett (z : Str) (k : Nat) : Str := ⟨#[z.cps.getD k 0]⟩
def fsText : FS := fun ds O Q _ => ∃ (z : Str) (n : Nat), ds = [fStr z, fInt (n : Nat)] ∧ LB.Good z ∧ Q (fStr (atL z (bitsL n z.cps.size))) O
theorem okd_text {f : Addr} {fd : FuncData} (F : Fun K "_law_text" "_law_text" s_law_text f fd) (B : Blt mg) : FnOk P w K mg base CX0 1 f fd ["_law_letters", "_law_number"] (spD fsText) := by
  refine okD F sc_law_text (fun ds O Q KX h => ?_) (fun cdv A outer s H E hr b ds O Q KX h _ => ?_)
  · obtain ⟨z, n, rfl, _⟩ := h; rfl
  · obtain ⟨z, n, rfl, gz, kq⟩ := h
    refine ⟨_, (pss_one (ps_ret (pe_join pe_str (pe_lc rfl sc_law_text.nd (pi_range1 (by rfl) B.n_range (pa_cons (pe_callB call_len (by rfl) B.n_len (by decide +kernel) (pa_cons (pv 0) pa_nil)) pa_nil)) (blkOk_by (own := [("_law_k", 2)]) (N := ["_law_letters", "_law_number", "_law_k"]) (sc := defScope s_law_text) (by decide +kernel)) (fun _ _ _ _ _ => (pg_name (i := 2) sc_law_text.nd rfl (.inl rfl))) (fun _ _ _ _ _ => (pts_one (pt_cmpR op_eq (pe_op op_mod (pe_callTy call_int1 (by rfl) B.n_int (by decide +kernel) (pa_cons (pe_op op_shr (pv 1) (pv 2)) pa_nil)) pe_int) pe_int (nomark _)))) (fun _ _ _ _ _ => (pe_ix ix_str (pv 0) (pv 2) (fun _ _ => rfl))))))), ?_⟩
    have hi := gz.hi
    have big : 4 ≤ sizeLine := by decide
    walk_at "dl"
    refine ⟨_, rfl, ?_⟩
    refine Ev.lcF (α := Nat) (Tame.name (by decide)) (fun k => n.testBit k) (fun k => dV (.str (lett z k))) (EvI.range1 ?_)
    walk_at "dl"
    refine OpN.lenS (good_len gz) ?_
    walk_at "dl"
    refine ⟨_, rfl, by show -(2 ^ 62) ≤ ((z.cps.size : Nat) : Int); omega, by show ((z.cps.size : Nat) : Int) < 2 ^ 62; omega, List.range z.cps.size, fun k => dV (.int ((k : Nat) : Int)), rng0, by rw [List.length_range]; omega, fun k hk => EvG.name ?_, ?_⟩
    · have hk : k < z.cps.size := List.mem_range.mp hk
      walk_at "dl"
      refine Op2.iC (by omega) ?_
      walk_at "dl"
      refine OpN.val1 (z := .int ((n : Int) / 2 ^ k)) (fun H Q q => .inl ⟨_, rfl, q⟩) ?_
      walk_at "dl"
      refine Op2.iC (by show (0 : Int) < 2; decide) ?_
      walk_at "dl"
      refine Op2.eq rfl ⟨_, rfl, ?_⟩
      rw [bit_ask]
      refine ⟨rfl, rfl, fun _ => ?_⟩
      walk_at "dl"
      exact Op2.ixS (good_len gz) (atI_nat (getD_at hk)) ⟨rfl, rfl⟩
    · refine OpM.join (zs := sgs ((bitsL n z.cps.size).map fun k => z.cps.getD k 0)) (.inl (by show dLst _ = dLst _; unfold dSs sgs bitsL; rw [List.map_map, List.map_map]; rfl)) ?_ ?_
      · have e1 : ((sgs ((bitsL n z.cps.size).map fun k => z.cps.getD k 0)).map (·.length)).sum ≤ 4 := by
          have e2 : (sgs ((bitsL n z.cps.size).map fun k => z.cps.getD k 0)).map (·.length) = (bitsL n z.cps.size).map fun _ => 1 := by unfold sgs; rw [List.map_map, List.map_map]; rfl
          rw [e2]
          have := bitsL_len (n := n) (s := z.cps.size)
          rw [sum_ones]
          omega
        show _ + _ * 0 ≤ _
        omega
      · rw [show Txt.join (Str.ofString "") (sgs ((bitsL n z.cps.size).map fun k => z.cps.getD k 0)) = atL z (bitsL n z.cps.size) from join_sgs _]
        exact kq
/-- a drawn cell -/
def fsCell : FS := fun ds O Q _ => ∃ (k N m : Nat), ds = [.ow k, fInt (m : Nat)] ∧ O[k]? = some (pB N) ∧ N < 999900 ∧ 1 ≤ m ∧ m ≤ 4 ∧ ∀ n, n ≠ 0 → n < 2 ^ m → Q (fInt (n : Nat)) (O.set k (pB (N + 4)))
theorem okd_cellL {f : Addr} {fd : FuncData} (F : Fun K "_law_cell" "_law_cell" s_law_cell f fd) (D_law_draw : HDraw P w K mg base) (D_law_pick : HasFn P w K mg base CX0 2 "_law_pick" ["_law_pen_here", "_law_some"] (spD fsPick)) : FnOk P w K mg base CX0 3 f fd ["_law_pen_here", "_law_many"] (spD fsCell) := by
  refine okD F sc_law_cell (fun ds O Q KX h => ?_) (fun cdv A outer s H E hr b ds O Q KX h _ => ?_)
  · obtain ⟨k, N, m, rfl, _⟩ := h; rfl
  · obtain ⟨k, N, m, rfl, hk, hN, m1, m4, kq⟩ := h
    refine ⟨_, (pss_cons (ps_set (i := 2) sc_law_cell.nd rfl (.inl rfl) (pe_op op_sub (pe_op op_shl pe_int (pv 1)) pe_int))
      (pss_one (ps_ret (pe_fn D_law_pick (hr.mono (by decide)) pass0 (pa_cons (pv 0) (pa_cons (pe_lst (pa_cons (pv 2) (pa_cons (pv 2) (pa_cons (pe_op op_shl pe_int (pe_fn D_law_draw (hr.mono (by decide)) pass0 (pa_cons (pv 0) (pa_cons (pv 1) pa_nil)))) (pa_cons (pe_op op_shl pe_int (pe_fn D_law_draw (hr.mono (by decide)) pass0 (pa_cons (pv 0) (pa_cons (pv 1) pa_nil)))) (pa_cons (pe_op op_add pe_int (pe_fn D_law_draw (hr.mono (by decide)) pass0 (pa_cons (pv 0) (pa_cons (pv 2) pa_nil)))) pa_nil)))))) pa_nil)))))), ?_⟩
    have p1 : 2 ≤ 2 ^ m := Nat.le_trans (by decide : 2 ≤ 2 ^ 1) (Nat.pow_le_pow_right (by decide) m1)
    have p2 : 2 ^ m ≤ 16 := Nat.le_trans (Nat.pow_le_pow_right (by decide) m4) (by decide)
    have ml : m < 2 ^ m := Nat.lt_two_pow_self
    walk_at "dl"
    refine Op2.iC ⟨by omega, by omega, by decide⟩ ?_
    walk_at "dl"
    rw [show (1 : Int) * 2 ^ ((m : Nat) : Int).toNat - 1 = ((2 ^ m - 1 : Nat) : Int) by rw [Int.toNat_natCast, Int.one_mul]; push_cast [Nat.one_le_two_pow]; rfl]
    refine Ev.lst ?_
    walk_at "dl"
    refine ⟨k, N, _, rfl, hk, by omega, by omega, by omega, fun d1 hd1 => ?_⟩
    refine Op2.iC ⟨by omega, by omega, by decide⟩ ?_
    rw [Int.one_mul, Int.toNat_natCast]
    walk_at "dl"
    refine ⟨k, N + 1, _, rfl, ow_set _ hk, by omega, by omega, by omega, fun d2 hd2 => ?_⟩
    rw [List.set_set]
    refine Op2.iC ⟨by omega, by omega, by decide⟩ ?_
    rw [Int.one_mul, Int.toNat_natCast]
    walk_at "dl"
    refine ⟨k, N + 2, _, rfl, ow_set _ hk, by omega, by omega, by omega, fun d3 hd3 => ?_⟩
    rw [List.set_set]
    walk_at "dl"
    refine ⟨_, rfl, by show 5 ≤ sizeLine; decide, ?_⟩
    walk_at "dl"
    refine ⟨k, N + 3, _, rfl, ow_set _ hk, by show 0 < 5; decide, by show 5 < 1000000; decide, by omega, fun x hx => ?_⟩
    rw [List.set_set]
    simp only [List.mem_cons, List.not_mem_nil, or_false] at hx
    have hd1 : d1 < m := by omega
    have hd2 : d2 < m := by omega
    rcases hx with rfl | rfl | rfl | rfl | rfl
    · exact kq _ (by omega) (by omega)
    · exact kq _ (by omega) (by omega)
    · refine cast ?_ (kq (2 ^ d1) (by have := Nat.two_pow_pos d1; omega) (Nat.pow_lt_pow_right (by decide) hd1))
      congr 3
    · refine cast ?_ (kq (2 ^ d2) (by have := Nat.two_pow_pos d2; omega) (Nat.pow_lt_pow_right (by decide) hd2))
      congr 3
    · refine cast ?_ (kq (1 + d3) (by omega) (by omega))
      congr 3
theorem likeT {z : Str} {n : Nat} (gz : LB.Good z) (hn : n < 2 ^ z.cps.size) : Like CV CC z (dV (.str (atL z (bitsL n z.cps.size)))) n := .inr ⟨bitsL n z.cps.size, rfl, bitsL_nd, bitsL_len, fun k hk => bitsL_lt hk, bits_sum z.cps.size gz.hi n hn⟩
/-- the line of a row -/
def fsLineP (CV CC CL : Addr) : FS := fun ds O Q _ => ∃ (z : Str) (ns : List Nat), ds = [.fr (dVals CV CC z), .fr (dNs ns)] ∧ LB.Good z ∧ 1 ≤ ns.length ∧ ns.length ≤ 4001 ∧ Row z.cps.size ns ∧ Q (.fr (dLine CV CC CL z ns)) O
theorem okd_lineP {f : Addr} {fd : FuncData} (F : Fun K "_law_line" "_law_line" s_law_line f fd) (VV : VF K CV CC) (D_law_text : HasFn P w K mg base CX0 1 "_law_text" ["_law_letters", "_law_number"] (spD fsText))
    (M_Line : HasMk P w K mg base CX0 5 CL "Line" ["self", "values", "cells"] (spD (fsLineI CV CC CL))) : FnOk P w K mg base CX0 7 f fd ["_law_ground", "_law_row_here"] (spD (fsLineP CV CC CL)) := by
  refine okD F sc_law_line (fun ds O Q KX h => ?_) (fun cdv A outer s H E hr b ds O Q KX h _ => ?_)
  · obtain ⟨z, ns, rfl, _⟩ := h; rfl
  · obtain ⟨z, ns, rfl, gz, l1, l2, row, kq⟩ := h
    have big : 4001 ≤ sizeLine := by decide
    refine ⟨_, (pss_one (ps_ret (pe_mk M_Line (hr.mono (by decide)) pass0 (pa_cons (pv 0) (pa_cons (pe_lc rfl sc_law_line.nd (pi_list (pv 1)) (blkOk_by (own := [("_law_number", 2)]) (N := ["_law_ground", "_law_row_here", "_law_number"]) (sc := defScope s_law_line) (by decide +kernel)) (fun _ _ _ _ _ => (pg_name (i := 2) sc_law_line.nd rfl (.inl rfl))) (fun _ _ _ _ _ => pts_nil) (fun _ _ _ _ _ => (pe_fn D_law_text (hr.mono (by decide)) pass0 (pa_cons (pe_fldB (pv 0) rfl) (pa_cons (pv 2) pa_nil))))) pa_nil))))), ?_⟩
    walk_at "dl"
    refine Ev.makeF ?_
    walk_at "dl"
    refine Ev.lc (α := Nat) (Tame.name (by decide)) (fun n => dV (.str (atL z (bitsL n z.cps.size)))) (EvI.list (Ev.var rfl ⟨_, rfl, ns, dN, rfl, by omega, fun n hn => EvG.name ⟨rfl, ?_⟩, ?_⟩))
    · walk_at "dl"
      refine ⟨_, dVals.let VV, ?_⟩
      walk_at "dl"
      exact ⟨z, n, rfl, gz, rfl, rfl⟩
    · walk_at "dl"
      have e1 : List.map ((fun x => x.snd) ∘ fun n => (dV (.str (atL z (bitsL n z.cps.size))), n)) ns = ns := List.map_id ns
      refine ⟨O.length, z, ns.map fun n => (dV (.str (atL z (bitsL n z.cps.size))), n), ?_, ow_last, gz, by rw [List.length_map]; omega, by rw [List.length_map]; omega, ?_, fun p hp => ?_, rfl, _, ow_lastset, ?_⟩
      · rw [List.map_map]; rfl
      · rw [List.map_map, e1]; exact row
      · obtain ⟨n, hn, rfl⟩ := List.mem_map.mp hp
        exact likeT gz (row n hn).2
      · rw [List.map_map, e1]; exact kq

/-- the numbers of drawn cells -/
def fsRowD : FS := fun ds O Q _ => ∃ (j N m l : Nat), ds = [.ow j, fInt (m : Nat), fInt (l : Nat)] ∧ O[j]? = some (pB N) ∧ N < 900000 ∧ 1 ≤ m ∧ m ≤ 4 ∧ 1 ≤ l ∧ l ≤ 100 ∧ ∀ ns N', 1 ≤ ns.length → ns.length ≤ l → Row m ns → N' ≤ N + 1 + 4 * l → Q (.fr (dNs ns)) (O.set j (pB N'))
theorem okd_rowD {f : Addr} {fd : FuncData} (F : Fun K "_law_row" "_law_row" s_law_row f fd) (B : Blt mg) (D_law_draw : HDraw P w K mg base) (D_law_cell : HasFn P w K mg base CX0 3 "_law_cell" ["_law_pen_here", "_law_many"] (spD fsCell)) : FnOk P w K mg base CX0 4 f fd ["_law_pen_here", "_law_many", "_law_longest"] (spD fsRowD) := by
  refine okD F sc_law_row (fun ds O Q KX h => ?_) (fun cdv A outer s H E hr b ds O Q KX h _ => ?_)
  · obtain ⟨j, N, m, l, rfl, _⟩ := h; rfl
  · obtain ⟨j, N, m, l, rfl, hj, hN, m1, m4, l1, l2, kq⟩ := h
    have big : 1000 ≤ sizeLine := by decide
    refine ⟨_, (pss_one (ps_ret (pe_lc rfl sc_law_row.nd (pi_range1 (by rfl) B.n_range (pa_cons (pe_op op_add pe_int (pe_fn D_law_draw (hr.mono (by decide)) pass0 (pa_cons (pv 0) (pa_cons (pv 2) pa_nil)))) pa_nil)) (blkOk_by (own := [("_law_k", 3)]) (N := ["_law_pen_here", "_law_many", "_law_longest", "_law_k"]) (sc := defScope s_law_row) (by decide +kernel)) (fun _ _ _ _ _ => (pg_name (i := 3) sc_law_row.nd rfl (.inl rfl))) (fun _ _ _ _ _ => pts_nil) (fun _ _ _ _ _ => (pe_fn D_law_cell (hr.mono (by decide)) pass0 (pa_cons (pv 0) (pa_cons (pv 1) pa_nil))))))), ?_⟩
    walk_at "dl"
    refine Ev.lcI (Tame.name (by decide)) (EvI.range1 ?_)
    walk_at "dl"
    refine ⟨j, N, _, rfl, hj, by omega, by omega, by omega, fun d hd => ?_⟩
    have hd : d < l := by omega
    walk_at "dl"
    refine ⟨_, rfl, by omega, by omega, fun i acc O2 => ∃ ns N', acc = ns.map dN ∧ ns.length = i ∧ Row m ns ∧ N' ≤ N + 1 + 4 * i ∧ O2 = O.set j (pB N'), ⟨[], N + 1, rfl, rfl, fun _ h => (nomatch h), by omega, rfl⟩, ?_, ?_, ?_⟩
    · rw [List.length_map, List.length_range]; omega
    · rintro i d0 acc O2 hd0 _ ⟨ns, N', rfl, hn, row, hN', rfl⟩
      have li : i < 1 + d := by
        have := (List.getElem?_eq_some_iff.mp hd0).1
        rw [List.length_map, List.length_range] at this
        omega
      refine EvG.name ?_
      walk_at "dl"
      refine ⟨fun _ => ?_, fun c => (nomatch c)⟩
      walk_at "dl"
      refine ⟨j, N', m, rfl, ow_set _ hj, by omega, m1, m4, fun n n0 n1 => ?_⟩
      rw [List.set_set]
      exact ⟨_, rfl, ns ++ [n], N' + 4, by rw [List.map_append]; rfl, by rw [List.length_append, hn]; rfl, fun x hx => (List.mem_append.mp hx).elim (row x) fun h => by rw [List.mem_singleton.mp h]; exact ⟨n0, n1⟩, by omega, rfl⟩
    · rintro acc O2 ⟨ns, N', rfl, hn, row, hN', rfl⟩
      rw [List.length_map, List.length_range] at hn hN'
      exact kq ns N' (by omega) (by omega) row (by omega)
/-- the numbers of a line's cells -/
def fsShown (CV CC CL : Addr) : FS := fun ds O Q _ => ∃ z ns d, ds = [d] ∧ LineD CV CC CL z ns O d ∧ ns.length ≤ 4001 ∧ Q (.fr (dNs ns)) O
theorem okd_shown {f : Addr} {fd : FuncData} (F : Fun K "_law_shown" "_law_shown" s_law_shown f fd) (VV : VF K CV CC) (LL : LF K CL) (D_cells : HasPr P w K mg base CX0 1 CL "cells" ["self"] (spD (fsCells CV CC CL))) : FnOk P w K mg base CX0 3 f fd ["_law_strip"] (spD (fsShown CV CC CL)) := by
  refine okD F sc_law_shown (fun ds O Q KX h => ?_) (fun cdv A outer s H E hr b ds O Q KX h _ => ?_)
  · obtain ⟨z, ns, d, rfl, _⟩ := h; rfl
  · obtain ⟨z, ns, d, rfl, hd, l, k⟩ := h
    have big : 4001 ≤ sizeLine := by decide
    refine ⟨_, (pss_one (ps_ret (pe_lc rfl sc_law_shown.nd (pi_tup (pe_pr (pv 0) D_cells LL.cl (hr.mono (by decide)) pass0 rfl)) (blkOk_by (own := [("_law_cell_here", 1)]) (N := ["_law_strip", "_law_cell_here"]) (sc := defScope s_law_shown) (by decide +kernel)) (fun _ _ _ _ _ => (pg_name (i := 1) sc_law_shown.nd rfl (.inl rfl))) (fun _ _ _ _ _ => pts_nil) (fun _ _ _ _ _ => (pe_fldB (pv 1) rfl))))), ?_⟩
    walk_at "dl"
    refine Ev.lc (α := Nat) (Tame.name (by decide)) dN (EvI.tup ?_)
    walk_at "dl"
    refine ⟨hd.ins, z, ns, d, rfl, hd, _, rfl, ns, dCell CV CC z, rfl, by omega, fun n hn => EvG.name ⟨rfl, ?_⟩, k⟩
    walk_at "dl"
    exact ⟨_, dCell.num VV, rfl, rfl⟩
/-- the join of rows -/
def joinR (n0 : List Nat) (rows : List (List Nat)) : List Nat := rows.foldl orR n0
theorem orR_len {a b : List Nat} (h : a.length = b.length) : (orR a b).length = a.length := by unfold orR; rw [List.length_map, List.length_zip, ← h, Nat.min_self]
theorem joinR_len {m : Nat} : ∀ {rows : List (List Nat)} {n0 : List Nat}, n0.length = m → (∀ r ∈ rows, r.length = m) → (joinR n0 rows).length = m
  | [], n0, h, _ => h
  | r :: rows, n0, h, k => joinR_len (rows := rows) (n0 := orR n0 r) (by rw [orR_len (by rw [h, k r List.mem_cons_self]), h]) fun x hx => k x (List.mem_cons_of_mem _ hx)
theorem joinR_row {s : Nat} : ∀ {rows : List (List Nat)} {n0 : List Nat}, Row s n0 → (∀ r ∈ rows, Row s r) → Row s (joinR n0 rows)
  | [], n0, h, _ => h
  | r :: rows, n0, h, k => joinR_row (rows := rows) (h.or (k r List.mem_cons_self)) fun x hx => k x (List.mem_cons_of_mem _ hx)
def dRows (rows : List (List Nat)) : D := dLst (rows.map dNs)
theorem joinR_take {rows : List (List Nat)} {n0 r : List Nat} {i : Nat} (h : rows[i]? = some r) : joinR n0 (rows.take (i + 1)) = orR (joinR n0 (rows.take i)) r := by
  unfold joinR
  rw [List.take_add_one, h, List.foldl_append]
  rfl
def fsDue : FS := fun ds O Q _ => ∃ (m : Nat) (r0 : List Nat) (rows : List (List Nat)), ds = [.fr (dRows (r0 :: rows))] ∧ m ≤ 1000 ∧ (∀ r ∈ r0 :: rows, r.length = m) ∧ Q (.fr (dNs (joinR r0 (r0 :: rows)))) O
theorem zip_ns (a b : List Nat) : ((a.map dN).zip (b.map dN)).map (fun z => pr z.1 z.2) = (a.zip b).map fun p => pr (dN p.1) (dN p.2) := by
  rw [List.zip_map, List.map_map]; rfl
theorem okd_due {f : Addr} {fd : FuncData} (F : Fun K "_law_due" "_law_due" s_law_due f fd) (B : Blt mg) (n_zip : mg "zip" = none) : FnOk P w K mg base CX0 1 f fd ["_law_rows"] (spD fsDue) := by
  refine okD F sc_law_due (fun ds O Q KX h => ?_) (fun cdv A outer s H E hr b ds O Q KX h _ => ?_)
  · obtain ⟨m, r0, rows, rfl, _⟩ := h; rfl
  · obtain ⟨m, r0, rows, rfl, lm, hl, kq⟩ := h
    have big : 1000 ≤ sizeLine := by decide
    refine ⟨_, (pss_cons (ps_set (i := 1) sc_law_due.nd rfl (.inl rfl) (pe_callTy call_list_of (by rfl) B.n_list (by decide +kernel) (pa_cons (pe_ix ix_list (pv 0) pe_int (fun _ _ => rfl)) pa_nil)))
      (pss_cons (ps_for PassesOwn.never rfl (pi_list (pv 0)) (pg_name (i := 2) sc_law_due.nd rfl (.inl rfl)) (pss_one (ps_setLc (i := 1) rfl sc_law_due.nd rfl rfl (sw_true rfl rfl rfl (by decide +kernel)) (pi_zip (by rfl) n_zip (pa_cons (pv 1) (pa_cons (pv 2) pa_nil))) (blkOk_by (own := [("_law_one", 3), ("_law_other", 4)]) (N := ["_law_rows", "_law_found", "_law_row_here", "_law_one", "_law_other"]) (sc := defScope s_law_due) (by decide +kernel)) (fun _ _ _ _ _ => (pg_tupB (n := 2) rfl (pgs_cons (pg_name (i := 3) sc_law_due.nd rfl (.inl rfl)) (pgs_cons (pg_name (i := 4) sc_law_due.nd rfl (.inl rfl)) pgs_nil)))) (fun _ _ _ _ _ => pts_nil) (fun _ _ _ _ _ => (pe_op op_or (pv 3) (pv 4))))))
      (pss_one (ps_ret (pv 1))))), ?_⟩
    walk_at "dl"
    refine Op2.ixL .fr (x := dNs r0) (atI_nat (j := 0) rfl) ?_
    walk_at "dl"
    refine OpN.listF (.inl .fr) ?_
    walk_at "dl"
    refine EvS.for_ (EvI.list (Ev.var rfl ⟨_, rfl, fun i en' O' => O' = O ∧ ∃ (x2 x3 x4 : Option Da), en' = [some (.fr (dRows (r0 :: rows))), some (.fr (dNs (joinR r0 ((r0 :: rows).take i)))), x2, x3, x4], ⟨rfl, none, none, none, rfl⟩, ?_, ?_⟩))
    · rintro i d en2 O2 hd ⟨rfl, x2, x3, x4, rfl⟩
      rw [List.getElem?_map] at hd
      cases hr : (r0 :: rows)[i]? with
      | none => rw [hr] at hd; cases hd
      | some r =>
        rw [hr] at hd
        have hd : dNs r = d := by simpa using hd
        subst hd
        have lr := hl r (List.mem_of_getElem? hr)
        have lj : (joinR r0 ((r0 :: rows).take i)).length = m := joinR_len (hl r0 List.mem_cons_self) fun x hx => hl x (List.mem_of_mem_take hx)
        refine EvG.name ?_
        walk_at "dl"
        refine Ev.lc (α := Nat × Nat) (Tame.tup (by decide) (by decide)) (fun p => dN (p.1 ||| p.2)) (EvI.zip ?_)
        walk_at "dl"
        refine ⟨_, _, rfl, (joinR r0 ((r0 :: rows).take i)).zip r, fun p => pr (dN p.1) (dN p.2), zip_ns _ _, by rw [List.length_zip]; omega, fun p hp => EvG.pair ⟨rfl, ?_⟩, ?_⟩
        · walk_at "dl"
          rw [z_or]
          exact ⟨rfl, rfl⟩
        · have e : dLst (((joinR r0 ((r0 :: rows).take i)).zip r).map fun p => dN (p.1 ||| p.2)) = dNs (joinR r0 ((r0 :: rows).take (i + 1))) := by
            rw [joinR_take hr]
            unfold orR
            show _ = dLst (List.map _ (List.map _ _))
            rw [List.map_map]
            rfl
          rw [e]
          exact ⟨rfl, _, _, _, rfl⟩
    · rintro en2 O2 ⟨rfl, x2, x3, x4, rfl⟩
      walk_at "dl"
      rw [List.length_map, List.take_of_length_le (Nat.le_refl _)]
      exact kq
end
end K41

namespace K41
open PySem L2 LB PyProof.Rows DL
abbrev s_NothingToldDD_initDD : Stmt := inClass (top 13) 0
theorem sc_NothingToldDD_initDD : FnScope ["self", "what"] ["self", "what"] (defScope s_NothingToldDD_initDD) := ⟨rfl, rfl, rfl, by decide +kernel, rfl, by decide +kernel, by decide +kernel⟩
abbrev s_UnlikeDD_initDD : Stmt := inClass (top 10) 0
theorem sc_UnlikeDD_initDD : FnScope ["self", "part"] ["self", "part"] (defScope s_UnlikeDD_initDD) := ⟨rfl, rfl, rfl, by decide +kernel, rfl, by decide +kernel, by decide +kernel⟩
abbrev s_join : Stmt := top 47
theorem sc_join : FnScope ["lines", "first", "joined", "line", "mine", "their"] ["lines"] (defScope s_join) := ⟨rfl, rfl, rfl, by decide +kernel, rfl, by decide +kernel, by decide +kernel⟩
local macro_rules | `(tactic| walk_at "nrm") => `(tactic| refine EvS.as (by (try simp only [stE, List.map_cons, List.map_nil, List.length_cons, List.length_nil, List.replicate, List.cons_append, List.nil_append, List.set_cons_zero, List.set_cons_succ]); exact rfl) ?_)
local macro_rules | `(tactic| walk_at "dl") => `(tactic| repeat (first
  | (with_reducible show EvS _ _ (List.set _ _ _) _ _; walk_at "nrm") | (with_reducible show EvS _ _ (stE _ _) _ _; walk_at "nrm")
  | (with_reducible show Ev _ (tVar _) _ _ _; refine Ev.var rfl ?_) | with_reducible refine' Ev.con ?_ | with_reducible refine' EvA.cons ?_ | with_reducible refine' EvA.nil ?_
  | with_reducible refine' Ev.op ?_ | with_reducible refine' Ev.un ?_ | with_reducible refine' Ev.cb ?_ | with_reducible refine' Ev.call ?_ | with_reducible refine' Ev.meth ?_ | with_reducible refine' Ev.prop ?_
  | with_reducible refine' EvT.tB ?_ | with_reducible refine' EvT.test ?_ | with_reducible refine' EvT.and ?_ | with_reducible refine' EvT.or ?_ | with_reducible refine' EvT.not ?_
  | with_reducible refine' Ev.andV ?_ | with_reducible refine' Ev.orV ?_ | with_reducible refine' Ev.notV ?_ | with_reducible refine' Ev.ifE ?_ | with_reducible refine' Ev.fld ?_ | with_reducible refine' Ev.sl ?_ | with_reducible refine' Ev.m1 ?_ | with_reducible refine' Ev.bm ?_ | with_reducible refine' Ev.bm0 ?_
  | with_reducible refine' EvS.seq ?_ | with_reducible refine' EvS.next ?_ | with_reducible refine' EvS.ite ?_ | with_reducible refine' EvS.ret ?_ | with_reducible refine' EvS.set ?_ | with_reducible refine' EvS.drp ?_ | with_reducible refine' EvS.par ?_ | with_reducible refine' EvS.asg ?_ | with_reducible refine' EvG.name ?_
  | with_reducible refine' Op2.i0 ?_ | with_reducible refine' Op1.i ?_ | with_reducible refine' EvT.yes ?_ | with_reducible refine' EvO.no ?_ | with_reducible refine' EvO.part ?_))
theorem one_con {x : V} (σ : L2.St) (H : Hp) (Q R : List V → Hp → Prop) (k : ∀ vs H1, Q vs H1 → R vs H1) (h : tCons (tC x) tNil σ H Q) : tCons (tC x) tNil σ H R := k _ _ h
theorem one_var {i : Nat} (σ : L2.St) (H : Hp) (Q R : List V → Hp → Prop) (k : ∀ vs H1, Q vs H1 → R vs H1) (h : tCons (tVar i) tNil σ H Q) : tCons (tVar i) tNil σ H R := let ⟨v, e, q⟩ := h; ⟨v, e, k _ _ q⟩

section
variable {P : Program} {w : World} {K : PySem.W.Frag} {mg : Str → Option Value} {base : Heap} {CV CC CL CN CU : Addr}
theorem ok_NothingTold {C : Addr} {f : Addr} {fd : FuncData} (F : Fun K "__init__" "NothingTold.__init__" s_NothingToldDD_initDD f fd) (T : OexC K C) (hf : PySem.W.findIn K (.ref C) "what" = some none) : FnOk P w K mg base CX0 1 f fd ["self", "what"] (spX1 C "what") := by
  refine F.ok sc_NothingToldDD_initDD (fun vs H Q E h => ?_) (fun cdv A outer s H vs Q E hr h => ?_)
  · obtain ⟨a, x, rfl, _⟩ := h
    rfl
  · obtain ⟨a, x, rfl, ha, k⟩ := h
    refine ⟨_, (pss_one (ps_ost (pv 0) (pv 1))), ?_⟩
    exact ⟨_, rfl, _, rfl, a, C, rfl, T, hf, .inl ⟨ha, fun dx hd ne => k _ dx ((But.new hd).trans .upd) hd ne upd_same (by rw [upd_ne ne, upd_same])⟩⟩
theorem ok_Unlike {C : Addr} {f : Addr} {fd : FuncData} (F : Fun K "__init__" "Unlike.__init__" s_UnlikeDD_initDD f fd) (T : OexC K C) (hf : PySem.W.findIn K (.ref C) "part" = some none) : FnOk P w K mg base CX0 1 f fd ["self", "part"] (spX1 C "part") := by
  refine F.ok sc_UnlikeDD_initDD (fun vs H Q E h => ?_) (fun cdv A outer s H vs Q E hr h => ?_)
  · obtain ⟨a, x, rfl, _⟩ := h
    rfl
  · obtain ⟨a, x, rfl, ha, k⟩ := h
    refine ⟨_, (pss_one (ps_ost (pv 0) (pv 1))), ?_⟩
    exact ⟨_, rfl, _, rfl, a, C, rfl, T, hf, .inl ⟨ha, fun dx hd ne => k _ dx ((But.new hd).trans .upd) hd ne upd_same (by rw [upd_ne ne, upd_same])⟩⟩

abbrev dLn (CV CC CL : Addr) (p : Str × List Nat) : D := dLine CV CC CL p.1 p.2
theorem ne_len {a c : Nat} : (!decide (V.int ((a : Nat) : Int) = V.int ((c : Nat) : Int))) = !decide (a = c) := by
  rw [eqI]
  congr 1
  exact decide_eq_decide.mpr ⟨fun h => by omega, fun h => by omega⟩
/-- join of lines, in a list or a tuple -/
def fsJoin (CV CC CL CN CU : Addr) : FS := fun ds O Q KX => ∃ (d : D) (ps : List (Str × List Nat)) (mm : Nat), ds = [.fr d] ∧ (d = dLst (ps.map (dLn CV CC CL)) ∨ d = dTup (ps.map (dLn CV CC CL))) ∧ ps.length ≤ 100 ∧ (∀ p ∈ ps, p.2.length ≤ 4001) ∧
  ((ps = [] ∧ KX CN [("what", dV (.str "lines"))] O) ∨ (∃ z0 n0 r, ps = (z0, n0) :: r ∧ (∃ p ∈ ps, p.1 ≠ z0) ∧ KX CU [("part", dV (.str "values"))] O) ∨
   (∃ z0 n0 r, ps = (z0, n0) :: r ∧ (∀ p ∈ ps, p.1 = z0) ∧ (∃ p ∈ ps, p.2.length ≠ n0.length) ∧ KX CU [("part", dV (.str "length"))] O) ∨
   (∃ z0 n0 rows, ps = (n0 :: rows).map (fun n => (z0, n)) ∧ LB.Good z0 ∧ (∀ r ∈ n0 :: rows, Row z0.cps.size r) ∧ (∀ r ∈ n0 :: rows, r.length = mm) ∧ 1 ≤ mm ∧ mm ≤ 4001 ∧ Q (.ow O.length) (O ++ [some (oIns CL (lineFs CV CC z0 (joinR n0 (n0 :: rows))))])))
theorem okd_join {f : Addr} {fd : FuncData} (F : Fun K "join" "join" s_join f fd) (B : Blt mg) (n_zip : mg "zip" = none) (n_any : mg "any" = none) (VV : VF K CV CC) (LL : LF K CL) (NE : NeOwn K CV) (D_eqV : HasMe P w K mg base CX0 1 CV "__eq__" ["self", "other"] (spD (fsEqV CV CC)))
    (D_lenL : HasMe P w K mg base CX0 1 CL "__len__" ["self"] (spD (fsLenL CV CC CL))) (D_numsL : HasFn P w K mg base CX0 2 "numbers_of" ["cells"] (spD (fsNumsL CV CC CL))) (D_line_of : HasFn P w K mg base CX0 7 "line_of" ["values", "numbers"] (spD (fsLineOf CV CC CL)))
    (X_NothingTold : HasEx P w K mg base CX0 1 CN "NothingTold" ["self", "what"] (spX1 CN "what")) (X_Unlike : HasEx P w K mg base CX0 1 CU "Unlike" ["self", "part"] (spX1 CU "part")) : FnOk P w K mg base (L2.CX P w) 8 f fd ["lines"] (spD (fsJoin CV CC CL CN CU)) := by
  refine okDX F sc_join (fun ds O Q KX h => ?_) (fun cdv A outer s H E hr b ds O Q KX h r0 => ?_)
  · obtain ⟨d, ps, mm, rfl, _⟩ := h; rfl
  · obtain ⟨d, ps, mm, rfl, hd, l100, lens, h⟩ := h
    have big : 4001 ≤ sizeLine := by decide
    rcases hd with rfl | rfl
    · refine ⟨_, (pss_cons (ps_if (pt_not (pt_truth (pv 0) (by intro _; rfl))) (pss_one (ps_raise1n X_NothingTold rfl (takes_of rfl rfl rfl rfl) (hr.mono (by decide)) (pa_cons pe_str pa_nil) one_con)) pss_nil)
      (pss_cons (ps_set (i := 1) sc_join.nd rfl (.inr rfl) (pe_ix ix_list (pv 0) pe_int (fun _ _ => rfl)))
      (pss_cons (ps_if (pt_val (pe_callB (cr_any rfl) (by rfl) n_any (by decide +kernel) (pa_cons (pe_lc rfl sc_join.nd (pi_list (pv 0)) (blkOk_by (own := [("line", 3)]) (N := ["lines", "first", "joined", "line", "mine", "their"]) (sc := defScope s_join) (by decide +kernel)) (fun _ _ _ _ _ => (pg_name (i := 3) sc_join.nd rfl (.inl rfl))) (fun _ _ _ _ _ => pts_nil) (fun _ _ _ _ _ => (pe_cmpR (op_neMe D_eqV (hr.mono (by decide)) pass0 NE) (pe_fldB (pv 3) rfl) (pe_fldB (pv 1) rfl) (nomark _)))) pa_nil))) (pss_one (ps_raise1n X_Unlike rfl (takes_of rfl rfl rfl rfl) (hr.mono (by decide)) (pa_cons pe_str pa_nil) one_con)) pss_nil)
      (pss_cons (ps_if (pt_val (pe_callB (cr_any rfl) (by rfl) n_any (by decide +kernel) (pa_cons (pe_lc rfl sc_join.nd (pi_list (pv 0)) (blkOk_by (own := [("line", 3)]) (N := ["lines", "first", "joined", "line", "mine", "their"]) (sc := defScope s_join) (by decide +kernel)) (fun _ _ _ _ _ => (pg_name (i := 3) sc_join.nd rfl (.inl rfl))) (fun _ _ _ _ _ => pts_nil) (fun _ _ _ _ _ => (pe_cmpR op_ne (pe_callB (call_lenMe D_lenL (hr.mono (by decide)) pass0) (by rfl) B.n_len (by decide +kernel) (pa_cons (pv 3) pa_nil)) (pe_callB (call_lenMe D_lenL (hr.mono (by decide)) pass0) (by rfl) B.n_len (by decide +kernel) (pa_cons (pv 1) pa_nil)) (nomark _)))) pa_nil))) (pss_one (ps_raise1n X_Unlike rfl (takes_of rfl rfl rfl rfl) (hr.mono (by decide)) (pa_cons pe_str pa_nil) one_con)) pss_nil)
      (pss_cons (ps_set (i := 2) sc_join.nd rfl (.inl rfl) (pe_fn D_numsL (hr.mono (by decide)) pass0 (pa_cons (pv 1) pa_nil)))
      (pss_cons (ps_for (L2.passes_of rfl) rfl (pi_list (pv 0)) (pg_name (i := 3) sc_join.nd rfl (.inl rfl)) (pss_one (ps_setLc (i := 2) rfl sc_join.nd rfl rfl (sw_true rfl rfl rfl (by decide +kernel)) (pi_zip (by rfl) n_zip (pa_cons (pv 2) (pa_cons (pe_fn D_numsL (hr.mono (by decide)) pass0 (pa_cons (pv 3) pa_nil)) pa_nil))) (blkOk_by (own := [("mine", 4), ("their", 5)]) (N := ["lines", "first", "joined", "line", "mine", "their"]) (sc := defScope s_join) (by decide +kernel)) (fun _ _ _ _ _ => (pg_tupB (n := 2) rfl (pgs_cons (pg_name (i := 4) sc_join.nd rfl (.inl rfl)) (pgs_cons (pg_name (i := 5) sc_join.nd rfl (.inl rfl)) pgs_nil)))) (fun _ _ _ _ _ => pts_nil) (fun _ _ _ _ _ => (pe_op op_or (pv 4) (pv 5))))))
      (pss_one (ps_ret (pe_fn D_line_of (hr.mono (by decide)) pass0 (pa_cons (pe_fld (pv 1) rfl) (pa_cons (pv 2) pa_nil))))))))))), ?_⟩
      rcases h with ⟨rfl, kx⟩ | ⟨z0, n0, r, rfl, hne, kx⟩ | ⟨z0, n0, r, rfl, hz, hne, kx⟩ | ⟨z0, n0, rows, rfl, gz, row, hm, l1, l2, kq⟩
      · walk_at "dl"
        refine EvT.truth ?_
        walk_at "dl"
        refine ⟨_, TruD.lst .fr, ⟨fun _ => ?_, fun c => (nomatch c)⟩⟩
        refine EvS.raise1 r0.w ?_
        walk_at "dl"
        exact ⟨_, rfl, kx⟩
      · walk_at "dl"
        refine EvT.truth ?_
        walk_at "dl"
        refine ⟨_, TruD.lst .fr, ⟨fun c => (nomatch c), fun _ => EvS.next ?_⟩⟩
        walk_at "dl"
        refine Op2.ixL .fr (x := dLn CV CC CL (z0, n0)) (atI_nat (j := 0) rfl) ?_
        walk_at "dl"
        refine Ev.lc (α := Str × List Nat) (Tame.name (by decide)) (fun p => dV (.bl (!decide (p.1 = z0)))) (EvI.list (Ev.var rfl ⟨_, rfl, (z0, n0) :: r, dLn CV CC CL, rfl, by omega, fun p hp => EvG.name ⟨rfl, ?_⟩, ?_⟩))
        · walk_at "dl"
          refine ⟨_, dLine.alp LL, ?_⟩
          walk_at "dl"
          refine ⟨_, dLine.alp LL, ?_⟩
          exact Op2.neOwn dVals.ins dVals.ins ⟨p.1, z0, rfl, _, rfl, rfl, rfl⟩
        · walk_at "dl"
          refine OpN.any (bs := ((z0, n0) :: r).map fun p => !decide (p.1 = z0)) (by show dLst _ = dLst _; unfold dBs; rw [List.map_map]; rfl) ?_
          rw [show ((((z0, n0) :: r).map fun p => !decide (p.1 = z0)).any id) = true by
            obtain ⟨p, mp, ne⟩ := hne
            exact List.any_eq_true.mpr ⟨_, List.mem_map_of_mem mp, by simpa using ne⟩]
          refine ⟨_, rfl, fun _ => ?_, fun c => (nomatch c)⟩
          refine EvS.raise1 r0.w ?_
          walk_at "dl"
          exact ⟨_, rfl, kx⟩
      · walk_at "dl"
        refine EvT.truth ?_
        walk_at "dl"
        refine ⟨_, TruD.lst .fr, ⟨fun c => (nomatch c), fun _ => EvS.next ?_⟩⟩
        walk_at "dl"
        refine Op2.ixL .fr (x := dLn CV CC CL (z0, n0)) (atI_nat (j := 0) rfl) ?_
        walk_at "dl"
        refine Ev.lc (α := Str × List Nat) (Tame.name (by decide)) (fun p => dV (.bl (!decide (p.1 = z0)))) (EvI.list (Ev.var rfl ⟨_, rfl, (z0, n0) :: r, dLn CV CC CL, rfl, by omega, fun p hp => EvG.name ⟨rfl, ?_⟩, ?_⟩))
        · walk_at "dl"
          refine ⟨_, dLine.alp LL, ?_⟩
          walk_at "dl"
          refine ⟨_, dLine.alp LL, ?_⟩
          exact Op2.neOwn dVals.ins dVals.ins ⟨p.1, z0, rfl, _, rfl, rfl, rfl⟩
        · walk_at "dl"
          refine OpN.any (bs := ((z0, n0) :: r).map fun p => !decide (p.1 = z0)) (by show dLst _ = dLst _; unfold dBs; rw [List.map_map]; rfl) ?_
          rw [show ((((z0, n0) :: r).map fun p => !decide (p.1 = z0)).any id) = false by
            refine List.any_eq_false.mpr fun x hx => ?_
            obtain ⟨p, mp, rfl⟩ := List.mem_map.mp hx
            simpa using hz p mp]
          refine ⟨_, rfl, fun c => (nomatch c), fun _ => EvS.next ?_⟩
          walk_at "dl"
          refine Ev.lc (α := Str × List Nat) (Tame.name (by decide)) (fun p => dV (.bl (!decide (p.2.length = n0.length)))) (EvI.list (Ev.var rfl ⟨_, rfl, (z0, n0) :: r, dLn CV CC CL, rfl, by omega, fun p hp => EvG.name ⟨rfl, ?_⟩, ?_⟩))
          · walk_at "dl"
            have b1 := lens p hp
            have b2 : n0.length ≤ 4001 := lens (z0, n0) List.mem_cons_self
            refine OpN.lenOwn dLine.ins ⟨p.1, p.2, _, rfl, LineD.fr, _, rfl, by omega, by omega, ?_⟩
            walk_at "dl"
            refine OpN.lenOwn dLine.ins ⟨z0, n0, _, rfl, LineD.fr, _, rfl, by omega, by omega, ?_⟩
            refine Op2.ne rfl ⟨?_, rfl⟩
            rw [ne_len]
          · walk_at "dl"
            refine OpN.any (bs := ((z0, n0) :: r).map fun p => !decide (p.2.length = n0.length)) (by show dLst _ = dLst _; unfold dBs; rw [List.map_map]; rfl) ?_
            rw [show ((((z0, n0) :: r).map fun p => !decide (p.2.length = n0.length)).any id) = true by
              obtain ⟨p, mp, ne⟩ := hne
              exact List.any_eq_true.mpr ⟨_, List.mem_map_of_mem mp, by simpa using ne⟩]
            refine ⟨_, rfl, fun _ => ?_, fun c => (nomatch c)⟩
            refine EvS.raise1 r0.w ?_
            walk_at "dl"
            exact ⟨_, rfl, kx⟩
      · walk_at "dl"
        refine EvT.truth ?_
        walk_at "dl"
        refine ⟨_, TruD.lst .fr, ⟨fun c => (nomatch c), fun _ => EvS.next ?_⟩⟩
        walk_at "dl"
        refine Op2.ixL .fr (x := dLn CV CC CL (z0, n0)) (atI_nat (j := 0) rfl) ?_
        walk_at "dl"
        refine Ev.lc (α := List Nat) (Tame.name (by decide)) (fun _ => dV (.bl false)) (EvI.list (Ev.var rfl ⟨_, rfl, n0 :: rows, fun n => dLn CV CC CL (z0, n), by rw [List.map_map]; rfl, by rw [List.length_map] at l100; omega, fun p hp => EvG.name ⟨rfl, ?_⟩, ?_⟩))
        · walk_at "dl"
          refine ⟨_, dLine.alp LL, ?_⟩
          walk_at "dl"
          refine ⟨_, dLine.alp LL, ?_⟩
          refine Op2.neOwn dVals.ins dVals.ins ⟨z0, z0, rfl, _, rfl, ?_, rfl⟩
          rw [decide_eq_true rfl]; rfl
        walk_at "dl"
        refine OpN.any (bs := (n0 :: rows).map fun _ => false) (by show dLst _ = dLst _; unfold dBs; rw [List.map_map]; rfl) ?_
        rw [show (((n0 :: rows).map fun _ => false).any id) = false by simp]
        refine ⟨_, rfl, fun c => (nomatch c), fun _ => EvS.next ?_⟩
        walk_at "dl"
        refine Ev.lc (α := List Nat) (Tame.name (by decide)) (fun _ => dV (.bl false)) (EvI.list (Ev.var rfl ⟨_, rfl, n0 :: rows, fun n => dLn CV CC CL (z0, n), by rw [List.map_map]; rfl, by rw [List.length_map] at l100; omega, fun p hp => EvG.name ⟨rfl, ?_⟩, ?_⟩))
        · walk_at "dl"
          have b1 := hm p hp
          have b2 := hm n0 List.mem_cons_self
          refine OpN.lenOwn dLine.ins ⟨z0, p, _, rfl, LineD.fr, _, rfl, by omega, by omega, ?_⟩
          walk_at "dl"
          refine OpN.lenOwn dLine.ins ⟨z0, n0, _, rfl, LineD.fr, _, rfl, by omega, by omega, ?_⟩
          refine Op2.ne rfl ⟨?_, rfl⟩
          rw [ne_len, b1, b2, decide_eq_true rfl]; rfl
        walk_at "dl"
        refine OpN.any (bs := (n0 :: rows).map fun _ => false) (by show dLst _ = dLst _; unfold dBs; rw [List.map_map]; rfl) ?_
        rw [show (((n0 :: rows).map fun _ => false).any id) = false by simp]
        refine ⟨_, rfl, fun c => (nomatch c), fun _ => EvS.next ?_⟩
        walk_at "dl"
        have hm0 := hm n0 List.mem_cons_self
        refine ⟨z0, n0, rfl, by omega, ?_⟩
        walk_at "dl"
        refine EvS.for_ (EvI.list (Ev.var rfl ⟨_, rfl, fun i en' O' => O' = O ∧ ∃ (x3 x4 x5 : Option Da), en' = [some (.fr (dLst (((n0 :: rows).map fun n => (z0, n)).map (dLn CV CC CL)))), some (.fr (dLn CV CC CL (z0, n0))), some (.fr (dNs (joinR n0 ((n0 :: rows).take i)))), x3, x4, x5], ⟨rfl, none, none, none, rfl⟩, ?_, ?_⟩))
        · rintro i d en2 O2 hd ⟨rfl, x3, x4, x5, rfl⟩
          have hd : ((n0 :: rows).map fun n => dLn CV CC CL (z0, n))[i]? = some d := by rw [List.map_map] at hd; exact hd
          rw [List.getElem?_map] at hd
          cases hr0 : (n0 :: rows)[i]? with
          | none => rw [hr0] at hd; cases hd
          | some rr =>
            rw [hr0] at hd
            have hd : dLn CV CC CL (z0, rr) = d := by simpa using hd
            subst hd
            have lr := hm rr (List.mem_of_getElem? hr0)
            have lj : (joinR n0 ((n0 :: rows).take i)).length = mm := joinR_len hm0 fun x hx => hm x (List.mem_of_mem_take hx)
            refine EvG.name ?_
            walk_at "dl"
            refine Ev.lc (α := Nat × Nat) (Tame.tup (by decide) (by decide)) (fun p => dN (p.1 ||| p.2)) (EvI.zip ?_)
            walk_at "dl"
            refine ⟨z0, rr, rfl, by omega, ?_⟩
            walk_at "dl"
            refine ⟨_, _, rfl, (joinR n0 ((n0 :: rows).take i)).zip rr, fun p => pr (dN p.1) (dN p.2), zip_ns _ _, by rw [List.length_zip]; omega, fun p hp => EvG.pair ⟨rfl, ?_⟩, ?_⟩
            · walk_at "dl"
              rw [z_or]
              exact ⟨rfl, rfl⟩
            · have e : dLst (((joinR n0 ((n0 :: rows).take i)).zip rr).map fun p => dN (p.1 ||| p.2)) = dNs (joinR n0 ((n0 :: rows).take (i + 1))) := by
                rw [joinR_take hr0]
                unfold orR
                show _ = dLst (List.map _ (List.map _ _))
                rw [List.map_map]
                rfl
              rw [e]
              exact ⟨rfl, _, _, _, rfl⟩
        · rintro en2 O2 ⟨rfl, x3, x4, x5, rfl⟩
          walk_at "dl"
          refine ⟨_, dLine.alp LL, ?_⟩
          walk_at "dl"
          rw [List.take_of_length_le (by rw [List.length_cons, List.length_cons, List.length_map, List.length_map]; exact Nat.le_refl _)]
          exact ⟨z0, _, rfl, gz, joinR_row (row n0 List.mem_cons_self) row, by rw [joinR_len hm0 hm]; exact l1, by rw [joinR_len hm0 hm]; exact l2, kq⟩
    · refine ⟨_, (pss_cons (ps_if (pt_not (pt_truth (pv 0) (by intro _; rfl))) (pss_one (ps_raise1n X_NothingTold rfl (takes_of rfl rfl rfl rfl) (hr.mono (by decide)) (pa_cons pe_str pa_nil) one_con)) pss_nil)
      (pss_cons (ps_set (i := 1) sc_join.nd rfl (.inr rfl) (pe_ix ix_tup (pv 0) pe_int (fun _ _ => rfl)))
      (pss_cons (ps_if (pt_val (pe_callB (cr_any rfl) (by rfl) n_any (by decide +kernel) (pa_cons (pe_lc rfl sc_join.nd (pi_tup (pv 0)) (blkOk_by (own := [("line", 3)]) (N := ["lines", "first", "joined", "line", "mine", "their"]) (sc := defScope s_join) (by decide +kernel)) (fun _ _ _ _ _ => (pg_name (i := 3) sc_join.nd rfl (.inl rfl))) (fun _ _ _ _ _ => pts_nil) (fun _ _ _ _ _ => (pe_cmpR (op_neMe D_eqV (hr.mono (by decide)) pass0 NE) (pe_fldB (pv 3) rfl) (pe_fldB (pv 1) rfl) (nomark _)))) pa_nil))) (pss_one (ps_raise1n X_Unlike rfl (takes_of rfl rfl rfl rfl) (hr.mono (by decide)) (pa_cons pe_str pa_nil) one_con)) pss_nil)
      (pss_cons (ps_if (pt_val (pe_callB (cr_any rfl) (by rfl) n_any (by decide +kernel) (pa_cons (pe_lc rfl sc_join.nd (pi_tup (pv 0)) (blkOk_by (own := [("line", 3)]) (N := ["lines", "first", "joined", "line", "mine", "their"]) (sc := defScope s_join) (by decide +kernel)) (fun _ _ _ _ _ => (pg_name (i := 3) sc_join.nd rfl (.inl rfl))) (fun _ _ _ _ _ => pts_nil) (fun _ _ _ _ _ => (pe_cmpR op_ne (pe_callB (call_lenMe D_lenL (hr.mono (by decide)) pass0) (by rfl) B.n_len (by decide +kernel) (pa_cons (pv 3) pa_nil)) (pe_callB (call_lenMe D_lenL (hr.mono (by decide)) pass0) (by rfl) B.n_len (by decide +kernel) (pa_cons (pv 1) pa_nil)) (nomark _)))) pa_nil))) (pss_one (ps_raise1n X_Unlike rfl (takes_of rfl rfl rfl rfl) (hr.mono (by decide)) (pa_cons pe_str pa_nil) one_con)) pss_nil)
      (pss_cons (ps_set (i := 2) sc_join.nd rfl (.inl rfl) (pe_fn D_numsL (hr.mono (by decide)) pass0 (pa_cons (pv 1) pa_nil)))
      (pss_cons (ps_for (L2.passes_of rfl) rfl (pi_tup (pv 0)) (pg_name (i := 3) sc_join.nd rfl (.inl rfl)) (pss_one (ps_setLc (i := 2) rfl sc_join.nd rfl rfl (sw_true rfl rfl rfl (by decide +kernel)) (pi_zip (by rfl) n_zip (pa_cons (pv 2) (pa_cons (pe_fn D_numsL (hr.mono (by decide)) pass0 (pa_cons (pv 3) pa_nil)) pa_nil))) (blkOk_by (own := [("mine", 4), ("their", 5)]) (N := ["lines", "first", "joined", "line", "mine", "their"]) (sc := defScope s_join) (by decide +kernel)) (fun _ _ _ _ _ => (pg_tupB (n := 2) rfl (pgs_cons (pg_name (i := 4) sc_join.nd rfl (.inl rfl)) (pgs_cons (pg_name (i := 5) sc_join.nd rfl (.inl rfl)) pgs_nil)))) (fun _ _ _ _ _ => pts_nil) (fun _ _ _ _ _ => (pe_op op_or (pv 4) (pv 5))))))
      (pss_one (ps_ret (pe_fn D_line_of (hr.mono (by decide)) pass0 (pa_cons (pe_fld (pv 1) rfl) (pa_cons (pv 2) pa_nil))))))))))), ?_⟩
      rcases h with ⟨rfl, kx⟩ | ⟨z0, n0, r, rfl, hne, kx⟩ | ⟨z0, n0, r, rfl, hz, hne, kx⟩ | ⟨z0, n0, rows, rfl, gz, row, hm, l1, l2, kq⟩
      · walk_at "dl"
        refine EvT.truth ?_
        walk_at "dl"
        refine ⟨_, TruD.tup, ⟨fun _ => ?_, fun c => (nomatch c)⟩⟩
        refine EvS.raise1 r0.w ?_
        walk_at "dl"
        exact ⟨_, rfl, kx⟩
      · walk_at "dl"
        refine EvT.truth ?_
        walk_at "dl"
        refine ⟨_, TruD.tup, ⟨fun c => (nomatch c), fun _ => EvS.next ?_⟩⟩
        walk_at "dl"
        refine Op2.ixT (x := dLn CV CC CL (z0, n0)) (atI_nat (j := 0) rfl) ?_
        walk_at "dl"
        refine Ev.lc (α := Str × List Nat) (Tame.name (by decide)) (fun p => dV (.bl (!decide (p.1 = z0)))) (EvI.tup (Ev.var rfl ⟨_, rfl, (z0, n0) :: r, dLn CV CC CL, rfl, by omega, fun p hp => EvG.name ⟨rfl, ?_⟩, ?_⟩))
        · walk_at "dl"
          refine ⟨_, dLine.alp LL, ?_⟩
          walk_at "dl"
          refine ⟨_, dLine.alp LL, ?_⟩
          exact Op2.neOwn dVals.ins dVals.ins ⟨p.1, z0, rfl, _, rfl, rfl, rfl⟩
        · walk_at "dl"
          refine OpN.any (bs := ((z0, n0) :: r).map fun p => !decide (p.1 = z0)) (by show dLst _ = dLst _; unfold dBs; rw [List.map_map]; rfl) ?_
          rw [show ((((z0, n0) :: r).map fun p => !decide (p.1 = z0)).any id) = true by
            obtain ⟨p, mp, ne⟩ := hne
            exact List.any_eq_true.mpr ⟨_, List.mem_map_of_mem mp, by simpa using ne⟩]
          refine ⟨_, rfl, fun _ => ?_, fun c => (nomatch c)⟩
          refine EvS.raise1 r0.w ?_
          walk_at "dl"
          exact ⟨_, rfl, kx⟩
      · walk_at "dl"
        refine EvT.truth ?_
        walk_at "dl"
        refine ⟨_, TruD.tup, ⟨fun c => (nomatch c), fun _ => EvS.next ?_⟩⟩
        walk_at "dl"
        refine Op2.ixT (x := dLn CV CC CL (z0, n0)) (atI_nat (j := 0) rfl) ?_
        walk_at "dl"
        refine Ev.lc (α := Str × List Nat) (Tame.name (by decide)) (fun p => dV (.bl (!decide (p.1 = z0)))) (EvI.tup (Ev.var rfl ⟨_, rfl, (z0, n0) :: r, dLn CV CC CL, rfl, by omega, fun p hp => EvG.name ⟨rfl, ?_⟩, ?_⟩))
        · walk_at "dl"
          refine ⟨_, dLine.alp LL, ?_⟩
          walk_at "dl"
          refine ⟨_, dLine.alp LL, ?_⟩
          exact Op2.neOwn dVals.ins dVals.ins ⟨p.1, z0, rfl, _, rfl, rfl, rfl⟩
        · walk_at "dl"
          refine OpN.any (bs := ((z0, n0) :: r).map fun p => !decide (p.1 = z0)) (by show dLst _ = dLst _; unfold dBs; rw [List.map_map]; rfl) ?_
          rw [show ((((z0, n0) :: r).map fun p => !decide (p.1 = z0)).any id) = false by
            refine List.any_eq_false.mpr fun x hx => ?_
            obtain ⟨p, mp, rfl⟩ := List.mem_map.mp hx
            simpa using hz p mp]
          refine ⟨_, rfl, fun c => (nomatch c), fun _ => EvS.next ?_⟩
          walk_at "dl"
          refine Ev.lc (α := Str × List Nat) (Tame.name (by decide)) (fun p => dV (.bl (!decide (p.2.length = n0.length)))) (EvI.tup (Ev.var rfl ⟨_, rfl, (z0, n0) :: r, dLn CV CC CL, rfl, by omega, fun p hp => EvG.name ⟨rfl, ?_⟩, ?_⟩))
          · walk_at "dl"
            have b1 := lens p hp
            have b2 : n0.length ≤ 4001 := lens (z0, n0) List.mem_cons_self
            refine OpN.lenOwn dLine.ins ⟨p.1, p.2, _, rfl, LineD.fr, _, rfl, by omega, by omega, ?_⟩
            walk_at "dl"
            refine OpN.lenOwn dLine.ins ⟨z0, n0, _, rfl, LineD.fr, _, rfl, by omega, by omega, ?_⟩
            refine Op2.ne rfl ⟨?_, rfl⟩
            rw [ne_len]
          · walk_at "dl"
            refine OpN.any (bs := ((z0, n0) :: r).map fun p => !decide (p.2.length = n0.length)) (by show dLst _ = dLst _; unfold dBs; rw [List.map_map]; rfl) ?_
            rw [show ((((z0, n0) :: r).map fun p => !decide (p.2.length = n0.length)).any id) = true by
              obtain ⟨p, mp, ne⟩ := hne
              exact List.any_eq_true.mpr ⟨_, List.mem_map_of_mem mp, by simpa using ne⟩]
            refine ⟨_, rfl, fun _ => ?_, fun c => (nomatch c)⟩
            refine EvS.raise1 r0.w ?_
            walk_at "dl"
            exact ⟨_, rfl, kx⟩
      · walk_at "dl"
        refine EvT.truth ?_
        walk_at "dl"
        refine ⟨_, TruD.tup, ⟨fun c => (nomatch c), fun _ => EvS.next ?_⟩⟩
        walk_at "dl"
        refine Op2.ixT (x := dLn CV CC CL (z0, n0)) (atI_nat (j := 0) rfl) ?_
        walk_at "dl"
        refine Ev.lc (α := List Nat) (Tame.name (by decide)) (fun _ => dV (.bl false)) (EvI.tup (Ev.var rfl ⟨_, rfl, n0 :: rows, fun n => dLn CV CC CL (z0, n), by rw [List.map_map]; rfl, by rw [List.length_map] at l100; omega, fun p hp => EvG.name ⟨rfl, ?_⟩, ?_⟩))
        · walk_at "dl"
          refine ⟨_, dLine.alp LL, ?_⟩
          walk_at "dl"
          refine ⟨_, dLine.alp LL, ?_⟩
          refine Op2.neOwn dVals.ins dVals.ins ⟨z0, z0, rfl, _, rfl, ?_, rfl⟩
          rw [decide_eq_true rfl]; rfl
        walk_at "dl"
        refine OpN.any (bs := (n0 :: rows).map fun _ => false) (by show dLst _ = dLst _; unfold dBs; rw [List.map_map]; rfl) ?_
        rw [show (((n0 :: rows).map fun _ => false).any id) = false by simp]
        refine ⟨_, rfl, fun c => (nomatch c), fun _ => EvS.next ?_⟩
        walk_at "dl"
        refine Ev.lc (α := List Nat) (Tame.name (by decide)) (fun _ => dV (.bl false)) (EvI.tup (Ev.var rfl ⟨_, rfl, n0 :: rows, fun n => dLn CV CC CL (z0, n), by rw [List.map_map]; rfl, by rw [List.length_map] at l100; omega, fun p hp => EvG.name ⟨rfl, ?_⟩, ?_⟩))
        · walk_at "dl"
          have b1 := hm p hp
          have b2 := hm n0 List.mem_cons_self
          refine OpN.lenOwn dLine.ins ⟨z0, p, _, rfl, LineD.fr, _, rfl, by omega, by omega, ?_⟩
          walk_at "dl"
          refine OpN.lenOwn dLine.ins ⟨z0, n0, _, rfl, LineD.fr, _, rfl, by omega, by omega, ?_⟩
          refine Op2.ne rfl ⟨?_, rfl⟩
          rw [ne_len, b1, b2, decide_eq_true rfl]; rfl
        walk_at "dl"
        refine OpN.any (bs := (n0 :: rows).map fun _ => false) (by show dLst _ = dLst _; unfold dBs; rw [List.map_map]; rfl) ?_
        rw [show (((n0 :: rows).map fun _ => false).any id) = false by simp]
        refine ⟨_, rfl, fun c => (nomatch c), fun _ => EvS.next ?_⟩
        walk_at "dl"
        have hm0 := hm n0 List.mem_cons_self
        refine ⟨z0, n0, rfl, by omega, ?_⟩
        walk_at "dl"
        refine EvS.for_ (EvI.tup (Ev.var rfl ⟨_, rfl, fun i en' O' => O' = O ∧ ∃ (x3 x4 x5 : Option Da), en' = [some (.fr (dTup (((n0 :: rows).map fun n => (z0, n)).map (dLn CV CC CL)))), some (.fr (dLn CV CC CL (z0, n0))), some (.fr (dNs (joinR n0 ((n0 :: rows).take i)))), x3, x4, x5], ⟨rfl, none, none, none, rfl⟩, ?_, ?_⟩))
        · rintro i d en2 O2 hd ⟨rfl, x3, x4, x5, rfl⟩
          have hd : ((n0 :: rows).map fun n => dLn CV CC CL (z0, n))[i]? = some d := by rw [List.map_map] at hd; exact hd
          rw [List.getElem?_map] at hd
          cases hr0 : (n0 :: rows)[i]? with
          | none => rw [hr0] at hd; cases hd
          | some rr =>
            rw [hr0] at hd
            have hd : dLn CV CC CL (z0, rr) = d := by simpa using hd
            subst hd
            have lr := hm rr (List.mem_of_getElem? hr0)
            have lj : (joinR n0 ((n0 :: rows).take i)).length = mm := joinR_len hm0 fun x hx => hm x (List.mem_of_mem_take hx)
            refine EvG.name ?_
            walk_at "dl"
            refine Ev.lc (α := Nat × Nat) (Tame.tup (by decide) (by decide)) (fun p => dN (p.1 ||| p.2)) (EvI.zip ?_)
            walk_at "dl"
            refine ⟨z0, rr, rfl, by omega, ?_⟩
            walk_at "dl"
            refine ⟨_, _, rfl, (joinR n0 ((n0 :: rows).take i)).zip rr, fun p => pr (dN p.1) (dN p.2), zip_ns _ _, by rw [List.length_zip]; omega, fun p hp => EvG.pair ⟨rfl, ?_⟩, ?_⟩
            · walk_at "dl"
              rw [z_or]
              exact ⟨rfl, rfl⟩
            · have e : dLst (((joinR n0 ((n0 :: rows).take i)).zip rr).map fun p => dN (p.1 ||| p.2)) = dNs (joinR n0 ((n0 :: rows).take (i + 1))) := by
                rw [joinR_take hr0]
                unfold orR
                show _ = dLst (List.map _ (List.map _ _))
                rw [List.map_map]
                rfl
              rw [e]
              exact ⟨rfl, _, _, _, rfl⟩
        · rintro en2 O2 ⟨rfl, x3, x4, x5, rfl⟩
          walk_at "dl"
          refine ⟨_, dLine.alp LL, ?_⟩
          walk_at "dl"
          rw [List.take_of_length_le (by rw [List.length_cons, List.length_cons, List.length_map, List.length_map]; exact Nat.le_refl _)]
          exact ⟨z0, _, rfl, gz, joinR_row (row n0 List.mem_cons_self) row, by rw [joinR_len hm0 hm]; exact l1, by rw [joinR_len hm0 hm]; exact l2, kq⟩

end
end K41

namespace K41
open PySem L2 LB PyProof.Rows DL
abbrev s_law_heard : Stmt := top 57
theorem sc_law_heard : FnScope ["_law_ask", "_law_caught", "error"] ["_law_ask"] (defScope s_law_heard) := ⟨rfl, rfl, rfl, by decide +kernel, rfl, by decide +kernel, by decide +kernel⟩
local macro_rules | `(tactic| walk_at "nrm") => `(tactic| refine EvS.as (by (try simp only [stE, List.map_cons, List.map_nil, List.length_cons, List.length_nil, List.replicate, List.cons_append, List.nil_append, List.set_cons_zero, List.set_cons_succ]); exact rfl) ?_)
local macro_rules | `(tactic| walk_at "dl") => `(tactic| repeat (first
  | (with_reducible show EvS _ _ (List.set _ _ _) _ _; walk_at "nrm") | (with_reducible show EvS _ _ (stE _ _) _ _; walk_at "nrm")
  | (with_reducible show Ev _ (tVar _) _ _ _; refine Ev.var rfl ?_) | with_reducible refine' Ev.con ?_ | with_reducible refine' EvA.cons ?_ | with_reducible refine' EvA.nil ?_
  | with_reducible refine' Ev.op ?_ | with_reducible refine' Ev.un ?_ | with_reducible refine' Ev.cb ?_ | with_reducible refine' Ev.call ?_ | with_reducible refine' Ev.meth ?_ | with_reducible refine' Ev.prop ?_
  | with_reducible refine' EvT.tB ?_ | with_reducible refine' EvT.test ?_ | with_reducible refine' EvT.and ?_ | with_reducible refine' EvT.or ?_ | with_reducible refine' EvT.not ?_
  | with_reducible refine' Ev.andV ?_ | with_reducible refine' Ev.orV ?_ | with_reducible refine' Ev.notV ?_ | with_reducible refine' Ev.ifE ?_ | with_reducible refine' Ev.fld ?_ | with_reducible refine' Ev.sl ?_ | with_reducible refine' Ev.m1 ?_ | with_reducible refine' Ev.bm ?_ | with_reducible refine' Ev.bm0 ?_
  | with_reducible refine' EvS.seq ?_ | with_reducible refine' EvS.next ?_ | with_reducible refine' EvS.ite ?_ | with_reducible refine' EvS.ret ?_ | with_reducible refine' EvS.set ?_ | with_reducible refine' EvS.drp ?_ | with_reducible refine' EvS.par ?_ | with_reducible refine' EvS.asg ?_ | with_reducible refine' EvG.name ?_
  | with_reducible refine' Op2.i0 ?_ | with_reducible refine' Op1.i ?_ | with_reducible refine' EvT.yes ?_ | with_reducible refine' EvO.no ?_ | with_reducible refine' EvO.part ?_))

/-- what is known of the errors -/
structure UF (K : PySem.W.Frag) (CN CU CLE : Addr) : Prop where
  en : ExK K CN
  eu : ExK K CU
  wn : PySem.W.findIn K (.ref CN) "what" = some none
  pu : PySem.W.findIn K (.ref CU) "part" = some none
  ln : PySem.W.exmOne K (.ref CN) (.ref CLE) = some true
  lu : PySem.W.exmOne K (.ref CU) (.ref CLE) = some true
  nn : PySem.W.kitOne K (.ref CN) (.ref CN) = some true
  un : PySem.W.kitOne K (.ref CU) (.ref CN) = some false
  uu : PySem.W.kitOne K (.ref CU) (.ref CU) = some true
section
variable {P : Program} {w : World} {K : PySem.W.Frag} {mg : Str → Option Value} {base : Heap} {CV CC CL CN CU : Addr}
/-- the def that hears: no value comes -/
def fxU (CN CU : Addr) (K : DK) : XKD := fun C fl O => ∃ d, (C = CN ∧ fl = [(("what" : Str), d)] ∧ K (.fr (dTup [dV (.str "none"), d])) O) ∨ (C = CU ∧ fl = [(("part" : Str), d)] ∧ K (.fr (dTup [dV (.str "unlike"), d])) O)
def fnU (_ : DK) : DK := fun _ _ => False
theorem gives_heard {CLE g : Addr} {k : Nat} (U : UF K CN CU CLE) (B : Blt mg) (gN : mg "NothingTold" = some (.ref CN)) (gU : mg "Unlike" = some (.ref CU)) (gLE : mg "LineError" = some (.ref CLE)) (D_law_shown : HasFn P w K mg base CX0 3 "_law_shown" ["_law_strip"] (spD (fsShown CV CC CL))) (hk : 3 ≤ k) :
    GivesS P w K mg base k ["_law_ask", "_law_caught", "error"] "_law_heard" s_law_heard g "_law_ask" (TTof fnU (fxU CN CU)) := by
  refine GivesS.of fun A outer f c' cdg q s H tl hr act b O KK hc hl => ?_
  refine ⟨_, (pss_cons (ps_set (i := 1) sc_law_heard.nd rfl (.inl rfl) pe_non)
      (pss_cons (ps_try_keep (i := 2) (tb := fun W => tRet (tCall (spD (fsShown CV CC CL)) [] E0 (tCons (tAct 0 f c' q fun σZ HZ Q => tl (WE W σZ) HZ Q) tNil))) (ts := fun _ _ _ => tAsg (tVar 2) (gName 1)) rfl rfl rfl sc_law_heard.nd rfl rfl ⟨rfl, by decide, Or.inl gLE⟩
        (fun W pn xe tk _ => pss_one (ps_ret (pe_fn D_law_shown (hr.mono hk) pass0 (pa_cons (act W pn xe _ _ tk) pa_nil)))) (fun a oe cls d pn hz hf => pss_one (ps_set (i := 1) sc_law_heard.nd rfl (.inl rfl) (by exact (pv 2)))))
      (pss_cons (ps_if (pt_val (pe_callB call_isR (by rfl) B.n_isinstance (by decide +kernel) (pa_cons (pv 1) (pa_cons (pe_glob (v := .ref _) rfl gN rfl) pa_nil)))) (pss_one (ps_ret (pe_tup (pa_cons pe_str (pa_cons (pe_exr (pv 1)) pa_nil))))) pss_nil)
      (pss_one (ps_ret (pe_ifExp (pt_val (pe_callB call_isR (by rfl) B.n_isinstance (by decide +kernel) (pa_cons (pv 1) (pa_cons (pe_glob (v := .ref _) rfl gU rfl) pa_nil)))) (pe_tup (pa_cons pe_str (pa_cons (pe_exr (pv 1)) pa_nil))) (pe_tup (pa_cons pe_str (pa_cons pe_non pa_nil))))))))), ?_⟩
  walk_at "dl"
  refine EvS.tryK (KF := K) (c := .ref CLE) (i := 2) (j := 1) (tb := fun W => tRet (tCall (spD (fsShown CV CC CL)) [] E0 (tCons (tAct 0 f c' q fun σZ HZ Q => tl (WE W σZ) HZ Q) tNil))) (KX := fxU CN CU KK) ?_ (fun b' W g r => ?_) (fun C fl O' kx => ?_)
  · show 2 < 3; decide
  · refine EvS.ret (Ev.call (EvA.cons ?_))
    refine (Ev.act (K := fnU KK) rfl (g.F _ _ hc) r fun w' E Q' g2 o' wn rt => hl w' E Q' (g.trans g2) o' wn rt).imp fun d O' k => k.elim
  · obtain ⟨d, ⟨rfl, rfl, kk⟩ | ⟨rfl, rfl, kk⟩⟩ := kx
    · refine ⟨U.ln, ?_⟩
      walk_at "dl"
      refine OpN.isR U.en (.own _) U.nn ⟨_, rfl, fun _ => ?_, fun c => (nomatch c)⟩
      walk_at "dl"
      refine Ev.tup ?_
      walk_at "dl"
      refine Ev.exF ?_
      walk_at "dl"
      refine ⟨C, _, d, rfl, U.en, U.wn, rfl, ?_⟩
      walk_at "dl"
      exact ⟨[dV (.str "none"), d], rfl, by show 2 ≤ sizeLine; decide, kk⟩
    · refine ⟨U.lu, ?_⟩
      walk_at "dl"
      refine OpN.isR U.eu (.own _) U.un ⟨_, rfl, fun c => (nomatch c), fun _ => EvS.next ?_⟩
      walk_at "dl"
      refine OpN.isR U.eu (.own _) U.uu ⟨_, rfl, fun _ => ?_, fun c => (nomatch c)⟩
      walk_at "dl"
      refine Ev.tup ?_
      walk_at "dl"
      refine Ev.exF ?_
      walk_at "dl"
      refine ⟨C, _, d, rfl, U.eu, U.pu, rfl, ?_⟩
      walk_at "dl"
      exact ⟨[dV (.str "unlike"), d], rfl, by show 2 ≤ sizeLine; decide, kk⟩
end
end K41

namespace K41
open PySem L2 LB PyProof.Rows DL
abbrev s_law_mixed_right : Stmt := top 59
theorem sc_law_mixed_right : FnScope ["_law_pen_here", "_law_ground", "_law_some", "_law_many", "_law_longer", "_law_strange", "_law_far", "_law_spot", "_law_way", "_law_mixed", "_law_due_here", "_law_k"] ["_law_pen_here", "_law_ground", "_law_some"] (defScope s_law_mixed_right) := ⟨rfl, rfl, rfl, by decide +kernel, rfl, by decide +kernel, by decide +kernel⟩
local macro_rules | `(tactic| walk_at "nrm") => `(tactic| refine EvS.as (by (try simp only [stE, List.map_cons, List.map_nil, List.length_cons, List.length_nil, List.replicate, List.cons_append, List.nil_append, List.set_cons_zero, List.set_cons_succ]); exact rfl) ?_)
local macro_rules | `(tactic| walk_at "dl") => `(tactic| repeat (first
  | (with_reducible show EvS _ _ (List.set _ _ _) _ _; walk_at "nrm") | (with_reducible show EvS _ _ (stE _ _) _ _; walk_at "nrm")
  | (with_reducible show Ev _ (tVar _) _ _ _; refine Ev.var rfl ?_) | with_reducible refine' Ev.con ?_ | with_reducible refine' EvA.cons ?_ | with_reducible refine' EvA.nil ?_
  | with_reducible refine' Ev.op ?_ | with_reducible refine' Ev.un ?_ | with_reducible refine' Ev.cb ?_ | with_reducible refine' Ev.call ?_ | with_reducible refine' Ev.meth ?_ | with_reducible refine' Ev.prop ?_
  | with_reducible refine' EvT.tB ?_ | with_reducible refine' EvT.test ?_ | with_reducible refine' EvT.and ?_ | with_reducible refine' EvT.or ?_ | with_reducible refine' EvT.not ?_
  | with_reducible refine' Ev.andV ?_ | with_reducible refine' Ev.orV ?_ | with_reducible refine' Ev.notV ?_ | with_reducible refine' Ev.ifE ?_ | with_reducible refine' Ev.fld ?_ | with_reducible refine' Ev.sl ?_ | with_reducible refine' Ev.m1 ?_ | with_reducible refine' Ev.bm ?_ | with_reducible refine' Ev.bm0 ?_
  | with_reducible refine' EvS.seq ?_ | with_reducible refine' EvS.next ?_ | with_reducible refine' EvS.ite ?_ | with_reducible refine' EvS.ret ?_ | with_reducible refine' EvS.set ?_ | with_reducible refine' EvS.drp ?_ | with_reducible refine' EvS.par ?_ | with_reducible refine' EvS.asg ?_ | with_reducible refine' EvG.name ?_
  | with_reducible refine' Op2.i0 ?_ | with_reducible refine' Op1.i ?_ | with_reducible refine' EvT.yes ?_ | with_reducible refine' EvO.no ?_ | with_reducible refine' EvO.part ?_))
/-- what a callee may raise is raised -/
theorem passE {X : Cx} {E : XK} (tk : Takes X fun cls d _ H => E cls d H := by exact takes_of rfl rfl rfl rfl) : Passes (L2.CX X.prog X.w) X E := passes_call tk fun _ _ _ _ h => h

section
variable {P : Program} {w : World} {K : PySem.W.Frag} {mg : Str → Option Value} {base : Heap} {CV CC CL CN CU : Addr}
/-- what is asked of the own things of those who make lambdas -/
structure OwS (q : Str) (O : Ow) : Prop where
  tab : O[0]? = some (some (oTab q))
  n : OwN O
  m : OwMut O
theorem OwS.at0 {q : Str} {O r : Ow} (h : OwS q O) : (O ++ r)[0]? = some (some (oTab q)) := by
  have := (List.getElem?_eq_some_iff.mp h.tab).1
  rw [List.getElem?_append_left this]; exact h.tab

theorem revS_list {z : Str} : (revS z).cps.toList = z.cps.toList.reverse := by unfold LB.revS; simp
theorem good_rev {z : Str} (gz : LB.Good z) : LB.Good (revS z) := by
  have e := revS_list (z := z)
  have l : (revS z).cps.size = z.cps.size := by rw [← Array.length_toList, e, List.length_reverse, Array.length_toList]
  refine ⟨by rw [l]; exact gz.lo, by rw [l]; exact gz.hi, fun c h => gz.az c ?_, ?_⟩
  · rw [e] at h; exact List.mem_reverse.mp h
  · rw [e]; exact List.pairwise_reverse.mpr (gz.nd.imp fun h => h.symm)
theorem rev_ne {z : Str} (gz : LB.Good z) : revS z ≠ z := fun h => by
  have e := revS_list (z := z)
  rw [h] at e
  have lo := gz.lo
  have l0 : 0 < z.cps.toList.length := by rw [Array.length_toList]; omega
  have l1 : z.cps.toList.length - 1 < z.cps.toList.length := by omega
  have q : z.cps.toList[0] = z.cps.toList[z.cps.toList.length - 1] := by
    have h0 : z.cps.toList[0]? = z.cps.toList.reverse[0]? := by rw [← e]
    rw [List.getElem?_reverse (by omega), List.getElem?_eq_getElem l0, List.getElem?_eq_getElem (by omega)] at h0
    simpa using h0
  have := (List.getElem_inj gz.nd).mp q
  rw [Array.length_toList] at this
  omega
theorem good_mn : LB.Good "mn" := ⟨by decide +kernel, by decide +kernel, by decide +kernel, by decide +kernel⟩
theorem rep_ns (m : Nat) : (List.replicate m [dV (.int 1)]).flatten = (List.replicate m 1).map dN := by
  induction m with
  | zero => rfl
  | succ m ih => rw [List.replicate_succ, List.replicate_succ, List.flatten_cons, ih]; rfl
def fsMixed (CV CC CL : Addr) (q : Str) : FS := fun ds O Q _ => ∃ (j N m : Nat) (z : Str) (rows : List (List Nat)), ds = [.ow j, .fr (dVals CV CC z), .fr (dLst ((rows.map fun n => (z, n)).map (dLn CV CC CL)))] ∧ LB.Good z ∧ z ≠ "mn" ∧ 1 ≤ rows.length ∧ rows.length ≤ 5 ∧ 1 ≤ m ∧ m ≤ 7 ∧
  (∀ r ∈ rows, Row z.cps.size r ∧ r.length = m) ∧ O[j]? = some (pB N) ∧ N < 880000 ∧ (∀ N', OwS q (O.set j (pB N'))) ∧ ∀ N', N' ≤ N + 60 → Q (fBl true) (O.set j (pB N'))
end
section
variable {P : Program} {w : World} {K : PySem.W.Frag} {mg : Str → Option Value} {base : Heap} {CV CC CL CN CU : Addr}
theorem okd_mixed {f gh : Addr} {fd fdh : FuncData} {p : He.Defn} (F : Fun K "_law_mixed_right" "_law_mixed_right" s_law_mixed_right f fd) (hf : He.fAd K p = f) (B : Blt mg) (VV : VF K CV CC) (LL : LF K CL)
    (FH : Fun K "_law_heard" "_law_heard" s_law_heard gh fdh) (gH : mg "_law_heard" = some (.ref gh)) (bH : Binds K fdh ["_law_ask"] []) (GH : GivesS P w K mg base 9 ["_law_ask", "_law_caught", "error"] "_law_heard" s_law_heard gh "_law_ask" (TTof fnU (fxU CN CU)))
    (TB : LamX.TabB base mg (He.cT K p).1 (He.cT K p).2) (D_law_draw : HDraw P w K mg base) (D_law_pick : HasFn P w K mg base CX0 2 "_law_pick" ["_law_pen_here", "_law_some"] (spD fsPick)) (D_law_row : HasFn P w K mg base CX0 4 "_law_row" ["_law_pen_here", "_law_many", "_law_longest"] (spD fsRowD))
    (M_Values : HasMk P w K mg base CX0 4 CV "Values" ["self", "letters"] (spVals CV CC)) (D_cells : HasPr P w K mg base CX0 1 CL "cells" ["self"] (spD (fsCells CV CC CL))) (D_lenV : HasMe P w K mg base CX0 1 CV "__len__" ["self"] (spD (fsLenV CV CC)))
    (D_law_line : HasFn P w K mg base CX0 7 "_law_line" ["_law_ground", "_law_row_here"] (spD (fsLineP CV CC CL))) (D_join : HasFn P w K mg base (L2.CX P w) 8 "join" ["lines"] (spD (fsJoin CV CC CL CN CU))) :
    FnOk P w K mg base CX0 11 f fd ["_law_pen_here", "_law_ground", "_law_some"] (spDT [(0, (He.cT K p).2)] (fsMixed CV CC CL "_law_mixed_right.<locals>.<lambda>")) := by
  refine okDTc F hf sc_law_mixed_right (fun ds O Q KX h => ?_) (fun cdv A outer s H E code hr b ds O Q KX h _ atT => ?_)
  · obtain ⟨j, N, m, z, rows, rfl, _⟩ := h; rfl
  · obtain ⟨j, N, m, z, rows, rfl, gz, nmn, l1, l5, m1, m7, hrow, hj, hN, hS, k⟩ := h
    have hT : b.as[0]? = some (He.cT K p).2 := atT (0, (He.cT K p).2) (List.mem_singleton.mpr rfl)
    have big : 5000 ≤ sizeLine := by decide
    have hi := gz.hi
    have lo := gz.lo
    have om : ∀ N', OwMut (O.set j (pB N')) := fun N' => (hS N').m
    obtain ⟨r0, hr00⟩ : ∃ r0, rows[0]? = some r0 := ⟨_, List.getElem?_eq_getElem (by omega)⟩
    have mr0 := List.mem_of_getElem? hr00
    have hr0 := hrow r0 mr0
    refine ⟨_, (pss_cons (ps_set (i := 3) sc_law_mixed_right.nd rfl (.inl rfl) (pe_callB call_len (by rfl) B.n_len (by decide +kernel) (pa_cons (pe_pr (pe_ix ix_list (pv 2) pe_int (fun _ _ => rfl)) D_cells LL.cl (hr.mono (by decide)) pass0 rfl) pa_nil)))
      (pss_cons (ps_set (i := 4) sc_law_mixed_right.nd rfl (.inl rfl) (pe_fn D_law_line (hr.mono (by decide)) pass0 (pa_cons (pv 1) (pa_cons (pe_op op_cat (pe_fn D_law_row (hr.mono (by decide)) pass0 (pa_cons (pv 0) (pa_cons (pe_callB (call_lenMe D_lenV (hr.mono (by decide)) pass0) (by rfl) B.n_len (by decide +kernel) (pa_cons (pv 1) pa_nil)) (pa_cons pe_int pa_nil)))) (pe_op op_rep (pe_lst (pa_cons pe_int pa_nil)) (pv 3))) pa_nil))))
      (pss_cons (ps_set (i := 5) sc_law_mixed_right.nd rfl (.inl rfl) (pe_mk M_Values (hr.mono (by decide)) pass0 (pa_cons (pe_fn D_law_pick (hr.mono (by decide)) pass0 (pa_cons (pv 0) (pa_cons (pe_lst (pa_cons pe_str (pa_cons (pe_revS (pe_fld (pv 1) rfl)) pa_nil))) pa_nil))) pa_nil)))
      (pss_cons (ps_set (i := 6) sc_law_mixed_right.nd rfl (.inl rfl) (pe_fn D_law_line (hr.mono (by decide)) pass0 (pa_cons (pv 5) (pa_cons (pe_lc rfl sc_law_mixed_right.nd (pi_range1 (by rfl) B.n_range (pa_cons (pe_fn D_law_pick (hr.mono (by decide)) pass0 (pa_cons (pv 0) (pa_cons (pe_lst (pa_cons (pv 3) (pa_cons pe_int (pa_cons (pe_op op_add (pv 3) pe_int) pa_nil)))) pa_nil))) pa_nil)) (blkOk_by (own := [("_law_k", 11)]) (N := ["_law_pen_here", "_law_ground", "_law_some", "_law_many", "_law_longer", "_law_strange", "_law_far", "_law_spot", "_law_way", "_law_mixed", "_law_due_here", "_law_k"]) (sc := defScope s_law_mixed_right) (by decide +kernel)) (fun _ _ _ _ _ => (pg_name (i := 11) sc_law_mixed_right.nd rfl (.inl rfl))) (fun _ _ _ _ _ => pts_nil) (fun _ _ _ _ _ => (pe_op op_add pe_int (pe_fn D_law_draw (hr.mono (by decide)) pass0 (pa_cons (pv 0) (pa_cons pe_int pa_nil)))))) pa_nil))))
      (pss_cons (ps_par (i := 7) (j := 8) rfl sc_law_mixed_right.nd rfl rfl (by decide) rfl rfl (pa_cons (pe_fn D_law_draw (hr.mono (by decide)) pass0 (pa_cons (pv 0) (pa_cons (pe_op op_add (pe_callB call_len (by rfl) B.n_len (by decide +kernel) (pa_cons (pv 2) pa_nil)) pe_int) pa_nil))) (pa_cons (pe_fn D_law_draw (hr.mono (by decide)) pass0 (pa_cons (pv 0) (pa_cons pe_int pa_nil))) pa_nil)) (by rfl))
      (pss_cons (ps_set (i := 9) sc_law_mixed_right.nd rfl (.inr rfl) (pe_op op_cat (pe_op op_cat (pe_slice sl_list (pv 2) po_none (po_some (pv 7))) (pe_ix ix_list (pe_lst (pa_cons (pe_lst (pa_cons (pv 4) pa_nil)) (pa_cons (pe_lst (pa_cons (pv 6) pa_nil)) (pa_cons (pe_lst (pa_cons (pv 4) (pa_cons (pv 6) pa_nil))) pa_nil)))) (pv 8) (fun _ _ => rfl))) (pe_slice sl_list (pv 2) (po_some (pv 7)) po_none)))
      (pss_cons (ps_set (i := 10) sc_law_mixed_right.nd rfl (.inl rfl) (pe_tup (pa_cons pe_str (pa_cons (pe_ifExp (pt_cmpR op_eq (pv 8) pe_int (nomark _)) pe_str pe_str) pa_nil))))
      (pss_one (ps_ret (pe_cmpR (op_eqD (Room.u64 hr)) (pe_lamS FH gH bH sc_law_heard rfl (.inl rfl) GH TB code (hr.mono (by decide)) (LamX.lamS_by (by show LamX.lamSB (defScope s_law_mixed_right) _ = true; decide +kernel)) rfl (fun _ _ _ _ _ => rfl) (fun A outer s H E f c' r => (pe_fn D_join (r.mono (by decide)) passE (pa_cons (pv 9) pa_nil)))) (pv 10) (nomark _))))))))))), ?_⟩
    walk_at "dl"
    refine Op2.ixL .fr (x := dLn CV CC CL (z, r0)) (atI_nat (j := 0) (by rw [List.getElem?_map, List.getElem?_map, hr00]; rfl)) ?_
    refine ⟨dLine.ins, z, r0, _, rfl, LineD.fr, ?_⟩
    walk_at "dl"
    refine OpN.lenT ?_
    walk_at "dl"
    rw [List.length_map, hr0.2]
    refine OpN.lenOwn dVals.ins ⟨z, rfl, gz, _, rfl, by omega, by omega, ?_⟩
    walk_at "dl"
    refine ⟨j, N, z.cps.size, 3, rfl, hj, by omega, by omega, hi, by decide, by decide, fun ns N1 n1 n3 rns hN1 => ?_⟩
    walk_at "dl"
    refine Ev.lst ?_
    walk_at "dl"
    refine ⟨[dV (.int 1)], rfl, by show 1 ≤ sizeLine; omega, ?_⟩
    walk_at "dl"
    refine Op2.rep (by omega) (by omega) (by rw [Int.toNat_natCast]; show 1 * m ≤ _; omega) ?_
    rw [Int.toNat_natCast, rep_ns]
    refine Op2.cat (by rw [List.length_map, List.length_map, List.length_replicate]; omega) ?_
    rw [← List.map_append]
    walk_at "dl"
    have rlong : Row z.cps.size (ns ++ List.replicate m 1) := fun x hx => (List.mem_append.mp hx).elim (rns x) fun h => by
      rw [(List.mem_replicate.mp h).2]
      exact ⟨by decide, Nat.lt_of_lt_of_le (by decide : 1 < 2 ^ 2) (Nat.pow_le_pow_right (by decide) lo)⟩
    have llong : (ns ++ List.replicate m 1).length = ns.length + m := by rw [List.length_append, List.length_replicate]
    refine ⟨z, ns ++ List.replicate m 1, rfl, gz, by omega, by omega, rlong, ?_⟩
    walk_at "dl"
    refine Ev.mkVals ?_
    walk_at "dl"
    refine Ev.lst ?_
    walk_at "dl"
    refine Ev.revS ?_
    walk_at "dl"
    refine ⟨_, dVals.let VV, z, rfl, good_len gz, ?_⟩
    walk_at "dl"
    refine ⟨[dV (.str "mn"), dV (.str (revS z))], rfl, by show 2 ≤ sizeLine; omega, ?_⟩
    walk_at "dl"
    refine ⟨j, N1, _, rfl, ow_set _ hj, by show 0 < 2; decide, by show 2 < 1000000; decide, by omega, fun x hx => ?_⟩
    rw [List.set_set]
    obtain ⟨y, rfl, gy, yz⟩ : ∃ y : Str, x = dV (.str y) ∧ LB.Good y ∧ y ≠ z := by
      simp only [List.mem_cons, List.not_mem_nil, or_false] at hx
      rcases hx with rfl | rfl
      · exact ⟨_, rfl, good_mn, fun e => nmn e.symm⟩
      · exact ⟨_, rfl, good_rev gz, rev_ne gz⟩
    walk_at "dl"
    refine ⟨y, rfl, gy, om _, ?_⟩
    walk_at "dl"
    refine Ev.lcI (Tame.name (by decide)) (EvI.range1 ?_)
    walk_at "dl"
    refine Ev.lst ?_
    walk_at "dl"
    refine ⟨[dN m, dN 1, dN (m + 2)], rfl, by show 3 ≤ sizeLine; omega, ?_⟩
    walk_at "dl"
    refine ⟨j, N1 + 1, _, rfl, ow_set _ hj, by show 0 < 3; decide, by show 3 < 1000000; decide, by omega, fun x hx => ?_⟩
    rw [List.set_set]
    obtain ⟨c, rfl, c1, c9⟩ : ∃ c : Nat, x = dN c ∧ 1 ≤ c ∧ c ≤ 9 := by
      simp only [List.mem_cons, List.not_mem_nil, or_false] at hx
      rcases hx with rfl | rfl | rfl
      · exact ⟨m, rfl, m1, by omega⟩
      · exact ⟨1, rfl, by decide, by decide⟩
      · exact ⟨m + 2, rfl, by omega, by omega⟩
    walk_at "dl"
    refine ⟨_, rfl, by omega, by omega, fun i acc O2 => ∃ fs, acc = fs.map dN ∧ fs.length = i ∧ (∀ x ∈ fs, x ≠ 0 ∧ x < 4) ∧ O2 = O.set j (pB (N1 + 2 + i)), ⟨[], rfl, rfl, fun _ h => (nomatch h), rfl⟩, by rw [List.length_map, List.length_range]; omega, ?_, ?_⟩
    · rintro i d0 acc O2 hd0 _ ⟨fs, rfl, hf, rf, rfl⟩
      have li : i < c := by
        have := (List.getElem?_eq_some_iff.mp hd0).1
        rw [List.length_map, List.length_range] at this
        omega
      refine EvG.name ?_
      walk_at "dl"
      refine ⟨fun _ => ?_, fun c => (nomatch c)⟩
      walk_at "dl"
      refine ⟨j, _, 3, rfl, ow_set _ hj, by decide, by decide, by omega, fun d hd => ?_⟩
      rw [List.set_set]
      walk_at "dl"
      refine ⟨_, rfl, fs ++ [1 + d], ?_, by rw [List.length_append, hf]; rfl, fun x hx => (List.mem_append.mp hx).elim (rf x) fun h => ?_, ?_⟩
      · rw [List.map_append]; show _ ++ [_] = _ ++ [_]; congr 3
      · rw [List.mem_singleton.mp h]; have : (d : Int) < 3 := hd; omega
      · rfl
    rintro acc O2 ⟨fs, rfl, hf, rf, rfl⟩
    rw [List.length_map, List.length_range, Int.toNat_natCast] at hf
    rw [List.length_map, List.length_range, Int.toNat_natCast]
    have rfar : Row y.cps.size fs := fun x hx => ⟨(rf x hx).1, Nat.lt_of_lt_of_le (rf x hx).2 (Nat.le_trans (by decide : 4 ≤ 2 ^ 2) (Nat.pow_le_pow_right (by decide) gy.lo))⟩
    walk_at "dl"
    refine ⟨y, fs, rfl, gy, by omega, by omega, rfar, ?_⟩
    walk_at "dl"
    refine OpN.len .fr ?_
    walk_at "dl"
    refine ⟨j, _, _, rfl, ow_set _ hj, by omega, by rw [List.length_map, List.length_map]; omega, by omega, fun sp hsp => ?_⟩
    have hsp : sp ≤ (rows.map fun n => (z, n)).length := by have h2 := hsp; rw [List.length_map] at h2; omega
    rw [List.set_set]
    walk_at "dl"
    refine ⟨j, _, _, rfl, ow_set _ hj, by decide, by decide, by omega, fun way hway => ?_⟩
    have hway : way < 3 := by have : (way : Int) < 3 := hway; omega
    rw [List.set_set]
    walk_at "dl"
    refine ⟨_, _, rfl, ?_⟩
    have hOc := hS (N1 + 2 + c + 1 + 1)
    have hk : ∀ r, cutR O.length Q (fBl true) (O.set j (pB (N1 + 2 + c + 1 + 1)) ++ r) := fun r => cut_setapp (k _ (by omega))
    generalize O.set j (pB (N1 + 2 + c + 1 + 1)) = Oc at hOc hk ⊢
    walk_at "nrm"
    walk_at "dl"
    refine ⟨sp, rfl, OpS.lst .fr ?_⟩
    walk_at "dl"
    refine Ev.lst ?_
    refine EvA.cons (Ev.lst ?_)
    walk_at "dl"
    refine ⟨_, rfl, by show 1 ≤ sizeLine; omega, ?_⟩
    refine EvA.cons (Ev.lst ?_)
    walk_at "dl"
    refine ⟨_, rfl, by show 1 ≤ sizeLine; omega, ?_⟩
    refine EvA.cons (Ev.lst ?_)
    walk_at "dl"
    refine ⟨_, rfl, by show 2 ≤ sizeLine; omega, ?_⟩
    walk_at "dl"
    refine ⟨_, rfl, by show 3 ≤ sizeLine; omega, ?_⟩
    walk_at "dl"
    -- what is put between
    obtain ⟨X, hX, hXw⟩ : ∃ X : List (Str × List Nat), ([[(z, ns ++ List.replicate m 1)], [(y, fs)], [(z, ns ++ List.replicate m 1), (y, fs)]] : List (List (Str × List Nat)))[way]? = some X ∧ ((way = 0 ∧ X = [(z, ns ++ List.replicate m 1)]) ∨ (way ≠ 0 ∧ (y, fs) ∈ X ∧ X.length ≤ 2 ∧ ∀ p ∈ X, p.2.length ≤ 4001)) := by
      rcases (show way = 0 ∨ way = 1 ∨ way = 2 by omega) with rfl | rfl | rfl
      · exact ⟨_, rfl, .inl ⟨rfl, rfl⟩⟩
      · refine ⟨_, rfl, .inr ⟨by decide, List.mem_singleton.mpr rfl, by show 1 ≤ 2; decide, fun p hp => ?_⟩⟩
        rw [List.mem_singleton.mp hp]; show fs.length ≤ 4001; omega
      · refine ⟨_, rfl, .inr ⟨by decide, by simp, by show 2 ≤ 2; decide, fun p hp => ?_⟩⟩
        simp only [List.mem_cons, List.not_mem_nil, or_false] at hp
        rcases hp with rfl | rfl
        · show (ns ++ _).length ≤ 4001; omega
        · show fs.length ≤ 4001; omega
    refine Op2.ixL .fr (x := dLst (X.map (dLn CV CC CL))) (atI_nat ?_) ?_
    · have e : ([dLst [dLine CV CC CL z (ns ++ List.replicate m 1)], dLst [dLine CV CC CL y fs], dLst [dLine CV CC CL z (ns ++ List.replicate m 1), dLine CV CC CL y fs]] : List D) = ([[(z, ns ++ List.replicate m 1)], [(y, fs)], [(z, ns ++ List.replicate m 1), (y, fs)]] : List (List (Str × List Nat))).map fun l => dLst (l.map (dLn CV CC CL)) := rfl
      exact (congrArg (·[way]?) e).trans (by rw [List.getElem?_map, hX]; rfl)
    have lX : X.length ≤ 2 := by rcases hXw with ⟨_, rfl⟩ | ⟨_, _, h, _⟩ <;> first | exact h | (show 1 ≤ 2; decide)
    have lall : (rows.map fun n => (z, n)).length ≤ 5 := by rw [List.length_map]; exact l5
    rw [cut_to (by rw [List.length_map]; exact hsp)]
    refine Op2.cat (by simp only [List.length_take, List.length_map] at lall hsp ⊢; omega) ?_
    walk_at "dl"
    refine ⟨sp, rfl, ?_⟩
    walk_at "dl"
    refine OpS.lst .fr ?_
    rw [cut_from (by rw [List.length_map]; exact hsp)]
    refine Op2.cat (by simp only [List.length_append, List.length_drop, List.length_take, List.length_map] at lall hsp ⊢; omega) ?_
    rw [← List.map_take, ← List.map_drop, ← List.map_append, ← List.map_append]
    generalize hall : (rows.map fun n => (z, n)) = all at *
    have allz : ∀ p ∈ all, p.1 = z ∧ p.2.length = m := fun p hp => by
      rw [← hall] at hp
      obtain ⟨r, hr, rfl⟩ := List.mem_map.mp hp
      exact ⟨rfl, (hrow r hr).2⟩
    have all0 : (z, r0) ∈ all := by rw [← hall]; exact List.mem_map_of_mem mr0
    generalize hps : all.take sp ++ X ++ all.drop sp = ps
    have lps : ps.length ≤ 100 := by rw [← hps, List.length_append, List.length_append, List.length_take, List.length_drop]; omega
    have mps : ∀ p, p ∈ ps ↔ p ∈ all ∨ p ∈ X := fun p => by
      rw [← hps, List.mem_append, List.mem_append]
      have : p ∈ all ↔ p ∈ all.take sp ∨ p ∈ all.drop sp := by rw [← List.mem_append, List.take_append_drop]
      rw [this]
      constructor
      · rintro ((h | h) | h)
        · exact .inl (.inl h)
        · exact .inr h
        · exact .inl (.inr h)
      · rintro ((h | h) | h)
        · exact .inl (.inl h)
        · exact .inr h
        · exact .inl (.inr h)
    have lens : ∀ p ∈ ps, p.2.length ≤ 4001 := fun p hp => by
      rcases (mps p).mp hp with h | h
      · rw [(allz p h).2]; omega
      · rcases hXw with ⟨_, rfl⟩ | ⟨_, _, _, h3⟩
        · rw [List.mem_singleton.mp h]; show (ns ++ _).length ≤ 4001; omega
        · exact h3 p h
    obtain ⟨⟨z0, n0⟩, r, eps⟩ : ∃ p0 r, ps = p0 :: r := by
      cases ps with
      | nil => exact absurd ((mps _).mpr (.inl all0)) (fun h => nomatch h)
      | cons p0 r => exact ⟨p0, r, rfl⟩
    walk_at "dl"
    refine Ev.tup ?_
    walk_at "dl"
    refine Op2.eq rfl ⟨_, rfl, fun c0 => ?_, fun c0 => ?_⟩
    · have w0 : way = 0 := by have := of_decide_eq_true c0; injection this with this; omega
      walk_at "dl"
      refine ⟨_, rfl, by show 2 ≤ sizeLine; omega, ?_⟩
      walk_at "dl"
      refine Ev.lam hT hOc.tab hOc.n (fun bw E gw rr => ?_)
      walk_at "dl"
      refine Ev.callX rr ?_
      walk_at "dl"
      have hX0 : X = [(z, ns ++ List.replicate m 1)] := by rcases hXw with ⟨_, h⟩ | ⟨h, _⟩ <;> first | exact h | exact absurd w0 h
      have allz' : ∀ p ∈ ps, p.1 = z := fun p hp => by
        rcases (mps p).mp hp with h | h
        · exact (allz p h).1
        · rw [hX0] at h; rw [List.mem_singleton.mp h]
      have z0z : z0 = z := allz' (z0, n0) (by rw [eps]; exact List.mem_cons_self)
      refine ⟨_, ps, 0, rfl, .inl rfl, lps, lens, .inr (.inr (.inl ⟨z0, n0, r, eps, fun p hp => (allz' p hp).trans z0z.symm, ?_, ?_⟩))⟩
      · by_cases h : n0.length = m
        · refine ⟨(z, ns ++ List.replicate m 1), (mps _).mpr (.inr (by rw [hX0]; exact List.mem_singleton.mpr rfl)), ?_⟩
          show (ns ++ _).length ≠ _
          omega
        · exact ⟨(z, r0), (mps _).mpr (.inl all0), by rw [(allz _ all0).2]; exact fun e => h e.symm⟩
      · refine ⟨_, .inr ⟨rfl, rfl, ?_⟩⟩
        refine Ev.var rfl ?_
        refine Op2.eqD (p1 := .tuple [.str "unlike", .str "length"]) (p2 := .tuple [.str "unlike", .str "length"]) (.tup (.cons .str (.cons .str .nil))) (.tup (.cons .str (.cons .str .nil))) (by decide +kernel) (by decide +kernel) ?_
        rw [show PyData.eqv (.tuple [.str "unlike", .str "length"]) (.tuple [.str "unlike", .str "length"]) = true by decide +kernel]
        have := hk []
        rw [List.append_nil] at this
        exact this
    · have w0 : way ≠ 0 := fun e => by subst e; exact absurd c0 (by decide)
      walk_at "dl"
      refine ⟨_, rfl, by show 2 ≤ sizeLine; omega, ?_⟩
      walk_at "dl"
      refine Ev.lam hT hOc.tab hOc.n (fun bw E gw rr => ?_)
      walk_at "dl"
      refine Ev.callX rr ?_
      walk_at "dl"
      have hXy : (y, fs) ∈ X := by rcases hXw with ⟨h, _⟩ | ⟨_, h, _⟩ <;> first | exact h | exact absurd h w0
      refine ⟨_, ps, 0, rfl, .inl rfl, lps, lens, .inr (.inl ⟨z0, n0, r, eps, ?_, ?_⟩)⟩
      · by_cases h : z0 = z
        · exact ⟨(y, fs), (mps _).mpr (.inr hXy), by rw [h]; exact yz⟩
        · exact ⟨(z, r0), (mps _).mpr (.inl all0), fun e => h e.symm⟩
      · refine ⟨_, .inr ⟨rfl, rfl, ?_⟩⟩
        refine Ev.var rfl ?_
        refine Op2.eqD (p1 := .tuple [.str "unlike", .str "values"]) (p2 := .tuple [.str "unlike", .str "values"]) (.tup (.cons .str (.cons .str .nil))) (.tup (.cons .str (.cons .str .nil))) (by decide +kernel) (by decide +kernel) ?_
        rw [show PyData.eqv (.tuple [.str "unlike", .str "values"]) (.tuple [.str "unlike", .str "values"]) = true by decide +kernel]
        have := hk []
        rw [List.append_nil] at this
        exact this
end
end K41

namespace LB
open PySem L2 PySem.Spec PyProof.Rows
/-! ### f(k = e, ..) -/
/-- a def, called by keywords in the parameters' order -/
def HasFnK (P : Program) (w : World) (K : PySem.W.Frag) (mg : Str → Option Value) (base : Heap) (CX : CXT) (k : Nat) (x : Str) (ps : List Str) (sp : Sp) : Prop :=
  ∃ (f : Addr) (fd : FuncData), FnOk P w K mg base CX k f fd ps sp ∧ mg x = some (.ref f) ∧ PySem.W.keepIn K (.ref f) = true ∧ ∀ (s : Shared) (ws : List Value), K.In s.heap → ws.length = ps.length → BindsTo s fd ⟨[], ps.zip ws⟩ (ps.zip ws)
section
variable {X : Cx} {CX : CXT} {k : Nat} {ps : List Str} {sp : Sp} {E : XK} {x : Str} {kws : List Keyword} {tk : TA} {p pos : Pos}
theorem pe_fnK (h : HasFnK X.prog X.w X.K X.mg X.base CX k x ps sp) (hr : Room k X.A) (hx : Passes CX X E) (hkw : PK X kws tk) (hg : Gl X x := by rfl) (hdb : (x == ("__debug__" : Str)) = false := by decide)
    (hall : (backToKw pos (keywordEach kws X.env)).all (·.1.isSome) = true := by rfl) (hks : (backToKw pos (keywordEach kws X.env)).filterMap (·.1) = ps := by rfl)
    (hpl : ((backTo pos (starEach [] X.env)).any (·.1) || (backToKw pos (keywordEach kws X.env)).any (·.1.isNone)) = false := by rfl) :
    PE X (.Call (.Name x p) [] kws pos) (tCall sp [] E tk) := by
  obtain ⟨f, fd, F, hm, hk, hb⟩ := h
  refine ⟨fun pins s σ H Q I hq => ?_⟩
  refine wpAny_Call_Name_kw (ld_glob I hg hm ?_ hdb)
  refine PySem.W.callWith_KW0 (first := []) (h₀ := X.base) I.ok.mod.kin hk hall ?_ hpl
  refine thn (hkw.run pos pins s σ H _ I hq) fun ws s2 ⟨zs, H2, I2, rz, q2⟩ => ⟨I2.kIn, ?_⟩
  rw [hks]
  have q2 : sp (zs ++ []) H2 Q E := q2
  rw [List.append_nil] at q2
  refine wpAny_call (codeAny_mono (F.run X.A X.stack s2 H2 ⟨[], ps.zip ws⟩ ws zs Q E hr I2.env0 (hb s2 ws I2.kIn (rz.length.symm.trans (F.len _ _ _ _ q2))) rz q2) fun r s' z => ?_)
  cases r with
  | error e => exact hx pins σ H2 s2 e s' I2 z
  | ok fl =>
    cases fl with
    | ret u => exact I2.after z
    | next => exact False.elim z
    | brk => exact False.elim z
    | cont => exact False.elim z
end
section
variable {P : Program} {w : World} {K : PySem.W.Frag} {mg : Str → Option Value} {base h : Heap} {CX : CXT}
theorem has_fnK {f : Addr} {x : Str} {st : Stmt} {ps : List Str} {k : Nat} {sp : Sp} (X : K.In h) (G : h.Ns mainGlobals mg) (a : PySem.W.nsIn K mainGlobals x = some (some (.ref f))) (F : FnX K f x x st)
    (hb : ∀ (kV doc pm : Value) (an : Option Addr) (cdv ct : Value) (ws : List Value), ws.length = ps.length → bindArgs (PySem.W.fnOf x x (defArgs st) (defBody st) (defScope st) .none kV doc pm an cdv ct) ⟨[], ps.zip ws⟩ = pure (ps.zip ws))
    (ok : ∀ fd, Fun K x x st f fd → FnOk P w K mg base CX k f fd ps sp) : HasFnK P w K mg base CX k x ps sp := by
  obtain ⟨fd, F'⟩ := F.get
  refine ⟨f, fd, ok fd F', PySem.W.mg_of X G a, F.kp, fun s ws _ h => ?_⟩
  obtain ⟨oc, od, kV, doc, pm, an, cdv, ct, osl, e1, e2, e3⟩ := F'.ex
  subst e1
  exact .of_eq (hb kV doc pm an cdv ct ws h)
end
/-- a comprehension's own scope -/
def lcSc : Expr → Scope
  | .ListComp _ _ sc _ => sc
  | _ => default
def asgE : Stmt → Expr
  | .Assign _ e _ => e
  | _ => .Constant .none 0 ⟨0, 0, 0, 0⟩
def forB : Stmt → List Stmt
  | .For _ _ b _ _ => b
  | _ => []
end LB

namespace K41
open PySem L2 LB PyProof.Rows DL
abbrev s_law : Stmt := top 60
theorem sc_law : FnScope ["_law_script", "_law_pen_here", "_law_turn", "_law_heard_here", "_law_ground", "_law_many", "_law_rows", "_law_some", "_law_given", "_law_found", "_law_turn_so", "_law_row_here", "_law_k", "_law_strip"] ["_law_script"] (defScope s_law) := ⟨rfl, rfl, rfl, by decide +kernel, rfl, by decide +kernel, by decide +kernel⟩
local macro_rules | `(tactic| walk_at "nrm") => `(tactic| refine EvS.as (by (try simp only [stE, List.map_cons, List.map_nil, List.length_cons, List.length_nil, List.replicate, List.cons_append, List.nil_append, List.set_cons_zero, List.set_cons_succ]); exact rfl) ?_)
local macro_rules | `(tactic| walk_at "dl") => `(tactic| repeat (first
  | (with_reducible show EvS _ _ (List.set _ _ _) _ _; walk_at "nrm") | (with_reducible show EvS _ _ (stE _ _) _ _; walk_at "nrm")
  | (with_reducible show Ev _ (tVar _) _ _ _; refine Ev.var rfl ?_) | with_reducible refine' Ev.con ?_ | with_reducible refine' EvA.cons ?_ | with_reducible refine' EvA.nil ?_
  | with_reducible refine' Ev.op ?_ | with_reducible refine' Ev.un ?_ | with_reducible refine' Ev.cb ?_ | with_reducible refine' Ev.call ?_ | with_reducible refine' Ev.meth ?_ | with_reducible refine' Ev.prop ?_
  | with_reducible refine' EvT.tB ?_ | with_reducible refine' EvT.test ?_ | with_reducible refine' EvT.and ?_ | with_reducible refine' EvT.or ?_ | with_reducible refine' EvT.not ?_
  | with_reducible refine' Ev.andV ?_ | with_reducible refine' Ev.orV ?_ | with_reducible refine' Ev.notV ?_ | with_reducible refine' Ev.ifE ?_ | with_reducible refine' Ev.fld ?_ | with_reducible refine' Ev.sl ?_ | with_reducible refine' Ev.m1 ?_ | with_reducible refine' Ev.bm ?_ | with_reducible refine' Ev.bm0 ?_
  | with_reducible refine' EvS.seq ?_ | with_reducible refine' EvS.next ?_ | with_reducible refine' EvS.ite ?_ | with_reducible refine' EvS.ret ?_ | with_reducible refine' EvS.set ?_ | with_reducible refine' EvS.drp ?_ | with_reducible refine' EvS.par ?_ | with_reducible refine' EvS.asg ?_ | with_reducible refine' EvG.name ?_
  | with_reducible refine' Op2.i0 ?_ | with_reducible refine' Op1.i ?_ | with_reducible refine' EvT.yes ?_ | with_reducible refine' EvO.no ?_ | with_reducible refine' EvO.part ?_))
theorem OpS.sq {b : Wd} {O : Ow} {KF : PySem.W.Frag} {K : DK} {xs : List V} {lo hi : Option Int} (k : K (.fr (dLst ((cutV xs lo hi).map dV))) O) : OpS b (rSlL KF) (.fr (dSq KF xs)) lo hi O K := fun w x e o p Q n => by
  obtain ⟨a, rfl, f⟩ := p
  exact ⟨a, xs, rfl, o.sub.seq f, fun p n1 => n _ O _ ⟨w.as, upd w.F p _, upd w.H p _⟩ k (Grow.new o _ n1) (o.new _ n1) ⟨p, _, rfl, upd_same, LsP.vals _⟩⟩
theorem Ev.weakR {b : Wd} {en : En} {O : Ow} {te : TE} {K : DK} (h : Ev b te en O fun d O' => ∃ k x y, O'[k]? = some (some x) ∧ (∀ F o, x.p F o → y.p F o) ∧ K d (O'.set k (some y))) : Ev b te en O K := fun w σ e o en' Q q => h w σ e o en' Q fun d O' v w' ⟨k, x, y, hk, i, kk⟩ g o p => q d _ v w' kk g (o.weak hk i) p
section
variable {P : Program} {w : World} {K : PySem.W.Frag} {mg : Str → Option Value} {base : Heap} {CV CC CL CR : Addr}
def fsPenS (KF : PySem.W.Frag) : FS := fun ds O Q _ => ∃ ns : List Int, ds = [.fr (dSq KF (ns.map V.int))] ∧ Q (.ow O.length) (O ++ [pB 0])
theorem okd_pen {f : Addr} {fd : FuncData} (F : Fun K "_law_pen" "_law_pen" s_law_pen f fd) (B : Blt mg) : FnOk P w K mg base CX0 1 f fd ["_law_script"] (spD (fsPenS K)) := by
  refine okD F sc_law_pen (fun ds O Q KX h => ?_) (fun cdv A outer s H E hr b ds O Q KX h _ => ?_)
  · obtain ⟨ns, rfl, _⟩ := h; rfl
  · obtain ⟨ns, rfl, kq⟩ := h
    refine ⟨_, (pss_one (ps_ret (pe_lst (pa_cons (pe_callTy call_list_of (by rfl) B.n_list (by decide +kernel) (pa_cons (pe_slice sl_list (pv 0) po_none (po_some pe_int)) pa_nil)) (pa_cons pe_int (pa_cons pe_int pa_nil)))))), ?_⟩
    obtain ⟨ms, e⟩ := cut_ints ns none (some 63)
    refine EvS.ret (Ev.weakR (Ev.lstO ?_))
    walk_at "dl"
    refine ⟨63, rfl, OpS.sq ?_⟩
    rw [e]
    walk_at "dl"
    refine OpN.listF (.inl .fr) ?_
    walk_at "dl"
    refine ⟨_, rfl, by show 3 ≤ sizeLine; decide, O.length, _, oPenB 0, ow_last, ?_, ?_⟩
    · rintro F o ⟨vs, rfl, p⟩
      cases p with
      | cons p1 p => cases p with
        | cons p2 p => cases p with
          | cons p3 p => cases p with
            | nil =>
              obtain ⟨a, us, rfl, f, q⟩ := p1
              have := q.eq
              subst this
              have p2 : _ = V.int 0 := p2
              have p3 : _ = V.int 0 := p3
              subst p2; subst p3
              exact ⟨ms, 0, 0, a, Int.le_refl _, Int.le_refl _, rfl, f⟩
    · rw [ow_lastset]; exact kq
end
theorem passX0 {X : Cx} : Passes (L2.CX X.prog X.w) X E0 := fun _ _ _ _ _ _ _ ⟨_, _, _, _, _, _, _, _, _, _, _, _, h⟩ => h.elim
section
variable {P : Program} {w : World} {K : PySem.W.Frag} {mg : Str → Option Value} {base : Heap} {CV CC CL CN CU : Addr}
abbrev q1 : Str := "_law_mixed_right.<locals>.<lambda>"
abbrev q2 : Str := "law.<locals>.<lambda>"
abbrev oB (N : Nat) (r : Ow) : Ow := some (oTab q1) :: some (oTab q2) :: pB N :: r
theorem mutN {r : Ow} (h : ∀ x ∈ r, x = none) : OwMut r := fun k od q => by
  have := h _ (List.mem_of_getElem? q)
  cases this
theorem owm {N : Nat} {r : Ow} (h : ∀ x ∈ r, x = none) : OwMut (oB N r) := .cons mutTab (.cons mutTab (.cons mutPen (mutN h)))
theorem own_ {N : Nat} {r : Ow} (h : OwL r) : OwN (oB N r) := .tab (.tab (.pen (by simpa using OwN.nil.appL h)))
theorem dpNs (ns : List Nat) : DpF K (dNs ns) (pIs (ns.map fun n => ((n : Nat) : Int))) := by
  have h : DpF K (dLst (dIs (ns.map fun n => ((n : Nat) : Int)))) _ := DpF.ints (ns.map fun n => ((n : Nat) : Int))
  unfold dIs at h
  rw [List.map_map] at h
  exact h
def pRows (rows : List (List Nat)) : PyData := .list (rows.map fun ns => pIs (ns.map fun n => ((n : Nat) : Int)))
theorem dpRows (rows : List (List Nat)) : DpF K (dLst (rows.map dNs)) (pRows rows) := .lst (.map dpNs rows)
theorem shaped_rows {rows : List (List Nat)} : SeqAt.shaped (pRows rows) = true := shaped_map (n := 1) (fun a m => SeqAt.canLay_of_shaped shaped_ints) (fun a m => by unfold pIs; rw [PyData.depth]; have := depth_map (n := 0) (f := PyData.int) (a.map fun n => ((n : Nat) : Int)) (fun a m => by rw [PyData.depth]; exact Nat.le_refl _); omega) (by decide)
section
variable {b : Wd} {en : En} {O : Ow} {KK : DK} {KF : PySem.W.Frag}
theorem Ev.revD {te : TE} {ds : List D} {x : D} (hx : x = dLst ds ∨ x = dTup ds) (h : Ev b te en O fun d O1 => d = .fr x ∧ ∀ y, (y = dLst ds.reverse ∨ y = dTup ds.reverse) → KK (.fr y) O1) : Ev b (tRevQ KF te) en O KK := by
  rcases hx with rfl | rfl
  · exact Ev.revQ (h.imp fun d O1 ⟨e, k⟩ => .inl ⟨ds, by rw [e]; exact .fr, k _ (.inl rfl)⟩)
  · exact Ev.revQ (h.imp fun d O1 ⟨e, k⟩ => .inr ⟨ds, e, k _ (.inr rfl)⟩)
theorem OpN.lenD {ds : List D} {x : D} (hx : x = dLst ds ∨ x = dTup ds) (k : KK (fInt ds.length) O) : OpN b (fun xs H Q => ∃ x n, xs = [x] ∧ LenV KF x H n ∧ Q (.int n) H) [.fr x] O KK := by
  rcases hx with rfl | rfl
  · exact OpN.len .fr k
  · exact OpN.lenT k
theorem get2a {O : Ow} {a b : Option OD} : (O ++ [a] ++ [b])[O.length]? = some a := by
  rw [List.getElem?_append_left (by simp), List.getElem?_concat_length]
theorem set2a {O : Ow} {a b x : Option OD} : (O ++ [a] ++ [b]).set O.length x = O ++ [x] ++ [b] := by
  rw [List.set_append_left _ _ (by simp), List.set_append_right _ _ (Nat.le_refl _), Nat.sub_self]; rfl
theorem set2b {O : Ow} {a b x : Option OD} : (O ++ [a] ++ [b]).set (O ++ [a]).length x = O ++ [a] ++ [x] := by
  rw [List.set_append_right _ _ (Nat.le_refl _), Nat.sub_self]; rfl
end
def bitA (ns : List Nat) (i b : Nat) : Bool := (ns.getD i 0).testBit b
theorem orR_bit {a c : List Nat} {i b : Nat} (h : a.length = c.length) : bitA (orR a c) i b = (bitA a i b || bitA c i b) := by
  unfold bitA orR
  by_cases hi : i < a.length
  · have hc : i < c.length := by omega
    have e : ((a.zip c).map fun p => p.1 ||| p.2)[i]? = some (a[i] ||| c[i]) := by
      rw [List.getElem?_map, List.getElem?_eq_getElem (by rw [List.length_zip]; omega), List.getElem_zip]; rfl
    rw [List.getD_eq_getElem?_getD, e, List.getD_eq_getElem?_getD, List.getElem?_eq_getElem hi, List.getD_eq_getElem?_getD, List.getElem?_eq_getElem hc]
    exact Nat.testBit_or ..
  · rw [List.getD_eq_getElem?_getD, List.getElem?_eq_none (by rw [List.length_map, List.length_zip]; omega), List.getD_eq_getElem?_getD, List.getElem?_eq_none (by omega), List.getD_eq_getElem?_getD, List.getElem?_eq_none (by omega)]
    simp
theorem joinR_bit {m i b : Nat} : ∀ {rows : List (List Nat)} {n0 : List Nat}, n0.length = m → (∀ r ∈ rows, r.length = m) → bitA (joinR n0 rows) i b = (bitA n0 i b || rows.any fun r => bitA r i b)
  | [], n0, _, _ => by rw [List.any_nil, Bool.or_false]; rfl
  | r :: rows, n0, h, k => by
    have hr := k r List.mem_cons_self
    show bitA (joinR (orR n0 r) rows) i b = _
    rw [joinR_bit (m := m) (by rw [orR_len (by rw [h, hr]), h]) fun x hx => k x (List.mem_cons_of_mem _ hx), orR_bit (by rw [h, hr]), List.any_cons, Bool.or_assoc]
theorem eq_bits {a c : List Nat} (h : a.length = c.length) (k : ∀ i b, bitA a i b = bitA c i b) : a = c := by
  refine List.ext_getElem h fun i h1 h2 => Nat.eq_of_testBit_eq fun b => ?_
  have := k i b
  unfold bitA at this
  rwa [List.getD_eq_getElem?_getD, List.getElem?_eq_getElem h1, List.getD_eq_getElem?_getD, List.getElem?_eq_getElem h2] at this
theorem joinR_self {m i b : Nat} {n0 : List Nat} {rows : List (List Nat)} (h : ∀ r ∈ n0 :: rows, r.length = m) : bitA (joinR n0 (n0 :: rows)) i b = (n0 :: rows).any fun r => bitA r i b := by
  rw [joinR_bit (h n0 List.mem_cons_self) h, List.any_cons, ← Bool.or_assoc, Bool.or_self]
theorem joinR_rev {m : Nat} {n0 l0 : List Nat} {rows lr : List (List Nat)} (h : ∀ r ∈ n0 :: rows, r.length = m) (e : (n0 :: rows).reverse = l0 :: lr) : joinR l0 (l0 :: lr) = joinR n0 (n0 :: rows) := by
  have h2 : ∀ r ∈ l0 :: lr, r.length = m := fun r hr => h r (by rw [← e] at hr; exact List.mem_reverse.mp hr)
  refine eq_bits ?_ fun i b => ?_
  · rw [joinR_len (h2 _ List.mem_cons_self) h2, joinR_len (h _ List.mem_cons_self) h]
  · rw [joinR_self h, joinR_self h2, ← e, List.any_reverse]
theorem joinR_and {m n a : Nat} {n0 : List Nat} {rows : List (List Nat)} (h : ∀ r ∈ n0 :: rows, r.length = m) (h1 : n0[0]? = some a) (h2 : (joinR n0 (n0 :: rows))[0]? = some n) (nz : a ≠ 0) : n &&& a ≠ 0 := fun z => by
  obtain ⟨b, hb⟩ := Nat.exists_testBit_of_ne_zero nz
  have e := joinR_self (i := 0) (b := b) h
  unfold bitA at e
  rw [List.getD_eq_getElem?_getD, h2] at e
  have e2 : n.testBit b = true := by
    refine e.trans (List.any_eq_true.mpr ⟨n0, List.mem_cons_self, ?_⟩)
    rw [List.getD_eq_getElem?_getD, h1]
    exact hb
  have := Nat.testBit_and n a b
  rw [z, e2, hb, Nat.zero_testBit] at this
  cases this
theorem okd_law {f gh : Addr} {fd fdh : FuncData} {P0 : Addr} {p : He.Defn} (F : Fun K "law" "law" s_law f fd) (hf : He.fAd K p = f) (B : Blt mg) (VV : VF K CV CC) (LL : LF K CL) (nsL : PySem.W.noSeq K CL = true)
    (FH : Fun K "_law_heard" "_law_heard" s_law_heard gh fdh) (gH : mg "_law_heard" = some (.ref gh)) (bH : Binds K fdh ["_law_ask"] []) (GH : GivesS P w K mg base 9 ["_law_ask", "_law_caught", "error"] "_law_heard" s_law_heard gh "_law_ask" (TTof fnU (fxU CN CU)))
    (TB : LamX.TabB base mg (He.cT K p).1 (He.cT K p).2) (D_law_draw : HDraw P w K mg base) (D_law_pick : HasFn P w K mg base CX0 2 "_law_pick" ["_law_pen_here", "_law_some"] (spD fsPick)) (D_law_cell : HasFn P w K mg base CX0 3 "_law_cell" ["_law_pen_here", "_law_many"] (spD fsCell)) (D_law_pen : HasFn P w K mg base CX0 1 "_law_pen" ["_law_script"] (spD (fsPenS K)))
    (M_Values : HasMk P w K mg base CX0 4 CV "Values" ["self", "letters"] (spVals CV CC)) (D_lenV : HasMe P w K mg base CX0 1 CV "__len__" ["self"] (spD (fsLenV CV CC))) (D_law_text : HasFn P w K mg base CX0 1 "_law_text" ["_law_letters", "_law_number"] (spD fsText))
    (D_law_line : HasFn P w K mg base CX0 7 "_law_line" ["_law_ground", "_law_row_here"] (spD (fsLineP CV CC CL))) (D_join : HasFn P w K mg base (L2.CX P w) 8 "join" ["lines"] (spD (fsJoin CV CC CL CN CU))) (DK_join : HasFnK P w K mg base (L2.CX P w) 8 "join" ["lines"] (spD (fsJoin CV CC CL CN CU)))
    (D_law_shown : HasFn P w K mg base CX0 3 "_law_shown" ["_law_strip"] (spD (fsShown CV CC CL))) (D_law_due : HasFn P w K mg base CX0 1 "_law_due" ["_law_rows"] (spD fsDue)) (D_eqL : HasMe P w K mg base CX0 4 CL "__eq__" ["self", "other"] (spD (fsEqL CV CC CL))) (D_setL : HasMe P w K mg base CX0 5 CL "__setitem__" ["self", "at", "worth"] (spD (fsSetL CV CC CL)))
    (D_law_mixed_right : HasFn P w K mg base CX0 11 "_law_mixed_right" ["_law_pen_here", "_law_ground", "_law_some"] (spDT [(0, P0)] (fsMixed CV CC CL q1))) :
    FnOk P w K mg base CX0 12 f fd ["_law_script"] (spDT [(0, P0), (1, (He.cT K p).2)] (fsLawT K [q1, q2])) := by
  refine okDTc F hf sc_law (fun ds O Q KX h => ?_) (fun cdv A outer s H E code hr b ds O Q KX h _ atT => ?_)
  · obtain ⟨ns, rfl, _⟩ := h; rfl
  · obtain ⟨ns, rfl, rfl, kq⟩ := h
    have h0 : b.as[0]? = some P0 := atT (0, P0) (by simp)
    have h1 : b.as[1]? = some (He.cT K p).2 := atT (1, (He.cT K p).2) (by simp)
    have big : 100 ≤ sizeLine := by decide
    refine ⟨_, (pss_cons (ps_set (i := 1) sc_law.nd rfl (.inr rfl) (pe_fn D_law_pen (hr.mono (by decide)) pass0 (pa_cons (pv 0) pa_nil)))
      (pss_cons (ps_for PassesOwn.never rfl (pi_range1 (by rfl) B.n_range (pa_cons pe_int pa_nil)) (pg_name (i := 2) sc_law.nd rfl (.inl rfl)) (pss_cons (ps_set (i := 4) sc_law.nd rfl (.inr rfl) (pe_mk M_Values (hr.mono (by decide)) pass0 (pa_cons (pe_fn D_law_pick (hr.mono (by decide)) pass0 (pa_cons (pv 1) (pa_cons (pe_lst (pa_cons pe_str (pa_cons pe_str (pa_cons pe_str (pa_cons pe_str (pa_cons pe_str pa_nil)))))) pa_nil))) pa_nil)))
      (pss_cons (ps_set (i := 5) sc_law.nd rfl (.inr rfl) (pe_op op_add pe_int (pe_fn D_law_draw (hr.mono (by decide)) pass0 (pa_cons (pv 1) (pa_cons pe_int pa_nil)))))
      (pss_cons (ps_setLc (i := 6) rfl sc_law.nd rfl rfl (sw_true rfl rfl rfl (by decide +kernel)) (pi_range1 (by rfl) B.n_range (pa_cons (pe_op op_add pe_int (pe_fn D_law_draw (hr.mono (by decide)) pass0 (pa_cons (pv 1) (pa_cons pe_int pa_nil)))) pa_nil)) (blkOk_by (own := [("_law_turn_so", 10)]) (N := ["_law_script", "_law_pen_here", "_law_turn", "_law_heard_here", "_law_ground", "_law_many", "_law_rows", "_law_some", "_law_given", "_law_found", "_law_turn_so", "_law_row_here", "_law_k", "_law_strip"]) (sc := defScope s_law) (by decide +kernel)) (fun _ _ _ _ _ => (pg_name (i := 10) sc_law.nd rfl (.inl rfl))) (fun _ _ _ _ _ => pts_nil) (fun _ _ _ _ _ => (pe_lc rfl sc_law.nd (pi_range1 (by rfl) B.n_range (pa_cons (pv 5) pa_nil)) (blkOk_by (own := [("_law_k", 12)]) (N := ["_law_script", "_law_pen_here", "_law_turn", "_law_heard_here", "_law_ground", "_law_many", "_law_rows", "_law_some", "_law_given", "_law_found", "_law_turn_so", "_law_row_here", "_law_k", "_law_strip"]) (sc := relS (lcSc (asgE ((forB ((defBody s_law).getD 1 (.Pass ⟨0, 0, 0, 0⟩))).getD 2 (.Pass ⟨0, 0, 0, 0⟩)))) (defScope s_law)) (by decide +kernel)) (fun _ _ _ _ _ => (pg_name (i := 12) sc_law.nd rfl (.inl rfl))) (fun _ _ _ _ _ => pts_nil) (fun _ _ _ _ _ => (pe_fn D_law_cell (hr.mono (by decide)) pass0 (pa_cons (pv 1) (pa_cons (pe_callB (call_lenMe D_lenV (hr.mono (by decide)) pass0) (by rfl) B.n_len (by decide +kernel) (pa_cons (pv 4) pa_nil)) pa_nil)))))))
      (pss_cons (ps_setLc (i := 7) rfl sc_law.nd rfl rfl (sw_true rfl rfl rfl (by decide +kernel)) (pi_list (pv 6)) (blkOk_by (own := [("_law_row_here", 11)]) (N := ["_law_script", "_law_pen_here", "_law_turn", "_law_heard_here", "_law_ground", "_law_many", "_law_rows", "_law_some", "_law_given", "_law_found", "_law_turn_so", "_law_row_here", "_law_k", "_law_strip"]) (sc := defScope s_law) (by decide +kernel)) (fun _ _ _ _ _ => (pg_name (i := 11) sc_law.nd rfl (.inl rfl))) (fun _ _ _ _ _ => pts_nil) (fun _ _ _ _ _ => (pe_fn D_law_line (hr.mono (by decide)) pass0 (pa_cons (pv 4) (pa_cons (pv 11) pa_nil)))))
      (pss_cons (ps_set (i := 8) sc_law.nd rfl (.inl rfl) (pe_fn D_law_pick (hr.mono (by decide)) pass0 (pa_cons (pv 1) (pa_cons (pe_lst (pa_cons (pv 7) (pa_cons (pe_callTy call_tuple_of (by rfl) B.n_tuple (by decide +kernel) (pa_cons (pv 7) pa_nil)) pa_nil))) pa_nil))))
      (pss_cons (ps_set (i := 9) sc_law.nd rfl (.inl rfl) (pe_fn (E := E0) D_join (hr.mono (by decide)) passX0 (pa_cons (pv 8) pa_nil)))
      (pss_cons (ps_if (PW.pt (pw_or (pt_cmpR (op_neD (Room.u64 hr)) (pe_fn D_law_shown (hr.mono (by decide)) pass0 (pa_cons (pv 9) pa_nil)) (pe_fn D_law_due (hr.mono (by decide)) pass0 (pa_cons (pv 6) pa_nil)) (nomark _)) (pw_or (pt_not (pt_cmpR (op_eqMe D_eqL (hr.mono (by decide)) pass0) (pv 9) (pe_fnK (E := E0) DK_join (hr.mono (by decide)) passX0 (pk_cons (pe_revQ (pv 8)) pk_nil)) (nomark _))) (pw_or1 (pt_cmpR op_ne (pe_callB call_len (by rfl) B.n_len (by decide +kernel) (pa_cons (pv 8) pa_nil)) (pe_callB call_len (by rfl) B.n_len (by decide +kernel) (pa_cons (pv 6) pa_nil)) (nomark _)))))) (pss_one (ps_ret pe_bl)) pss_nil)
      (pss_cons (ps_asg (pe_fn D_law_text (hr.mono (by decide)) pass0 (pa_cons (pe_fld (pv 4) rfl) (pa_cons (pe_ix ix_list (pe_ix ix_list (pv 6) pe_int (fun _ _ => rfl)) pe_int (fun _ _ => rfl)) pa_nil))) (pg_sub (pv 9) pe_int (set_ownMe D_setL nsL (hr.mono (by decide)) pass0)))
      (pss_one (ps_if (PW.pt (pw_or (pt_cmpR (op_neD (Room.u64 hr)) (pe_lc rfl sc_law.nd (pi_list (pv 7)) (blkOk_by (own := [("_law_strip", 13)]) (N := ["_law_script", "_law_pen_here", "_law_turn", "_law_heard_here", "_law_ground", "_law_many", "_law_rows", "_law_some", "_law_given", "_law_found", "_law_turn_so", "_law_row_here", "_law_k", "_law_strip"]) (sc := defScope s_law) (by decide +kernel)) (fun _ _ _ _ _ => (pg_name (i := 13) sc_law.nd rfl (.inl rfl))) (fun _ _ _ _ _ => pts_nil) (fun _ _ _ _ _ => (pe_fn D_law_shown (hr.mono (by decide)) pass0 (pa_cons (pv 13) pa_nil)))) (pv 6) (nomark _)) (pw_or1 (pt_not (pt_val (pe_fn D_law_mixed_right (hr.mono (by decide)) pass0 (pa_cons (pv 1) (pa_cons (pv 4) (pa_cons (pv 7) pa_nil))))))))) (pss_one (ps_ret pe_bl)) pss_nil)))))))))))
      (pss_cons (ps_set (i := 3) sc_law.nd rfl (.inl rfl) (pe_lst (pa_cons (pe_lamS FH gH bH sc_law_heard rfl (.inl rfl) GH TB code (hr.mono (by decide)) (LamX.lamS_by (by show LamX.lamSB (defScope s_law) _ = true; decide +kernel)) rfl (fun _ _ _ _ _ => rfl) (fun A outer s H E f c' r => (pe_fn D_join (r.mono (by decide)) passE (pa_cons (pe_lst pa_nil) pa_nil)))) pa_nil)))
      (pss_cons (ps_expr (pe_bm PySem.F.plainAttrs_list PySem.F.slot_list_append PySem.F.type_list_append mt_append (pv 3) (pa_cons (pe_lamS FH gH bH sc_law_heard rfl (.inl rfl) GH TB code (hr.mono (by decide)) (LamX.lamS_by (by show LamX.lamSB (defScope s_law) _ = true; decide +kernel)) rfl (fun _ _ _ _ _ => rfl) (fun A outer s H E f c' r => (pe_fn D_join (r.mono (by decide)) passE (pa_cons (pe_tup pa_nil) pa_nil)))) pa_nil)))
      (pss_one (ps_ret (pe_cmpR (op_eqD (Room.u64 hr)) (pv 3) (pe_op op_rep (pe_lst (pa_cons (pe_tup (pa_cons pe_str (pa_cons pe_str pa_nil))) pa_nil)) pe_int) (nomark _)))))))), ?_⟩
    walk_at "dl"
    refine ⟨ns, rfl, ?_⟩
    walk_at "dl"
    refine EvS.for_ (EvI.range1 ?_)
    walk_at "dl"
    refine ⟨8, rfl, by decide, by decide, fun q en' O' => ∃ (N : Nat) (r : Ow) (x2 x3 x4 x5 x6 x7 x8 x9 x10 x11 x12 x13 : Option Da), N ≤ 400 * q ∧ (∀ x ∈ r, x = none) ∧ O' = oB N r ∧ en' = [some (.fr (dSq K (ns.map V.int))), some (.ow 2), x2, x3, x4, x5, x6, x7, x8, x9, x10, x11, x12, x13], ⟨0, [], _, _, _, _, _, _, _, _, _, _, _, _, Nat.le_refl _, fun _ h => (nomatch h), rfl, rfl⟩, ?_, ?_⟩
    · rintro q d en2 O2 hd ⟨N, r, x2, x3, x4, x5, x6, x7, x8, x9, x10, x11, x12, x13, hN, hr0, rfl, rfl⟩
      have lq : q < 8 := by
        have := (List.getElem?_eq_some_iff.mp hd).1
        rw [List.length_map, List.length_range] at this
        exact this
      refine EvG.name ?_
      walk_at "dl"
      refine Ev.mkVals ?_
      walk_at "dl"
      refine Ev.lst ?_
      walk_at "dl"
      refine ⟨_, rfl, by show 5 ≤ sizeLine; decide, ?_⟩
      walk_at "dl"
      refine ⟨2, N, _, rfl, rfl, by show 0 < 5; decide, by show 5 < 1000000; decide, by omega, fun x hx => ?_⟩
      obtain ⟨z, rfl, gz, nmn⟩ : ∃ z : Str, x = dV (.str z) ∧ LB.Good z ∧ z ≠ "mn" := by
        simp only [List.mem_cons, List.not_mem_nil, or_false] at hx
        rcases hx with rfl | rfl | rfl | rfl | rfl <;> exact ⟨_, rfl, ⟨by decide +kernel, by decide +kernel, by decide +kernel, by decide +kernel⟩, by decide +kernel⟩
      have hi := gz.hi
      have lo := gz.lo
      walk_at "dl"
      refine ⟨z, rfl, gz, owm hr0, ?_⟩
      walk_at "dl"
      refine ⟨2, N + 1, 7, rfl, rfl, by decide, by decide, by omega, fun d7 hd7 => ?_⟩
      walk_at "dl"
      obtain ⟨m, hm, m1, m7⟩ : ∃ m : Nat, ((1 : Int) + (d7 : Int)) = (m : Nat) ∧ 1 ≤ m ∧ m ≤ 7 := ⟨1 + d7, by omega, by omega, by have : (d7 : Int) < 7 := hd7; omega⟩
      rw [hm]
      refine Ev.lcI (Tame.name (by decide)) (EvI.range1 ?_)
      walk_at "dl"
      refine ⟨2, _, 5, rfl, rfl, by decide, by decide, by omega, fun d5 hd5 => ?_⟩
      have hd5 : d5 < 5 := by have : (d5 : Int) < 5 := hd5; omega
      walk_at "dl"
      refine ⟨_, rfl, by omega, by omega, fun i acc O2 => ∃ (rows : List (List Nat)) (N' : Nat), acc = rows.map dNs ∧ rows.length = i ∧ (∀ x ∈ rows, Row z.cps.size x ∧ x.length = m) ∧ N' ≤ N + 3 + 28 * i ∧ O2 = oB N' r, ⟨[], N + 3, rfl, rfl, fun _ h => (nomatch h), by omega, rfl⟩, ?_, ?_, ?_⟩
      · rw [List.length_map, List.length_range]; omega
      · rintro i d0 acc O2 hd0 _ ⟨rows, N', rfl, hl, hrow, hN', rfl⟩
        have li : i < 1 + d5 := by
          have := (List.getElem?_eq_some_iff.mp hd0).1
          rw [List.length_map, List.length_range] at this
          omega
        refine EvG.name ?_
        walk_at "dl"
        refine ⟨fun _ => ?_, fun c => (nomatch c)⟩
        refine Ev.lcI (Tame.name (by decide)) (EvI.range1 ?_)
        walk_at "dl"
        refine ⟨_, rfl, by omega, by omega, fun i acc O2 => ∃ (fs : List Nat) (N2 : Nat), acc = fs.map dN ∧ fs.length = i ∧ Row z.cps.size fs ∧ N2 ≤ N' + 4 * i ∧ O2 = oB N2 r, ⟨[], N', rfl, rfl, fun _ h => (nomatch h), by omega, rfl⟩, ?_, ?_, ?_⟩
        · rw [List.length_map, List.length_range]; omega
        · rintro i2 d0 acc O2 hd0 _ ⟨fs, N2, rfl, hf, rf, hN2, rfl⟩
          have li2 : i2 < m := by
            have := (List.getElem?_eq_some_iff.mp hd0).1
            rw [List.length_map, List.length_range] at this
            omega
          refine EvG.name ?_
          walk_at "dl"
          refine ⟨fun _ => ?_, fun c => (nomatch c)⟩
          walk_at "dl"
          refine OpN.lenOwn dVals.ins ⟨z, rfl, gz, _, rfl, by omega, by omega, ?_⟩
          walk_at "dl"
          refine ⟨2, N2, z.cps.size, rfl, rfl, by omega, by omega, hi, fun n n0 n1 => ?_⟩
          exact ⟨_, rfl, fs ++ [n], N2 + 4, by rw [List.map_append]; rfl, by rw [List.length_append, hf]; rfl, fun x hx => (List.mem_append.mp hx).elim (rf x) fun h => by rw [List.mem_singleton.mp h]; exact ⟨n0, n1⟩, by omega, rfl⟩
        · rintro acc O2 ⟨fs, N2, rfl, hf, rf, hN2, rfl⟩
          rw [List.length_map, List.length_range, Int.toNat_natCast] at hf hN2
          exact ⟨_, rfl, rows ++ [fs], N2, by rw [List.map_append]; rfl, by rw [List.length_append, hl]; rfl, fun x hx => (List.mem_append.mp hx).elim (hrow x) fun h => by rw [List.mem_singleton.mp h]; exact ⟨rf, hf⟩, by omega, rfl⟩
      rintro acc O2 ⟨rows, N', rfl, hl, hrow, hN', rfl⟩
      rw [List.length_map, List.length_range] at hl hN'
      have hN3 : N' ≤ N + 143 := by omega
      obtain ⟨r0, rr, erows⟩ : ∃ r0 rr, rows = r0 :: rr := by
        cases rows with
        | nil => simp at hl; omega
        | cons r0 rr => exact ⟨r0, rr, rfl⟩
      have hrow0 := hrow r0 (by rw [erows]; exact List.mem_cons_self)
      have lrows : rows.length ≤ 5 := by omega
      clear hl hN' hd5
      walk_at "dl"
      refine Ev.lc (α := List Nat) (Tame.name (by decide)) (fun n => dLn CV CC CL (z, n)) (EvI.list ?_)
      walk_at "dl"
      refine ⟨_, rfl, rows, dNs, rfl, by omega, fun n hn => EvG.name ⟨rfl, ?_⟩, ?_⟩
      · walk_at "dl"
        exact ⟨z, n, rfl, gz, by rw [(hrow n hn).2]; omega, by rw [(hrow n hn).2]; omega, (hrow n hn).1, rfl, rfl⟩
      walk_at "dl"
      refine Ev.lst ?_
      walk_at "dl"
      refine OpN.tuple (.inl .fr) ?_
      walk_at "dl"
      refine ⟨_, rfl, by show 2 ≤ sizeLine; decide, ?_⟩
      walk_at "dl"
      refine ⟨2, N', _, rfl, rfl, by show 0 < 2; decide, by show 2 < 1000000; decide, by omega, fun x hx => ?_⟩
      have emap : rows.map (fun n => dLn CV CC CL (z, n)) = (rows.map fun n => (z, n)).map (dLn CV CC CL) := by rw [List.map_map]; rfl
      rw [emap] at hx ⊢
      have hd2 : x = dLst ((rows.map fun n => (z, n)).map (dLn CV CC CL)) ∨ x = dTup ((rows.map fun n => (z, n)).map (dLn CV CC CL)) := by simpa using hx
      clear hx
      have lps : (rows.map fun n => (z, n)).length ≤ 100 := by rw [List.length_map]; omega
      have lens : ∀ p ∈ rows.map (fun n => (z, n)), p.2.length ≤ 4001 := fun p hp => by
        obtain ⟨n, hn, rfl⟩ := List.mem_map.mp hp
        rw [(hrow n hn).2]; omega
      walk_at "dl"
      refine ⟨x, _, m, rfl, hd2, lps, lens, .inr (.inr (.inr ⟨z, r0, rr, by rw [erows], gz, fun r h => (hrow r (by rw [erows]; exact h)).1, fun r h => (hrow r (by rw [erows]; exact h)).2, m1, by omega, ?_⟩))⟩
      generalize hJ : joinR r0 (r0 :: rr) = J
      have lJ : J.length = m := by rw [← hJ]; exact joinR_len hrow0.2 fun r h => (hrow r (by rw [erows]; exact h)).2
      walk_at "dl"
      refine ⟨z, J, _, rfl, ow_last, by omega, ?_⟩
      walk_at "dl"
      refine ⟨m, r0, rr, by rw [erows]; rfl, by omega, fun r h => (hrow r (by rw [erows]; exact h)).2, ?_⟩
      rw [hJ]
      refine Op2.neD (dpNs J) (dpNs J) shaped_ints shaped_ints ?_
      rw [eqv_ints, decide_eq_true rfl]
      refine ⟨_, rfl, fun _ => ?_, fun c => (nomatch c)⟩
      walk_at "dl"
      refine Ev.revD hd2 ?_
      walk_at "dl"
      refine ⟨rfl, fun y hy => ?_⟩
      walk_at "dl"
      obtain ⟨l0, lr, erev⟩ : ∃ l0 lr, rows.reverse = l0 :: lr := by
        cases h : rows.reverse with
        | nil => rw [List.reverse_eq_nil_iff] at h; rw [h] at erows; cases erows
        | cons a c => exact ⟨a, c, rfl⟩
      have hrowR : ∀ r ∈ l0 :: lr, Row z.cps.size r ∧ r.length = m := fun r h => hrow r (by rw [← erev] at h; exact List.mem_reverse.mp h)
      have eJ : joinR l0 (l0 :: lr) = J := by rw [← hJ]; exact joinR_rev (m := m) (fun r h => (hrow r (by rw [erows]; exact h)).2) (by rw [← erows]; exact erev)
      have emapR : ((rows.map fun n => (z, n)).map (dLn CV CC CL)).reverse = ((l0 :: lr).map fun n => (z, n)).map (dLn CV CC CL) := by rw [← erev, ← List.map_reverse, ← List.map_reverse]
      rw [emapR] at hy
      refine ⟨y, _, m, rfl, hy, by rw [← erev, List.length_map, List.length_reverse]; omega, fun p hp => ?_, .inr (.inr (.inr ⟨z, l0, lr, rfl, gz, fun r h => (hrowR r h).1, fun r h => (hrowR r h).2, m1, by omega, ?_⟩))⟩
      · obtain ⟨n, hn, rfl⟩ := List.mem_map.mp hp
        rw [(hrowR n hn).2]; omega
      rw [eJ]
      have g1 : ∀ x : Option OD, ((oB N' r).set 2 (pB (N' + 1)) ++ [some (oIns CL (lineFs CV CC z J))] ++ [x])[List.length r + 1 + 1 + 1]? = some (some (oIns CL (lineFs CV CC z J))) := fun x => get2a (O := oB (N' + 1) r)
      have lv1 : ∀ x, LineD CV CC CL z J ((oB N' r).set 2 (pB (N' + 1)) ++ [some (oIns CL (lineFs CV CC z J))] ++ [x]) (.ow (List.length r + 1 + 1 + 1)) := g1
      have lv2 : LineD CV CC CL z J ((oB N' r).set 2 (pB (N' + 1)) ++ [some (oIns CL (lineFs CV CC z J))] ++ [some (oIns CL (lineFs CV CC z J))]) (.ow ((oB N' r).set 2 (pB (N' + 1)) ++ [some (oIns CL (lineFs CV CC z J))]).length) := ow_last
      refine Op2.own (lv1 _).ins lv2.ins ⟨z, z, J, J, _, _, rfl, lv1 _, lv2, ?_⟩
      rw [decide_eq_true rfl, decide_eq_true rfl]
      refine ⟨_, rfl, fun _ => ?_, fun c => (nomatch c)⟩
      walk_at "dl"
      refine OpN.lenD hd2 ?_
      walk_at "dl"
      refine OpN.len .fr ?_
      walk_at "dl"
      refine Op2.ne rfl ⟨_, rfl, fun c => ?_, fun _ => EvS.next ?_⟩
      · rw [List.length_map, List.length_map, List.length_map] at c
        simp at c
      obtain ⟨a0, ha0⟩ : ∃ a0, r0[0]? = some a0 := ⟨_, List.getElem?_eq_getElem (by rw [hrow0.2]; omega)⟩
      obtain ⟨n0, hn0⟩ : ∃ n0, J[0]? = some n0 := ⟨_, List.getElem?_eq_getElem (by rw [lJ]; omega)⟩
      have ra0 := hrow0.1 a0 (List.mem_of_getElem? ha0)
      have rowJ : Row z.cps.size J := by rw [← hJ]; exact joinR_row hrow0.1 fun r h => (hrow r (by rw [erows]; exact h)).1
      have and0 : n0 &&& a0 ≠ 0 := joinR_and (m := m) (fun r h => (hrow r (by rw [erows]; exact h)).2) ha0 (by rw [hJ]; exact hn0) ra0.1
      walk_at "dl"
      refine ⟨_, dVals.let VV, ?_⟩
      walk_at "dl"
      refine Op2.ixL .fr (x := dNs r0) (atI_nat (j := 0) (by rw [erows]; rfl)) ?_
      walk_at "dl"
      refine Op2.ixL .fr (x := dN a0) (atI_nat (j := 0) (by rw [List.getElem?_map, ha0]; rfl)) ?_
      walk_at "dl"
      refine ⟨z, a0, rfl, gz, ?_⟩
      refine EvG.setO ?_
      walk_at "dl"
      refine ⟨(lv1 _).ins, _, z, J, 0, n0, a0, _, rfl, g1 _, gz, rowJ, by omega, hn0, ra0.2, likeT gz ra0.2, and0, ?_⟩
      have sA : ∀ x : Option OD, ((oB N' r).set 2 (pB (N' + 1)) ++ [some (oIns CL (lineFs CV CC z J))] ++ [some (oIns CL (lineFs CV CC z J))]).set (List.length r + 1 + 1 + 1) x = oB (N' + 1) r ++ [x] ++ [some (oIns CL (lineFs CV CC z J))] := fun x => set2a (O := oB (N' + 1) r)
      rw [sA]
      refine EvS.stillI (k := List.length r + 1 + 1 + 1) (get2a (O := oB (N' + 1) r)) ?_
      rw [show (oB (N' + 1) r ++ [some (oIns CL (lineFs CV CC z (J.set 0 (n0 &&& a0))))] ++ [some (oIns CL (lineFs CV CC z J))]).set (List.length r + 1 + 1 + 1) none = oB (N' + 1) r ++ [none] ++ [some (oIns CL (lineFs CV CC z J))] from set2a (O := oB (N' + 1) r)]
      show EvS b _ [_, _, _, _, _, _, _, _, _, _, _, _, _, _] _ _
      dsimp only
      rw [if_neg (show ¬ (2 = r.length + 1 + 1 + 1) by omega), if_pos rfl]
      refine EvS.stillI (k := (oB (N' + 1) r ++ [none]).length) ow_last ?_
      rw [set2b]
      show EvS b _ [_, _, _, _, _, _, _, _, _, _, _, _, _, _] _ _
      dsimp only
      rw [if_neg (show ¬ (2 = List.length (α := Option OD) (oB (N' + 1) r ++ [none])) by rw [List.length_append]; show ¬ (2 = r.length + 1 + 1 + 1 + 1); omega)]
      have hr2 : ∀ x ∈ r ++ [none] ++ [none], x = none := fun x hx => by
        simp only [List.mem_append, List.mem_singleton] at hx
        rcases hx with (h | h) | h
        · exact hr0 x h
        · exact h
        · exact h
      show EvS b _ _ (oB (N' + 1) (r ++ [none] ++ [none])) _
      clear sA g1 lv1 lv2 hr0
      generalize r ++ [none] ++ [none] = r2 at hr2 ⊢
      walk_at "dl"
      refine Ev.lc (α := List Nat) (Tame.name (by decide)) (fun n => dNs n) (EvI.list ?_)
      walk_at "dl"
      refine ⟨_, rfl, rows, fun n => dLn CV CC CL (z, n), by rw [List.map_map]; rfl, by omega, fun n hn => EvG.name ⟨rfl, ?_⟩, ?_⟩
      · walk_at "dl"
        exact ⟨z, n, _, rfl, LineD.fr, by rw [(hrow n hn).2]; omega, rfl, rfl⟩
      walk_at "dl"
      refine Op2.neD (dpRows rows) (dpRows rows) shaped_rows shaped_rows ?_
      rw [SeqAt.eqv_refl _ (SeqAt.canLay_of_shaped shaped_rows)]
      refine ⟨_, rfl, fun _ => ?_, fun c => (nomatch c)⟩
      walk_at "dl"
      refine Ev.callT (fun t m => by rw [List.mem_singleton.mp m]; exact h0) ?_
      walk_at "dl"
      refine ⟨2, N' + 1, m, z, rows, rfl, gz, nmn, by rw [erows]; show 1 ≤ rr.length + 1; omega, by omega, m1, m7, hrow, rfl, by omega, fun N2 => ⟨rfl, own_ fun x hx => .inl (hr2 x hx), owm hr2⟩, fun N2 hN2 => ?_⟩
      refine ⟨_, rfl, fun c => (nomatch c), fun _ => EvS.next ?_⟩
      exact ⟨N2, r2, _, _, _, _, _, _, _, _, _, _, _, _, by omega, hr2, rfl, rfl⟩
    · rintro en2 O2 ⟨N, r, x2, x3, x4, x5, x6, x7, x8, x9, x10, x11, x12, x13, hN, hr0, rfl, rfl⟩
      have on : ∀ {r2 : Ow}, OwL r2 → OwN (oB N (r ++ r2)) := fun {r2} h => own_ fun x hx => (List.mem_append.mp hx).elim (fun h => .inl (hr0 x h)) (h x)
      walk_at "dl"
      refine Ev.lstO ?_
      walk_at "dl"
      refine Ev.lam h1 rfl (own_ fun x hx => .inl (hr0 x hx)) (fun bw E gw rr => ?_)
      walk_at "dl"
      refine Ev.callX rr ?_
      walk_at "dl"
      refine Ev.lst ?_
      walk_at "dl"
      refine ⟨[], rfl, by show 0 ≤ sizeLine; decide, ?_⟩
      walk_at "dl"
      refine ⟨_, [], 0, rfl, .inl rfl, by decide, fun p h => (nomatch h), .inl ⟨rfl, ?_⟩⟩
      refine ⟨_, .inl ⟨rfl, rfl, ?_⟩⟩
      walk_at "dl"
      refine ⟨_, rfl, by show 1 ≤ sizeLine; decide, ?_⟩
      walk_at "dl"
      refine ⟨.lst (d := .ow _) (ow_last (O := oB N r)), ?_⟩
      walk_at "dl"
      refine Ev.lam h1 rfl (on (OwL.nil.app (.inr ⟨_, rfl⟩))) (fun bw E gw rr => ?_)
      walk_at "dl"
      refine Ev.callX rr ?_
      walk_at "dl"
      refine Ev.tup ?_
      walk_at "dl"
      refine ⟨[], rfl, by show 0 ≤ sizeLine; decide, ?_⟩
      walk_at "dl"
      refine ⟨_, [], 0, rfl, .inr rfl, by decide, fun p h => (nomatch h), .inl ⟨rfl, ?_⟩⟩
      refine ⟨_, .inl ⟨rfl, rfl, ?_⟩⟩
      walk_at "dl"
      refine OpM.append (ow_last (O := oB N r)) (by show 1 < sizeLine; decide) ?_
      rw [show (oB N r ++ [some (oLst ((fun x => dTup [dV (V.str (Str.ofString "none")), dV (V.str (Str.ofString "lines"))] :: x) []))]).set (List.length r + 1 + 1 + 1) (some (oLst ((fun x => dTup [dV (V.str (Str.ofString "none")), dV (V.str (Str.ofString "lines"))] :: x) [] ++ [dTup [dV (V.str (Str.ofString "none")), dV (V.str (Str.ofString "lines"))]]))) = oB N r ++ [some (oLst [dTup [dV (.str "none"), dV (.str "lines")], dTup [dV (.str "none"), dV (.str "lines")]])] from ow_lastset (O := oB N r)]
      refine EvS.stillL (k := List.length r + 1 + 1 + 1) (ow_last (O := oB N r)) ?_
      show EvS b _ [_, _, _, _, _, _, _, _, _, _, _, _, _, _] _ _
      dsimp only
      rw [if_pos rfl]
      walk_at "dl"
      refine Ev.lst ?_
      walk_at "dl"
      refine Ev.tup ?_
      walk_at "dl"
      refine ⟨_, rfl, by show 2 ≤ sizeLine; decide, ?_⟩
      walk_at "dl"
      refine ⟨_, rfl, by show 1 ≤ sizeLine; decide, ?_⟩
      walk_at "dl"
      refine Op2.rep (by decide) (by decide) (by show 1 * 2 ≤ _; decide) ?_
      refine Op2.eqD (p1 := .list [.tuple [.str "none", .str "lines"], .tuple [.str "none", .str "lines"]]) (p2 := .list [.tuple [.str "none", .str "lines"], .tuple [.str "none", .str "lines"]]) (.lst (.cons (.tup (.cons .str (.cons .str .nil))) (.cons (.tup (.cons .str (.cons .str .nil))) .nil))) (.lst (.cons (.tup (.cons .str (.cons .str .nil))) (.cons (.tup (.cons .str (.cons .str .nil))) .nil))) (by decide +kernel) (by decide +kernel) ?_
      rw [show PyData.eqv (.list [.tuple [.str "none", .str "lines"], .tuple [.str "none", .str "lines"]]) (.list [.tuple [.str "none", .str "lines"], .tuple [.str "none", .str "lines"]]) = true by decide +kernel]
      exact ⟨trivial, kq _⟩
end
end K41

namespace K41
open PySem L2 LB PyProof.Rows DL
section
variable {P : Program} {w : World} {K : PySem.W.Frag} {mg : Str → Option Value} {base : Heap} {h : Heap}
abbrev tfs : List He.Defn := [("_law_mixed_right", none), ("law", none)]
theorem all_mk {l : PySem.W.OpenLaw} {fa : Addr} {CValues CCell CLine CNothingTold CUnlike CLineError fis_letter_of fare_unlike_letters fare_values_letters iCell iValues fis_integer fis_from mValues_DDeqDD fsame_values mValues_numbered fnumber_of_letters mValues_cell mValues_DDlenDD fcell_from fis_row mCell_DDorDD mCell_DDcontainsDD mCell_DDeqDD mCell_DDandDD iLine fnumbers_of mLine_DDiterDD fsame_form mLine_DDorDD mLine_DDgetitemDD pLine_cells gLine_cells mLine_DDlenDD mLine_DDeqDD mLine_DDsetitemDD fline_of eNothingTold eUnlike flaw_pen flaw_draw flaw_pick flaw_text flaw_cell flaw_row flaw_line flaw_shown flaw_due fjoin flaw_heard flaw_mixed_right flaw : Addr} (X : K.In h) (G : h.Ns mainGlobals mg) (hfa : mg "law" = some (.ref fa))
    (blen : PySem.W.nsIn K mainGlobals "len" = some none)
    (blist : PySem.W.nsIn K mainGlobals "list" = some none)
    (btuple : PySem.W.nsIn K mainGlobals "tuple" = some none)
    (bint : PySem.W.nsIn K mainGlobals "int" = some none)
    (bstr : PySem.W.nsIn K mainGlobals "str" = some none)
    (bbool : PySem.W.nsIn K mainGlobals "bool" = some none)
    (babs : PySem.W.nsIn K mainGlobals "abs" = some none)
    (bsum : PySem.W.nsIn K mainGlobals "sum" = some none)
    (ball : PySem.W.nsIn K mainGlobals "all" = some none)
    (bset : PySem.W.nsIn K mainGlobals "set" = some none)
    (brange : PySem.W.nsIn K mainGlobals "range" = some none)
    (benumerate : PySem.W.nsIn K mainGlobals "enumerate" = some none)
    (bisinstance : PySem.W.nsIn K mainGlobals "isinstance" = some none)
    (bany : PySem.W.nsIn K mainGlobals "any" = some none)
    (bzip : PySem.W.nsIn K mainGlobals "zip" = some none)
    (biter : PySem.W.nsIn K mainGlobals "iter" = some none)
    (gCValues : PySem.W.nsIn K mainGlobals "Values" = some (some (.ref CValues)))
    (mkValues : PySem.W.makesIn K CValues = true)
    (kcValues : PySem.W.keepIn K (.ref CValues) = true)
    (pgValues : PySem.W.plainGet K CValues Str.empty = true)
    (hdValues : PySem.W.hasDictIn K CValues = true)
    (poValues : PySem.W.plainOver K CValues = true)
    (saValues : PySem.W.findIn K (.ref CValues) "__setattr__" = some (some (.builtin "object.__setattr__")))
    (gCCell : PySem.W.nsIn K mainGlobals "Cell" = some (some (.ref CCell)))
    (mkCell : PySem.W.makesIn K CCell = true)
    (kcCell : PySem.W.keepIn K (.ref CCell) = true)
    (pgCell : PySem.W.plainGet K CCell Str.empty = true)
    (hdCell : PySem.W.hasDictIn K CCell = true)
    (poCell : PySem.W.plainOver K CCell = true)
    (saCell : PySem.W.findIn K (.ref CCell) "__setattr__" = some (some (.builtin "object.__setattr__")))
    (gCLine : PySem.W.nsIn K mainGlobals "Line" = some (some (.ref CLine)))
    (mkLine : PySem.W.makesIn K CLine = true)
    (kcLine : PySem.W.keepIn K (.ref CLine) = true)
    (pgLine : PySem.W.plainGet K CLine Str.empty = true)
    (hdLine : PySem.W.hasDictIn K CLine = true)
    (poLine : PySem.W.plainOver K CLine = true)
    (saLine : PySem.W.findIn K (.ref CLine) "__setattr__" = some (some (.builtin "object.__setattr__")))
    (noValuesletters : PySem.W.findIn K (.ref CValues) "letters" = some none)
    (noValuesby_number : PySem.W.findIn K (.ref CValues) "by_number" = some none)
    (noCellalphabet : PySem.W.findIn K (.ref CCell) "alphabet" = some none)
    (noCellnumber : PySem.W.findIn K (.ref CCell) "number" = some none)
    (noCellletters : PySem.W.findIn K (.ref CCell) "letters" = some none)
    (noLinealphabet : PySem.W.findIn K (.ref CLine) "alphabet" = some none)
    (noLineheld : PySem.W.findIn K (.ref CLine) "held" = some none)
    (rdValues : PySem.W.readsIn K CValues (.type "type") = true)
    (gaValues : PySem.W.specialIn K (.ref CValues) "__getattribute__" = some (some (.builtin "type.__getattribute__")))
    (rdLine : PySem.W.readsIn K CLine (.type "type") = true)
    (gaLine : PySem.W.specialIn K (.ref CLine) "__getattribute__" = some (some (.builtin "type.__getattribute__")))
    (most : LB.MostX K CValues)
    (small : LB.TextX K "SMALL_LETTERS" K41.SM)
    (neV : CValues ≠ CCell)
    (longL : LB.ConstX K CLine "LONGEST" 4001)
    (haValues : PySem.W.findIn K (.ref CValues) "__class__" = some (some (.builtin "object.__class__")))
    (hn : PySem.W.specialIn K (.builtin "object.__class__") "__get__" = some (some (.builtin "getset_descriptor.__get__")))
    (htk : PySem.W.takesIn K (.builtin "object.__class__") = some true)
    (hmValues : PySem.W.mroIn K CValues (.type "object") = some true)
    (haCell : PySem.W.findIn K (.ref CCell) "__class__" = some (some (.builtin "object.__class__")))
    (hmCell : PySem.W.mroIn K CCell (.type "object") = some true)
    (kitValues_Values : PySem.W.kitOne K (.ref CValues) (.ref CValues) = some true)
    (kitCell_Cell : PySem.W.kitOne K (.ref CCell) (.ref CCell) = some true)
    (kitstr_Cell : PySem.W.kitOne K (.type "str") (.ref CCell) = some false)
    (nneV : PySem.W.findIn K (.ref CValues) "__ne__" = some (some (.builtin "object.__ne__")))
    (nsubV : PySem.W.subIn K (.ref CValues) (.type "object") = some true)
    (sfC : PySem.W.selfFirst K CCell = true)
    (gCNothingTold : PySem.W.nsIn K mainGlobals "NothingTold" = some (some (.ref CNothingTold)))
    (gCUnlike : PySem.W.nsIn K mainGlobals "Unlike" = some (some (.ref CUnlike)))
    (gCLineError : PySem.W.nsIn K mainGlobals "LineError" = some (some (.ref CLineError)))
    (nsL : PySem.W.noSeq K CLine = true)
    (exN : PySem.W.exmOne K (.ref CNothingTold) (.ref CLineError) = some true)
    (exU : PySem.W.exmOne K (.ref CUnlike) (.ref CLineError) = some true)
    (kitNothingTold_NothingTold : PySem.W.kitOne K (.ref CNothingTold) (.ref CNothingTold) = some true)
    (kitUnlike_NothingTold : PySem.W.kitOne K (.ref CUnlike) (.ref CNothingTold) = some false)
    (kitUnlike_Unlike : PySem.W.kitOne K (.ref CUnlike) (.ref CUnlike) = some true)
    (ndT : (He.cT K ("_law_mixed_right", none)).2 ≠ (He.cT K ("law", none)).2)
    (ais_letter_of : PySem.W.nsIn K mainGlobals "is_letter_of" = some (some (.ref fis_letter_of)))
    (xfis_letter_of : LB.FnX K fis_letter_of "is_letter_of" "is_letter_of" s_is_letter_of)
    (aare_unlike_letters : PySem.W.nsIn K mainGlobals "are_unlike_letters" = some (some (.ref fare_unlike_letters)))
    (xfare_unlike_letters : LB.FnX K fare_unlike_letters "are_unlike_letters" "are_unlike_letters" s_are_unlike_letters)
    (aare_values_letters : PySem.W.nsIn K mainGlobals "are_values_letters" = some (some (.ref fare_values_letters)))
    (xfare_values_letters : LB.FnX K fare_values_letters "are_values_letters" "are_values_letters" s_are_values_letters)
    (aiCell : PySem.W.findIn K (.ref CCell) "__init__" = some (some (.ref iCell)))
    (ifCell : PySem.W.isFn K (.ref iCell) = true)
    (xiCell : LB.FnX K iCell "__init__" "Cell.__init__" s_CellDD_initDD)
    (aiValues : PySem.W.findIn K (.ref CValues) "__init__" = some (some (.ref iValues)))
    (ifValues : PySem.W.isFn K (.ref iValues) = true)
    (xiValues : LB.FnX K iValues "__init__" "Values.__init__" s_ValuesDD_initDD)
    (ais_integer : PySem.W.nsIn K mainGlobals "is_integer" = some (some (.ref fis_integer)))
    (xfis_integer : LB.FnX K fis_integer "is_integer" "is_integer" s_is_integer)
    (ais_from : PySem.W.nsIn K mainGlobals "is_from" = some (some (.ref fis_from)))
    (xfis_from : LB.FnX K fis_from "is_from" "is_from" s_is_from)
    (ammValues_DDeqDD : PySem.W.findIn K (.ref CValues) "__eq__" = some (some (.ref mValues_DDeqDD)))
    (immValues_DDeqDD : PySem.W.isFn K (.ref mValues_DDeqDD) = true)
    (xmValues_DDeqDD : LB.FnX K mValues_DDeqDD "__eq__" "Values.__eq__" s_ValuesDD_eqDD)
    (asame_values : PySem.W.nsIn K mainGlobals "same_values" = some (some (.ref fsame_values)))
    (xfsame_values : LB.FnX K fsame_values "same_values" "same_values" s_same_values)
    (ammValues_numbered : PySem.W.findIn K (.ref CValues) "numbered" = some (some (.ref mValues_numbered)))
    (immValues_numbered : PySem.W.isFn K (.ref mValues_numbered) = true)
    (xmValues_numbered : LB.FnX K mValues_numbered "numbered" "Values.numbered" s_Values_numbered)
    (anumber_of_letters : PySem.W.nsIn K mainGlobals "number_of_letters" = some (some (.ref fnumber_of_letters)))
    (xfnumber_of_letters : LB.FnX K fnumber_of_letters "number_of_letters" "number_of_letters" s_number_of_letters)
    (ammValues_cell : PySem.W.findIn K (.ref CValues) "cell" = some (some (.ref mValues_cell)))
    (immValues_cell : PySem.W.isFn K (.ref mValues_cell) = true)
    (xmValues_cell : LB.FnX K mValues_cell "cell" "Values.cell" s_Values_cell)
    (ammValues_DDlenDD : PySem.W.findIn K (.ref CValues) "__len__" = some (some (.ref mValues_DDlenDD)))
    (immValues_DDlenDD : PySem.W.isFn K (.ref mValues_DDlenDD) = true)
    (xmValues_DDlenDD : LB.FnX K mValues_DDlenDD "__len__" "Values.__len__" s_ValuesDD_lenDD)
    (acell_from : PySem.W.nsIn K mainGlobals "cell_from" = some (some (.ref fcell_from)))
    (xfcell_from : LB.FnX K fcell_from "cell_from" "cell_from" s_cell_from)
    (ais_row : PySem.W.nsIn K mainGlobals "is_row" = some (some (.ref fis_row)))
    (xfis_row : LB.FnX K fis_row "is_row" "is_row" s_is_row)
    (ammCell_DDorDD : PySem.W.findIn K (.ref CCell) "__or__" = some (some (.ref mCell_DDorDD)))
    (immCell_DDorDD : PySem.W.isFn K (.ref mCell_DDorDD) = true)
    (xmCell_DDorDD : LB.FnX K mCell_DDorDD "__or__" "Cell.__or__" s_CellDD_orDD)
    (ammCell_DDcontainsDD : PySem.W.findIn K (.ref CCell) "__contains__" = some (some (.ref mCell_DDcontainsDD)))
    (immCell_DDcontainsDD : PySem.W.isFn K (.ref mCell_DDcontainsDD) = true)
    (xmCell_DDcontainsDD : LB.FnX K mCell_DDcontainsDD "__contains__" "Cell.__contains__" s_CellDD_containsDD)
    (ammCell_DDeqDD : PySem.W.findIn K (.ref CCell) "__eq__" = some (some (.ref mCell_DDeqDD)))
    (immCell_DDeqDD : PySem.W.isFn K (.ref mCell_DDeqDD) = true)
    (xmCell_DDeqDD : LB.FnX K mCell_DDeqDD "__eq__" "Cell.__eq__" s_CellDD_eqDD)
    (ammCell_DDandDD : PySem.W.findIn K (.ref CCell) "__and__" = some (some (.ref mCell_DDandDD)))
    (immCell_DDandDD : PySem.W.isFn K (.ref mCell_DDandDD) = true)
    (xmCell_DDandDD : LB.FnX K mCell_DDandDD "__and__" "Cell.__and__" s_CellDD_andDD)
    (aiLine : PySem.W.findIn K (.ref CLine) "__init__" = some (some (.ref iLine)))
    (ifLine : PySem.W.isFn K (.ref iLine) = true)
    (xiLine : LB.FnX K iLine "__init__" "Line.__init__" s_LineDD_initDD)
    (anumbers_of : PySem.W.nsIn K mainGlobals "numbers_of" = some (some (.ref fnumbers_of)))
    (xfnumbers_of : LB.FnX K fnumbers_of "numbers_of" "numbers_of" s_numbers_of)
    (ammLine_DDiterDD : PySem.W.findIn K (.ref CLine) "__iter__" = some (some (.ref mLine_DDiterDD)))
    (immLine_DDiterDD : PySem.W.isFn K (.ref mLine_DDiterDD) = true)
    (xmLine_DDiterDD : LB.FnX K mLine_DDiterDD "__iter__" "Line.__iter__" s_LineDD_iterDD)
    (asame_form : PySem.W.nsIn K mainGlobals "same_form" = some (some (.ref fsame_form)))
    (xfsame_form : LB.FnX K fsame_form "same_form" "same_form" s_same_form)
    (ammLine_DDorDD : PySem.W.findIn K (.ref CLine) "__or__" = some (some (.ref mLine_DDorDD)))
    (immLine_DDorDD : PySem.W.isFn K (.ref mLine_DDorDD) = true)
    (xmLine_DDorDD : LB.FnX K mLine_DDorDD "__or__" "Line.__or__" s_LineDD_orDD)
    (ammLine_DDgetitemDD : PySem.W.findIn K (.ref CLine) "__getitem__" = some (some (.ref mLine_DDgetitemDD)))
    (immLine_DDgetitemDD : PySem.W.isFn K (.ref mLine_DDgetitemDD) = true)
    (xmLine_DDgetitemDD : LB.FnX K mLine_DDgetitemDD "__getitem__" "Line.__getitem__" s_LineDD_getitemDD)
    (appLine_cells : PySem.W.findIn K (.ref CLine) "cells" = some (some (.ref pLine_cells)))
    (gppLine_cells : PySem.W.specialIn K (.ref pLine_cells) "__get__" = some (some (.builtin "property.__get__")))
    (tppLine_cells : PySem.W.takesIn K (.ref pLine_cells) = some true)
    (rppLine_cells : LB.RecX K pLine_cells gLine_cells)
    (xgLine_cells : LB.FnX K gLine_cells "cells" "Line.cells" s_Line_cells)
    (ammLine_DDlenDD : PySem.W.findIn K (.ref CLine) "__len__" = some (some (.ref mLine_DDlenDD)))
    (immLine_DDlenDD : PySem.W.isFn K (.ref mLine_DDlenDD) = true)
    (xmLine_DDlenDD : LB.FnX K mLine_DDlenDD "__len__" "Line.__len__" s_LineDD_lenDD)
    (haLine : PySem.W.findIn K (.ref CLine) "__class__" = some (some (.builtin "object.__class__")))
    (hmLine : PySem.W.mroIn K CLine (.type "object") = some true)
    (kitLine_Line : PySem.W.kitOne K (.ref CLine) (.ref CLine) = some true)
    (ammLine_DDeqDD : PySem.W.findIn K (.ref CLine) "__eq__" = some (some (.ref mLine_DDeqDD)))
    (immLine_DDeqDD : PySem.W.isFn K (.ref mLine_DDeqDD) = true)
    (xmLine_DDeqDD : LB.FnX K mLine_DDeqDD "__eq__" "Line.__eq__" s_LineDD_eqDD)
    (ammLine_DDsetitemDD : PySem.W.findIn K (.ref CLine) "__setitem__" = some (some (.ref mLine_DDsetitemDD)))
    (immLine_DDsetitemDD : PySem.W.isFn K (.ref mLine_DDsetitemDD) = true)
    (xmLine_DDsetitemDD : LB.FnX K mLine_DDsetitemDD "__setitem__" "Line.__setitem__" s_LineDD_setitemDD)
    (aline_of : PySem.W.nsIn K mainGlobals "line_of" = some (some (.ref fline_of)))
    (xfline_of : LB.FnX K fline_of "line_of" "line_of" s_line_of)
    (ENothingTold : LB.ExK K CNothingTold)
    (aeNothingTold : PySem.W.findIn K (.ref CNothingTold) "__init__" = some (some (.ref eNothingTold)))
    (teNothingTold : PySem.W.typeIn K (.ref eNothingTold) = some (.type "function"))
    (xeNothingTold : LB.FnX K eNothingTold "__init__" "NothingTold.__init__" s_NothingToldDD_initDD)
    (noNothingToldwhat : PySem.W.findIn K (.ref CNothingTold) "what" = some none)
    (EUnlike : LB.ExK K CUnlike)
    (aeUnlike : PySem.W.findIn K (.ref CUnlike) "__init__" = some (some (.ref eUnlike)))
    (teUnlike : PySem.W.typeIn K (.ref eUnlike) = some (.type "function"))
    (xeUnlike : LB.FnX K eUnlike "__init__" "Unlike.__init__" s_UnlikeDD_initDD)
    (noUnlikepart : PySem.W.findIn K (.ref CUnlike) "part" = some none)
    (alaw_pen : PySem.W.nsIn K mainGlobals "_law_pen" = some (some (.ref flaw_pen)))
    (xflaw_pen : LB.FnX K flaw_pen "_law_pen" "_law_pen" s_law_pen)
    (alaw_draw : PySem.W.nsIn K mainGlobals "_law_draw" = some (some (.ref flaw_draw)))
    (xflaw_draw : LB.FnX K flaw_draw "_law_draw" "_law_draw" s_law_draw)
    (alaw_pick : PySem.W.nsIn K mainGlobals "_law_pick" = some (some (.ref flaw_pick)))
    (xflaw_pick : LB.FnX K flaw_pick "_law_pick" "_law_pick" s_law_pick)
    (alaw_text : PySem.W.nsIn K mainGlobals "_law_text" = some (some (.ref flaw_text)))
    (xflaw_text : LB.FnX K flaw_text "_law_text" "_law_text" s_law_text)
    (alaw_cell : PySem.W.nsIn K mainGlobals "_law_cell" = some (some (.ref flaw_cell)))
    (xflaw_cell : LB.FnX K flaw_cell "_law_cell" "_law_cell" s_law_cell)
    (alaw_row : PySem.W.nsIn K mainGlobals "_law_row" = some (some (.ref flaw_row)))
    (xflaw_row : LB.FnX K flaw_row "_law_row" "_law_row" s_law_row)
    (alaw_line : PySem.W.nsIn K mainGlobals "_law_line" = some (some (.ref flaw_line)))
    (xflaw_line : LB.FnX K flaw_line "_law_line" "_law_line" s_law_line)
    (alaw_shown : PySem.W.nsIn K mainGlobals "_law_shown" = some (some (.ref flaw_shown)))
    (xflaw_shown : LB.FnX K flaw_shown "_law_shown" "_law_shown" s_law_shown)
    (alaw_due : PySem.W.nsIn K mainGlobals "_law_due" = some (some (.ref flaw_due)))
    (xflaw_due : LB.FnX K flaw_due "_law_due" "_law_due" s_law_due)
    (ajoin : PySem.W.nsIn K mainGlobals "join" = some (some (.ref fjoin)))
    (xfjoin : LB.FnX K fjoin "join" "join" s_join)
    (alaw_heard : PySem.W.nsIn K mainGlobals "_law_heard" = some (some (.ref flaw_heard)))
    (xflaw_heard : LB.FnX K flaw_heard "_law_heard" "_law_heard" s_law_heard)
    (alaw_mixed_right : PySem.W.nsIn K mainGlobals "_law_mixed_right" = some (some (.ref flaw_mixed_right)))
    (xflaw_mixed_right : LB.FnX K flaw_mixed_right "_law_mixed_right" "_law_mixed_right" s_law_mixed_right)
    (alaw : PySem.W.nsIn K mainGlobals "law" = some (some (.ref flaw)))
    (xflaw : LB.FnX K flaw "law" "law" s_law)
    (hflaw_mixed_right : He.fAd K ("_law_mixed_right", none) = flaw_mixed_right)
    (hflaw : He.fAd K ("law", none) = flaw) :
    ∃ fd : FuncData, (∀ (s : Shared) (v : Value), BindsTo s fd ⟨[v], []⟩ [("_law_script", v)]) ∧ ∀ base : Heap, K.In base → base.Ns mainGlobals mg → (∀ p ∈ tfs.map (He.cT K), LamX.TabB base mg p.1 p.2) → FnG l.prog w K mg base CX0 12 fa fd ["_law_script"] (spLawT K (tfs.map fun p => (He.cT K p).2)) := by
  have e := hfa.symm.trans (PySem.W.mg_of X G alaw)
  cases e
  obtain ⟨fdL, FL⟩ := xflaw.get
  refine ⟨fdL, fun s v => ?_, fun base _ _ TB => ?_⟩
  · obtain ⟨oc, od, kV, doc, pm, an, cdv, ct, osl, e1, e2, e3⟩ := FL.ex
    subst e1
    exact .of_eq rfl
  obtain ⟨zS, tS, eS, qS⟩ := small
  subst qS
  obtain ⟨tM, eM⟩ := most
  obtain ⟨tL, eL⟩ := longL
  have B : Blt mg := ⟨PySem.W.mg_none_of X G blen, PySem.W.mg_none_of X G blist, PySem.W.mg_none_of X G btuple, PySem.W.mg_none_of X G bint, PySem.W.mg_none_of X G bstr, PySem.W.mg_none_of X G bbool, PySem.W.mg_none_of X G babs, PySem.W.mg_none_of X G bsum, PySem.W.mg_none_of X G ball, PySem.W.mg_none_of X G bset, PySem.W.mg_none_of X G brange, PySem.W.mg_none_of X G benumerate, PySem.W.mg_none_of X G bisinstance⟩
  have n_any := PySem.W.mg_none_of X G bany
  have n_zip := PySem.W.mg_none_of X G bzip
  have n_iter := PySem.W.mg_none_of X G biter
  have VV : VF K CValues CCell := ⟨⟨pgValues, hdValues, poValues, saValues⟩, neV, ⟨pgCell, hdCell, poCell, saCell⟩, noValuesletters, noValuesby_number, noCellalphabet, noCellnumber, noCellletters, ⟨_, _, ⟨rdValues, gaValues⟩, ⟨eM, ⟨tM, rfl⟩⟩⟩⟩
  have LL : LF K CLine := ⟨⟨pgLine, hdLine, poLine, saLine⟩, noLinealphabet, noLineheld, ⟨_, _, ⟨rdLine, gaLine⟩, ⟨eL, ⟨tL, rfl⟩⟩⟩⟩
  have G0 : Consts mg CValues tS := ⟨PySem.W.mg_of X G eS, PySem.W.mg_of X G gCValues⟩
  have NE : NeOwn K CValues := ⟨nneV, nsubV⟩
  have gV := PySem.W.mg_of X G gCValues
  have gC := PySem.W.mg_of X G gCCell
  have gL := PySem.W.mg_of X G gCLine
  have TV : ClsT K CValues := ⟨⟨pgValues, hdValues, poValues, saValues⟩, haValues, hn, htk, hmValues⟩
  have TC : ClsT K CCell := ⟨⟨pgCell, hdCell, poCell, saCell⟩, haCell, hn, htk, hmCell⟩
  have gN := PySem.W.mg_of X G gCNothingTold
  have gU := PySem.W.mg_of X G gCUnlike
  have gLE := PySem.W.mg_of X G gCLineError
  have D_is_letter_of := has_fn (P := l.prog) (w := w) (base := base) (k := 1) (ps := ["letters", "value"]) X G ais_letter_of xfis_letter_of (fun _ _ _ _ _ _ us hl => match us, hl with | [_, _], _ => rfl) fun fd F => ok_let F B
  have D_are_unlike_letters := has_fn (P := l.prog) (w := w) (base := base) (k := 2) (ps := ["letters"]) X G aare_unlike_letters xfare_unlike_letters (fun _ _ _ _ _ _ us hl => match us, hl with | [_], _ => rfl) fun fd F => ok_unl F B G0 D_is_letter_of
  have D_are_values_letters := has_fn (P := l.prog) (w := w) (base := base) (k := 3) (ps := ["letters"]) X G aare_values_letters xfare_values_letters (fun _ _ _ _ _ _ us hl => match us, hl with | [_], _ => rfl) fun fd F => ok_avl F B VV G0 D_are_unlike_letters
  have M_Cell := has_mk (P := l.prog) (w := w) (base := base) (k := 1) (ps := ["self", "alphabet", "number"]) X G gCCell aiCell ifCell mkCell kcCell xiCell (fun _ _ _ _ _ _ us hl => match us, hl with | [_, _, _], _ => rfl) fun fd F => ok_cell F B VV
  have M_Values := has_mk (P := l.prog) (w := w) (base := base) (k := 4) (ps := ["self", "letters"]) X G gCValues aiValues ifValues mkValues kcValues xiValues (fun _ _ _ _ _ _ us hl => match us, hl with | [_, _], _ => rfl) fun fd F => ok_vals F B VV G0 D_are_values_letters M_Cell
  have D_is_integer := has_fn (P := l.prog) (w := w) (base := base) (k := 1) (ps := ["value"]) X G ais_integer xfis_integer (fun _ _ _ _ _ _ us hl => match us, hl with | [_], _ => rfl) fun fd F => okd_int F B
  have D_is_from := has_fn (P := l.prog) (w := w) (base := base) (k := 2) (ps := ["value", "low", "high"]) X G ais_from xfis_from (fun _ _ _ _ _ _ us hl => match us, hl with | [_, _, _], _ => rfl) fun fd F => okd_from F B D_is_integer
  have D_eqV := has_me (P := l.prog) (w := w) (mg := mg) (base := base) (k := 1) (C := CValues) (ps := ["self", "other"]) ammValues_DDeqDD immValues_DDeqDD xmValues_DDeqDD (fun _ _ _ _ _ _ us hl => match us, hl with | [_, _], _ => rfl) fun fd F => okd_eqV F B VV TV kitValues_Values gV
  have D_same_values := has_fn (P := l.prog) (w := w) (base := base) (k := 3) (ps := ["one", "other"]) X G asame_values xfsame_values (fun _ _ _ _ _ _ us hl => match us, hl with | [_, _], _ => rfl) fun fd F => okd_same F B VV NE D_eqV
  have D_numbered := has_me (P := l.prog) (w := w) (mg := mg) (base := base) (k := 3) (C := CValues) (ps := ["self", "number"]) ammValues_numbered immValues_numbered xmValues_numbered (fun _ _ _ _ _ _ us hl => match us, hl with | [_, _], _ => rfl) fun fd F => okd_numb F B VV D_is_from
  have D_number_of_letters := has_fn (P := l.prog) (w := w) (base := base) (k := 1) (ps := ["letters", "some"]) X G anumber_of_letters xfnumber_of_letters (fun _ _ _ _ _ _ us hl => match us, hl with | [_, _], _ => rfl) fun fd F => okd_nol F B
  have D_cell := has_me (P := l.prog) (w := w) (mg := mg) (base := base) (k := 2) (C := CValues) (ps := ["self", "letters"]) ammValues_cell immValues_cell xmValues_cell (fun _ _ _ _ _ _ us hl => match us, hl with | [_, _], _ => rfl) fun fd F => okd_cellM F B VV D_number_of_letters
  have D_lenV := has_me (P := l.prog) (w := w) (mg := mg) (base := base) (k := 1) (C := CValues) (ps := ["self"]) ammValues_DDlenDD immValues_DDlenDD xmValues_DDlenDD (fun _ _ _ _ _ _ us hl => match us, hl with | [_], _ => rfl) fun fd F => okd_lenV F B VV
  have D_cell_from := has_fn (P := l.prog) (w := w) (base := base) (k := 4) (ps := ["values", "thing"]) X G acell_from xfcell_from (fun _ _ _ _ _ _ us hl => match us, hl with | [_, _], _ => rfl) fun fd F => okd_cf F B VV TC kitCell_Cell kitstr_Cell gC D_eqV D_numbered D_number_of_letters
  have D_is_row := has_fn (P := l.prog) (w := w) (base := base) (k := 1) (ps := ["value", "fewest", "most"]) X G ais_row xfis_row (fun _ _ _ _ _ _ us hl => match us, hl with | [_, _, _], _ => rfl) fun fd F => okd_row F B
  have D_orC := has_me (P := l.prog) (w := w) (mg := mg) (base := base) (k := 4) (C := CCell) (ps := ["self", "other"]) ammCell_DDorDD immCell_DDorDD xmCell_DDorDD (fun _ _ _ _ _ _ us hl => match us, hl with | [_, _], _ => rfl) fun fd F => okd_orC F B VV D_same_values D_numbered
  have D_letC := has_fn (P := l.prog) (w := w) (base := base) (k := 1) (ps := ["letters", "value"]) X G ais_letter_of xfis_letter_of (fun _ _ _ _ _ _ us hl => match us, hl with | [_, _], _ => rfl) fun fd F => okd_letC F B
  have D_inC := has_me (P := l.prog) (w := w) (mg := mg) (base := base) (k := 2) (C := CCell) (ps := ["self", "x"]) ammCell_DDcontainsDD immCell_DDcontainsDD xmCell_DDcontainsDD (fun _ _ _ _ _ _ us hl => match us, hl with | [_, _], _ => rfl) fun fd F => okd_inC F VV D_letC
  have D_eqC := has_me (P := l.prog) (w := w) (mg := mg) (base := base) (k := 2) (C := CCell) (ps := ["self", "other"]) ammCell_DDeqDD immCell_DDeqDD xmCell_DDeqDD (fun _ _ _ _ _ _ us hl => match us, hl with | [_, _], _ => rfl) fun fd F => okd_eqC F B VV TC kitCell_Cell gC D_eqV
  have D_andC := has_me (P := l.prog) (w := w) (mg := mg) (base := base) (k := 4) (C := CCell) (ps := ["self", "other"]) ammCell_DDandDD immCell_DDandDD xmCell_DDandDD (fun _ _ _ _ _ _ us hl => match us, hl with | [_, _], _ => rfl) fun fd F => okd_andC F B VV D_same_values D_numbered
  have M_Line := has_mk (P := l.prog) (w := w) (base := base) (k := 5) (ps := ["self", "values", "cells"]) X G gCLine aiLine ifLine mkLine kcLine xiLine (fun _ _ _ _ _ _ us hl => match us, hl with | [_, _, _], _ => rfl) fun fd F => okd_lineI F B VV LL gL D_is_row D_cell_from
  have D_numbers_of := has_fn (P := l.prog) (w := w) (base := base) (k := 1) (ps := ["cells"]) X G anumbers_of xfnumbers_of (fun _ _ _ _ _ _ us hl => match us, hl with | [_], _ => rfl) fun fd F => okd_nums F VV
  have D_iter := LB.has_meS (P := l.prog) (w := w) (mg := mg) (base := base) (k := 1) (C := CLine) (ps := ["self"]) ammLine_DDiterDD immLine_DDiterDD xmLine_DDiterDD (fun _ _ _ _ _ _ us hl => match us, hl with | [_], _ => rfl) fun fd F => oks_iter F n_iter LL
  have D_numsL := has_fn (P := l.prog) (w := w) (base := base) (k := 2) (ps := ["cells"]) X G anumbers_of xfnumbers_of (fun _ _ _ _ _ _ us hl => match us, hl with | [_], _ => rfl) fun fd F => okd_numsL F VV D_iter
  have D_same_form := has_fn (P := l.prog) (w := w) (base := base) (k := 4) (ps := ["one", "other"]) X G asame_form xfsame_form (fun _ _ _ _ _ _ us hl => match us, hl with | [_, _], _ => rfl) fun fd F => okd_form F B LL D_same_values
  have D_orL := has_me (P := l.prog) (w := w) (mg := mg) (base := base) (k := 7) (C := CLine) (ps := ["self", "other"]) ammLine_DDorDD immLine_DDorDD xmLine_DDorDD (fun _ _ _ _ _ _ us hl => match us, hl with | [_, _], _ => rfl) fun fd F => okd_orL F n_zip sfC VV LL D_same_form D_orC M_Line
  have D_atL := LB.has_ix (P := l.prog) (w := w) (mg := mg) (base := base) (k := 3) (C := CLine) (ps := ["self", "at"]) ammLine_DDgetitemDD immLine_DDgetitemDD xmLine_DDgetitemDD (fun _ _ _ _ _ _ us hl => match us, hl with | [_, _], _ => rfl) fun fd F => okd_atL (CV := CValues) (CC := CCell) F B LL D_is_from
  have D_cells := has_pr (P := l.prog) (w := w) (mg := mg) (base := base) (k := 1) (C := CLine) (ps := ["self"]) ⟨appLine_cells, gppLine_cells, tppLine_cells, rppLine_cells⟩ xgLine_cells (fun _ _ _ _ _ _ us hl => match us, hl with | [_], _ => rfl) fun fd F => okd_cells (CV := CValues) (CC := CCell) F LL
  have D_lenL := has_me (P := l.prog) (w := w) (mg := mg) (base := base) (k := 1) (C := CLine) (ps := ["self"]) ammLine_DDlenDD immLine_DDlenDD xmLine_DDlenDD (fun _ _ _ _ _ _ us hl => match us, hl with | [_], _ => rfl) fun fd F => okd_lenL (CV := CValues) (CC := CCell) F B LL
  have TL : ClsT K CLine := ⟨⟨pgLine, hdLine, poLine, saLine⟩, haLine, hn, htk, hmLine⟩
  have D_eqL := has_me (P := l.prog) (w := w) (mg := mg) (base := base) (k := 4) (C := CLine) (ps := ["self", "other"]) ammLine_DDeqDD immLine_DDeqDD xmLine_DDeqDD (fun _ _ _ _ _ _ us hl => match us, hl with | [_, _], _ => rfl) fun fd F => okd_eqL F B VV LL TL kitLine_Line gL D_eqV D_eqC
  have D_setL := has_me (P := l.prog) (w := w) (mg := mg) (base := base) (k := 5) (C := CLine) (ps := ["self", "at", "worth"]) ammLine_DDsetitemDD immLine_DDsetitemDD xmLine_DDsetitemDD (fun _ _ _ _ _ _ us hl => match us, hl with | [_, _, _], _ => rfl) fun fd F => okd_setL F B VV LL sfC D_is_from D_cell_from D_andC
  have D_line_of := has_fn (P := l.prog) (w := w) (base := base) (k := 7) (ps := ["values", "numbers"]) X G aline_of xfline_of (fun _ _ _ _ _ _ us hl => match us, hl with | [_, _], _ => rfl) fun fd F => okd_lineOf F D_numbered VV M_Line
  have hNothingTold := has_ex (P := l.prog) (w := w) (base := base) (k := 1) (ps := ["self", "what"]) (ks := ["what"]) (b := false) X G gCNothingTold ENothingTold aeNothingTold teNothingTold xeNothingTold (fun _ _ _ _ _ _ us hl => match us, hl with | [_, _], _ => rfl) (fun _ _ _ _ _ _ self ws hl => match ws, hl with | [_], _ => rfl) fun fd F => ok_NothingTold F ENothingTold.toOexC noNothingToldwhat
  have hUnlike := has_ex (P := l.prog) (w := w) (base := base) (k := 1) (ps := ["self", "part"]) (ks := ["part"]) (b := false) X G gCUnlike EUnlike aeUnlike teUnlike xeUnlike (fun _ _ _ _ _ _ us hl => match us, hl with | [_, _], _ => rfl) (fun _ _ _ _ _ _ self ws hl => match ws, hl with | [_], _ => rfl) fun fd F => ok_Unlike F EUnlike.toOexC noUnlikepart
  have D_law_pen := has_fn (P := l.prog) (w := w) (base := base) (k := 1) (ps := ["_law_script"]) X G alaw_pen xflaw_pen (fun _ _ _ _ _ _ us hl => match us, hl with | [_], _ => rfl) fun fd F => okd_pen F B
  have D_law_draw := has_fn (P := l.prog) (w := w) (base := base) (k := 1) (ps := ["_law_pen_here", "_law_many"]) X G alaw_draw xflaw_draw (fun _ _ _ _ _ _ us hl => match us, hl with | [_, _], _ => rfl) fun fd F => (ok_draw F B).imp fun _ _ _ _ h => DL.fsDraw_of h
  have D_law_pick := has_fn (P := l.prog) (w := w) (base := base) (k := 2) (ps := ["_law_pen_here", "_law_some"]) X G alaw_pick xflaw_pick (fun _ _ _ _ _ _ us hl => match us, hl with | [_, _], _ => rfl) fun fd F => okd_pick F B D_law_draw
  have D_law_text := has_fn (P := l.prog) (w := w) (base := base) (k := 1) (ps := ["_law_letters", "_law_number"]) X G alaw_text xflaw_text (fun _ _ _ _ _ _ us hl => match us, hl with | [_, _], _ => rfl) fun fd F => okd_text F B
  have D_law_cell := has_fn (P := l.prog) (w := w) (base := base) (k := 3) (ps := ["_law_pen_here", "_law_many"]) X G alaw_cell xflaw_cell (fun _ _ _ _ _ _ us hl => match us, hl with | [_, _], _ => rfl) fun fd F => okd_cellL F D_law_draw D_law_pick
  have D_law_row := has_fn (P := l.prog) (w := w) (base := base) (k := 4) (ps := ["_law_pen_here", "_law_many", "_law_longest"]) X G alaw_row xflaw_row (fun _ _ _ _ _ _ us hl => match us, hl with | [_, _, _], _ => rfl) fun fd F => okd_rowD F B D_law_draw D_law_cell
  have D_law_line := has_fn (P := l.prog) (w := w) (base := base) (k := 7) (ps := ["_law_ground", "_law_row_here"]) X G alaw_line xflaw_line (fun _ _ _ _ _ _ us hl => match us, hl with | [_, _], _ => rfl) fun fd F => okd_lineP F VV D_law_text M_Line
  have D_law_shown := has_fn (P := l.prog) (w := w) (base := base) (k := 3) (ps := ["_law_strip"]) X G alaw_shown xflaw_shown (fun _ _ _ _ _ _ us hl => match us, hl with | [_], _ => rfl) fun fd F => okd_shown F VV LL D_cells
  have D_law_due := has_fn (P := l.prog) (w := w) (base := base) (k := 1) (ps := ["_law_rows"]) X G alaw_due xflaw_due (fun _ _ _ _ _ _ us hl => match us, hl with | [_], _ => rfl) fun fd F => okd_due F B n_zip
  have D_join := has_fn (P := l.prog) (w := w) (base := base) (k := 8) (ps := ["lines"]) X G ajoin xfjoin (fun _ _ _ _ _ _ us hl => match us, hl with | [_], _ => rfl) fun fd F => okd_join F B n_zip n_any VV LL NE D_eqV D_lenL D_numsL D_line_of hNothingTold.1 hUnlike.1
  have DK_join := has_fnK (P := l.prog) (w := w) (base := base) (k := 8) (ps := ["lines"]) X G ajoin xfjoin (fun _ _ _ _ _ _ ws hl => match ws, hl with | [_], _ => rfl) fun fd F => okd_join F B n_zip n_any VV LL NE D_eqV D_lenL D_numsL D_line_of hNothingTold.1 hUnlike.1
  obtain ⟨fdH, FH⟩ := xflaw_heard.get
  have gH := PySem.W.mg_of X G alaw_heard
  have bH : Binds K fdH ["_law_ask"] [] := FH.binds (fun _ _ _ _ _ _ us hl => match us, hl with | [_], _ => rfl)
  have GH := gives_heard (P := l.prog) (w := w) (K := K) (mg := mg) (base := base) (g := flaw_heard) (k := 9) (CV := CValues) (CC := CCell) (CL := CLine) (CN := CNothingTold) (CU := CUnlike) (CLE := CLineError) ⟨ENothingTold, EUnlike, noNothingToldwhat, noUnlikepart, exN, exU, kitNothingTold_NothingTold, kitUnlike_NothingTold, kitUnlike_Unlike⟩ B gN gU gLE D_law_shown (by decide)
  have D_law_mixed_right := has_fn (P := l.prog) (w := w) (base := base) (k := 11) (ps := ["_law_pen_here", "_law_ground", "_law_some"]) X G alaw_mixed_right xflaw_mixed_right (fun _ _ _ _ _ _ us hl => match us, hl with | [_, _, _], _ => rfl) fun fd F => okd_mixed F hflaw_mixed_right B VV LL FH gH bH GH (TB _ (List.mem_map.mpr ⟨("_law_mixed_right", none), .head _, rfl⟩)) D_law_draw D_law_pick D_law_row M_Values D_cells D_lenV D_law_line D_join
  exact DL.FnG.imp (LB.FnG.of (okd_law FL hflaw B VV LL nsL FH gH bH GH (TB _ (List.mem_map.mpr ⟨("law", none), .tail _ (.head _), rfl⟩)) D_law_draw D_law_pick D_law_cell D_law_pen M_Values D_lenV D_law_text D_law_line D_join DK_join D_law_shown D_law_due D_eqL D_setL D_law_mixed_right)) fun _ _ _ _ h => fsLawT_of (by simpa using ndT) rfl (fun t m => by simp only [List.mem_cons, List.not_mem_nil, or_false] at m; rcases m with rfl | rfl <;> rfl) h
end
end K41

namespace K41r
open PySem L2 LB DL PyProof.Rows KR K41q
theorem exl_get {K : PySem.W.Frag} {b : Bool} (h : ex K = true) (i : Nat) (e : (exl K)[i]? = some b) : b = true := List.all_eq_true.mp h b (List.mem_of_getElem? e)
theorem facts {l : PySem.W.OpenLaw} {K : PySem.W.Frag} {h : Heap} {mg : Str → Option Value} {fa : Addr} (X : K.In h) (G : h.Ns mainGlobals mg) (hfa : mg "law" = some (.ref fa)) (c : SaysY fn pf tf ex h K) (w : World) : LawG l w K 12 "_law_script" mg fa h := by
  obtain ⟨fd, hb, F⟩ := K41.all_mk (l := l) (w := w) (CValues := (He.ga K "Values")) (CCell := (He.ga K "Cell")) (CLine := (He.ga K "Line")) (CNothingTold := (He.ga K "NothingTold")) (CUnlike := (He.ga K "Unlike")) (CLineError := (He.ga K "LineError")) (fis_letter_of := (He.ga K "is_letter_of")) (fare_unlike_letters := (He.ga K "are_unlike_letters")) (fare_values_letters := (He.ga K "are_values_letters")) (iCell := (He.ma K (He.ga K "Cell") "__init__")) (iValues := (He.ma K (He.ga K "Values") "__init__")) (fis_integer := (He.ga K "is_integer")) (fis_from := (He.ga K "is_from")) (mValues_DDeqDD := (He.ma K (He.ga K "Values") "__eq__")) (fsame_values := (He.ga K "same_values")) (mValues_numbered := (He.ma K (He.ga K "Values") "numbered")) (fnumber_of_letters := (He.ga K "number_of_letters")) (mValues_cell := (He.ma K (He.ga K "Values") "cell")) (mValues_DDlenDD := (He.ma K (He.ga K "Values") "__len__")) (fcell_from := (He.ga K "cell_from")) (fis_row := (He.ga K "is_row")) (mCell_DDorDD := (He.ma K (He.ga K "Cell") "__or__")) (mCell_DDcontainsDD := (He.ma K (He.ga K "Cell") "__contains__")) (mCell_DDeqDD := (He.ma K (He.ga K "Cell") "__eq__")) (mCell_DDandDD := (He.ma K (He.ga K "Cell") "__and__")) (iLine := (He.ma K (He.ga K "Line") "__init__")) (fnumbers_of := (He.ga K "numbers_of")) (mLine_DDiterDD := (He.ma K (He.ga K "Line") "__iter__")) (fsame_form := (He.ga K "same_form")) (mLine_DDorDD := (He.ma K (He.ga K "Line") "__or__")) (mLine_DDgetitemDD := (He.ma K (He.ga K "Line") "__getitem__")) (pLine_cells := (He.ma K (He.ga K "Line") "cells")) (gLine_cells := (pgA K (He.ma K (He.ga K "Line") "cells"))) (mLine_DDlenDD := (He.ma K (He.ga K "Line") "__len__")) (mLine_DDeqDD := (He.ma K (He.ga K "Line") "__eq__")) (mLine_DDsetitemDD := (He.ma K (He.ga K "Line") "__setitem__")) (fline_of := (He.ga K "line_of")) (eNothingTold := (He.ma K (He.ga K "NothingTold") "__init__")) (eUnlike := (He.ma K (He.ga K "Unlike") "__init__")) (flaw_pen := (He.ga K "_law_pen")) (flaw_draw := (He.ga K "_law_draw")) (flaw_pick := (He.ga K "_law_pick")) (flaw_text := (He.ga K "_law_text")) (flaw_cell := (He.ga K "_law_cell")) (flaw_row := (He.ga K "_law_row")) (flaw_line := (He.ga K "_law_line")) (flaw_shown := (He.ga K "_law_shown")) (flaw_due := (He.ga K "_law_due")) (fjoin := (He.ga K "join")) (flaw_heard := (He.ga K "_law_heard")) (flaw_mixed_right := (He.ga K "_law_mixed_right")) (flaw := (He.ga K "law")) X G hfa (of_decide_eq_true (exl_get c.ex 0 rfl)) (of_decide_eq_true (exl_get c.ex 1 rfl)) (of_decide_eq_true (exl_get c.ex 2 rfl)) (of_decide_eq_true (exl_get c.ex 3 rfl)) (of_decide_eq_true (exl_get c.ex 4 rfl)) (of_decide_eq_true (exl_get c.ex 5 rfl)) (of_decide_eq_true (exl_get c.ex 6 rfl)) (of_decide_eq_true (exl_get c.ex 7 rfl)) (of_decide_eq_true (exl_get c.ex 8 rfl)) (of_decide_eq_true (exl_get c.ex 9 rfl)) (of_decide_eq_true (exl_get c.ex 10 rfl)) (of_decide_eq_true (exl_get c.ex 11 rfl)) (of_decide_eq_true (exl_get c.ex 12 rfl)) (of_decide_eq_true (exl_get c.ex 13 rfl)) (of_decide_eq_true (exl_get c.ex 14 rfl)) (of_decide_eq_true (exl_get c.ex 15 rfl)) (of_decide_eq_true (exl_get c.ex 16 rfl)) (of_decide_eq_true (exl_get c.ex 17 rfl)) (of_decide_eq_true (exl_get c.ex 18 rfl)) (of_decide_eq_true (exl_get c.ex 19 rfl)) (of_decide_eq_true (exl_get c.ex 20 rfl)) (of_decide_eq_true (exl_get c.ex 21 rfl)) (of_decide_eq_true (exl_get c.ex 22 rfl)) (of_decide_eq_true (exl_get c.ex 23 rfl)) (of_decide_eq_true (exl_get c.ex 24 rfl)) (of_decide_eq_true (exl_get c.ex 25 rfl)) (of_decide_eq_true (exl_get c.ex 26 rfl)) (of_decide_eq_true (exl_get c.ex 27 rfl)) (of_decide_eq_true (exl_get c.ex 28 rfl)) (of_decide_eq_true (exl_get c.ex 29 rfl)) (of_decide_eq_true (exl_get c.ex 30 rfl)) (of_decide_eq_true (exl_get c.ex 31 rfl)) (of_decide_eq_true (exl_get c.ex 32 rfl)) (of_decide_eq_true (exl_get c.ex 33 rfl)) (of_decide_eq_true (exl_get c.ex 34 rfl)) (of_decide_eq_true (exl_get c.ex 35 rfl)) (of_decide_eq_true (exl_get c.ex 36 rfl)) (of_decide_eq_true (exl_get c.ex 37 rfl)) (of_decide_eq_true (exl_get c.ex 38 rfl)) (of_decide_eq_true (exl_get c.ex 39 rfl)) (of_decide_eq_true (exl_get c.ex 40 rfl)) (of_decide_eq_true (exl_get c.ex 41 rfl)) (of_decide_eq_true (exl_get c.ex 42 rfl)) (of_decide_eq_true (exl_get c.ex 43 rfl)) (of_decide_eq_true (exl_get c.ex 44 rfl)) (of_decide_eq_true (exl_get c.ex 45 rfl)) (of_decide_eq_true (exl_get c.ex 46 rfl)) (of_decide_eq_true (exl_get c.ex 47 rfl)) (const_ok (exl_get c.ex 48 rfl)) (text_ok (z1 := K41.SM) (by decide +kernel) (exl_get c.ex 49 rfl)) (of_decide_eq_true (exl_get c.ex 50 rfl)) (const_ok (exl_get c.ex 51 rfl)) (of_decide_eq_true (exl_get c.ex 52 rfl)) (of_decide_eq_true (exl_get c.ex 53 rfl)) (of_decide_eq_true (exl_get c.ex 54 rfl)) (of_decide_eq_true (exl_get c.ex 55 rfl)) (of_decide_eq_true (exl_get c.ex 56 rfl)) (of_decide_eq_true (exl_get c.ex 57 rfl)) (of_decide_eq_true (exl_get c.ex 58 rfl)) (of_decide_eq_true (exl_get c.ex 59 rfl)) (of_decide_eq_true (exl_get c.ex 60 rfl)) (of_decide_eq_true (exl_get c.ex 61 rfl)) (of_decide_eq_true (exl_get c.ex 62 rfl)) (of_decide_eq_true (exl_get c.ex 63 rfl)) (of_decide_eq_true (exl_get c.ex 64 rfl)) (of_decide_eq_true (exl_get c.ex 65 rfl)) (of_decide_eq_true (exl_get c.ex 66 rfl)) (of_decide_eq_true (exl_get c.ex 67 rfl)) (of_decide_eq_true (exl_get c.ex 68 rfl)) (of_decide_eq_true (exl_get c.ex 69 rfl)) (of_decide_eq_true (exl_get c.ex 70 rfl)) (of_decide_eq_true (exl_get c.ex 71 rfl)) (of_decide_eq_true (exl_get c.ex 72 rfl)) (of_decide_eq_true (exl_get c.ex 73 rfl)) (of_decide_eq_true (exl_get c.ex 74 rfl)) (fnx_of c.d 0) (of_decide_eq_true (exl_get c.ex 75 rfl)) (fnx_of c.d 1) (of_decide_eq_true (exl_get c.ex 76 rfl)) (fnx_of c.d 2) (of_decide_eq_true (exl_get c.ex 77 rfl)) (of_decide_eq_true (exl_get c.ex 78 rfl)) (fnx_of c.d 3) (of_decide_eq_true (exl_get c.ex 79 rfl)) (of_decide_eq_true (exl_get c.ex 80 rfl)) (fnx_of c.d 4) (of_decide_eq_true (exl_get c.ex 81 rfl)) (fnx_of c.d 5) (of_decide_eq_true (exl_get c.ex 82 rfl)) (fnx_of c.d 6) (of_decide_eq_true (exl_get c.ex 83 rfl)) (of_decide_eq_true (exl_get c.ex 84 rfl)) (fnx_of c.d 7) (of_decide_eq_true (exl_get c.ex 85 rfl)) (fnx_of c.d 8) (of_decide_eq_true (exl_get c.ex 86 rfl)) (of_decide_eq_true (exl_get c.ex 87 rfl)) (fnx_of c.d 9) (of_decide_eq_true (exl_get c.ex 88 rfl)) (fnx_of c.d 10) (of_decide_eq_true (exl_get c.ex 89 rfl)) (of_decide_eq_true (exl_get c.ex 90 rfl)) (fnx_of c.d 11) (of_decide_eq_true (exl_get c.ex 91 rfl)) (of_decide_eq_true (exl_get c.ex 92 rfl)) (fnx_of c.d 12) (of_decide_eq_true (exl_get c.ex 93 rfl)) (fnx_of c.d 13) (of_decide_eq_true (exl_get c.ex 94 rfl)) (fnx_of c.d 14) (of_decide_eq_true (exl_get c.ex 95 rfl)) (of_decide_eq_true (exl_get c.ex 96 rfl)) (fnx_of c.d 15) (of_decide_eq_true (exl_get c.ex 97 rfl)) (of_decide_eq_true (exl_get c.ex 98 rfl)) (fnx_of c.d 16) (of_decide_eq_true (exl_get c.ex 99 rfl)) (of_decide_eq_true (exl_get c.ex 100 rfl)) (fnx_of c.d 17) (of_decide_eq_true (exl_get c.ex 101 rfl)) (of_decide_eq_true (exl_get c.ex 102 rfl)) (fnx_of c.d 18) (of_decide_eq_true (exl_get c.ex 103 rfl)) (of_decide_eq_true (exl_get c.ex 104 rfl)) (fnx_of c.d 19) (of_decide_eq_true (exl_get c.ex 105 rfl)) (fnx_of c.d 20) (of_decide_eq_true (exl_get c.ex 106 rfl)) (of_decide_eq_true (exl_get c.ex 107 rfl)) (fnx_of c.d 21) (of_decide_eq_true (exl_get c.ex 108 rfl)) (fnx_of c.d 22) (of_decide_eq_true (exl_get c.ex 109 rfl)) (of_decide_eq_true (exl_get c.ex 110 rfl)) (fnx_of c.d 23) (of_decide_eq_true (exl_get c.ex 111 rfl)) (of_decide_eq_true (exl_get c.ex 112 rfl)) (fnx_of c.d 24) (of_decide_eq_true (exl_get c.ex 113 rfl)) (of_decide_eq_true (exl_get c.ex 114 rfl)) (of_decide_eq_true (exl_get c.ex 115 rfl)) (rec_ok (exl_get c.ex 116 rfl)) (fnxp_of c 0) (of_decide_eq_true (exl_get c.ex 117 rfl)) (of_decide_eq_true (exl_get c.ex 118 rfl)) (fnx_of c.d 25) (of_decide_eq_true (exl_get c.ex 119 rfl)) (of_decide_eq_true (exl_get c.ex 120 rfl)) (of_decide_eq_true (exl_get c.ex 121 rfl)) (of_decide_eq_true (exl_get c.ex 122 rfl)) (of_decide_eq_true (exl_get c.ex 123 rfl)) (fnx_of c.d 26) (of_decide_eq_true (exl_get c.ex 124 rfl)) (of_decide_eq_true (exl_get c.ex 125 rfl)) (fnx_of c.d 27) (of_decide_eq_true (exl_get c.ex 126 rfl)) (fnx_of c.d 28) (exk_ok (exl_get c.ex 127 rfl)) (of_decide_eq_true (exl_get c.ex 128 rfl)) (of_decide_eq_true (exl_get c.ex 129 rfl)) (fnx_of c.d 29) (of_decide_eq_true (exl_get c.ex 130 rfl)) (exk_ok (exl_get c.ex 131 rfl)) (of_decide_eq_true (exl_get c.ex 132 rfl)) (of_decide_eq_true (exl_get c.ex 133 rfl)) (fnx_of c.d 30) (of_decide_eq_true (exl_get c.ex 134 rfl)) (of_decide_eq_true (exl_get c.ex 135 rfl)) (fnx_of c.d 31) (of_decide_eq_true (exl_get c.ex 136 rfl)) (fnx_of c.d 32) (of_decide_eq_true (exl_get c.ex 137 rfl)) (fnx_of c.d 33) (of_decide_eq_true (exl_get c.ex 138 rfl)) (fnx_of c.d 34) (of_decide_eq_true (exl_get c.ex 139 rfl)) (fnx_of c.d 35) (of_decide_eq_true (exl_get c.ex 140 rfl)) (fnx_of c.d 36) (of_decide_eq_true (exl_get c.ex 141 rfl)) (fnx_of c.d 37) (of_decide_eq_true (exl_get c.ex 142 rfl)) (fnx_of c.d 38) (of_decide_eq_true (exl_get c.ex 143 rfl)) (fnx_of c.d 39) (of_decide_eq_true (exl_get c.ex 144 rfl)) (fnx_of c.d 40) (of_decide_eq_true (exl_get c.ex 145 rfl)) (fnx_of c.d 41) (of_decide_eq_true (exl_get c.ex 146 rfl)) (fnx_of c.d 42) (of_decide_eq_true (exl_get c.ex 147 rfl)) (fnx_of c.d 43) rfl rfl
  exact ⟨fd, tf.map (He.cT K), _, fun q m => let ⟨p, hp, e⟩ := List.mem_map.mp m; e ▸ c.empty p hp, fun q m => let ⟨p, hp, e⟩ := List.mem_map.mp m; e ▸ c.out p hp, code_hd X c.hd, hb, fun H a ns only hS => ⟨a, ns, rfl, only.tab, hS, fun _ => rfl⟩, F⟩
end K41r
open PySem PySem.W PySem.Calls PyProof.Rows
set_option maxRecDepth 100000 in
set_option maxHeartbeats 0 in
theorem PySem.Challenge.cw_linestrikes_k41_lines_joined_holds : PySem.Challenge.rw_linestrikes_k41_lines_joined.Holds := by
  w_on; o_law
  refine HandSHeadRun.head_any (r := OpenLaw.row PySem.Challenge.rw_linestrikes_k41_lines_joined) (q := view (OpenLaw.row PySem.Challenge.rw_linestrikes_k41_lines_joined).prog [60]) (H := KR.hookY 5 K41q.fn K41q.pf K41q.tf K41q.ex) (ob := KR.ob 5 K41q.fn K41q.pf K41q.tf K41q.ex) (M := 60000) (loose := K41q.names) (d := HandSHeadRun.topDef (OpenLaw.row PySem.Challenge.rw_linestrikes_k41_lines_joined).prog 60) (kwd := []) KR.ob_eq
    (by kernel_rfl) (fun s => by kernel_rfl) K41q.run (by kernel_rfl) (by kernel_rfl) (by kernel_rfl) (by rfl) (by first | assumption | decide +kernel) (by decide +kernel) ⟨rfl, rfl, rfl, rfl, rfl, by decide +kernel⟩ ?hw ?hc
  case hw => w_witness2
  case hc =>
    refine LB.walk_ofTG (l := PySem.Challenge.rw_linestrikes_k41_lines_joined) (n := 63) (k := 12) (x := "_law_script") rfl (by decide) (by kernel_rfl) ⟨rfl, by decide, by decide⟩ ?F
    intro w mg fa h Y G hmg0
    obtain ⟨K, KX, c⟩ := Y
    have hmg : mg ("law" : PySem.Str) = some (.ref fa) := by
      have e : (HandSHeadRun.topDef (OpenLaw.row PySem.Challenge.rw_linestrikes_k41_lines_joined).prog 60).name = ("law" : PySem.Str) := by kernel_rfl
      rw [← e]
      exact hmg0
    exact ⟨K, KX, K41r.facts (l := PySem.Challenge.rw_linestrikes_k41_lines_joined) KX G hmg c w⟩

