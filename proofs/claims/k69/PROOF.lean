import PyProof.Rows.All
import Wide.All
import OpenK.AllK
import Wide.FinOn
import KE.KStateDown
import Lean
import HandS.ForMost
import HandS.ForExc
import HandS.More
import HandS.Flow
import HandS.IsInst
import HandS.Conv
import HandS.TupMul
import HandS.Zip
import HandS.TupLen
import HandS.TupAny
import HandS.TupSets
import HandS.Defaults
import HandS.FStr
import HandS.Wide
import HandS.Lambda
import HandS.TryMany
import HandS.ExcInit
import HandS.ExcField
import HandS.Head0
import HandS.Head1
import HandS.Head2
import HandS.HeadEnd
import HandS.HeadHook1
import HandS.HeadHook2
import HandS.HeadHook4
import KE.KDictKeyed
import KE.KDictWalk
import KE.KDictCopyH
import KE.KDictList
import KE.GoesMore
import HandS.Deep
import HandS.SortInts
import HandS.ExcValue
import PyProof.TupleOfSeq
import HandS.Style
import HandS.SortKw
import KE.DatumOrd
import KE.SortData
import KE.KDictSum
import HandS.Strs
import HandS.SetFor
import HandS.DictComp
import KE.KDictPairs
import HandS.NamedTupGet
import PyProof.ReprRoads
import PyProof.ReprLen
import KE.GoesEnum
import KE.KIndexWalk
import HandS.TryOnly
import HandS.MakeKwOnly
import PyProof.Rows.IntBool
import HandS.ExcOwn
import KE.KExcIs
import HandS.HotCalls
import HandS.HeadWalk
import HandS.MakeKw
import HandS.Text
import HandS.RaiseMore
import PyProof.Rows.Range3
import HandS.OwnEq
import PyProof.InstEq
import KE.KDflt
import PySem.Challenge.RW_hushrules_k69_whole_watch_far_on
set_option Elab.async false
set_option linter.all false
set_option maxRecDepth 100000
namespace U
open PySem PySem.Spec PySem.Calls PyProof.Rows PyProof.V L2
def isiCB (C : Addr) (K : PySem.W.Frag) : Bool :=
  decide (PySem.W.findIn K (.ref C) "__class__" = some (some (.builtin "object.__class__"))) && (decide (PySem.W.specialIn K (.builtin "object.__class__") "__get__" = some (some (.builtin "getset_descriptor.__get__"))) &&
    (decide (PySem.W.takesIn K (.builtin "object.__class__") = some true) && (decide (PySem.W.mroIn K C (.type "object") = some true) && ["int", "bool", "str", "tuple", "list"].all fun T => decide (PySem.W.kitOne K (.ref C) (.type T) = some false))))
def kwAt (f : Str × Option Str) (x : Str) (K : PySem.W.Frag) : Addr := match K.lookup (He.fAd K f) with
  | some ⟨_, _, .func fd, _⟩ => (match fd.kwdefaults with
    | .ref D => (match PySem.W.nsIn K D x with
      | some (some (.ref a)) => a
      | _ => 0)
    | _ => 0)
  | _ => 0
def etupB (a : PySem.W.Frag → Addr) (K : PySem.W.Frag) : Bool := match K.lookup (a K) with
  | some ⟨.type c, _, .seq its _, _⟩ => decide (c = "tuple") && decide (its.toList = [])
  | _ => false
def exOk (xs : List (PySem.W.Frag → Bool)) (K : PySem.W.Frag) : Bool := xs.all fun f => f K
def rscB (c : Str) (K : PySem.W.Frag) : Bool :=
  PySem.W.excIn K (He.ga K c) [.type "ValueError", .type "Exception", .type "BaseException", .type "object"] "ValueError.__new__" &&
    (PySem.W.keepIn K (.ref (He.ga K c)) && (decide (PySem.W.subIn K (.ref (He.ga K c)) (.type "BaseException") = some true) && decide (PySem.W.typeIn K (.ref (He.ga K c)) = some (.type "type"))))
def fieldsOf (c : Str) : List Str := match ([("NoBook", "at"), ("NoSeen", "at"), ("NoText", "at"), ("NoRule", "rule"), ("NoWheel", "wheel"), ("NoPlace", "place"), ("NoBeat", "beats")] : List (Str × Str)).lookup c with
  | some x => [x]
  | none => []
end U
set_option Elab.async false
set_option linter.all false
set_option maxRecDepth 100000
set_option maxHeartbeats 0
namespace Hd
open PySem PySem.Spec PyProof.Rows L2
def top (i : Nat) : Stmt := PySem.Challenge.pw_hushrules_k69_whole_watch_far_on.main.body.getD i (.Pass ⟨0, 0, 0, 0⟩)
def topM (i j : Nat) : Stmt := inClass (top i) j
def d_is_whole : He.DefD := ⟨("is_whole", none), "is_whole", "is_whole", defArgs (top 17), defBody (top 17), defScope (top 17), [], []⟩
def d_is_within : He.DefD := ⟨("is_within", none), "is_within", "is_within", defArgs (top 18), defBody (top 18), defScope (top 18), [], []⟩
def d_is_below : He.DefD := ⟨("is_below", none), "is_below", "is_below", defArgs (top 19), defBody (top 19), defScope (top 19), [], []⟩
def d_is_rising : He.DefD := ⟨("is_rising", none), "is_rising", "is_rising", defArgs (top 20), defBody (top 20), defScope (top 20), [], []⟩
def d_is_wheels : He.DefD := ⟨("is_wheels", none), "is_wheels", "is_wheels", defArgs (top 21), defBody (top 21), defScope (top 21), [], []⟩
def d_is_values : He.DefD := ⟨("is_values", none), "is_values", "is_values", defArgs (top 22), defBody (top 22), defScope (top 22), [], []⟩
def d_is_left : He.DefD := ⟨("is_left", none), "is_left", "is_left", defArgs (top 23), defBody (top 23), defScope (top 23), [], []⟩
def d_is_state_of : He.DefD := ⟨("is_state_of", none), "is_state_of", "is_state_of", defArgs (top 24), defBody (top 24), defScope (top 24), [], []⟩
def d_is_beats : He.DefD := ⟨("is_beats", none), "is_beats", "is_beats", defArgs (top 25), defBody (top 25), defScope (top 25), [], []⟩
def d_want_state : He.DefD := ⟨("want_state", none), "want_state", "want_state", defArgs (top 26), defBody (top 26), defScope (top 26), [], []⟩
def d_want_rule : He.DefD := ⟨("want_rule", none), "want_rule", "want_rule", defArgs (top 27), defBody (top 27), defScope (top 27), [], []⟩
def d_want_off : He.DefD := ⟨("want_off", none), "want_off", "want_off", defArgs (top 28), defBody (top 28), defScope (top 28), [], []⟩
def d_want_beats : He.DefD := ⟨("want_beats", none), "want_beats", "want_beats", defArgs (top 29), defBody (top 29), defScope (top 29), [], []⟩
def d_Book_init : He.DefD := ⟨("Book", some "__init__"), "__init__", "Book.__init__", defArgs (topM 38 0), defBody (topM 38 0), defScope (topM 38 0), [.adr (He.dflAt ("Book", some "__init__") 0)], []⟩
def d_Book_len : He.DefD := ⟨("Book", some "__len__"), "__len__", "Book.__len__", defArgs (topM 38 2), defBody (topM 38 2), defScope (topM 38 2), [], []⟩
def d_is_row : He.DefD := ⟨("is_row", none), "is_row", "is_row", defArgs (top 39), defBody (top 39), defScope (top 39), [], []⟩
def d_is_rule : He.DefD := ⟨("is_rule", none), "is_rule", "is_rule", defArgs (top 40), defBody (top 40), defScope (top 40), [], []⟩
def d_is_condition : He.DefD := ⟨("is_condition", none), "is_condition", "is_condition", defArgs (top 41), defBody (top 41), defScope (top 41), [], []⟩
def d_is_moment : He.DefD := ⟨("is_moment", none), "is_moment", "is_moment", defArgs (top 42), defBody (top 42), defScope (top 42), [], []⟩
def d_is_change : He.DefD := ⟨("is_change", none), "is_change", "is_change", defArgs (top 43), defBody (top 43), defScope (top 43), [], []⟩
def d_is_spot : He.DefD := ⟨("is_spot", none), "is_spot", "is_spot", defArgs (top 44), defBody (top 44), defScope (top 44), [], []⟩
def d_is_hushes : He.DefD := ⟨("is_hushes", none), "is_hushes", "is_hushes", defArgs (top 45), defBody (top 45), defScope (top 45), [], []⟩
def d_is_hush : He.DefD := ⟨("is_hush", none), "is_hush", "is_hush", defArgs (top 46), defBody (top 46), defScope (top 46), [], []⟩
def d_is_wakes : He.DefD := ⟨("is_wakes", none), "is_wakes", "is_wakes", defArgs (top 47), defBody (top 47), defScope (top 47), [], []⟩
def d_begun : He.DefD := ⟨("begun", none), "begun", "begun", defArgs (top 51), defBody (top 51), defScope (top 51), [], []⟩
def d_own_order : He.DefD := ⟨("own_order", none), "own_order", "own_order", defArgs (top 53), defBody (top 53), defScope (top 53), [], []⟩
def d_step : He.DefD := ⟨("step", none), "step", "step", defArgs (top 54), defBody (top 54), defScope (top 54), [], []⟩
def d_ended : He.DefD := ⟨("ended", none), "ended", "ended", defArgs (top 55), defBody (top 55), defScope (top 55), [], []⟩
def d_is_ready : He.DefD := ⟨("is_ready", none), "is_ready", "is_ready", defArgs (top 56), defBody (top 56), defScope (top 56), [], []⟩
def d_is_so : He.DefD := ⟨("is_so", none), "is_so", "is_so", defArgs (top 57), defBody (top 57), defScope (top 57), [], []⟩
def d_carry_out : He.DefD := ⟨("carry_out", none), "carry_out", "carry_out", defArgs (top 58), defBody (top 58), defScope (top 58), [], []⟩
def d_state_at : He.DefD := ⟨("state_at", none), "state_at", "state_at", defArgs (top 60), defBody (top 60), defScope (top 60), [], [("off", .adr (U.kwAt ("state_at", none) "off"))]⟩
def d_round_of : He.DefD := ⟨("round_of", none), "round_of", "round_of", defArgs (top 61), defBody (top 61), defScope (top 61), [], [("off", .adr (U.kwAt ("round_of", none) "off"))]⟩
def d_times : He.DefD := ⟨("times", none), "times", "times", defArgs (top 62), defBody (top 62), defScope (top 62), [], [("off", .adr (U.kwAt ("times", none) "off"))]⟩
def d_went_on : He.DefD := ⟨("went_on", none), "went_on", "went_on", defArgs (top 63), defBody (top 63), defScope (top 63), [], []⟩
def d_tally : He.DefD := ⟨("tally", none), "tally", "tally", defArgs (top 64), defBody (top 64), defScope (top 64), [], []⟩
def d_trail : He.DefD := ⟨("trail", none), "trail", "trail", defArgs (top 65), defBody (top 65), defScope (top 65), [], []⟩
def d_ways_from : He.DefD := ⟨("ways_from", none), "ways_from", "ways_from", defArgs (top 66), defBody (top 66), defScope (top 66), [], []⟩
def d_trail_along : He.DefD := ⟨("trail_along", none), "trail_along", "trail_along", defArgs (top 67), defBody (top 67), defScope (top 67), [], []⟩
def d_number_at : He.DefD := ⟨("number_at", none), "number_at", "number_at", defArgs (top 68), defBody (top 68), defScope (top 68), [], []⟩
def d_doings : He.DefD := ⟨("doings", none), "doings", "doings", defArgs (top 69), defBody (top 69), defScope (top 69), [], []⟩
def d_count_below : He.DefD := ⟨("count_below", none), "count_below", "count_below", defArgs (top 70), defBody (top 70), defScope (top 70), [], []⟩
def d_Watch_init : He.DefD := ⟨("Watch", some "__init__"), "__init__", "Watch.__init__", defArgs (topM 75 0), defBody (topM 75 0), defScope (topM 75 0), [], [("off", .adr (U.kwAt ("Watch", some "__init__") "off"))]⟩
def d_Watch_go : He.DefD := ⟨("Watch", some "go"), "go", "Watch.go", defArgs (topM 75 4), defBody (topM 75 4), defScope (topM 75 4), [.int (1)], []⟩
def d_Watch_hush : He.DefD := ⟨("Watch", some "hush"), "hush", "Watch.hush", defArgs (topM 75 5), defBody (topM 75 5), defScope (topM 75 5), [.int (1)], []⟩
def d_Watch_wake : He.DefD := ⟨("Watch", some "wake"), "wake", "Watch.wake", defArgs (topM 75 6), defBody (topM 75 6), defScope (topM 75 6), [], []⟩
def d_Watch_turn : He.DefD := ⟨("Watch", some "turn"), "turn", "Watch.turn", defArgs (topM 75 7), defBody (topM 75 7), defScope (topM 75 7), [.int (1)], []⟩
def d_Watch_put : He.DefD := ⟨("Watch", some "put"), "put", "Watch.put", defArgs (topM 75 8), defBody (topM 75 8), defScope (topM 75 8), [], []⟩
def d_Watch_put_off : He.DefD := ⟨("Watch", some "put_off"), "put_off", "Watch.put_off", defArgs (topM 75 9), defBody (topM 75 9), defScope (topM 75 9), [], []⟩
def d_Watch_put_on : He.DefD := ⟨("Watch", some "put_on"), "put_on", "Watch.put_on", defArgs (topM 75 10), defBody (topM 75 10), defScope (topM 75 10), [], []⟩
def d_Watch_now : He.DefD := ⟨("Watch", some "now"), "now", "Watch.now", defArgs (topM 75 13), defBody (topM 75 13), defScope (topM 75 13), [], []⟩
def d_Watch_state : He.DefD := ⟨("Watch", some "state"), "state", "Watch.state", defArgs (topM 75 14), defBody (topM 75 14), defScope (topM 75 14), [], []⟩
def d_Watch_off : He.DefD := ⟨("Watch", some "off"), "off", "Watch.off", defArgs (topM 75 15), defBody (topM 75 15), defScope (topM 75 15), [], []⟩
def d_Watch_counts : He.DefD := ⟨("Watch", some "counts"), "counts", "Watch.counts", defArgs (topM 75 16), defBody (topM 75 16), defScope (topM 75 16), [], []⟩
def d_Watch_want_wheel : He.DefD := ⟨("Watch", some "want_wheel"), "want_wheel", "Watch.want_wheel", defArgs (topM 75 17), defBody (topM 75 17), defScope (topM 75 17), [], []⟩
def d_Watch_enter : He.DefD := ⟨("Watch", some "enter"), "enter", "Watch.enter", defArgs (topM 75 18), defBody (topM 75 18), defScope (topM 75 18), [], []⟩
def d_Watch_enter_state : He.DefD := ⟨("Watch", some "enter_state"), "enter_state", "Watch.enter_state", defArgs (topM 75 19), defBody (topM 75 19), defScope (topM 75 19), [], []⟩
def d_Watch_enter_off : He.DefD := ⟨("Watch", some "enter_off"), "enter_off", "Watch.enter_off", defArgs (topM 75 20), defBody (topM 75 20), defScope (topM 75 20), [], []⟩
def d_replaced : He.DefD := ⟨("replaced", none), "replaced", "replaced", defArgs (top 76), defBody (top 76), defScope (top 76), [], []⟩
def d__law_bag : He.DefD := ⟨("_law_bag", none), "_law_bag", "_law_bag", defArgs (top 78), defBody (top 78), defScope (top 78), [], []⟩
def d__law_take : He.DefD := ⟨("_law_take", none), "_law_take", "_law_take", defArgs (top 79), defBody (top 79), defScope (top 79), [], []⟩
def d__law_wheels : He.DefD := ⟨("_law_wheels", none), "_law_wheels", "_law_wheels", defArgs (top 80), defBody (top 80), defScope (top 80), [], []⟩
def d__law_condition : He.DefD := ⟨("_law_condition", none), "_law_condition", "_law_condition", defArgs (top 81), defBody (top 81), defScope (top 81), [], []⟩
def d__law_change : He.DefD := ⟨("_law_change", none), "_law_change", "_law_change", defArgs (top 82), defBody (top 82), defScope (top 82), [], []⟩
def d__law_rule : He.DefD := ⟨("_law_rule", none), "_law_rule", "_law_rule", defArgs (top 83), defBody (top 83), defScope (top 83), [], []⟩
def d__law_rules : He.DefD := ⟨("_law_rules", none), "_law_rules", "_law_rules", defArgs (top 84), defBody (top 84), defScope (top 84), [], []⟩
def d__law_drawn : He.DefD := ⟨("_law_drawn", none), "_law_drawn", "_law_drawn", defArgs (top 85), defBody (top 85), defScope (top 85), [], []⟩
def d__law_so : He.DefD := ⟨("_law_so", none), "_law_so", "_law_so", defArgs (top 86), defBody (top 86), defScope (top 86), [], []⟩
def d__law_beat : He.DefD := ⟨("_law_beat", none), "_law_beat", "_law_beat", defArgs (top 87), defBody (top 87), defScope (top 87), [], []⟩
def d__law_own : He.DefD := ⟨("_law_own", none), "_law_own", "_law_own", defArgs (top 88), defBody (top 88), defScope (top 88), [], []⟩
def d__law_track : He.DefD := ⟨("_law_track", none), "_law_track", "_law_track", defArgs (top 89), defBody (top 89), defScope (top 89), [], []⟩
def d__law_off : He.DefD := ⟨("_law_off", none), "_law_off", "_law_off", defArgs (top 90), defBody (top 90), defScope (top 90), [], []⟩
def d__law_starts : He.DefD := ⟨("_law_starts", none), "_law_starts", "_law_starts", defArgs (top 91), defBody (top 91), defScope (top 91), [], []⟩
def d__law_hand : He.DefD := ⟨("_law_hand", none), "_law_hand", "_law_hand", defArgs (top 92), defBody (top 92), defScope (top 92), [], []⟩
def d__law_at_watch : He.DefD := ⟨("_law_at_watch", none), "_law_at_watch", "_law_at_watch", defArgs (top 93), defBody (top 93), defScope (top 93), [], []⟩
def d__law_far : He.DefD := ⟨("_law_far", none), "_law_far", "_law_far", defArgs (top 94), defBody (top 94), defScope (top 94), [], []⟩
def d__law_spot : He.DefD := ⟨("_law_spot", none), "_law_spot", "_law_spot", defArgs (top 95), defBody (top 95), defScope (top 95), [], []⟩
def d__law_like_one : He.DefD := ⟨("_law_like_one", none), "_law_like_one", "_law_like_one", defArgs (top 96), defBody (top 96), defScope (top 96), [], []⟩
def d_law : He.DefD := ⟨("law", none), "law", "law", defArgs (top 97), defBody (top 97), defScope (top 97), [], []⟩
def fn0 : List He.DefD := [d_is_whole, d_is_within, d_is_below, d_is_rising, d_is_wheels, d_is_values, d_is_left, d_is_state_of, d_is_beats, d_want_state, d_want_rule, d_want_off, d_want_beats, d_Book_init, d_Book_len, d_is_row, d_is_rule, d_is_condition, d_is_moment, d_is_change, d_is_spot, d_is_hushes, d_is_hush, d_is_wakes, d_begun, d_own_order, d_step, d_ended, d_is_ready, d_is_so]
def fn1 : List He.DefD := [d_carry_out, d_state_at, d_round_of, d_times, d_went_on, d_tally, d_trail, d_ways_from, d_trail_along, d_number_at, d_doings, d_count_below, d_Watch_init, d_Watch_go, d_Watch_hush, d_Watch_wake, d_Watch_turn, d_Watch_put, d_Watch_put_off, d_Watch_put_on, d_Watch_now, d_Watch_state, d_Watch_off, d_Watch_counts, d_Watch_want_wheel, d_Watch_enter, d_Watch_enter_state, d_Watch_enter_off, d_replaced, d__law_bag]
def fn2 : List He.DefD := [d__law_take, d__law_wheels, d__law_condition, d__law_change, d__law_rule, d__law_rules, d__law_drawn, d__law_so, d__law_beat, d__law_own, d__law_track, d__law_off, d__law_starts, d__law_hand, d__law_at_watch, d__law_far, d__law_spot, d__law_like_one, d_law]
def fn : List He.DefD := fn0 ++ fn1 ++ fn2
def fa0 : List He.Fa := [.glo "_wall", .glo "HushError", .glo "NoBook", .glo "NoState", .glo "NoOff", .glo "NoRule", .glo "NoWheel", .glo "NoBeat", .glo "NoPlace", .int "MOST_WHEELS" 3, .int "LEAST_PLACES" 2, .int "MOST_PLACES" 4, .int "MOST_VALUES" 24, .int "LONGEST_LEFT" 2, .int "GREATEST_BEAT" 999999999999999999999999999999999999999999999999999999999999, .glo "is_whole", .glo "is_within", .glo "is_below", .glo "is_rising", .glo "is_wheels", .glo "is_values", .glo "is_left", .glo "is_state_of", .glo "is_beats", .glo "want_state", .glo "want_rule", .glo "want_off", .glo "want_beats", .int "MOST_RULES" 5, .int "MOST_CONDITIONS" 4]
def fa1 : List He.Fa := [.int "MOST_CHANGES" 3, .int "MOST_HUSHES" 5, .int "MOST_WAKES" 5, .int "LEAST_HUSH" 1, .int "LONGEST_HUSH" 3, .glo "Book", .glo "is_row", .glo "is_rule", .glo "is_condition", .glo "is_moment", .glo "is_change", .glo "is_spot", .glo "is_hushes", .glo "is_hush", .glo "is_wakes", .glo "book_lines", .glo "rule_line", .glo "spaced", .glo "begun", .glo "own_order", .glo "step", .glo "ended", .glo "is_ready", .glo "is_so", .glo "carry_out", .glo "state_at", .glo "round_of", .glo "times", .glo "went_on", .glo "tally"]
def fa2 : List He.Fa := [.glo "trail", .glo "ways_from", .glo "trail_along", .glo "number_at", .glo "doings", .glo "count_below", .glo "show_state", .glo "spaced_or_dash", .glo "Watch", .glo "replaced", .glo "_law_bag", .glo "_law_take", .glo "_law_wheels", .glo "_law_condition", .glo "_law_change", .glo "_law_rule", .glo "_law_rules", .glo "_law_drawn", .glo "_law_so", .glo "_law_beat", .glo "_law_own", .glo "_law_track", .glo "_law_off", .glo "_law_starts", .glo "_law_hand", .glo "_law_at_watch", .glo "_law_far", .glo "_law_spot", .glo "_law_like_one", .glo "law"]
def fa3 : List He.Fa := [.free "IndexError", .free "LookupError", .free "OverflowError", .free "ValueError", .free "abs", .free "all", .free "any", .free "bool", .free "divmod", .free "enumerate", .free "int", .free "isinstance", .free "len", .free "list", .free "max", .free "min", .free "range", .free "set", .free "sorted", .free "str", .free "sum", .free "tuple", .free "zip", .cls "Book", .noat "Book" "wheels", .noat "Book" "rules", .meth "Book" "__len__", .mkr "Book", .cls "Watch", .noat "Watch" "book"]
def fa4 : List He.Fa := [.noat "Watch" "moment", .noat "Watch" "past", .meth "Watch" "go", .meth "Watch" "hush", .meth "Watch" "wake", .meth "Watch" "turn", .meth "Watch" "put", .meth "Watch" "put_off", .meth "Watch" "put_on", .meth "Watch" "now", .meth "Watch" "state", .meth "Watch" "off", .meth "Watch" "counts", .meth "Watch" "want_wheel", .meth "Watch" "enter", .meth "Watch" "enter_state", .meth "Watch" "enter_off", .mkr "Watch"]
def fa : List He.Fa := fa0 ++ fa1 ++ fa2 ++ fa3 ++ fa4
def loose0 : List PySem.Str := ["_wall", "HushError", "NoBook", "NoState", "NoOff", "NoRule", "NoWheel", "NoBeat", "NoPlace", "MOST_WHEELS", "LEAST_PLACES", "MOST_PLACES", "MOST_VALUES", "LONGEST_LEFT", "GREATEST_BEAT", "is_whole", "is_within", "is_below", "is_rising", "is_wheels", "is_values", "is_left", "is_state_of", "is_beats", "want_state", "want_rule", "want_off", "want_beats", "MOST_RULES", "MOST_CONDITIONS"]
def loose1 : List PySem.Str := ["MOST_CHANGES", "MOST_HUSHES", "MOST_WAKES", "LEAST_HUSH", "LONGEST_HUSH", "Book", "is_row", "is_rule", "is_condition", "is_moment", "is_change", "is_spot", "is_hushes", "is_hush", "is_wakes", "book_lines", "rule_line", "spaced", "begun", "own_order", "step", "ended", "is_ready", "is_so", "carry_out", "state_at", "round_of", "times", "went_on", "tally"]
def loose2 : List PySem.Str := ["trail", "ways_from", "trail_along", "number_at", "doings", "count_below", "show_state", "spaced_or_dash", "Watch", "replaced", "_law_bag", "_law_take", "_law_wheels", "_law_condition", "_law_change", "_law_rule", "_law_rules", "_law_drawn", "_law_so", "_law_beat", "_law_own", "_law_track", "_law_off", "_law_starts", "_law_hand", "_law_at_watch", "_law_far", "_law_spot", "_law_like_one"]
def loose : List PySem.Str := loose0 ++ loose1 ++ loose2
structure Txt (K : PySem.W.Frag) (mg : Str → Option Value) : Prop where
  g__wall : mg "_wall" = some (.ref (He.ga K "_wall"))
  g_HushError : mg "HushError" = some (.ref (He.ga K "HushError"))
  g_NoBook : mg "NoBook" = some (.ref (He.ga K "NoBook"))
  g_NoState : mg "NoState" = some (.ref (He.ga K "NoState"))
  g_NoOff : mg "NoOff" = some (.ref (He.ga K "NoOff"))
  g_NoRule : mg "NoRule" = some (.ref (He.ga K "NoRule"))
  g_NoWheel : mg "NoWheel" = some (.ref (He.ga K "NoWheel"))
  g_NoBeat : mg "NoBeat" = some (.ref (He.ga K "NoBeat"))
  g_NoPlace : mg "NoPlace" = some (.ref (He.ga K "NoPlace"))
  i_MOST_WHEELS : ∃ t, mg "MOST_WHEELS" = some (.int 3 t)
  i_LEAST_PLACES : ∃ t, mg "LEAST_PLACES" = some (.int 2 t)
  i_MOST_PLACES : ∃ t, mg "MOST_PLACES" = some (.int 4 t)
  i_MOST_VALUES : ∃ t, mg "MOST_VALUES" = some (.int 24 t)
  i_LONGEST_LEFT : ∃ t, mg "LONGEST_LEFT" = some (.int 2 t)
  i_GREATEST_BEAT : ∃ t, mg "GREATEST_BEAT" = some (.int 999999999999999999999999999999999999999999999999999999999999 t)
  g_is_whole : mg "is_whole" = some (.ref (He.ga K "is_whole"))
  g_is_within : mg "is_within" = some (.ref (He.ga K "is_within"))
  g_is_below : mg "is_below" = some (.ref (He.ga K "is_below"))
  g_is_rising : mg "is_rising" = some (.ref (He.ga K "is_rising"))
  g_is_wheels : mg "is_wheels" = some (.ref (He.ga K "is_wheels"))
  g_is_values : mg "is_values" = some (.ref (He.ga K "is_values"))
  g_is_left : mg "is_left" = some (.ref (He.ga K "is_left"))
  g_is_state_of : mg "is_state_of" = some (.ref (He.ga K "is_state_of"))
  g_is_beats : mg "is_beats" = some (.ref (He.ga K "is_beats"))
  g_want_state : mg "want_state" = some (.ref (He.ga K "want_state"))
  g_want_rule : mg "want_rule" = some (.ref (He.ga K "want_rule"))
  g_want_off : mg "want_off" = some (.ref (He.ga K "want_off"))
  g_want_beats : mg "want_beats" = some (.ref (He.ga K "want_beats"))
  i_MOST_RULES : ∃ t, mg "MOST_RULES" = some (.int 5 t)
  i_MOST_CONDITIONS : ∃ t, mg "MOST_CONDITIONS" = some (.int 4 t)
  i_MOST_CHANGES : ∃ t, mg "MOST_CHANGES" = some (.int 3 t)
  i_MOST_HUSHES : ∃ t, mg "MOST_HUSHES" = some (.int 5 t)
  i_MOST_WAKES : ∃ t, mg "MOST_WAKES" = some (.int 5 t)
  i_LEAST_HUSH : ∃ t, mg "LEAST_HUSH" = some (.int 1 t)
  i_LONGEST_HUSH : ∃ t, mg "LONGEST_HUSH" = some (.int 3 t)
  g_Book : mg "Book" = some (.ref (He.ga K "Book"))
  g_is_row : mg "is_row" = some (.ref (He.ga K "is_row"))
  g_is_rule : mg "is_rule" = some (.ref (He.ga K "is_rule"))
  g_is_condition : mg "is_condition" = some (.ref (He.ga K "is_condition"))
  g_is_moment : mg "is_moment" = some (.ref (He.ga K "is_moment"))
  g_is_change : mg "is_change" = some (.ref (He.ga K "is_change"))
  g_is_spot : mg "is_spot" = some (.ref (He.ga K "is_spot"))
  g_is_hushes : mg "is_hushes" = some (.ref (He.ga K "is_hushes"))
  g_is_hush : mg "is_hush" = some (.ref (He.ga K "is_hush"))
  g_is_wakes : mg "is_wakes" = some (.ref (He.ga K "is_wakes"))
  g_book_lines : mg "book_lines" = some (.ref (He.ga K "book_lines"))
  g_rule_line : mg "rule_line" = some (.ref (He.ga K "rule_line"))
  g_spaced : mg "spaced" = some (.ref (He.ga K "spaced"))
  g_begun : mg "begun" = some (.ref (He.ga K "begun"))
  g_own_order : mg "own_order" = some (.ref (He.ga K "own_order"))
  g_step : mg "step" = some (.ref (He.ga K "step"))
  g_ended : mg "ended" = some (.ref (He.ga K "ended"))
  g_is_ready : mg "is_ready" = some (.ref (He.ga K "is_ready"))
  g_is_so : mg "is_so" = some (.ref (He.ga K "is_so"))
  g_carry_out : mg "carry_out" = some (.ref (He.ga K "carry_out"))
  g_state_at : mg "state_at" = some (.ref (He.ga K "state_at"))
  g_round_of : mg "round_of" = some (.ref (He.ga K "round_of"))
  g_times : mg "times" = some (.ref (He.ga K "times"))
  g_went_on : mg "went_on" = some (.ref (He.ga K "went_on"))
  g_tally : mg "tally" = some (.ref (He.ga K "tally"))
  g_trail : mg "trail" = some (.ref (He.ga K "trail"))
  g_ways_from : mg "ways_from" = some (.ref (He.ga K "ways_from"))
  g_trail_along : mg "trail_along" = some (.ref (He.ga K "trail_along"))
  g_number_at : mg "number_at" = some (.ref (He.ga K "number_at"))
  g_doings : mg "doings" = some (.ref (He.ga K "doings"))
  g_count_below : mg "count_below" = some (.ref (He.ga K "count_below"))
  g_show_state : mg "show_state" = some (.ref (He.ga K "show_state"))
  g_spaced_or_dash : mg "spaced_or_dash" = some (.ref (He.ga K "spaced_or_dash"))
  g_Watch : mg "Watch" = some (.ref (He.ga K "Watch"))
  g_replaced : mg "replaced" = some (.ref (He.ga K "replaced"))
  g__law_bag : mg "_law_bag" = some (.ref (He.ga K "_law_bag"))
  g__law_take : mg "_law_take" = some (.ref (He.ga K "_law_take"))
  g__law_wheels : mg "_law_wheels" = some (.ref (He.ga K "_law_wheels"))
  g__law_condition : mg "_law_condition" = some (.ref (He.ga K "_law_condition"))
  g__law_change : mg "_law_change" = some (.ref (He.ga K "_law_change"))
  g__law_rule : mg "_law_rule" = some (.ref (He.ga K "_law_rule"))
  g__law_rules : mg "_law_rules" = some (.ref (He.ga K "_law_rules"))
  g__law_drawn : mg "_law_drawn" = some (.ref (He.ga K "_law_drawn"))
  g__law_so : mg "_law_so" = some (.ref (He.ga K "_law_so"))
  g__law_beat : mg "_law_beat" = some (.ref (He.ga K "_law_beat"))
  g__law_own : mg "_law_own" = some (.ref (He.ga K "_law_own"))
  g__law_track : mg "_law_track" = some (.ref (He.ga K "_law_track"))
  g__law_off : mg "_law_off" = some (.ref (He.ga K "_law_off"))
  g__law_starts : mg "_law_starts" = some (.ref (He.ga K "_law_starts"))
  g__law_hand : mg "_law_hand" = some (.ref (He.ga K "_law_hand"))
  g__law_at_watch : mg "_law_at_watch" = some (.ref (He.ga K "_law_at_watch"))
  g__law_far : mg "_law_far" = some (.ref (He.ga K "_law_far"))
  g__law_spot : mg "_law_spot" = some (.ref (He.ga K "_law_spot"))
  g__law_like_one : mg "_law_like_one" = some (.ref (He.ga K "_law_like_one"))
  g_law : mg "law" = some (.ref (He.ga K "law"))
  b_IndexError : mg "IndexError" = none
  b_LookupError : mg "LookupError" = none
  b_OverflowError : mg "OverflowError" = none
  b_ValueError : mg "ValueError" = none
  b_abs : mg "abs" = none
  b_all : mg "all" = none
  b_any : mg "any" = none
  b_bool : mg "bool" = none
  b_divmod : mg "divmod" = none
  b_enumerate : mg "enumerate" = none
  b_int : mg "int" = none
  b_isinstance : mg "isinstance" = none
  b_len : mg "len" = none
  b_list : mg "list" = none
  b_max : mg "max" = none
  b_min : mg "min" = none
  b_range : mg "range" = none
  b_set : mg "set" = none
  b_sorted : mg "sorted" = none
  b_str : mg "str" = none
  b_sum : mg "sum" = none
  b_tuple : mg "tuple" = none
  b_zip : mg "zip" = none
  c_Book : Cls K (He.ga K "Book")
  n_Book_wheels : NoAttr K (He.ga K "Book") "wheels"
  n_Book_rules : NoAttr K (He.ga K "Book") "rules"
  h_Book_len : Meth K (He.ga K "Book") "__len__" (He.ma K (He.ga K "Book") "__len__")
  k_Book : Mk K (He.ga K "Book") (He.ma K (He.ga K "Book") "__init__")
  c_Watch : Cls K (He.ga K "Watch")
  n_Watch_book : NoAttr K (He.ga K "Watch") "book"
  n_Watch_moment : NoAttr K (He.ga K "Watch") "moment"
  n_Watch_past : NoAttr K (He.ga K "Watch") "past"
  h_Watch_go : Meth K (He.ga K "Watch") "go" (He.ma K (He.ga K "Watch") "go")
  h_Watch_hush : Meth K (He.ga K "Watch") "hush" (He.ma K (He.ga K "Watch") "hush")
  h_Watch_wake : Meth K (He.ga K "Watch") "wake" (He.ma K (He.ga K "Watch") "wake")
  h_Watch_turn : Meth K (He.ga K "Watch") "turn" (He.ma K (He.ga K "Watch") "turn")
  h_Watch_put : Meth K (He.ga K "Watch") "put" (He.ma K (He.ga K "Watch") "put")
  h_Watch_put_off : Meth K (He.ga K "Watch") "put_off" (He.ma K (He.ga K "Watch") "put_off")
  h_Watch_put_on : Meth K (He.ga K "Watch") "put_on" (He.ma K (He.ga K "Watch") "put_on")
  h_Watch_now : Meth K (He.ga K "Watch") "now" (He.ma K (He.ga K "Watch") "now")
  h_Watch_state : Meth K (He.ga K "Watch") "state" (He.ma K (He.ga K "Watch") "state")
  h_Watch_off : Meth K (He.ga K "Watch") "off" (He.ma K (He.ga K "Watch") "off")
  h_Watch_counts : Meth K (He.ga K "Watch") "counts" (He.ma K (He.ga K "Watch") "counts")
  h_Watch_want_wheel : Meth K (He.ga K "Watch") "want_wheel" (He.ma K (He.ga K "Watch") "want_wheel")
  h_Watch_enter : Meth K (He.ga K "Watch") "enter" (He.ma K (He.ga K "Watch") "enter")
  h_Watch_enter_state : Meth K (He.ga K "Watch") "enter_state" (He.ma K (He.ga K "Watch") "enter_state")
  h_Watch_enter_off : Meth K (He.ga K "Watch") "enter_off" (He.ma K (He.ga K "Watch") "enter_off")
  k_Watch : Mk K (He.ga K "Watch") (He.ma K (He.ga K "Watch") "__init__")
  x_Book_init_rules : U.etupB (He.dflAt ("Book", some "__init__") 0) K = true
  x_state_at_off : U.etupB (U.kwAt ("state_at", none) "off") K = true
  x_round_of_off : U.etupB (U.kwAt ("round_of", none) "off") K = true
  x_times_off : U.etupB (U.kwAt ("times", none) "off") K = true
  x_Watch_init_off : U.etupB (U.kwAt ("Watch", some "__init__") "off") K = true
  o_Book : U.isiCB (He.ga K "Book") K = true
  o_Watch : U.isiCB (He.ga K "Watch") K = true
  f_is_whole : ∃ fd, FunD K "is_whole" "is_whole" (defArgs (top 17)) (defBody (top 17)) (defScope (top 17)) (d_is_whole.dvs K) (d_is_whole.kws K) (He.fAd K ("is_whole", none)) fd
  f_is_within : ∃ fd, FunD K "is_within" "is_within" (defArgs (top 18)) (defBody (top 18)) (defScope (top 18)) (d_is_within.dvs K) (d_is_within.kws K) (He.fAd K ("is_within", none)) fd
  f_is_below : ∃ fd, FunD K "is_below" "is_below" (defArgs (top 19)) (defBody (top 19)) (defScope (top 19)) (d_is_below.dvs K) (d_is_below.kws K) (He.fAd K ("is_below", none)) fd
  f_is_rising : ∃ fd, FunD K "is_rising" "is_rising" (defArgs (top 20)) (defBody (top 20)) (defScope (top 20)) (d_is_rising.dvs K) (d_is_rising.kws K) (He.fAd K ("is_rising", none)) fd
  f_is_wheels : ∃ fd, FunD K "is_wheels" "is_wheels" (defArgs (top 21)) (defBody (top 21)) (defScope (top 21)) (d_is_wheels.dvs K) (d_is_wheels.kws K) (He.fAd K ("is_wheels", none)) fd
  f_is_values : ∃ fd, FunD K "is_values" "is_values" (defArgs (top 22)) (defBody (top 22)) (defScope (top 22)) (d_is_values.dvs K) (d_is_values.kws K) (He.fAd K ("is_values", none)) fd
  f_is_left : ∃ fd, FunD K "is_left" "is_left" (defArgs (top 23)) (defBody (top 23)) (defScope (top 23)) (d_is_left.dvs K) (d_is_left.kws K) (He.fAd K ("is_left", none)) fd
  f_is_state_of : ∃ fd, FunD K "is_state_of" "is_state_of" (defArgs (top 24)) (defBody (top 24)) (defScope (top 24)) (d_is_state_of.dvs K) (d_is_state_of.kws K) (He.fAd K ("is_state_of", none)) fd
  f_is_beats : ∃ fd, FunD K "is_beats" "is_beats" (defArgs (top 25)) (defBody (top 25)) (defScope (top 25)) (d_is_beats.dvs K) (d_is_beats.kws K) (He.fAd K ("is_beats", none)) fd
  f_want_state : ∃ fd, FunD K "want_state" "want_state" (defArgs (top 26)) (defBody (top 26)) (defScope (top 26)) (d_want_state.dvs K) (d_want_state.kws K) (He.fAd K ("want_state", none)) fd
  f_want_rule : ∃ fd, FunD K "want_rule" "want_rule" (defArgs (top 27)) (defBody (top 27)) (defScope (top 27)) (d_want_rule.dvs K) (d_want_rule.kws K) (He.fAd K ("want_rule", none)) fd
  f_want_off : ∃ fd, FunD K "want_off" "want_off" (defArgs (top 28)) (defBody (top 28)) (defScope (top 28)) (d_want_off.dvs K) (d_want_off.kws K) (He.fAd K ("want_off", none)) fd
  f_want_beats : ∃ fd, FunD K "want_beats" "want_beats" (defArgs (top 29)) (defBody (top 29)) (defScope (top 29)) (d_want_beats.dvs K) (d_want_beats.kws K) (He.fAd K ("want_beats", none)) fd
  f_Book_init : ∃ fd, FunD K "__init__" "Book.__init__" (defArgs (topM 38 0)) (defBody (topM 38 0)) (defScope (topM 38 0)) (d_Book_init.dvs K) (d_Book_init.kws K) (He.fAd K ("Book", some "__init__")) fd
  f_Book_len : ∃ fd, FunD K "__len__" "Book.__len__" (defArgs (topM 38 2)) (defBody (topM 38 2)) (defScope (topM 38 2)) (d_Book_len.dvs K) (d_Book_len.kws K) (He.fAd K ("Book", some "__len__")) fd
  f_is_row : ∃ fd, FunD K "is_row" "is_row" (defArgs (top 39)) (defBody (top 39)) (defScope (top 39)) (d_is_row.dvs K) (d_is_row.kws K) (He.fAd K ("is_row", none)) fd
  f_is_rule : ∃ fd, FunD K "is_rule" "is_rule" (defArgs (top 40)) (defBody (top 40)) (defScope (top 40)) (d_is_rule.dvs K) (d_is_rule.kws K) (He.fAd K ("is_rule", none)) fd
  f_is_condition : ∃ fd, FunD K "is_condition" "is_condition" (defArgs (top 41)) (defBody (top 41)) (defScope (top 41)) (d_is_condition.dvs K) (d_is_condition.kws K) (He.fAd K ("is_condition", none)) fd
  f_is_moment : ∃ fd, FunD K "is_moment" "is_moment" (defArgs (top 42)) (defBody (top 42)) (defScope (top 42)) (d_is_moment.dvs K) (d_is_moment.kws K) (He.fAd K ("is_moment", none)) fd
  f_is_change : ∃ fd, FunD K "is_change" "is_change" (defArgs (top 43)) (defBody (top 43)) (defScope (top 43)) (d_is_change.dvs K) (d_is_change.kws K) (He.fAd K ("is_change", none)) fd
  f_is_spot : ∃ fd, FunD K "is_spot" "is_spot" (defArgs (top 44)) (defBody (top 44)) (defScope (top 44)) (d_is_spot.dvs K) (d_is_spot.kws K) (He.fAd K ("is_spot", none)) fd
  f_is_hushes : ∃ fd, FunD K "is_hushes" "is_hushes" (defArgs (top 45)) (defBody (top 45)) (defScope (top 45)) (d_is_hushes.dvs K) (d_is_hushes.kws K) (He.fAd K ("is_hushes", none)) fd
  f_is_hush : ∃ fd, FunD K "is_hush" "is_hush" (defArgs (top 46)) (defBody (top 46)) (defScope (top 46)) (d_is_hush.dvs K) (d_is_hush.kws K) (He.fAd K ("is_hush", none)) fd
  f_is_wakes : ∃ fd, FunD K "is_wakes" "is_wakes" (defArgs (top 47)) (defBody (top 47)) (defScope (top 47)) (d_is_wakes.dvs K) (d_is_wakes.kws K) (He.fAd K ("is_wakes", none)) fd
  f_begun : ∃ fd, FunD K "begun" "begun" (defArgs (top 51)) (defBody (top 51)) (defScope (top 51)) (d_begun.dvs K) (d_begun.kws K) (He.fAd K ("begun", none)) fd
  f_own_order : ∃ fd, FunD K "own_order" "own_order" (defArgs (top 53)) (defBody (top 53)) (defScope (top 53)) (d_own_order.dvs K) (d_own_order.kws K) (He.fAd K ("own_order", none)) fd
  f_step : ∃ fd, FunD K "step" "step" (defArgs (top 54)) (defBody (top 54)) (defScope (top 54)) (d_step.dvs K) (d_step.kws K) (He.fAd K ("step", none)) fd
  f_ended : ∃ fd, FunD K "ended" "ended" (defArgs (top 55)) (defBody (top 55)) (defScope (top 55)) (d_ended.dvs K) (d_ended.kws K) (He.fAd K ("ended", none)) fd
  f_is_ready : ∃ fd, FunD K "is_ready" "is_ready" (defArgs (top 56)) (defBody (top 56)) (defScope (top 56)) (d_is_ready.dvs K) (d_is_ready.kws K) (He.fAd K ("is_ready", none)) fd
  f_is_so : ∃ fd, FunD K "is_so" "is_so" (defArgs (top 57)) (defBody (top 57)) (defScope (top 57)) (d_is_so.dvs K) (d_is_so.kws K) (He.fAd K ("is_so", none)) fd
  f_carry_out : ∃ fd, FunD K "carry_out" "carry_out" (defArgs (top 58)) (defBody (top 58)) (defScope (top 58)) (d_carry_out.dvs K) (d_carry_out.kws K) (He.fAd K ("carry_out", none)) fd
  f_state_at : ∃ fd, FunD K "state_at" "state_at" (defArgs (top 60)) (defBody (top 60)) (defScope (top 60)) (d_state_at.dvs K) (d_state_at.kws K) (He.fAd K ("state_at", none)) fd
  f_round_of : ∃ fd, FunD K "round_of" "round_of" (defArgs (top 61)) (defBody (top 61)) (defScope (top 61)) (d_round_of.dvs K) (d_round_of.kws K) (He.fAd K ("round_of", none)) fd
  f_times : ∃ fd, FunD K "times" "times" (defArgs (top 62)) (defBody (top 62)) (defScope (top 62)) (d_times.dvs K) (d_times.kws K) (He.fAd K ("times", none)) fd
  f_went_on : ∃ fd, FunD K "went_on" "went_on" (defArgs (top 63)) (defBody (top 63)) (defScope (top 63)) (d_went_on.dvs K) (d_went_on.kws K) (He.fAd K ("went_on", none)) fd
  f_tally : ∃ fd, FunD K "tally" "tally" (defArgs (top 64)) (defBody (top 64)) (defScope (top 64)) (d_tally.dvs K) (d_tally.kws K) (He.fAd K ("tally", none)) fd
  f_trail : ∃ fd, FunD K "trail" "trail" (defArgs (top 65)) (defBody (top 65)) (defScope (top 65)) (d_trail.dvs K) (d_trail.kws K) (He.fAd K ("trail", none)) fd
  f_ways_from : ∃ fd, FunD K "ways_from" "ways_from" (defArgs (top 66)) (defBody (top 66)) (defScope (top 66)) (d_ways_from.dvs K) (d_ways_from.kws K) (He.fAd K ("ways_from", none)) fd
  f_trail_along : ∃ fd, FunD K "trail_along" "trail_along" (defArgs (top 67)) (defBody (top 67)) (defScope (top 67)) (d_trail_along.dvs K) (d_trail_along.kws K) (He.fAd K ("trail_along", none)) fd
  f_number_at : ∃ fd, FunD K "number_at" "number_at" (defArgs (top 68)) (defBody (top 68)) (defScope (top 68)) (d_number_at.dvs K) (d_number_at.kws K) (He.fAd K ("number_at", none)) fd
  f_doings : ∃ fd, FunD K "doings" "doings" (defArgs (top 69)) (defBody (top 69)) (defScope (top 69)) (d_doings.dvs K) (d_doings.kws K) (He.fAd K ("doings", none)) fd
  f_count_below : ∃ fd, FunD K "count_below" "count_below" (defArgs (top 70)) (defBody (top 70)) (defScope (top 70)) (d_count_below.dvs K) (d_count_below.kws K) (He.fAd K ("count_below", none)) fd
  f_Watch_init : ∃ fd, FunD K "__init__" "Watch.__init__" (defArgs (topM 75 0)) (defBody (topM 75 0)) (defScope (topM 75 0)) (d_Watch_init.dvs K) (d_Watch_init.kws K) (He.fAd K ("Watch", some "__init__")) fd
  f_Watch_go : ∃ fd, FunD K "go" "Watch.go" (defArgs (topM 75 4)) (defBody (topM 75 4)) (defScope (topM 75 4)) (d_Watch_go.dvs K) (d_Watch_go.kws K) (He.fAd K ("Watch", some "go")) fd
  f_Watch_hush : ∃ fd, FunD K "hush" "Watch.hush" (defArgs (topM 75 5)) (defBody (topM 75 5)) (defScope (topM 75 5)) (d_Watch_hush.dvs K) (d_Watch_hush.kws K) (He.fAd K ("Watch", some "hush")) fd
  f_Watch_wake : ∃ fd, FunD K "wake" "Watch.wake" (defArgs (topM 75 6)) (defBody (topM 75 6)) (defScope (topM 75 6)) (d_Watch_wake.dvs K) (d_Watch_wake.kws K) (He.fAd K ("Watch", some "wake")) fd
  f_Watch_turn : ∃ fd, FunD K "turn" "Watch.turn" (defArgs (topM 75 7)) (defBody (topM 75 7)) (defScope (topM 75 7)) (d_Watch_turn.dvs K) (d_Watch_turn.kws K) (He.fAd K ("Watch", some "turn")) fd
  f_Watch_put : ∃ fd, FunD K "put" "Watch.put" (defArgs (topM 75 8)) (defBody (topM 75 8)) (defScope (topM 75 8)) (d_Watch_put.dvs K) (d_Watch_put.kws K) (He.fAd K ("Watch", some "put")) fd
  f_Watch_put_off : ∃ fd, FunD K "put_off" "Watch.put_off" (defArgs (topM 75 9)) (defBody (topM 75 9)) (defScope (topM 75 9)) (d_Watch_put_off.dvs K) (d_Watch_put_off.kws K) (He.fAd K ("Watch", some "put_off")) fd
  f_Watch_put_on : ∃ fd, FunD K "put_on" "Watch.put_on" (defArgs (topM 75 10)) (defBody (topM 75 10)) (defScope (topM 75 10)) (d_Watch_put_on.dvs K) (d_Watch_put_on.kws K) (He.fAd K ("Watch", some "put_on")) fd
  f_Watch_now : ∃ fd, FunD K "now" "Watch.now" (defArgs (topM 75 13)) (defBody (topM 75 13)) (defScope (topM 75 13)) (d_Watch_now.dvs K) (d_Watch_now.kws K) (He.fAd K ("Watch", some "now")) fd
  f_Watch_state : ∃ fd, FunD K "state" "Watch.state" (defArgs (topM 75 14)) (defBody (topM 75 14)) (defScope (topM 75 14)) (d_Watch_state.dvs K) (d_Watch_state.kws K) (He.fAd K ("Watch", some "state")) fd
  f_Watch_off : ∃ fd, FunD K "off" "Watch.off" (defArgs (topM 75 15)) (defBody (topM 75 15)) (defScope (topM 75 15)) (d_Watch_off.dvs K) (d_Watch_off.kws K) (He.fAd K ("Watch", some "off")) fd
  f_Watch_counts : ∃ fd, FunD K "counts" "Watch.counts" (defArgs (topM 75 16)) (defBody (topM 75 16)) (defScope (topM 75 16)) (d_Watch_counts.dvs K) (d_Watch_counts.kws K) (He.fAd K ("Watch", some "counts")) fd
  f_Watch_want_wheel : ∃ fd, FunD K "want_wheel" "Watch.want_wheel" (defArgs (topM 75 17)) (defBody (topM 75 17)) (defScope (topM 75 17)) (d_Watch_want_wheel.dvs K) (d_Watch_want_wheel.kws K) (He.fAd K ("Watch", some "want_wheel")) fd
  f_Watch_enter : ∃ fd, FunD K "enter" "Watch.enter" (defArgs (topM 75 18)) (defBody (topM 75 18)) (defScope (topM 75 18)) (d_Watch_enter.dvs K) (d_Watch_enter.kws K) (He.fAd K ("Watch", some "enter")) fd
  f_Watch_enter_state : ∃ fd, FunD K "enter_state" "Watch.enter_state" (defArgs (topM 75 19)) (defBody (topM 75 19)) (defScope (topM 75 19)) (d_Watch_enter_state.dvs K) (d_Watch_enter_state.kws K) (He.fAd K ("Watch", some "enter_state")) fd
  f_Watch_enter_off : ∃ fd, FunD K "enter_off" "Watch.enter_off" (defArgs (topM 75 20)) (defBody (topM 75 20)) (defScope (topM 75 20)) (d_Watch_enter_off.dvs K) (d_Watch_enter_off.kws K) (He.fAd K ("Watch", some "enter_off")) fd
  f_replaced : ∃ fd, FunD K "replaced" "replaced" (defArgs (top 76)) (defBody (top 76)) (defScope (top 76)) (d_replaced.dvs K) (d_replaced.kws K) (He.fAd K ("replaced", none)) fd
  f__law_bag : ∃ fd, FunD K "_law_bag" "_law_bag" (defArgs (top 78)) (defBody (top 78)) (defScope (top 78)) (d__law_bag.dvs K) (d__law_bag.kws K) (He.fAd K ("_law_bag", none)) fd
  f__law_take : ∃ fd, FunD K "_law_take" "_law_take" (defArgs (top 79)) (defBody (top 79)) (defScope (top 79)) (d__law_take.dvs K) (d__law_take.kws K) (He.fAd K ("_law_take", none)) fd
  f__law_wheels : ∃ fd, FunD K "_law_wheels" "_law_wheels" (defArgs (top 80)) (defBody (top 80)) (defScope (top 80)) (d__law_wheels.dvs K) (d__law_wheels.kws K) (He.fAd K ("_law_wheels", none)) fd
  f__law_condition : ∃ fd, FunD K "_law_condition" "_law_condition" (defArgs (top 81)) (defBody (top 81)) (defScope (top 81)) (d__law_condition.dvs K) (d__law_condition.kws K) (He.fAd K ("_law_condition", none)) fd
  f__law_change : ∃ fd, FunD K "_law_change" "_law_change" (defArgs (top 82)) (defBody (top 82)) (defScope (top 82)) (d__law_change.dvs K) (d__law_change.kws K) (He.fAd K ("_law_change", none)) fd
  f__law_rule : ∃ fd, FunD K "_law_rule" "_law_rule" (defArgs (top 83)) (defBody (top 83)) (defScope (top 83)) (d__law_rule.dvs K) (d__law_rule.kws K) (He.fAd K ("_law_rule", none)) fd
  f__law_rules : ∃ fd, FunD K "_law_rules" "_law_rules" (defArgs (top 84)) (defBody (top 84)) (defScope (top 84)) (d__law_rules.dvs K) (d__law_rules.kws K) (He.fAd K ("_law_rules", none)) fd
  f__law_drawn : ∃ fd, FunD K "_law_drawn" "_law_drawn" (defArgs (top 85)) (defBody (top 85)) (defScope (top 85)) (d__law_drawn.dvs K) (d__law_drawn.kws K) (He.fAd K ("_law_drawn", none)) fd
  f__law_so : ∃ fd, FunD K "_law_so" "_law_so" (defArgs (top 86)) (defBody (top 86)) (defScope (top 86)) (d__law_so.dvs K) (d__law_so.kws K) (He.fAd K ("_law_so", none)) fd
  f__law_beat : ∃ fd, FunD K "_law_beat" "_law_beat" (defArgs (top 87)) (defBody (top 87)) (defScope (top 87)) (d__law_beat.dvs K) (d__law_beat.kws K) (He.fAd K ("_law_beat", none)) fd
  f__law_own : ∃ fd, FunD K "_law_own" "_law_own" (defArgs (top 88)) (defBody (top 88)) (defScope (top 88)) (d__law_own.dvs K) (d__law_own.kws K) (He.fAd K ("_law_own", none)) fd
  f__law_track : ∃ fd, FunD K "_law_track" "_law_track" (defArgs (top 89)) (defBody (top 89)) (defScope (top 89)) (d__law_track.dvs K) (d__law_track.kws K) (He.fAd K ("_law_track", none)) fd
  f__law_off : ∃ fd, FunD K "_law_off" "_law_off" (defArgs (top 90)) (defBody (top 90)) (defScope (top 90)) (d__law_off.dvs K) (d__law_off.kws K) (He.fAd K ("_law_off", none)) fd
  f__law_starts : ∃ fd, FunD K "_law_starts" "_law_starts" (defArgs (top 91)) (defBody (top 91)) (defScope (top 91)) (d__law_starts.dvs K) (d__law_starts.kws K) (He.fAd K ("_law_starts", none)) fd
  f__law_hand : ∃ fd, FunD K "_law_hand" "_law_hand" (defArgs (top 92)) (defBody (top 92)) (defScope (top 92)) (d__law_hand.dvs K) (d__law_hand.kws K) (He.fAd K ("_law_hand", none)) fd
  f__law_at_watch : ∃ fd, FunD K "_law_at_watch" "_law_at_watch" (defArgs (top 93)) (defBody (top 93)) (defScope (top 93)) (d__law_at_watch.dvs K) (d__law_at_watch.kws K) (He.fAd K ("_law_at_watch", none)) fd
  f__law_far : ∃ fd, FunD K "_law_far" "_law_far" (defArgs (top 94)) (defBody (top 94)) (defScope (top 94)) (d__law_far.dvs K) (d__law_far.kws K) (He.fAd K ("_law_far", none)) fd
  f__law_spot : ∃ fd, FunD K "_law_spot" "_law_spot" (defArgs (top 95)) (defBody (top 95)) (defScope (top 95)) (d__law_spot.dvs K) (d__law_spot.kws K) (He.fAd K ("_law_spot", none)) fd
  f__law_like_one : ∃ fd, FunD K "_law_like_one" "_law_like_one" (defArgs (top 96)) (defBody (top 96)) (defScope (top 96)) (d__law_like_one.dvs K) (d__law_like_one.kws K) (He.fAd K ("_law_like_one", none)) fd
  f_law : ∃ fd, FunD K "law" "law" (defArgs (top 97)) (defBody (top 97)) (defScope (top 97)) (d_law.dvs K) (d_law.kws K) (He.fAd K ("law", none)) fd
def tf : List He.Defn := []
def exs : List (PySem.W.Frag → Bool) := [U.etupB (He.dflAt ("Book", some "__init__") 0), U.etupB (U.kwAt ("state_at", none) "off"), U.etupB (U.kwAt ("round_of", none) "off"), U.etupB (U.kwAt ("times", none) "off"), U.etupB (U.kwAt ("Watch", some "__init__") "off"), fun K => U.isiCB (He.ga K "Book") K, fun K => U.isiCB (He.ga K "Watch") K]
abbrev RR : PySem.W.OpenRow := PySem.W.OpenLaw.row PySem.Challenge.rw_hushrules_k69_whole_watch_far_on
def hs (w : World) (cps : Array Nat) : Int := reduceHash (w.params.strHash cps)
def KL0 (w : World) : PySem.W.Frag := [(3, ⟨(.type "dict"), none, (.dict #[⟨hs w #[95, 95, 110, 97, 109, 101, 95, 95], (.str ⟨#[95, 95, 110, 97, 109, 101, 95, 95]⟩ 165), (.str ⟨#[108, 97, 119, 95, 104, 117, 115, 104, 114, 117, 108, 101, 115, 95, 107, 54, 57, 95, 119, 104, 111, 108, 101, 95, 119, 97, 116, 99, 104, 95, 102, 97, 114, 95, 111, 110]⟩ 1095)⟩, ⟨hs w #[95, 95, 100, 111, 99, 95, 95], (.str ⟨#[95, 95, 100, 111, 99, 95, 95]⟩ 166), .none⟩, ⟨hs w #[95, 95, 112, 97, 99, 107, 97, 103, 101, 95, 95], (.str ⟨#[95, 95, 112, 97, 99, 107, 97, 103, 101, 95, 95]⟩ 167), .none⟩, ⟨hs w #[95, 95, 108, 111, 97, 100, 101, 114, 95, 95], (.str ⟨#[95, 95, 108, 111, 97, 100, 101, 114, 95, 95]⟩ 168), (.builtin "__main__.__loader__#opaque")⟩, ⟨hs w #[95, 95, 115, 112, 101, 99, 95, 95], (.str ⟨#[95, 95, 115, 112, 101, 99, 95, 95]⟩ 169), .none⟩, ⟨hs w #[95, 95, 97, 110, 110, 111, 116, 97, 116, 105, 111, 110, 115, 95, 95], (.str ⟨#[95, 95, 97, 110, 110, 111, 116, 97, 116, 105, 111, 110, 115, 95, 95]⟩ 170), (.ref 6)⟩, ⟨hs w #[95, 95, 98, 117, 105, 108, 116, 105, 110, 115, 95, 95], (.str ⟨#[95, 95, 98, 117, 105, 108, 116, 105, 110, 115, 95, 95]⟩ 171), (.ref 4)⟩, ⟨hs w #[95, 95, 102, 105, 108, 101, 95, 95], (.str ⟨#[95, 95, 102, 105, 108, 101, 95, 95]⟩ 173), (.str ⟨#[47, 99, 108, 97, 105, 109, 47, 99, 117, 116, 46, 112, 121]⟩ 172)⟩, ⟨hs w #[95, 95, 99, 97, 99, 104, 101, 100, 95, 95], (.str ⟨#[95, 95, 99, 97, 99, 104, 101, 100, 95, 95]⟩ 174), .none⟩, ⟨hs w #[95, 119, 97, 108, 108], (.str ⟨#[95, 119, 97, 108, 108]⟩ 193), (.ref 21)⟩, ⟨hs w #[72, 117, 115, 104, 69, 114, 114, 111, 114], (.str ⟨#[72, 117, 115, 104, 69, 114, 114, 111, 114]⟩ 213), (.ref 31)⟩, ⟨hs w #[78, 111, 66, 111, 111, 107], (.str ⟨#[78, 111, 66, 111, 111, 107]⟩ 238), (.ref 51)⟩, ⟨hs w #[78, 111, 83, 116, 97, 116, 101], (.str ⟨#[78, 111, 83, 116, 97, 116, 101]⟩ 254), (.ref 63)⟩, ⟨hs w #[78, 111, 79, 102, 102], (.str ⟨#[78, 111, 79, 102, 102]⟩ 270), (.ref 75)⟩, ⟨hs w #[78, 111, 82, 117, 108, 101], (.str ⟨#[78, 111, 82, 117, 108, 101]⟩ 297), (.ref 94)⟩, ⟨hs w #[78, 111, 87, 104, 101, 101, 108], (.str ⟨#[78, 111, 87, 104, 101, 101, 108]⟩ 324), (.ref 114)⟩, ⟨hs w #[78, 111, 66, 101, 97, 116], (.str ⟨#[78, 111, 66, 101, 97, 116]⟩ 353), (.ref 134)⟩, ⟨hs w #[78, 111, 80, 108, 97, 99, 101], (.str ⟨#[78, 111, 80, 108, 97, 99, 101]⟩ 382), (.ref 154)⟩, ⟨hs w #[77, 79, 83, 84, 95, 87, 72, 69, 69, 76, 83], (.str ⟨#[77, 79, 83, 84, 95, 87, 72, 69, 69, 76, 83]⟩ 386), (.int (3) 385)⟩, ⟨hs w #[76, 69, 65, 83, 84, 95, 80, 76, 65, 67, 69, 83], (.str ⟨#[76, 69, 65, 83, 84, 95, 80, 76, 65, 67, 69, 83]⟩ 388), (.int (2) 387)⟩, ⟨hs w #[77, 79, 83, 84, 95, 80, 76, 65, 67, 69, 83], (.str ⟨#[77, 79, 83, 84, 95, 80, 76, 65, 67, 69, 83]⟩ 390), (.int (4) 389)⟩, ⟨hs w #[77, 79, 83, 84, 95, 86, 65, 76, 85, 69, 83], (.str ⟨#[77, 79, 83, 84, 95, 86, 65, 76, 85, 69, 83]⟩ 392), (.int (24) 391)⟩, ⟨hs w #[76, 79, 78, 71, 69, 83, 84, 95, 76, 69, 70, 84], (.str ⟨#[76, 79, 78, 71, 69, 83, 84, 95, 76, 69, 70, 84]⟩ 394), (.int (2) 393)⟩, ⟨hs w #[71, 82, 69, 65, 84, 69, 83, 84, 95, 66, 69, 65, 84], (.str ⟨#[71, 82, 69, 65, 84, 69, 83, 84, 95, 66, 69, 65, 84]⟩ 400), (.int (999999999999999999999999999999999999999999999999999999999999) 399)⟩, ⟨hs w #[105, 115, 95, 119, 104, 111, 108, 101], (.str ⟨#[105, 115, 95, 119, 104, 111, 108, 101]⟩ 407), (.ref 164)⟩, ⟨hs w #[105, 115, 95, 119, 105, 116, 104, 105, 110], (.str ⟨#[105, 115, 95, 119, 105, 116, 104, 105, 110]⟩ 416), (.ref 171)⟩, ⟨hs w #[105, 115, 95, 98, 101, 108, 111, 119], (.str ⟨#[105, 115, 95, 98, 101, 108, 111, 119]⟩ 424), (.ref 178)⟩, ⟨hs w #[105, 115, 95, 114, 105, 115, 105, 110, 103], (.str ⟨#[105, 115, 95, 114, 105, 115, 105, 110, 103]⟩ 430), (.ref 183)⟩, ⟨hs w #[105, 115, 95, 119, 104, 101, 101, 108, 115], (.str ⟨#[105, 115, 95, 119, 104, 101, 101, 108, 115]⟩ 436), (.ref 188)⟩, ⟨hs w #[105, 115, 95, 118, 97, 108, 117, 101, 115], (.str ⟨#[105, 115, 95, 118, 97, 108, 117, 101, 115]⟩ 442), (.ref 193)⟩, ⟨hs w #[105, 115, 95, 108, 101, 102, 116], (.str ⟨#[105, 115, 95, 108, 101, 102, 116]⟩ 448), (.ref 198)⟩, ⟨hs w #[105, 115, 95, 115, 116, 97, 116, 101, 95, 111, 102], (.str ⟨#[105, 115, 95, 115, 116, 97, 116, 101, 95, 111, 102]⟩ 456), (.ref 205)⟩, ⟨hs w #[105, 115, 95, 98, 101, 97, 116, 115], (.str ⟨#[105, 115, 95, 98, 101, 97, 116, 115]⟩ 464), (.ref 212)⟩, ⟨hs w #[119, 97, 110, 116, 95, 115, 116, 97, 116, 101], (.str ⟨#[119, 97, 110, 116, 95, 115, 116, 97, 116, 101]⟩ 472), (.ref 219)⟩, ⟨hs w #[119, 97, 110, 116, 95, 114, 117, 108, 101], (.str ⟨#[119, 97, 110, 116, 95, 114, 117, 108, 101]⟩ 480), (.ref 226)⟩, ⟨hs w #[119, 97, 110, 116, 95, 111, 102, 102], (.str ⟨#[119, 97, 110, 116, 95, 111, 102, 102]⟩ 488), (.ref 233)⟩, ⟨hs w #[119, 97, 110, 116, 95, 98, 101, 97, 116, 115], (.str ⟨#[119, 97, 110, 116, 95, 98, 101, 97, 116, 115]⟩ 496), (.ref 240)⟩, ⟨hs w #[77, 79, 83, 84, 95, 82, 85, 76, 69, 83], (.str ⟨#[77, 79, 83, 84, 95, 82, 85, 76, 69, 83]⟩ 500), (.int (5) 499)⟩, ⟨hs w #[77, 79, 83, 84, 95, 67, 79, 78, 68, 73, 84, 73, 79, 78, 83], (.str ⟨#[77, 79, 83, 84, 95, 67, 79, 78, 68, 73, 84, 73, 79, 78, 83]⟩ 502), (.int (4) 501)⟩, ⟨hs w #[77, 79, 83, 84, 95, 67, 72, 65, 78, 71, 69, 83], (.str ⟨#[77, 79, 83, 84, 95, 67, 72, 65, 78, 71, 69, 83]⟩ 504), (.int (3) 503)⟩, ⟨hs w #[77, 79, 83, 84, 95, 72, 85, 83, 72, 69, 83], (.str ⟨#[77, 79, 83, 84, 95, 72, 85, 83, 72, 69, 83]⟩ 506), (.int (5) 505)⟩, ⟨hs w #[77, 79, 83, 84, 95, 87, 65, 75, 69, 83], (.str ⟨#[77, 79, 83, 84, 95, 87, 65, 75, 69, 83]⟩ 508), (.int (5) 507)⟩, ⟨hs w #[76, 69, 65, 83, 84, 95, 72, 85, 83, 72], (.str ⟨#[76, 69, 65, 83, 84, 95, 72, 85, 83, 72]⟩ 510), (.int (1) 509)⟩, ⟨hs w #[76, 79, 78, 71, 69, 83, 84, 95, 72, 85, 83, 72], (.str ⟨#[76, 79, 78, 71, 69, 83, 84, 95, 72, 85, 83, 72]⟩ 512), (.int (3) 511)⟩, ⟨hs w #[66, 111, 111, 107], (.str ⟨#[66, 111, 111, 107]⟩ 575), (.ref 287)⟩, ⟨hs w #[105, 115, 95, 114, 111, 119], (.str ⟨#[105, 115, 95, 114, 111, 119]⟩ 583), (.ref 298)⟩, ⟨hs w #[105, 115, 95, 114, 117, 108, 101], (.str ⟨#[105, 115, 95, 114, 117, 108, 101]⟩ 589), (.ref 303)⟩, ⟨hs w #[105, 115, 95, 99, 111, 110, 100, 105, 116, 105, 111, 110], (.str ⟨#[105, 115, 95, 99, 111, 110, 100, 105, 116, 105, 111, 110]⟩ 598), (.ref 310)⟩, ⟨hs w #[105, 115, 95, 109, 111, 109, 101, 110, 116], (.str ⟨#[105, 115, 95, 109, 111, 109, 101, 110, 116]⟩ 606), (.ref 317)⟩, ⟨hs w #[105, 115, 95, 99, 104, 97, 110, 103, 101], (.str ⟨#[105, 115, 95, 99, 104, 97, 110, 103, 101]⟩ 614), (.ref 324)⟩, ⟨hs w #[105, 115, 95, 115, 112, 111, 116], (.str ⟨#[105, 115, 95, 115, 112, 111, 116]⟩ 626), (.ref 331)⟩, ⟨hs w #[105, 115, 95, 104, 117, 115, 104, 101, 115], (.str ⟨#[105, 115, 95, 104, 117, 115, 104, 101, 115]⟩ 632), (.ref 336)⟩, ⟨hs w #[105, 115, 95, 104, 117, 115, 104], (.str ⟨#[105, 115, 95, 104, 117, 115, 104]⟩ 639), (.ref 343)⟩, ⟨hs w #[105, 115, 95, 119, 97, 107, 101, 115], (.str ⟨#[105, 115, 95, 119, 97, 107, 101, 115]⟩ 645), (.ref 348)⟩, ⟨hs w #[98, 111, 111, 107, 95, 108, 105, 110, 101, 115], (.str ⟨#[98, 111, 111, 107, 95, 108, 105, 110, 101, 115]⟩ 651), (.ref 353)⟩, ⟨hs w #[114, 117, 108, 101, 95, 108, 105, 110, 101], (.str ⟨#[114, 117, 108, 101, 95, 108, 105, 110, 101]⟩ 657), (.ref 358)⟩, ⟨hs w #[115, 112, 97, 99, 101, 100], (.str ⟨#[115, 112, 97, 99, 101, 100]⟩ 663), (.ref 363)⟩, ⟨hs w #[98, 101, 103, 117, 110], (.str ⟨#[98, 101, 103, 117, 110]⟩ 671), (.ref 370)⟩, ⟨hs w #[111, 119, 110, 95, 111, 114, 100, 101, 114], (.str ⟨#[111, 119, 110, 95, 111, 114, 100, 101, 114]⟩ 680), (.ref 377)⟩, ⟨hs w #[115, 116, 101, 112], (.str ⟨#[115, 116, 101, 112]⟩ 694), (.ref 384)⟩, ⟨hs w #[101, 110, 100, 101, 100], (.str ⟨#[101, 110, 100, 101, 100]⟩ 700), (.ref 389)⟩, ⟨hs w #[105, 115, 95, 114, 101, 97, 100, 121], (.str ⟨#[105, 115, 95, 114, 101, 97, 100, 121]⟩ 711), (.ref 396)⟩, ⟨hs w #[105, 115, 95, 115, 111], (.str ⟨#[105, 115, 95, 115, 111]⟩ 723), (.ref 403)⟩, ⟨hs w #[99, 97, 114, 114, 121, 95, 111, 117, 116], (.str ⟨#[99, 97, 114, 114, 121, 95, 111, 117, 116]⟩ 743), (.ref 410)⟩, ⟨hs w #[115, 116, 97, 116, 101, 95, 97, 116], (.str ⟨#[115, 116, 97, 116, 101, 95, 97, 116]⟩ 759), (.ref 419)⟩, ⟨hs w #[114, 111, 117, 110, 100, 95, 111, 102], (.str ⟨#[114, 111, 117, 110, 100, 95, 111, 102]⟩ 772), (.ref 428)⟩, ⟨hs w #[116, 105, 109, 101, 115], (.str ⟨#[116, 105, 109, 101, 115]⟩ 790), (.ref 437)⟩, ⟨hs w #[119, 101, 110, 116, 95, 111, 110], (.str ⟨#[119, 101, 110, 116, 95, 111, 110]⟩ 796), (.ref 442)⟩, ⟨hs w #[116, 97, 108, 108, 121], (.str ⟨#[116, 97, 108, 108, 121]⟩ 802), (.ref 447)⟩, ⟨hs w #[116, 114, 97, 105, 108], (.str ⟨#[116, 114, 97, 105, 108]⟩ 811), (.ref 454)⟩, ⟨hs w #[119, 97, 121, 115, 95, 102, 114, 111, 109], (.str ⟨#[119, 97, 121, 115, 95, 102, 114, 111, 109]⟩ 824), (.ref 461)⟩, ⟨hs w #[116, 114, 97, 105, 108, 95, 97, 108, 111, 110, 103], (.str ⟨#[116, 114, 97, 105, 108, 95, 97, 108, 111, 110, 103]⟩ 836), (.ref 468)⟩, ⟨hs w #[110, 117, 109, 98, 101, 114, 95, 97, 116], (.str ⟨#[110, 117, 109, 98, 101, 114, 95, 97, 116]⟩ 845), (.ref 475)⟩, ⟨hs w #[100, 111, 105, 110, 103, 115], (.str ⟨#[100, 111, 105, 110, 103, 115]⟩ 851), (.ref 480)⟩, ⟨hs w #[99, 111, 117, 110, 116, 95, 98, 101, 108, 111, 119], (.str ⟨#[99, 111, 117, 110, 116, 95, 98, 101, 108, 111, 119]⟩ 857), (.ref 485)⟩, ⟨hs w #[115, 104, 111, 119, 95, 115, 116, 97, 116, 101], (.str ⟨#[115, 104, 111, 119, 95, 115, 116, 97, 116, 101]⟩ 868), (.ref 492)⟩, ⟨hs w #[115, 112, 97, 99, 101, 100, 95, 111, 114, 95, 100, 97, 115, 104], (.str ⟨#[115, 112, 97, 99, 101, 100, 95, 111, 114, 95, 100, 97, 115, 104]⟩ 875), (.ref 499)⟩, ⟨hs w #[87, 97, 116, 99, 104], (.str ⟨#[87, 97, 116, 99, 104]⟩ 1085), (.ref 657)⟩, ⟨hs w #[114, 101, 112, 108, 97, 99, 101, 100], (.str ⟨#[114, 101, 112, 108, 97, 99, 101, 100]⟩ 1094), (.ref 668)⟩, ⟨hs w #[95, 108, 97, 119, 95, 98, 97, 103], (.str ⟨#[95, 108, 97, 119, 95, 98, 97, 103]⟩ 1107), (.ref 675)⟩, ⟨hs w #[95, 108, 97, 119, 95, 116, 97, 107, 101], (.str ⟨#[95, 108, 97, 119, 95, 116, 97, 107, 101]⟩ 1116), (.ref 682)⟩, ⟨hs w #[95, 108, 97, 119, 95, 119, 104, 101, 101, 108, 115], (.str ⟨#[95, 108, 97, 119, 95, 119, 104, 101, 101, 108, 115]⟩ 1127), (.ref 689)⟩, ⟨hs w #[95, 108, 97, 119, 95, 99, 111, 110, 100, 105, 116, 105, 111, 110], (.str ⟨#[95, 108, 97, 119, 95, 99, 111, 110, 100, 105, 116, 105, 111, 110]⟩ 1138), (.ref 696)⟩, ⟨hs w #[95, 108, 97, 119, 95, 99, 104, 97, 110, 103, 101], (.str ⟨#[95, 108, 97, 119, 95, 99, 104, 97, 110, 103, 101]⟩ 1147), (.ref 703)⟩, ⟨hs w #[95, 108, 97, 119, 95, 114, 117, 108, 101], (.str ⟨#[95, 108, 97, 119, 95, 114, 117, 108, 101]⟩ 1153), (.ref 708)⟩, ⟨hs w #[95, 108, 97, 119, 95, 114, 117, 108, 101, 115], (.str ⟨#[95, 108, 97, 119, 95, 114, 117, 108, 101, 115]⟩ 1159), (.ref 713)⟩, ⟨hs w #[95, 108, 97, 119, 95, 100, 114, 97, 119, 110], (.str ⟨#[95, 108, 97, 119, 95, 100, 114, 97, 119, 110]⟩ 1167), (.ref 720)⟩, ⟨hs w #[95, 108, 97, 119, 95, 115, 111], (.str ⟨#[95, 108, 97, 119, 95, 115, 111]⟩ 1176), (.ref 727)⟩, ⟨hs w #[95, 108, 97, 119, 95, 98, 101, 97, 116], (.str ⟨#[95, 108, 97, 119, 95, 98, 101, 97, 116]⟩ 1182), (.ref 732)⟩, ⟨hs w #[95, 108, 97, 119, 95, 111, 119, 110], (.str ⟨#[95, 108, 97, 119, 95, 111, 119, 110]⟩ 1189), (.ref 739)⟩, ⟨hs w #[95, 108, 97, 119, 95, 116, 114, 97, 99, 107], (.str ⟨#[95, 108, 97, 119, 95, 116, 114, 97, 99, 107]⟩ 1203), (.ref 746)⟩, ⟨hs w #[95, 108, 97, 119, 95, 111, 102, 102], (.str ⟨#[95, 108, 97, 119, 95, 111, 102, 102]⟩ 1209), (.ref 751)⟩, ⟨hs w #[95, 108, 97, 119, 95, 115, 116, 97, 114, 116, 115], (.str ⟨#[95, 108, 97, 119, 95, 115, 116, 97, 114, 116, 115]⟩ 1215), (.ref 756)⟩, ⟨hs w #[95, 108, 97, 119, 95, 104, 97, 110, 100], (.str ⟨#[95, 108, 97, 119, 95, 104, 97, 110, 100]⟩ 1227), (.ref 763)⟩, ⟨hs w #[95, 108, 97, 119, 95, 97, 116, 95, 119, 97, 116, 99, 104], (.str ⟨#[95, 108, 97, 119, 95, 97, 116, 95, 119, 97, 116, 99, 104]⟩ 1238), (.ref 770)⟩, ⟨hs w #[95, 108, 97, 119, 95, 102, 97, 114], (.str ⟨#[95, 108, 97, 119, 95, 102, 97, 114]⟩ 1246), (.ref 777)⟩, ⟨hs w #[95, 108, 97, 119, 95, 115, 112, 111, 116], (.str ⟨#[95, 108, 97, 119, 95, 115, 112, 111, 116]⟩ 1252), (.ref 782)⟩, ⟨hs w #[95, 108, 97, 119, 95, 108, 105, 107, 101, 95, 111, 110, 101], (.str ⟨#[95, 108, 97, 119, 95, 108, 105, 107, 101, 95, 111, 110, 101]⟩ 1258), (.ref 787)⟩, ⟨hs w #[108, 97, 119], (.str ⟨#[108, 97, 119]⟩ 1264), (.ref 792)⟩] 99), #[]⟩),
  (31, ⟨(.type "type"), none, (.cls ⟨⟨#[72, 117, 115, 104, 69, 114, 114, 111, 114]⟩, [(.type "ValueError")], [(.ref 31), (.type "ValueError"), (.type "Exception"), (.type "BaseException"), (.type "object")], 30, ⟨#[72, 117, 115, 104, 69, 114, 114, 111, 114]⟩, true, [], [(.ref 51), (.ref 63), (.ref 75)], false, none, false⟩), #[(some (.ref 22)), none, (some (.str ⟨#[72, 117, 115, 104, 69, 114, 114, 111, 114]⟩ 196)), (some (.str ⟨#[72, 117, 115, 104, 69, 114, 114, 111, 114]⟩ 204)), (some (.builtin "ValueError.__new__")), (some (.bool true))]⟩),
  (30, ⟨(.type "dict"), none, (.dict #[⟨hs w #[95, 95, 109, 111, 100, 117, 108, 101, 95, 95], (.str ⟨#[95, 95, 109, 111, 100, 117, 108, 101, 95, 95]⟩ 203), (.str ⟨#[104, 117, 115, 104, 114, 117, 108, 101, 115, 46, 101, 114, 114, 111, 114, 115]⟩ 194)⟩, ⟨hs w #[95, 95, 102, 105, 114, 115, 116, 108, 105, 110, 101, 110, 111, 95, 95], (.str ⟨#[95, 95, 102, 105, 114, 115, 116, 108, 105, 110, 101, 110, 111, 95, 95]⟩ 207), (.int (5) 206)⟩, ⟨hs w #[95, 95, 115, 116, 97, 116, 105, 99, 95, 97, 116, 116, 114, 105, 98, 117, 116, 101, 115, 95, 95], (.str ⟨#[95, 95, 115, 116, 97, 116, 105, 99, 95, 97, 116, 116, 114, 105, 98, 117, 116, 101, 115, 95, 95]⟩ 208), (.ref 29)⟩, ⟨hs w #[95, 95, 119, 101, 97, 107, 114, 101, 102, 95, 95], (.str ⟨#[95, 95, 119, 101, 97, 107, 114, 101, 102, 95, 95]⟩ 210), (.ref 32)⟩, ⟨hs w #[95, 95, 100, 111, 99, 95, 95], (.str ⟨#[95, 95, 100, 111, 99, 95, 95]⟩ 211), .none⟩] 3), #[]⟩),
  (51, ⟨(.type "type"), none, (.cls ⟨⟨#[78, 111, 66, 111, 111, 107]⟩, [(.ref 31)], [(.ref 51), (.ref 31), (.type "ValueError"), (.type "Exception"), (.type "BaseException"), (.type "object")], 50, ⟨#[78, 111, 66, 111, 111, 107]⟩, true, [], [], false, none, false⟩), #[(some (.ref 35)), none, (some (.str ⟨#[78, 111, 66, 111, 111, 107]⟩ 214)), (some (.str ⟨#[78, 111, 66, 111, 111, 107]⟩ 222)), (some (.builtin "ValueError.__new__")), (some (.bool true))]⟩),
  (50, ⟨(.type "dict"), none, (.dict #[⟨hs w #[95, 95, 109, 111, 100, 117, 108, 101, 95, 95], (.str ⟨#[95, 95, 109, 111, 100, 117, 108, 101, 95, 95]⟩ 221), (.str ⟨#[104, 117, 115, 104, 114, 117, 108, 101, 115, 46, 101, 114, 114, 111, 114, 115]⟩ 194)⟩, ⟨hs w #[95, 95, 102, 105, 114, 115, 116, 108, 105, 110, 101, 110, 111, 95, 95], (.str ⟨#[95, 95, 102, 105, 114, 115, 116, 108, 105, 110, 101, 110, 111, 95, 95]⟩ 225), (.int (7) 224)⟩, ⟨hs w #[95, 95, 105, 110, 105, 116, 95, 95], (.str ⟨#[95, 95, 105, 110, 105, 116, 95, 95]⟩ 233), (.ref 48)⟩, ⟨hs w #[95, 95, 115, 116, 97, 116, 105, 99, 95, 97, 116, 116, 114, 105, 98, 117, 116, 101, 115, 95, 95], (.str ⟨#[95, 95, 115, 116, 97, 116, 105, 99, 95, 97, 116, 116, 114, 105, 98, 117, 116, 101, 115, 95, 95]⟩ 235), (.ref 49)⟩, ⟨hs w #[95, 95, 100, 111, 99, 95, 95], (.str ⟨#[95, 95, 100, 111, 99, 95, 95]⟩ 236), .none⟩] 2), #[]⟩),
  (63, ⟨(.type "type"), none, (.cls ⟨⟨#[78, 111, 83, 116, 97, 116, 101]⟩, [(.ref 31)], [(.ref 63), (.ref 31), (.type "ValueError"), (.type "Exception"), (.type "BaseException"), (.type "object")], 62, ⟨#[78, 111, 83, 116, 97, 116, 101]⟩, true, [], [], false, none, false⟩), #[(some (.ref 54)), none, (some (.str ⟨#[78, 111, 83, 116, 97, 116, 101]⟩ 239)), (some (.str ⟨#[78, 111, 83, 116, 97, 116, 101]⟩ 247)), (some (.builtin "ValueError.__new__")), (some (.bool true))]⟩),
  (62, ⟨(.type "dict"), none, (.dict #[⟨hs w #[95, 95, 109, 111, 100, 117, 108, 101, 95, 95], (.str ⟨#[95, 95, 109, 111, 100, 117, 108, 101, 95, 95]⟩ 246), (.str ⟨#[104, 117, 115, 104, 114, 117, 108, 101, 115, 46, 101, 114, 114, 111, 114, 115]⟩ 194)⟩, ⟨hs w #[95, 95, 102, 105, 114, 115, 116, 108, 105, 110, 101, 110, 111, 95, 95], (.str ⟨#[95, 95, 102, 105, 114, 115, 116, 108, 105, 110, 101, 110, 111, 95, 95]⟩ 250), (.int (12) 249)⟩, ⟨hs w #[95, 95, 115, 116, 97, 116, 105, 99, 95, 97, 116, 116, 114, 105, 98, 117, 116, 101, 115, 95, 95], (.str ⟨#[95, 95, 115, 116, 97, 116, 105, 99, 95, 97, 116, 116, 114, 105, 98, 117, 116, 101, 115, 95, 95]⟩ 251), (.ref 61)⟩, ⟨hs w #[95, 95, 100, 111, 99, 95, 95], (.str ⟨#[95, 95, 100, 111, 99, 95, 95]⟩ 252), .none⟩] 2), #[]⟩),
  (75, ⟨(.type "type"), none, (.cls ⟨⟨#[78, 111, 79, 102, 102]⟩, [(.ref 31)], [(.ref 75), (.ref 31), (.type "ValueError"), (.type "Exception"), (.type "BaseException"), (.type "object")], 74, ⟨#[78, 111, 79, 102, 102]⟩, true, [], [], false, none, false⟩), #[(some (.ref 66)), none, (some (.str ⟨#[78, 111, 79, 102, 102]⟩ 255)), (some (.str ⟨#[78, 111, 79, 102, 102]⟩ 263)), (some (.builtin "ValueError.__new__")), (some (.bool true))]⟩),
  (74, ⟨(.type "dict"), none, (.dict #[⟨hs w #[95, 95, 109, 111, 100, 117, 108, 101, 95, 95], (.str ⟨#[95, 95, 109, 111, 100, 117, 108, 101, 95, 95]⟩ 262), (.str ⟨#[104, 117, 115, 104, 114, 117, 108, 101, 115, 46, 101, 114, 114, 111, 114, 115]⟩ 194)⟩, ⟨hs w #[95, 95, 102, 105, 114, 115, 116, 108, 105, 110, 101, 110, 111, 95, 95], (.str ⟨#[95, 95, 102, 105, 114, 115, 116, 108, 105, 110, 101, 110, 111, 95, 95]⟩ 266), (.int (14) 265)⟩, ⟨hs w #[95, 95, 115, 116, 97, 116, 105, 99, 95, 97, 116, 116, 114, 105, 98, 117, 116, 101, 115, 95, 95], (.str ⟨#[95, 95, 115, 116, 97, 116, 105, 99, 95, 97, 116, 116, 114, 105, 98, 117, 116, 101, 115, 95, 95]⟩ 267), (.ref 73)⟩, ⟨hs w #[95, 95, 100, 111, 99, 95, 95], (.str ⟨#[95, 95, 100, 111, 99, 95, 95]⟩ 268), .none⟩] 2), #[]⟩),
  (94, ⟨(.type "type"), none, (.cls ⟨⟨#[78, 111, 82, 117, 108, 101]⟩, [(.type "LookupError")], [(.ref 94), (.type "LookupError"), (.type "Exception"), (.type "BaseException"), (.type "object")], 93, ⟨#[78, 111, 82, 117, 108, 101]⟩, true, [], [], false, none, false⟩), #[(some (.ref 78)), none, (some (.str ⟨#[78, 111, 82, 117, 108, 101]⟩ 271)), (some (.str ⟨#[78, 111, 82, 117, 108, 101]⟩ 279)), (some (.builtin "LookupError.__new__")), (some (.bool true))]⟩),
  (93, ⟨(.type "dict"), none, (.dict #[⟨hs w #[95, 95, 109, 111, 100, 117, 108, 101, 95, 95], (.str ⟨#[95, 95, 109, 111, 100, 117, 108, 101, 95, 95]⟩ 278), (.str ⟨#[104, 117, 115, 104, 114, 117, 108, 101, 115, 46, 101, 114, 114, 111, 114, 115]⟩ 194)⟩, ⟨hs w #[95, 95, 102, 105, 114, 115, 116, 108, 105, 110, 101, 110, 111, 95, 95], (.str ⟨#[95, 95, 102, 105, 114, 115, 116, 108, 105, 110, 101, 110, 111, 95, 95]⟩ 282), (.int (16) 281)⟩, ⟨hs w #[95, 95, 105, 110, 105, 116, 95, 95], (.str ⟨#[95, 95, 105, 110, 105, 116, 95, 95]⟩ 290), (.ref 91)⟩, ⟨hs w #[95, 95, 115, 116, 97, 116, 105, 99, 95, 97, 116, 116, 114, 105, 98, 117, 116, 101, 115, 95, 95], (.str ⟨#[95, 95, 115, 116, 97, 116, 105, 99, 95, 97, 116, 116, 114, 105, 98, 117, 116, 101, 115, 95, 95]⟩ 292), (.ref 92)⟩, ⟨hs w #[95, 95, 119, 101, 97, 107, 114, 101, 102, 95, 95], (.str ⟨#[95, 95, 119, 101, 97, 107, 114, 101, 102, 95, 95]⟩ 294), (.ref 95)⟩, ⟨hs w #[95, 95, 100, 111, 99, 95, 95], (.str ⟨#[95, 95, 100, 111, 99, 95, 95]⟩ 295), .none⟩] 3), #[]⟩),
  (114, ⟨(.type "type"), none, (.cls ⟨⟨#[78, 111, 87, 104, 101, 101, 108]⟩, [(.type "LookupError")], [(.ref 114), (.type "LookupError"), (.type "Exception"), (.type "BaseException"), (.type "object")], 113, ⟨#[78, 111, 87, 104, 101, 101, 108]⟩, true, [], [], false, none, false⟩), #[(some (.ref 98)), none, (some (.str ⟨#[78, 111, 87, 104, 101, 101, 108]⟩ 298)), (some (.str ⟨#[78, 111, 87, 104, 101, 101, 108]⟩ 306)), (some (.builtin "LookupError.__new__")), (some (.bool true))]⟩),
  (113, ⟨(.type "dict"), none, (.dict #[⟨hs w #[95, 95, 109, 111, 100, 117, 108, 101, 95, 95], (.str ⟨#[95, 95, 109, 111, 100, 117, 108, 101, 95, 95]⟩ 305), (.str ⟨#[104, 117, 115, 104, 114, 117, 108, 101, 115, 46, 101, 114, 114, 111, 114, 115]⟩ 194)⟩, ⟨hs w #[95, 95, 102, 105, 114, 115, 116, 108, 105, 110, 101, 110, 111, 95, 95], (.str ⟨#[95, 95, 102, 105, 114, 115, 116, 108, 105, 110, 101, 110, 111, 95, 95]⟩ 309), (.int (21) 308)⟩, ⟨hs w #[95, 95, 105, 110, 105, 116, 95, 95], (.str ⟨#[95, 95, 105, 110, 105, 116, 95, 95]⟩ 317), (.ref 111)⟩, ⟨hs w #[95, 95, 115, 116, 97, 116, 105, 99, 95, 97, 116, 116, 114, 105, 98, 117, 116, 101, 115, 95, 95], (.str ⟨#[95, 95, 115, 116, 97, 116, 105, 99, 95, 97, 116, 116, 114, 105, 98, 117, 116, 101, 115, 95, 95]⟩ 319), (.ref 112)⟩, ⟨hs w #[95, 95, 119, 101, 97, 107, 114, 101, 102, 95, 95], (.str ⟨#[95, 95, 119, 101, 97, 107, 114, 101, 102, 95, 95]⟩ 321), (.ref 115)⟩, ⟨hs w #[95, 95, 100, 111, 99, 95, 95], (.str ⟨#[95, 95, 100, 111, 99, 95, 95]⟩ 322), .none⟩] 3), #[]⟩),
  (134, ⟨(.type "type"), none, (.cls ⟨⟨#[78, 111, 66, 101, 97, 116]⟩, [(.type "OverflowError")], [(.ref 134), (.type "OverflowError"), (.type "ArithmeticError"), (.type "Exception"), (.type "BaseException"), (.type "object")], 133, ⟨#[78, 111, 66, 101, 97, 116]⟩, true, [], [], false, none, false⟩), #[(some (.ref 118)), none, (some (.str ⟨#[78, 111, 66, 101, 97, 116]⟩ 325)), (some (.str ⟨#[78, 111, 66, 101, 97, 116]⟩ 333)), (some (.builtin "OverflowError.__new__")), (some (.bool true))]⟩),
  (133, ⟨(.type "dict"), none, (.dict #[⟨hs w #[95, 95, 109, 111, 100, 117, 108, 101, 95, 95], (.str ⟨#[95, 95, 109, 111, 100, 117, 108, 101, 95, 95]⟩ 332), (.str ⟨#[104, 117, 115, 104, 114, 117, 108, 101, 115, 46, 101, 114, 114, 111, 114, 115]⟩ 194)⟩, ⟨hs w #[95, 95, 102, 105, 114, 115, 116, 108, 105, 110, 101, 110, 111, 95, 95], (.str ⟨#[95, 95, 102, 105, 114, 115, 116, 108, 105, 110, 101, 110, 111, 95, 95]⟩ 336), (.int (26) 335)⟩, ⟨hs w #[95, 95, 105, 110, 105, 116, 95, 95], (.str ⟨#[95, 95, 105, 110, 105, 116, 95, 95]⟩ 344), (.ref 131)⟩, ⟨hs w #[95, 95, 115, 116, 97, 116, 105, 99, 95, 97, 116, 116, 114, 105, 98, 117, 116, 101, 115, 95, 95], (.str ⟨#[95, 95, 115, 116, 97, 116, 105, 99, 95, 97, 116, 116, 114, 105, 98, 117, 116, 101, 115, 95, 95]⟩ 346), (.ref 132)⟩, ⟨hs w #[95, 95, 119, 101, 97, 107, 114, 101, 102, 95, 95], (.str ⟨#[95, 95, 119, 101, 97, 107, 114, 101, 102, 95, 95]⟩ 348), (.ref 135)⟩, ⟨hs w #[95, 95, 100, 111, 99, 95, 95], (.str ⟨#[95, 95, 100, 111, 99, 95, 95]⟩ 349), .none⟩] 3), #[]⟩),
  (154, ⟨(.type "type"), none, (.cls ⟨⟨#[78, 111, 80, 108, 97, 99, 101]⟩, [(.type "IndexError")], [(.ref 154), (.type "IndexError"), (.type "LookupError"), (.type "Exception"), (.type "BaseException"), (.type "object")], 153, ⟨#[78, 111, 80, 108, 97, 99, 101]⟩, true, [], [], false, none, false⟩), #[(some (.ref 138)), none, (some (.str ⟨#[78, 111, 80, 108, 97, 99, 101]⟩ 354)), (some (.str ⟨#[78, 111, 80, 108, 97, 99, 101]⟩ 362)), (some (.builtin "IndexError.__new__")), (some (.bool true))]⟩),
  (153, ⟨(.type "dict"), none, (.dict #[⟨hs w #[95, 95, 109, 111, 100, 117, 108, 101, 95, 95], (.str ⟨#[95, 95, 109, 111, 100, 117, 108, 101, 95, 95]⟩ 361), (.str ⟨#[104, 117, 115, 104, 114, 117, 108, 101, 115, 46, 101, 114, 114, 111, 114, 115]⟩ 194)⟩, ⟨hs w #[95, 95, 102, 105, 114, 115, 116, 108, 105, 110, 101, 110, 111, 95, 95], (.str ⟨#[95, 95, 102, 105, 114, 115, 116, 108, 105, 110, 101, 110, 111, 95, 95]⟩ 365), (.int (31) 364)⟩, ⟨hs w #[95, 95, 105, 110, 105, 116, 95, 95], (.str ⟨#[95, 95, 105, 110, 105, 116, 95, 95]⟩ 373), (.ref 151)⟩, ⟨hs w #[95, 95, 115, 116, 97, 116, 105, 99, 95, 97, 116, 116, 114, 105, 98, 117, 116, 101, 115, 95, 95], (.str ⟨#[95, 95, 115, 116, 97, 116, 105, 99, 95, 97, 116, 116, 114, 105, 98, 117, 116, 101, 115, 95, 95]⟩ 375), (.ref 152)⟩, ⟨hs w #[95, 95, 119, 101, 97, 107, 114, 101, 102, 95, 95], (.str ⟨#[95, 95, 119, 101, 97, 107, 114, 101, 102, 95, 95]⟩ 377), (.ref 155)⟩, ⟨hs w #[95, 95, 100, 111, 99, 95, 95], (.str ⟨#[95, 95, 100, 111, 99, 95, 95]⟩ 378), .none⟩] 3), #[]⟩),
  (287, ⟨(.type "type"), none, (.cls ⟨⟨#[66, 111, 111, 107]⟩, [(.type "object")], [(.ref 287), (.type "object")], 286, ⟨#[66, 111, 111, 107]⟩, true, [], [], false, none, false⟩), #[none, none, (some (.str ⟨#[66, 111, 111, 107]⟩ 513)), (some (.str ⟨#[66, 111, 111, 107]⟩ 521)), (some (.builtin "object.__new__")), (some (.bool true))]⟩),
  (286, ⟨(.type "dict"), none, (.dict #[⟨hs w #[95, 95, 109, 111, 100, 117, 108, 101, 95, 95], (.str ⟨#[95, 95, 109, 111, 100, 117, 108, 101, 95, 95]⟩ 520), (.str ⟨#[104, 117, 115, 104, 114, 117, 108, 101, 115, 46, 98, 111, 111, 107, 115]⟩ 497)⟩, ⟨hs w #[95, 95, 102, 105, 114, 115, 116, 108, 105, 110, 101, 110, 111, 95, 95], (.str ⟨#[95, 95, 102, 105, 114, 115, 116, 108, 105, 110, 101, 110, 111, 95, 95]⟩ 524), (.int (96) 523)⟩, ⟨hs w #[95, 95, 105, 110, 105, 116, 95, 95], (.str ⟨#[95, 95, 105, 110, 105, 116, 95, 95]⟩ 535), (.ref 256)⟩, ⟨hs w #[95, 95, 101, 113, 95, 95], (.str ⟨#[95, 95, 101, 113, 95, 95]⟩ 543), (.ref 263)⟩, ⟨hs w #[95, 95, 108, 101, 110, 95, 95], (.str ⟨#[95, 95, 108, 101, 110, 95, 95]⟩ 550), (.ref 270)⟩, ⟨hs w #[95, 95, 114, 101, 112, 114, 95, 95], (.str ⟨#[95, 95, 114, 101, 112, 114, 95, 95]⟩ 557), (.ref 277)⟩, ⟨hs w #[95, 95, 115, 116, 114, 95, 95], (.str ⟨#[95, 95, 115, 116, 114, 95, 95]⟩ 564), (.ref 284)⟩, ⟨hs w #[95, 95, 115, 116, 97, 116, 105, 99, 95, 97, 116, 116, 114, 105, 98, 117, 116, 101, 115, 95, 95], (.str ⟨#[95, 95, 115, 116, 97, 116, 105, 99, 95, 97, 116, 116, 114, 105, 98, 117, 116, 101, 115, 95, 95]⟩ 567), (.ref 285)⟩, ⟨hs w #[95, 95, 100, 105, 99, 116, 95, 95], (.str ⟨#[95, 95, 100, 105, 99, 116, 95, 95]⟩ 569), (.ref 288)⟩, ⟨hs w #[95, 95, 119, 101, 97, 107, 114, 101, 102, 95, 95], (.str ⟨#[95, 95, 119, 101, 97, 107, 114, 101, 102, 95, 95]⟩ 571), (.ref 289)⟩, ⟨hs w #[95, 95, 100, 111, 99, 95, 95], (.str ⟨#[95, 95, 100, 111, 99, 95, 95]⟩ 572), .none⟩, ⟨hs w #[95, 95, 104, 97, 115, 104, 95, 95], (.str ⟨#[95, 95, 104, 97, 115, 104, 95, 95]⟩ 573), .none⟩] 5), #[]⟩),
  (657, ⟨(.type "type"), none, (.cls ⟨⟨#[87, 97, 116, 99, 104]⟩, [(.type "object")], [(.ref 657), (.type "object")], 656, ⟨#[87, 97, 116, 99, 104]⟩, true, [], [], false, none, false⟩), #[none, none, (some (.str ⟨#[87, 97, 116, 99, 104]⟩ 878)), (some (.str ⟨#[87, 97, 116, 99, 104]⟩ 886)), (some (.builtin "object.__new__")), (some (.bool true))]⟩),
  (656, ⟨(.type "dict"), none, (.dict #[⟨hs w #[95, 95, 109, 111, 100, 117, 108, 101, 95, 95], (.str ⟨#[95, 95, 109, 111, 100, 117, 108, 101, 95, 95]⟩ 885), (.str ⟨#[104, 117, 115, 104, 114, 117, 108, 101, 115, 46, 119, 97, 116, 99, 104]⟩ 876)⟩, ⟨hs w #[95, 95, 102, 105, 114, 115, 116, 108, 105, 110, 101, 110, 111, 95, 95], (.str ⟨#[95, 95, 102, 105, 114, 115, 116, 108, 105, 110, 101, 110, 111, 95, 95]⟩ 889), (.int (286) 888)⟩, ⟨hs w #[95, 95, 105, 110, 105, 116, 95, 95], (.str ⟨#[95, 95, 105, 110, 105, 116, 95, 95]⟩ 901), (.ref 515)⟩, ⟨hs w #[95, 95, 101, 113, 95, 95], (.str ⟨#[95, 95, 101, 113, 95, 95]⟩ 909), (.ref 522)⟩, ⟨hs w #[95, 95, 108, 101, 110, 95, 95], (.str ⟨#[95, 95, 108, 101, 110, 95, 95]⟩ 916), (.ref 529)⟩, ⟨hs w #[95, 95, 115, 116, 114, 95, 95], (.str ⟨#[95, 95, 115, 116, 114, 95, 95]⟩ 923), (.ref 536)⟩, ⟨hs w #[103, 111], (.str ⟨#[103, 111]⟩ 930), (.ref 542)⟩, ⟨hs w #[104, 117, 115, 104], (.str ⟨#[104, 117, 115, 104]⟩ 942), (.ref 550)⟩, ⟨hs w #[119, 97, 107, 101], (.str ⟨#[119, 97, 107, 101]⟩ 952), (.ref 557)⟩, ⟨hs w #[116, 117, 114, 110], (.str ⟨#[116, 117, 114, 110]⟩ 964), (.ref 565)⟩, ⟨hs w #[112, 117, 116], (.str ⟨#[112, 117, 116]⟩ 975), (.ref 572)⟩, ⟨hs w #[112, 117, 116, 95, 111, 102, 102], (.str ⟨#[112, 117, 116, 95, 111, 102, 102]⟩ 983), (.ref 579)⟩, ⟨hs w #[112, 117, 116, 95, 111, 110], (.str ⟨#[112, 117, 116, 95, 111, 110]⟩ 989), (.ref 584)⟩, ⟨hs w #[117, 110, 100, 111], (.str ⟨#[117, 110, 100, 111]⟩ 996), (.ref 591)⟩, ⟨hs w #[116, 114, 105, 101, 100], (.str ⟨#[116, 114, 105, 101, 100]⟩ 1004), (.ref 598)⟩, ⟨hs w #[110, 111, 119], (.str ⟨#[110, 111, 119]⟩ 1011), (.ref 605)⟩, ⟨hs w #[115, 116, 97, 116, 101], (.str ⟨#[115, 116, 97, 116, 101]⟩ 1018), (.ref 612)⟩, ⟨hs w #[111, 102, 102], (.str ⟨#[111, 102, 102]⟩ 1025), (.ref 619)⟩, ⟨hs w #[99, 111, 117, 110, 116, 115], (.str ⟨#[99, 111, 117, 110, 116, 115]⟩ 1032), (.ref 626)⟩, ⟨hs w #[119, 97, 110, 116, 95, 119, 104, 101, 101, 108], (.str ⟨#[119, 97, 110, 116, 95, 119, 104, 101, 101, 108]⟩ 1040), (.ref 633)⟩, ⟨hs w #[101, 110, 116, 101, 114], (.str ⟨#[101, 110, 116, 101, 114]⟩ 1048), (.ref 640)⟩, ⟨hs w #[101, 110, 116, 101, 114, 95, 115, 116, 97, 116, 101], (.str ⟨#[101, 110, 116, 101, 114, 95, 115, 116, 97, 116, 101]⟩ 1061), (.ref 647)⟩, ⟨hs w #[101, 110, 116, 101, 114, 95, 111, 102, 102], (.str ⟨#[101, 110, 116, 101, 114, 95, 111, 102, 102]⟩ 1073), (.ref 654)⟩, ⟨hs w #[95, 95, 115, 116, 97, 116, 105, 99, 95, 97, 116, 116, 114, 105, 98, 117, 116, 101, 115, 95, 95], (.str ⟨#[95, 95, 115, 116, 97, 116, 105, 99, 95, 97, 116, 116, 114, 105, 98, 117, 116, 101, 115, 95, 95]⟩ 1077), (.ref 655)⟩, ⟨hs w #[95, 95, 100, 105, 99, 116, 95, 95], (.str ⟨#[95, 95, 100, 105, 99, 116, 95, 95]⟩ 1079), (.ref 658)⟩, ⟨hs w #[95, 95, 119, 101, 97, 107, 114, 101, 102, 95, 95], (.str ⟨#[95, 95, 119, 101, 97, 107, 114, 101, 102, 95, 95]⟩ 1081), (.ref 659)⟩, ⟨hs w #[95, 95, 100, 111, 99, 95, 95], (.str ⟨#[95, 95, 100, 111, 99, 95, 95]⟩ 1082), .none⟩, ⟨hs w #[95, 95, 104, 97, 115, 104, 95, 95], (.str ⟨#[95, 95, 104, 97, 115, 104, 95, 95]⟩ 1083), .none⟩] 5), #[]⟩),
  (162, ⟨.none, none, (.func ⟨⟨#[105, 115, 95, 119, 104, 111, 108, 101]⟩, ⟨#[105, 115, 95, 119, 104, 111, 108, 101]⟩, defArgs (top 17), .stmts (defBody (top 17)), defScope (top 17), 0, [], .none, .none, .none, .none, none, .none, .none, 0⟩), #[]⟩),
  (164, ⟨(.type "function"), none, (.func ⟨⟨#[105, 115, 95, 119, 104, 111, 108, 101]⟩, ⟨#[105, 115, 95, 119, 104, 111, 108, 101]⟩, defArgs (top 17), .stmts (defBody (top 17)), defScope (top 17), 3, [], .none, .none, .none, (.str ⟨#[104, 117, 115, 104, 114, 117, 108, 101, 115, 46, 99, 104, 101, 99, 107, 115]⟩ 383), none, (.ref 163), .none, 0⟩), #[]⟩),
  (163, ⟨(.type "code"), none, (.fields #[(.str ⟨#[105, 115, 95, 119, 104, 111, 108, 101]⟩ 401), (.str ⟨#[105, 115, 95, 119, 104, 111, 108, 101]⟩ 402), (.str ⟨#[47, 99, 108, 97, 105, 109, 47, 99, 117, 116, 46, 112, 121]⟩ 403), (.int (43) 0), (.int (1) 0), (.int (0) 0), (.int (0) 0), (.int (3) 0), (.ref 158), (.bool true), (.int (181) 0), (.ref 159), .none, (.ref 160), (.ref 161), (.ref 162), (.int (405) 0), (.int (43) 0), (.str ⟨#[47, 99, 108, 97, 105, 109, 47, 99, 117, 116, 46, 112, 121]⟩ 406)]), #[]⟩),
  (169, ⟨.none, none, (.func ⟨⟨#[105, 115, 95, 119, 105, 116, 104, 105, 110]⟩, ⟨#[105, 115, 95, 119, 105, 116, 104, 105, 110]⟩, defArgs (top 18), .stmts (defBody (top 18)), defScope (top 18), 0, [], .none, .none, .none, .none, none, .none, .none, 0⟩), #[]⟩)]
def KL1 (w : World) : PySem.W.Frag := [(171, ⟨(.type "function"), none, (.func ⟨⟨#[105, 115, 95, 119, 105, 116, 104, 105, 110]⟩, ⟨#[105, 115, 95, 119, 105, 116, 104, 105, 110]⟩, defArgs (top 18), .stmts (defBody (top 18)), defScope (top 18), 3, [], .none, .none, .none, (.str ⟨#[104, 117, 115, 104, 114, 117, 108, 101, 115, 46, 99, 104, 101, 99, 107, 115]⟩ 383), none, (.ref 170), .none, 0⟩), #[]⟩),
  (170, ⟨(.type "code"), none, (.fields #[(.str ⟨#[105, 115, 95, 119, 105, 116, 104, 105, 110]⟩ 408), (.str ⟨#[105, 115, 95, 119, 105, 116, 104, 105, 110]⟩ 409), (.str ⟨#[47, 99, 108, 97, 105, 109, 47, 99, 117, 116, 46, 112, 121]⟩ 410), (.int (45) 0), (.int (3) 0), (.int (0) 0), (.int (0) 0), (.int (3) 0), (.ref 165), (.bool true), (.int (181) 0), (.ref 166), .none, (.ref 167), (.ref 168), (.ref 169), (.int (414) 0), (.int (45) 0), (.str ⟨#[47, 99, 108, 97, 105, 109, 47, 99, 117, 116, 46, 112, 121]⟩ 415)]), #[]⟩),
  (176, ⟨.none, none, (.func ⟨⟨#[105, 115, 95, 98, 101, 108, 111, 119]⟩, ⟨#[105, 115, 95, 98, 101, 108, 111, 119]⟩, defArgs (top 19), .stmts (defBody (top 19)), defScope (top 19), 0, [], .none, .none, .none, .none, none, .none, .none, 0⟩), #[]⟩),
  (178, ⟨(.type "function"), none, (.func ⟨⟨#[105, 115, 95, 98, 101, 108, 111, 119]⟩, ⟨#[105, 115, 95, 98, 101, 108, 111, 119]⟩, defArgs (top 19), .stmts (defBody (top 19)), defScope (top 19), 3, [], .none, .none, .none, (.str ⟨#[104, 117, 115, 104, 114, 117, 108, 101, 115, 46, 99, 104, 101, 99, 107, 115]⟩ 383), none, (.ref 177), .none, 0⟩), #[]⟩),
  (177, ⟨(.type "code"), none, (.fields #[(.str ⟨#[105, 115, 95, 98, 101, 108, 111, 119]⟩ 417), (.str ⟨#[105, 115, 95, 98, 101, 108, 111, 119]⟩ 418), (.str ⟨#[47, 99, 108, 97, 105, 109, 47, 99, 117, 116, 46, 112, 121]⟩ 419), (.int (47) 0), (.int (2) 0), (.int (0) 0), (.int (0) 0), (.int (3) 0), (.ref 172), (.bool true), (.int (181) 0), (.ref 173), .none, (.ref 174), (.ref 175), (.ref 176), (.int (422) 0), (.int (47) 0), (.str ⟨#[47, 99, 108, 97, 105, 109, 47, 99, 117, 116, 46, 112, 121]⟩ 423)]), #[]⟩),
  (181, ⟨.none, none, (.func ⟨⟨#[105, 115, 95, 114, 105, 115, 105, 110, 103]⟩, ⟨#[105, 115, 95, 114, 105, 115, 105, 110, 103]⟩, defArgs (top 20), .stmts (defBody (top 20)), defScope (top 20), 0, [], .none, .none, .none, .none, none, .none, .none, 0⟩), #[]⟩),
  (183, ⟨(.type "function"), none, (.func ⟨⟨#[105, 115, 95, 114, 105, 115, 105, 110, 103]⟩, ⟨#[105, 115, 95, 114, 105, 115, 105, 110, 103]⟩, defArgs (top 20), .stmts (defBody (top 20)), defScope (top 20), 3, [], .none, .none, .none, (.str ⟨#[104, 117, 115, 104, 114, 117, 108, 101, 115, 46, 99, 104, 101, 99, 107, 115]⟩ 383), none, (.ref 182), .none, 0⟩), #[]⟩),
  (182, ⟨(.type "code"), none, (.fields #[(.str ⟨#[105, 115, 95, 114, 105, 115, 105, 110, 103]⟩ 425), (.str ⟨#[105, 115, 95, 114, 105, 115, 105, 110, 103]⟩ 426), (.str ⟨#[47, 99, 108, 97, 105, 109, 47, 99, 117, 116, 46, 112, 121]⟩ 427), (.int (49) 0), (.int (2) 0), (.int (0) 0), (.int (0) 0), (.int (3) 0), (.ref 179), (.bool true), (.int (181) 0), (.ref 180), .none, .none, .none, (.ref 181), (.int (428) 0), (.int (49) 0), (.str ⟨#[47, 99, 108, 97, 105, 109, 47, 99, 117, 116, 46, 112, 121]⟩ 429)]), #[]⟩),
  (186, ⟨.none, none, (.func ⟨⟨#[105, 115, 95, 119, 104, 101, 101, 108, 115]⟩, ⟨#[105, 115, 95, 119, 104, 101, 101, 108, 115]⟩, defArgs (top 21), .stmts (defBody (top 21)), defScope (top 21), 0, [], .none, .none, .none, .none, none, .none, .none, 0⟩), #[]⟩),
  (188, ⟨(.type "function"), none, (.func ⟨⟨#[105, 115, 95, 119, 104, 101, 101, 108, 115]⟩, ⟨#[105, 115, 95, 119, 104, 101, 101, 108, 115]⟩, defArgs (top 21), .stmts (defBody (top 21)), defScope (top 21), 3, [], .none, .none, .none, (.str ⟨#[104, 117, 115, 104, 114, 117, 108, 101, 115, 46, 99, 104, 101, 99, 107, 115]⟩ 383), none, (.ref 187), .none, 0⟩), #[]⟩),
  (187, ⟨(.type "code"), none, (.fields #[(.str ⟨#[105, 115, 95, 119, 104, 101, 101, 108, 115]⟩ 431), (.str ⟨#[105, 115, 95, 119, 104, 101, 101, 108, 115]⟩ 432), (.str ⟨#[47, 99, 108, 97, 105, 109, 47, 99, 117, 116, 46, 112, 121]⟩ 433), (.int (53) 0), (.int (1) 0), (.int (0) 0), (.int (0) 0), (.int (3) 0), (.ref 184), (.bool true), (.int (181) 0), (.ref 185), .none, .none, .none, (.ref 186), (.int (434) 0), (.int (53) 0), (.str ⟨#[47, 99, 108, 97, 105, 109, 47, 99, 117, 116, 46, 112, 121]⟩ 435)]), #[]⟩),
  (191, ⟨.none, none, (.func ⟨⟨#[105, 115, 95, 118, 97, 108, 117, 101, 115]⟩, ⟨#[105, 115, 95, 118, 97, 108, 117, 101, 115]⟩, defArgs (top 22), .stmts (defBody (top 22)), defScope (top 22), 0, [], .none, .none, .none, .none, none, .none, .none, 0⟩), #[]⟩),
  (193, ⟨(.type "function"), none, (.func ⟨⟨#[105, 115, 95, 118, 97, 108, 117, 101, 115]⟩, ⟨#[105, 115, 95, 118, 97, 108, 117, 101, 115]⟩, defArgs (top 22), .stmts (defBody (top 22)), defScope (top 22), 3, [], .none, .none, .none, (.str ⟨#[104, 117, 115, 104, 114, 117, 108, 101, 115, 46, 99, 104, 101, 99, 107, 115]⟩ 383), none, (.ref 192), .none, 0⟩), #[]⟩),
  (192, ⟨(.type "code"), none, (.fields #[(.str ⟨#[105, 115, 95, 118, 97, 108, 117, 101, 115]⟩ 437), (.str ⟨#[105, 115, 95, 118, 97, 108, 117, 101, 115]⟩ 438), (.str ⟨#[47, 99, 108, 97, 105, 109, 47, 99, 117, 116, 46, 112, 121]⟩ 439), (.int (62) 0), (.int (2) 0), (.int (0) 0), (.int (0) 0), (.int (3) 0), (.ref 189), (.bool true), (.int (181) 0), (.ref 190), .none, .none, .none, (.ref 191), (.int (440) 0), (.int (62) 0), (.str ⟨#[47, 99, 108, 97, 105, 109, 47, 99, 117, 116, 46, 112, 121]⟩ 441)]), #[]⟩),
  (196, ⟨.none, none, (.func ⟨⟨#[105, 115, 95, 108, 101, 102, 116]⟩, ⟨#[105, 115, 95, 108, 101, 102, 116]⟩, defArgs (top 23), .stmts (defBody (top 23)), defScope (top 23), 0, [], .none, .none, .none, .none, none, .none, .none, 0⟩), #[]⟩),
  (198, ⟨(.type "function"), none, (.func ⟨⟨#[105, 115, 95, 108, 101, 102, 116]⟩, ⟨#[105, 115, 95, 108, 101, 102, 116]⟩, defArgs (top 23), .stmts (defBody (top 23)), defScope (top 23), 3, [], .none, .none, .none, (.str ⟨#[104, 117, 115, 104, 114, 117, 108, 101, 115, 46, 99, 104, 101, 99, 107, 115]⟩ 383), none, (.ref 197), .none, 0⟩), #[]⟩),
  (197, ⟨(.type "code"), none, (.fields #[(.str ⟨#[105, 115, 95, 108, 101, 102, 116]⟩ 443), (.str ⟨#[105, 115, 95, 108, 101, 102, 116]⟩ 444), (.str ⟨#[47, 99, 108, 97, 105, 109, 47, 99, 117, 116, 46, 112, 121]⟩ 445), (.int (66) 0), (.int (2) 0), (.int (0) 0), (.int (0) 0), (.int (3) 0), (.ref 194), (.bool true), (.int (181) 0), (.ref 195), .none, .none, .none, (.ref 196), (.int (446) 0), (.int (66) 0), (.str ⟨#[47, 99, 108, 97, 105, 109, 47, 99, 117, 116, 46, 112, 121]⟩ 447)]), #[]⟩),
  (203, ⟨.none, none, (.func ⟨⟨#[105, 115, 95, 115, 116, 97, 116, 101, 95, 111, 102]⟩, ⟨#[105, 115, 95, 115, 116, 97, 116, 101, 95, 111, 102]⟩, defArgs (top 24), .stmts (defBody (top 24)), defScope (top 24), 0, [], .none, .none, .none, .none, none, .none, .none, 0⟩), #[]⟩),
  (205, ⟨(.type "function"), none, (.func ⟨⟨#[105, 115, 95, 115, 116, 97, 116, 101, 95, 111, 102]⟩, ⟨#[105, 115, 95, 115, 116, 97, 116, 101, 95, 111, 102]⟩, defArgs (top 24), .stmts (defBody (top 24)), defScope (top 24), 3, [], .none, .none, .none, (.str ⟨#[104, 117, 115, 104, 114, 117, 108, 101, 115, 46, 99, 104, 101, 99, 107, 115]⟩ 383), none, (.ref 204), .none, 0⟩), #[]⟩),
  (204, ⟨(.type "code"), none, (.fields #[(.str ⟨#[105, 115, 95, 115, 116, 97, 116, 101, 95, 111, 102]⟩ 449), (.str ⟨#[105, 115, 95, 115, 116, 97, 116, 101, 95, 111, 102]⟩ 450), (.str ⟨#[47, 99, 108, 97, 105, 109, 47, 99, 117, 116, 46, 112, 121]⟩ 451), (.int (70) 0), (.int (2) 0), (.int (0) 0), (.int (0) 0), (.int (3) 0), (.ref 199), (.bool true), (.int (181) 0), (.ref 200), .none, (.ref 201), (.ref 202), (.ref 203), (.int (454) 0), (.int (70) 0), (.str ⟨#[47, 99, 108, 97, 105, 109, 47, 99, 117, 116, 46, 112, 121]⟩ 455)]), #[]⟩),
  (210, ⟨.none, none, (.func ⟨⟨#[105, 115, 95, 98, 101, 97, 116, 115]⟩, ⟨#[105, 115, 95, 98, 101, 97, 116, 115]⟩, defArgs (top 25), .stmts (defBody (top 25)), defScope (top 25), 0, [], .none, .none, .none, .none, none, .none, .none, 0⟩), #[]⟩),
  (212, ⟨(.type "function"), none, (.func ⟨⟨#[105, 115, 95, 98, 101, 97, 116, 115]⟩, ⟨#[105, 115, 95, 98, 101, 97, 116, 115]⟩, defArgs (top 25), .stmts (defBody (top 25)), defScope (top 25), 3, [], .none, .none, .none, (.str ⟨#[104, 117, 115, 104, 114, 117, 108, 101, 115, 46, 99, 104, 101, 99, 107, 115]⟩ 383), none, (.ref 211), .none, 0⟩), #[]⟩),
  (211, ⟨(.type "code"), none, (.fields #[(.str ⟨#[105, 115, 95, 98, 101, 97, 116, 115]⟩ 457), (.str ⟨#[105, 115, 95, 98, 101, 97, 116, 115]⟩ 458), (.str ⟨#[47, 99, 108, 97, 105, 109, 47, 99, 117, 116, 46, 112, 121]⟩ 459), (.int (74) 0), (.int (2) 0), (.int (0) 0), (.int (0) 0), (.int (3) 0), (.ref 206), (.bool true), (.int (181) 0), (.ref 207), .none, (.ref 208), (.ref 209), (.ref 210), (.int (462) 0), (.int (74) 0), (.str ⟨#[47, 99, 108, 97, 105, 109, 47, 99, 117, 116, 46, 112, 121]⟩ 463)]), #[]⟩),
  (217, ⟨.none, none, (.func ⟨⟨#[119, 97, 110, 116, 95, 115, 116, 97, 116, 101]⟩, ⟨#[119, 97, 110, 116, 95, 115, 116, 97, 116, 101]⟩, defArgs (top 26), .stmts (defBody (top 26)), defScope (top 26), 0, [], .none, .none, .none, .none, none, .none, .none, 0⟩), #[]⟩),
  (219, ⟨(.type "function"), none, (.func ⟨⟨#[119, 97, 110, 116, 95, 115, 116, 97, 116, 101]⟩, ⟨#[119, 97, 110, 116, 95, 115, 116, 97, 116, 101]⟩, defArgs (top 26), .stmts (defBody (top 26)), defScope (top 26), 3, [], .none, .none, .none, (.str ⟨#[104, 117, 115, 104, 114, 117, 108, 101, 115, 46, 99, 104, 101, 99, 107, 115]⟩ 383), none, (.ref 218), .none, 0⟩), #[]⟩)]
def KL2 (w : World) : PySem.W.Frag := [(218, ⟨(.type "code"), none, (.fields #[(.str ⟨#[119, 97, 110, 116, 95, 115, 116, 97, 116, 101]⟩ 465), (.str ⟨#[119, 97, 110, 116, 95, 115, 116, 97, 116, 101]⟩ 466), (.str ⟨#[47, 99, 108, 97, 105, 109, 47, 99, 117, 116, 46, 112, 121]⟩ 467), (.int (76) 0), (.int (2) 0), (.int (0) 0), (.int (0) 0), (.int (3) 0), (.ref 213), (.bool true), (.int (181) 0), (.ref 214), .none, (.ref 215), (.ref 216), (.ref 217), (.int (470) 0), (.int (76) 0), (.str ⟨#[47, 99, 108, 97, 105, 109, 47, 99, 117, 116, 46, 112, 121]⟩ 471)]), #[]⟩),
  (224, ⟨.none, none, (.func ⟨⟨#[119, 97, 110, 116, 95, 114, 117, 108, 101]⟩, ⟨#[119, 97, 110, 116, 95, 114, 117, 108, 101]⟩, defArgs (top 27), .stmts (defBody (top 27)), defScope (top 27), 0, [], .none, .none, .none, .none, none, .none, .none, 0⟩), #[]⟩),
  (226, ⟨(.type "function"), none, (.func ⟨⟨#[119, 97, 110, 116, 95, 114, 117, 108, 101]⟩, ⟨#[119, 97, 110, 116, 95, 114, 117, 108, 101]⟩, defArgs (top 27), .stmts (defBody (top 27)), defScope (top 27), 3, [], .none, .none, .none, (.str ⟨#[104, 117, 115, 104, 114, 117, 108, 101, 115, 46, 99, 104, 101, 99, 107, 115]⟩ 383), none, (.ref 225), .none, 0⟩), #[]⟩),
  (225, ⟨(.type "code"), none, (.fields #[(.str ⟨#[119, 97, 110, 116, 95, 114, 117, 108, 101]⟩ 473), (.str ⟨#[119, 97, 110, 116, 95, 114, 117, 108, 101]⟩ 474), (.str ⟨#[47, 99, 108, 97, 105, 109, 47, 99, 117, 116, 46, 112, 121]⟩ 475), (.int (79) 0), (.int (2) 0), (.int (0) 0), (.int (0) 0), (.int (3) 0), (.ref 220), (.bool true), (.int (181) 0), (.ref 221), .none, (.ref 222), (.ref 223), (.ref 224), (.int (478) 0), (.int (79) 0), (.str ⟨#[47, 99, 108, 97, 105, 109, 47, 99, 117, 116, 46, 112, 121]⟩ 479)]), #[]⟩),
  (231, ⟨.none, none, (.func ⟨⟨#[119, 97, 110, 116, 95, 111, 102, 102]⟩, ⟨#[119, 97, 110, 116, 95, 111, 102, 102]⟩, defArgs (top 28), .stmts (defBody (top 28)), defScope (top 28), 0, [], .none, .none, .none, .none, none, .none, .none, 0⟩), #[]⟩),
  (233, ⟨(.type "function"), none, (.func ⟨⟨#[119, 97, 110, 116, 95, 111, 102, 102]⟩, ⟨#[119, 97, 110, 116, 95, 111, 102, 102]⟩, defArgs (top 28), .stmts (defBody (top 28)), defScope (top 28), 3, [], .none, .none, .none, (.str ⟨#[104, 117, 115, 104, 114, 117, 108, 101, 115, 46, 99, 104, 101, 99, 107, 115]⟩ 383), none, (.ref 232), .none, 0⟩), #[]⟩),
  (232, ⟨(.type "code"), none, (.fields #[(.str ⟨#[119, 97, 110, 116, 95, 111, 102, 102]⟩ 481), (.str ⟨#[119, 97, 110, 116, 95, 111, 102, 102]⟩ 482), (.str ⟨#[47, 99, 108, 97, 105, 109, 47, 99, 117, 116, 46, 112, 121]⟩ 483), (.int (82) 0), (.int (2) 0), (.int (0) 0), (.int (0) 0), (.int (3) 0), (.ref 227), (.bool true), (.int (181) 0), (.ref 228), .none, (.ref 229), (.ref 230), (.ref 231), (.int (486) 0), (.int (82) 0), (.str ⟨#[47, 99, 108, 97, 105, 109, 47, 99, 117, 116, 46, 112, 121]⟩ 487)]), #[]⟩),
  (238, ⟨.none, none, (.func ⟨⟨#[119, 97, 110, 116, 95, 98, 101, 97, 116, 115]⟩, ⟨#[119, 97, 110, 116, 95, 98, 101, 97, 116, 115]⟩, defArgs (top 29), .stmts (defBody (top 29)), defScope (top 29), 0, [], .none, .none, .none, .none, none, .none, .none, 0⟩), #[]⟩),
  (240, ⟨(.type "function"), none, (.func ⟨⟨#[119, 97, 110, 116, 95, 98, 101, 97, 116, 115]⟩, ⟨#[119, 97, 110, 116, 95, 98, 101, 97, 116, 115]⟩, defArgs (top 29), .stmts (defBody (top 29)), defScope (top 29), 3, [], .none, .none, .none, (.str ⟨#[104, 117, 115, 104, 114, 117, 108, 101, 115, 46, 99, 104, 101, 99, 107, 115]⟩ 383), none, (.ref 239), .none, 0⟩), #[]⟩),
  (239, ⟨(.type "code"), none, (.fields #[(.str ⟨#[119, 97, 110, 116, 95, 98, 101, 97, 116, 115]⟩ 489), (.str ⟨#[119, 97, 110, 116, 95, 98, 101, 97, 116, 115]⟩ 490), (.str ⟨#[47, 99, 108, 97, 105, 109, 47, 99, 117, 116, 46, 112, 121]⟩ 491), (.int (85) 0), (.int (2) 0), (.int (0) 0), (.int (0) 0), (.int (3) 0), (.ref 234), (.bool true), (.int (181) 0), (.ref 235), .none, (.ref 236), (.ref 237), (.ref 238), (.int (494) 0), (.int (85) 0), (.str ⟨#[47, 99, 108, 97, 105, 109, 47, 99, 117, 116, 46, 112, 121]⟩ 495)]), #[]⟩),
  (254, ⟨.none, none, (.func ⟨⟨#[95, 95, 105, 110, 105, 116, 95, 95]⟩, ⟨#[66, 111, 111, 107, 46, 95, 95, 105, 110, 105, 116, 95, 95]⟩, defArgs (topM 38 0), .stmts (defBody (topM 38 0)), defScope (topM 38 0), 0, [], .none, .none, .none, .none, none, .none, .none, 0⟩), #[]⟩),
  (256, ⟨(.type "function"), none, (.func ⟨⟨#[95, 95, 105, 110, 105, 116, 95, 95]⟩, ⟨#[66, 111, 111, 107, 46, 95, 95, 105, 110, 105, 116, 95, 95]⟩, defArgs (topM 38 0), .stmts (defBody (topM 38 0)), defScope (topM 38 0), 3, [], (.ref 249), .none, .none, (.str ⟨#[104, 117, 115, 104, 114, 117, 108, 101, 115, 46, 98, 111, 111, 107, 115]⟩ 497), none, (.ref 255), .none, 0⟩), #[]⟩),
  (249, ⟨(.type "tuple"), none, (.seq #[(.ref 248)] 0), #[]⟩),
  (248, ⟨(.type "tuple"), none, (.seq #[] 0), #[]⟩),
  (255, ⟨(.type "code"), none, (.fields #[(.str ⟨#[95, 95, 105, 110, 105, 116, 95, 95]⟩ 525), (.str ⟨#[66, 111, 111, 107, 46, 95, 95, 105, 110, 105, 116, 95, 95]⟩ 526), (.str ⟨#[47, 99, 108, 97, 105, 109, 47, 99, 117, 116, 46, 112, 121]⟩ 527), (.int (98) 0), (.int (3) 0), (.int (0) 0), (.int (0) 0), (.int (3) 0), (.ref 250), (.bool true), (.int (181) 0), (.ref 251), .none, (.ref 252), (.ref 253), (.ref 254), (.int (533) 0), (.int (98) 0), (.str ⟨#[47, 99, 108, 97, 105, 109, 47, 99, 117, 116, 46, 112, 121]⟩ 534)]), #[]⟩),
  (268, ⟨.none, none, (.func ⟨⟨#[95, 95, 108, 101, 110, 95, 95]⟩, ⟨#[66, 111, 111, 107, 46, 95, 95, 108, 101, 110, 95, 95]⟩, defArgs (topM 38 2), .stmts (defBody (topM 38 2)), defScope (topM 38 2), 0, [], .none, .none, .none, .none, none, .none, .none, 0⟩), #[]⟩),
  (270, ⟨(.type "function"), none, (.func ⟨⟨#[95, 95, 108, 101, 110, 95, 95]⟩, ⟨#[66, 111, 111, 107, 46, 95, 95, 108, 101, 110, 95, 95]⟩, defArgs (topM 38 2), .stmts (defBody (topM 38 2)), defScope (topM 38 2), 3, [], .none, .none, .none, (.str ⟨#[104, 117, 115, 104, 114, 117, 108, 101, 115, 46, 98, 111, 111, 107, 115]⟩ 497), none, (.ref 269), .none, 0⟩), #[]⟩),
  (269, ⟨(.type "code"), none, (.fields #[(.str ⟨#[95, 95, 108, 101, 110, 95, 95]⟩ 544), (.str ⟨#[66, 111, 111, 107, 46, 95, 95, 108, 101, 110, 95, 95]⟩ 545), (.str ⟨#[47, 99, 108, 97, 105, 109, 47, 99, 117, 116, 46, 112, 121]⟩ 546), (.int (110) 0), (.int (1) 0), (.int (0) 0), (.int (0) 0), (.int (3) 0), (.ref 264), (.bool true), (.int (181) 0), (.ref 265), .none, (.ref 266), (.ref 267), (.ref 268), (.int (548) 0), (.int (110) 0), (.str ⟨#[47, 99, 108, 97, 105, 109, 47, 99, 117, 116, 46, 112, 121]⟩ 549)]), #[]⟩),
  (296, ⟨.none, none, (.func ⟨⟨#[105, 115, 95, 114, 111, 119]⟩, ⟨#[105, 115, 95, 114, 111, 119]⟩, defArgs (top 39), .stmts (defBody (top 39)), defScope (top 39), 0, [], .none, .none, .none, .none, none, .none, .none, 0⟩), #[]⟩),
  (298, ⟨(.type "function"), none, (.func ⟨⟨#[105, 115, 95, 114, 111, 119]⟩, ⟨#[105, 115, 95, 114, 111, 119]⟩, defArgs (top 39), .stmts (defBody (top 39)), defScope (top 39), 3, [], .none, .none, .none, (.str ⟨#[104, 117, 115, 104, 114, 117, 108, 101, 115, 46, 98, 111, 111, 107, 115]⟩ 497), none, (.ref 297), .none, 0⟩), #[]⟩),
  (297, ⟨(.type "code"), none, (.fields #[(.str ⟨#[105, 115, 95, 114, 111, 119]⟩ 576), (.str ⟨#[105, 115, 95, 114, 111, 119]⟩ 577), (.str ⟨#[47, 99, 108, 97, 105, 109, 47, 99, 117, 116, 46, 112, 121]⟩ 578), (.int (118) 0), (.int (2) 0), (.int (0) 0), (.int (0) 0), (.int (3) 0), (.ref 292), (.bool true), (.int (181) 0), (.ref 293), .none, (.ref 294), (.ref 295), (.ref 296), (.int (581) 0), (.int (118) 0), (.str ⟨#[47, 99, 108, 97, 105, 109, 47, 99, 117, 116, 46, 112, 121]⟩ 582)]), #[]⟩),
  (301, ⟨.none, none, (.func ⟨⟨#[105, 115, 95, 114, 117, 108, 101]⟩, ⟨#[105, 115, 95, 114, 117, 108, 101]⟩, defArgs (top 40), .stmts (defBody (top 40)), defScope (top 40), 0, [], .none, .none, .none, .none, none, .none, .none, 0⟩), #[]⟩),
  (303, ⟨(.type "function"), none, (.func ⟨⟨#[105, 115, 95, 114, 117, 108, 101]⟩, ⟨#[105, 115, 95, 114, 117, 108, 101]⟩, defArgs (top 40), .stmts (defBody (top 40)), defScope (top 40), 3, [], .none, .none, .none, (.str ⟨#[104, 117, 115, 104, 114, 117, 108, 101, 115, 46, 98, 111, 111, 107, 115]⟩ 497), none, (.ref 302), .none, 0⟩), #[]⟩),
  (302, ⟨(.type "code"), none, (.fields #[(.str ⟨#[105, 115, 95, 114, 117, 108, 101]⟩ 584), (.str ⟨#[105, 115, 95, 114, 117, 108, 101]⟩ 585), (.str ⟨#[47, 99, 108, 97, 105, 109, 47, 99, 117, 116, 46, 112, 121]⟩ 586), (.int (120) 0), (.int (3) 0), (.int (0) 0), (.int (0) 0), (.int (3) 0), (.ref 299), (.bool true), (.int (181) 0), (.ref 300), .none, .none, .none, (.ref 301), (.int (587) 0), (.int (120) 0), (.str ⟨#[47, 99, 108, 97, 105, 109, 47, 99, 117, 116, 46, 112, 121]⟩ 588)]), #[]⟩),
  (308, ⟨.none, none, (.func ⟨⟨#[105, 115, 95, 99, 111, 110, 100, 105, 116, 105, 111, 110]⟩, ⟨#[105, 115, 95, 99, 111, 110, 100, 105, 116, 105, 111, 110]⟩, defArgs (top 41), .stmts (defBody (top 41)), defScope (top 41), 0, [], .none, .none, .none, .none, none, .none, .none, 0⟩), #[]⟩)]
def KL3 (w : World) : PySem.W.Frag := [(310, ⟨(.type "function"), none, (.func ⟨⟨#[105, 115, 95, 99, 111, 110, 100, 105, 116, 105, 111, 110]⟩, ⟨#[105, 115, 95, 99, 111, 110, 100, 105, 116, 105, 111, 110]⟩, defArgs (top 41), .stmts (defBody (top 41)), defScope (top 41), 3, [], .none, .none, .none, (.str ⟨#[104, 117, 115, 104, 114, 117, 108, 101, 115, 46, 98, 111, 111, 107, 115]⟩ 497), none, (.ref 309), .none, 0⟩), #[]⟩),
  (309, ⟨(.type "code"), none, (.fields #[(.str ⟨#[105, 115, 95, 99, 111, 110, 100, 105, 116, 105, 111, 110]⟩ 590), (.str ⟨#[105, 115, 95, 99, 111, 110, 100, 105, 116, 105, 111, 110]⟩ 591), (.str ⟨#[47, 99, 108, 97, 105, 109, 47, 99, 117, 116, 46, 112, 121]⟩ 592), (.int (131) 0), (.int (3) 0), (.int (0) 0), (.int (0) 0), (.int (3) 0), (.ref 304), (.bool true), (.int (181) 0), (.ref 305), .none, (.ref 306), (.ref 307), (.ref 308), (.int (596) 0), (.int (131) 0), (.str ⟨#[47, 99, 108, 97, 105, 109, 47, 99, 117, 116, 46, 112, 121]⟩ 597)]), #[]⟩),
  (315, ⟨.none, none, (.func ⟨⟨#[105, 115, 95, 109, 111, 109, 101, 110, 116]⟩, ⟨#[105, 115, 95, 109, 111, 109, 101, 110, 116]⟩, defArgs (top 42), .stmts (defBody (top 42)), defScope (top 42), 0, [], .none, .none, .none, .none, none, .none, .none, 0⟩), #[]⟩),
  (317, ⟨(.type "function"), none, (.func ⟨⟨#[105, 115, 95, 109, 111, 109, 101, 110, 116]⟩, ⟨#[105, 115, 95, 109, 111, 109, 101, 110, 116]⟩, defArgs (top 42), .stmts (defBody (top 42)), defScope (top 42), 3, [], .none, .none, .none, (.str ⟨#[104, 117, 115, 104, 114, 117, 108, 101, 115, 46, 98, 111, 111, 107, 115]⟩ 497), none, (.ref 316), .none, 0⟩), #[]⟩),
  (316, ⟨(.type "code"), none, (.fields #[(.str ⟨#[105, 115, 95, 109, 111, 109, 101, 110, 116]⟩ 599), (.str ⟨#[105, 115, 95, 109, 111, 109, 101, 110, 116]⟩ 600), (.str ⟨#[47, 99, 108, 97, 105, 109, 47, 99, 117, 116, 46, 112, 121]⟩ 601), (.int (133) 0), (.int (2) 0), (.int (0) 0), (.int (0) 0), (.int (3) 0), (.ref 311), (.bool true), (.int (181) 0), (.ref 312), .none, (.ref 313), (.ref 314), (.ref 315), (.int (604) 0), (.int (133) 0), (.str ⟨#[47, 99, 108, 97, 105, 109, 47, 99, 117, 116, 46, 112, 121]⟩ 605)]), #[]⟩),
  (322, ⟨.none, none, (.func ⟨⟨#[105, 115, 95, 99, 104, 97, 110, 103, 101]⟩, ⟨#[105, 115, 95, 99, 104, 97, 110, 103, 101]⟩, defArgs (top 43), .stmts (defBody (top 43)), defScope (top 43), 0, [], .none, .none, .none, .none, none, .none, .none, 0⟩), #[]⟩),
  (324, ⟨(.type "function"), none, (.func ⟨⟨#[105, 115, 95, 99, 104, 97, 110, 103, 101]⟩, ⟨#[105, 115, 95, 99, 104, 97, 110, 103, 101]⟩, defArgs (top 43), .stmts (defBody (top 43)), defScope (top 43), 3, [], .none, .none, .none, (.str ⟨#[104, 117, 115, 104, 114, 117, 108, 101, 115, 46, 98, 111, 111, 107, 115]⟩ 497), none, (.ref 323), .none, 0⟩), #[]⟩),
  (323, ⟨(.type "code"), none, (.fields #[(.str ⟨#[105, 115, 95, 99, 104, 97, 110, 103, 101]⟩ 607), (.str ⟨#[105, 115, 95, 99, 104, 97, 110, 103, 101]⟩ 608), (.str ⟨#[47, 99, 108, 97, 105, 109, 47, 99, 117, 116, 46, 112, 121]⟩ 609), (.int (137) 0), (.int (2) 0), (.int (0) 0), (.int (0) 0), (.int (3) 0), (.ref 318), (.bool true), (.int (181) 0), (.ref 319), .none, (.ref 320), (.ref 321), (.ref 322), (.int (612) 0), (.int (137) 0), (.str ⟨#[47, 99, 108, 97, 105, 109, 47, 99, 117, 116, 46, 112, 121]⟩ 613)]), #[]⟩),
  (329, ⟨.none, none, (.func ⟨⟨#[105, 115, 95, 115, 112, 111, 116]⟩, ⟨#[105, 115, 95, 115, 112, 111, 116]⟩, defArgs (top 44), .stmts (defBody (top 44)), defScope (top 44), 0, [], .none, .none, .none, .none, none, .none, .none, 0⟩), #[]⟩),
  (331, ⟨(.type "function"), none, (.func ⟨⟨#[105, 115, 95, 115, 112, 111, 116]⟩, ⟨#[105, 115, 95, 115, 112, 111, 116]⟩, defArgs (top 44), .stmts (defBody (top 44)), defScope (top 44), 3, [], .none, .none, .none, (.str ⟨#[104, 117, 115, 104, 114, 117, 108, 101, 115, 46, 98, 111, 111, 107, 115]⟩ 497), none, (.ref 330), .none, 0⟩), #[]⟩),
  (330, ⟨(.type "code"), none, (.fields #[(.str ⟨#[105, 115, 95, 115, 112, 111, 116]⟩ 615), (.str ⟨#[105, 115, 95, 115, 112, 111, 116]⟩ 616), (.str ⟨#[47, 99, 108, 97, 105, 109, 47, 99, 117, 116, 46, 112, 121]⟩ 617), (.int (139) 0), (.int (3) 0), (.int (0) 0), (.int (0) 0), (.int (3) 0), (.ref 325), (.bool true), (.int (181) 0), (.ref 326), .none, (.ref 327), (.ref 328), (.ref 329), (.int (624) 0), (.int (139) 0), (.str ⟨#[47, 99, 108, 97, 105, 109, 47, 99, 117, 116, 46, 112, 121]⟩ 625)]), #[]⟩),
  (334, ⟨.none, none, (.func ⟨⟨#[105, 115, 95, 104, 117, 115, 104, 101, 115]⟩, ⟨#[105, 115, 95, 104, 117, 115, 104, 101, 115]⟩, defArgs (top 45), .stmts (defBody (top 45)), defScope (top 45), 0, [], .none, .none, .none, .none, none, .none, .none, 0⟩), #[]⟩),
  (336, ⟨(.type "function"), none, (.func ⟨⟨#[105, 115, 95, 104, 117, 115, 104, 101, 115]⟩, ⟨#[105, 115, 95, 104, 117, 115, 104, 101, 115]⟩, defArgs (top 45), .stmts (defBody (top 45)), defScope (top 45), 3, [], .none, .none, .none, (.str ⟨#[104, 117, 115, 104, 114, 117, 108, 101, 115, 46, 98, 111, 111, 107, 115]⟩ 497), none, (.ref 335), .none, 0⟩), #[]⟩),
  (335, ⟨(.type "code"), none, (.fields #[(.str ⟨#[105, 115, 95, 104, 117, 115, 104, 101, 115]⟩ 627), (.str ⟨#[105, 115, 95, 104, 117, 115, 104, 101, 115]⟩ 628), (.str ⟨#[47, 99, 108, 97, 105, 109, 47, 99, 117, 116, 46, 112, 121]⟩ 629), (.int (144) 0), (.int (2) 0), (.int (0) 0), (.int (0) 0), (.int (3) 0), (.ref 332), (.bool true), (.int (181) 0), (.ref 333), .none, .none, .none, (.ref 334), (.int (630) 0), (.int (144) 0), (.str ⟨#[47, 99, 108, 97, 105, 109, 47, 99, 117, 116, 46, 112, 121]⟩ 631)]), #[]⟩),
  (341, ⟨.none, none, (.func ⟨⟨#[105, 115, 95, 104, 117, 115, 104]⟩, ⟨#[105, 115, 95, 104, 117, 115, 104]⟩, defArgs (top 46), .stmts (defBody (top 46)), defScope (top 46), 0, [], .none, .none, .none, .none, none, .none, .none, 0⟩), #[]⟩),
  (343, ⟨(.type "function"), none, (.func ⟨⟨#[105, 115, 95, 104, 117, 115, 104]⟩, ⟨#[105, 115, 95, 104, 117, 115, 104]⟩, defArgs (top 46), .stmts (defBody (top 46)), defScope (top 46), 3, [], .none, .none, .none, (.str ⟨#[104, 117, 115, 104, 114, 117, 108, 101, 115, 46, 98, 111, 111, 107, 115]⟩ 497), none, (.ref 342), .none, 0⟩), #[]⟩),
  (342, ⟨(.type "code"), none, (.fields #[(.str ⟨#[105, 115, 95, 104, 117, 115, 104]⟩ 633), (.str ⟨#[105, 115, 95, 104, 117, 115, 104]⟩ 634), (.str ⟨#[47, 99, 108, 97, 105, 109, 47, 99, 117, 116, 46, 112, 121]⟩ 635), (.int (148) 0), (.int (1) 0), (.int (0) 0), (.int (0) 0), (.int (3) 0), (.ref 337), (.bool true), (.int (181) 0), (.ref 338), .none, (.ref 339), (.ref 340), (.ref 341), (.int (637) 0), (.int (148) 0), (.str ⟨#[47, 99, 108, 97, 105, 109, 47, 99, 117, 116, 46, 112, 121]⟩ 638)]), #[]⟩),
  (346, ⟨.none, none, (.func ⟨⟨#[105, 115, 95, 119, 97, 107, 101, 115]⟩, ⟨#[105, 115, 95, 119, 97, 107, 101, 115]⟩, defArgs (top 47), .stmts (defBody (top 47)), defScope (top 47), 0, [], .none, .none, .none, .none, none, .none, .none, 0⟩), #[]⟩),
  (348, ⟨(.type "function"), none, (.func ⟨⟨#[105, 115, 95, 119, 97, 107, 101, 115]⟩, ⟨#[105, 115, 95, 119, 97, 107, 101, 115]⟩, defArgs (top 47), .stmts (defBody (top 47)), defScope (top 47), 3, [], .none, .none, .none, (.str ⟨#[104, 117, 115, 104, 114, 117, 108, 101, 115, 46, 98, 111, 111, 107, 115]⟩ 497), none, (.ref 347), .none, 0⟩), #[]⟩),
  (347, ⟨(.type "code"), none, (.fields #[(.str ⟨#[105, 115, 95, 119, 97, 107, 101, 115]⟩ 640), (.str ⟨#[105, 115, 95, 119, 97, 107, 101, 115]⟩ 641), (.str ⟨#[47, 99, 108, 97, 105, 109, 47, 99, 117, 116, 46, 112, 121]⟩ 642), (.int (150) 0), (.int (3) 0), (.int (0) 0), (.int (0) 0), (.int (3) 0), (.ref 344), (.bool true), (.int (181) 0), (.ref 345), .none, .none, .none, (.ref 346), (.int (643) 0), (.int (150) 0), (.str ⟨#[47, 99, 108, 97, 105, 109, 47, 99, 117, 116, 46, 112, 121]⟩ 644)]), #[]⟩),
  (368, ⟨.none, none, (.func ⟨⟨#[98, 101, 103, 117, 110]⟩, ⟨#[98, 101, 103, 117, 110]⟩, defArgs (top 51), .stmts (defBody (top 51)), defScope (top 51), 0, [], .none, .none, .none, .none, none, .none, .none, 0⟩), #[]⟩),
  (370, ⟨(.type "function"), none, (.func ⟨⟨#[98, 101, 103, 117, 110]⟩, ⟨#[98, 101, 103, 117, 110]⟩, defArgs (top 51), .stmts (defBody (top 51)), defScope (top 51), 3, [], .none, .none, .none, (.str ⟨#[104, 117, 115, 104, 114, 117, 108, 101, 115, 46, 98, 111, 111, 107, 115]⟩ 497), none, (.ref 369), .none, 0⟩), #[]⟩),
  (369, ⟨(.type "code"), none, (.fields #[(.str ⟨#[98, 101, 103, 117, 110]⟩ 664), (.str ⟨#[98, 101, 103, 117, 110]⟩ 665), (.str ⟨#[47, 99, 108, 97, 105, 109, 47, 99, 117, 116, 46, 112, 121]⟩ 666), (.int (162) 0), (.int (2) 0), (.int (0) 0), (.int (0) 0), (.int (3) 0), (.ref 364), (.bool true), (.int (181) 0), (.ref 365), .none, (.ref 366), (.ref 367), (.ref 368), (.int (669) 0), (.int (162) 0), (.str ⟨#[47, 99, 108, 97, 105, 109, 47, 99, 117, 116, 46, 112, 121]⟩ 670)]), #[]⟩),
  (375, ⟨.none, none, (.func ⟨⟨#[111, 119, 110, 95, 111, 114, 100, 101, 114]⟩, ⟨#[111, 119, 110, 95, 111, 114, 100, 101, 114]⟩, defArgs (top 53), .stmts (defBody (top 53)), defScope (top 53), 0, [], .none, .none, .none, .none, none, .none, .none, 0⟩), #[]⟩),
  (377, ⟨(.type "function"), none, (.func ⟨⟨#[111, 119, 110, 95, 111, 114, 100, 101, 114]⟩, ⟨#[111, 119, 110, 95, 111, 114, 100, 101, 114]⟩, defArgs (top 53), .stmts (defBody (top 53)), defScope (top 53), 3, [], .none, .none, .none, (.str ⟨#[104, 117, 115, 104, 114, 117, 108, 101, 115, 46, 98, 101, 97, 116, 115]⟩ 672), none, (.ref 376), .none, 0⟩), #[]⟩)]
def KL4 (w : World) : PySem.W.Frag := [(376, ⟨(.type "code"), none, (.fields #[(.str ⟨#[111, 119, 110, 95, 111, 114, 100, 101, 114]⟩ 674), (.str ⟨#[111, 119, 110, 95, 111, 114, 100, 101, 114]⟩ 675), (.str ⟨#[47, 99, 108, 97, 105, 109, 47, 99, 117, 116, 46, 112, 121]⟩ 676), (.int (167) 0), (.int (1) 0), (.int (0) 0), (.int (0) 0), (.int (3) 0), (.ref 371), (.bool true), (.int (181) 0), (.ref 372), .none, (.ref 373), (.ref 374), (.ref 375), (.int (678) 0), (.int (167) 0), (.str ⟨#[47, 99, 108, 97, 105, 109, 47, 99, 117, 116, 46, 112, 121]⟩ 679)]), #[]⟩),
  (382, ⟨.none, none, (.func ⟨⟨#[115, 116, 101, 112]⟩, ⟨#[115, 116, 101, 112]⟩, defArgs (top 54), .stmts (defBody (top 54)), defScope (top 54), 0, [], .none, .none, .none, .none, none, .none, .none, 0⟩), #[]⟩),
  (384, ⟨(.type "function"), none, (.func ⟨⟨#[115, 116, 101, 112]⟩, ⟨#[115, 116, 101, 112]⟩, defArgs (top 54), .stmts (defBody (top 54)), defScope (top 54), 3, [], .none, .none, .none, (.str ⟨#[104, 117, 115, 104, 114, 117, 108, 101, 115, 46, 98, 101, 97, 116, 115]⟩ 672), none, (.ref 383), .none, 0⟩), #[]⟩),
  (383, ⟨(.type "code"), none, (.fields #[(.str ⟨#[115, 116, 101, 112]⟩ 681), (.str ⟨#[115, 116, 101, 112]⟩ 682), (.str ⟨#[47, 99, 108, 97, 105, 109, 47, 99, 117, 116, 46, 112, 121]⟩ 683), (.int (169) 0), (.int (4) 0), (.int (0) 0), (.int (0) 0), (.int (3) 0), (.ref 378), (.bool true), (.int (181) 0), (.ref 379), .none, (.ref 380), (.ref 381), (.ref 382), (.int (692) 0), (.int (169) 0), (.str ⟨#[47, 99, 108, 97, 105, 109, 47, 99, 117, 116, 46, 112, 121]⟩ 693)]), #[]⟩),
  (387, ⟨.none, none, (.func ⟨⟨#[101, 110, 100, 101, 100]⟩, ⟨#[101, 110, 100, 101, 100]⟩, defArgs (top 55), .stmts (defBody (top 55)), defScope (top 55), 0, [], .none, .none, .none, .none, none, .none, .none, 0⟩), #[]⟩),
  (389, ⟨(.type "function"), none, (.func ⟨⟨#[101, 110, 100, 101, 100]⟩, ⟨#[101, 110, 100, 101, 100]⟩, defArgs (top 55), .stmts (defBody (top 55)), defScope (top 55), 3, [], .none, .none, .none, (.str ⟨#[104, 117, 115, 104, 114, 117, 108, 101, 115, 46, 98, 101, 97, 116, 115]⟩ 672), none, (.ref 388), .none, 0⟩), #[]⟩),
  (388, ⟨(.type "code"), none, (.fields #[(.str ⟨#[101, 110, 100, 101, 100]⟩ 695), (.str ⟨#[101, 110, 100, 101, 100]⟩ 696), (.str ⟨#[47, 99, 108, 97, 105, 109, 47, 99, 117, 116, 46, 112, 121]⟩ 697), (.int (178) 0), (.int (2) 0), (.int (0) 0), (.int (0) 0), (.int (3) 0), (.ref 385), (.bool true), (.int (181) 0), (.ref 386), .none, .none, .none, (.ref 387), (.int (698) 0), (.int (178) 0), (.str ⟨#[47, 99, 108, 97, 105, 109, 47, 99, 117, 116, 46, 112, 121]⟩ 699)]), #[]⟩),
  (394, ⟨.none, none, (.func ⟨⟨#[105, 115, 95, 114, 101, 97, 100, 121]⟩, ⟨#[105, 115, 95, 114, 101, 97, 100, 121]⟩, defArgs (top 56), .stmts (defBody (top 56)), defScope (top 56), 0, [], .none, .none, .none, .none, none, .none, .none, 0⟩), #[]⟩),
  (396, ⟨(.type "function"), none, (.func ⟨⟨#[105, 115, 95, 114, 101, 97, 100, 121]⟩, ⟨#[105, 115, 95, 114, 101, 97, 100, 121]⟩, defArgs (top 56), .stmts (defBody (top 56)), defScope (top 56), 3, [], .none, .none, .none, (.str ⟨#[104, 117, 115, 104, 114, 117, 108, 101, 115, 46, 98, 101, 97, 116, 115]⟩ 672), none, (.ref 395), .none, 0⟩), #[]⟩),
  (395, ⟨(.type "code"), none, (.fields #[(.str ⟨#[105, 115, 95, 114, 101, 97, 100, 121]⟩ 701), (.str ⟨#[105, 115, 95, 114, 101, 97, 100, 121]⟩ 702), (.str ⟨#[47, 99, 108, 97, 105, 109, 47, 99, 117, 116, 46, 112, 121]⟩ 703), (.int (180) 0), (.int (4) 0), (.int (0) 0), (.int (0) 0), (.int (3) 0), (.ref 390), (.bool true), (.int (181) 0), (.ref 391), .none, (.ref 392), (.ref 393), (.ref 394), (.int (709) 0), (.int (180) 0), (.str ⟨#[47, 99, 108, 97, 105, 109, 47, 99, 117, 116, 46, 112, 121]⟩ 710)]), #[]⟩),
  (401, ⟨.none, none, (.func ⟨⟨#[105, 115, 95, 115, 111]⟩, ⟨#[105, 115, 95, 115, 111]⟩, defArgs (top 57), .stmts (defBody (top 57)), defScope (top 57), 0, [], .none, .none, .none, .none, none, .none, .none, 0⟩), #[]⟩),
  (403, ⟨(.type "function"), none, (.func ⟨⟨#[105, 115, 95, 115, 111]⟩, ⟨#[105, 115, 95, 115, 111]⟩, defArgs (top 57), .stmts (defBody (top 57)), defScope (top 57), 3, [], .none, .none, .none, (.str ⟨#[104, 117, 115, 104, 114, 117, 108, 101, 115, 46, 98, 101, 97, 116, 115]⟩ 672), none, (.ref 402), .none, 0⟩), #[]⟩),
  (402, ⟨(.type "code"), none, (.fields #[(.str ⟨#[105, 115, 95, 115, 111]⟩ 712), (.str ⟨#[105, 115, 95, 115, 111]⟩ 713), (.str ⟨#[47, 99, 108, 97, 105, 109, 47, 99, 117, 116, 46, 112, 121]⟩ 714), (.int (187) 0), (.int (3) 0), (.int (0) 0), (.int (0) 0), (.int (3) 0), (.ref 397), (.bool true), (.int (181) 0), (.ref 398), .none, (.ref 399), (.ref 400), (.ref 401), (.int (721) 0), (.int (187) 0), (.str ⟨#[47, 99, 108, 97, 105, 109, 47, 99, 117, 116, 46, 112, 121]⟩ 722)]), #[]⟩),
  (408, ⟨.none, none, (.func ⟨⟨#[99, 97, 114, 114, 121, 95, 111, 117, 116]⟩, ⟨#[99, 97, 114, 114, 121, 95, 111, 117, 116]⟩, defArgs (top 58), .stmts (defBody (top 58)), defScope (top 58), 0, [], .none, .none, .none, .none, none, .none, .none, 0⟩), #[]⟩),
  (410, ⟨(.type "function"), none, (.func ⟨⟨#[99, 97, 114, 114, 121, 95, 111, 117, 116]⟩, ⟨#[99, 97, 114, 114, 121, 95, 111, 117, 116]⟩, defArgs (top 58), .stmts (defBody (top 58)), defScope (top 58), 3, [], .none, .none, .none, (.str ⟨#[104, 117, 115, 104, 114, 117, 108, 101, 115, 46, 98, 101, 97, 116, 115]⟩ 672), none, (.ref 409), .none, 0⟩), #[]⟩),
  (409, ⟨(.type "code"), none, (.fields #[(.str ⟨#[99, 97, 114, 114, 121, 95, 111, 117, 116]⟩ 724), (.str ⟨#[99, 97, 114, 114, 121, 95, 111, 117, 116]⟩ 725), (.str ⟨#[47, 99, 108, 97, 105, 109, 47, 99, 117, 116, 46, 112, 121]⟩ 726), (.int (200) 0), (.int (4) 0), (.int (0) 0), (.int (0) 0), (.int (3) 0), (.ref 404), (.bool true), (.int (181) 0), (.ref 405), .none, (.ref 406), (.ref 407), (.ref 408), (.int (741) 0), (.int (200) 0), (.str ⟨#[47, 99, 108, 97, 105, 109, 47, 99, 117, 116, 46, 112, 121]⟩ 742)]), #[]⟩),
  (417, ⟨.none, none, (.func ⟨⟨#[115, 116, 97, 116, 101, 95, 97, 116]⟩, ⟨#[115, 116, 97, 116, 101, 95, 97, 116]⟩, defArgs (top 60), .stmts (defBody (top 60)), defScope (top 60), 0, [], .none, .none, .none, .none, none, .none, .none, 0⟩), #[]⟩),
  (419, ⟨(.type "function"), none, (.func ⟨⟨#[115, 116, 97, 116, 101, 95, 97, 116]⟩, ⟨#[115, 116, 97, 116, 101, 95, 97, 116]⟩, defArgs (top 60), .stmts (defBody (top 60)), defScope (top 60), 3, [], .none, (.ref 412), .none, (.str ⟨#[104, 117, 115, 104, 114, 117, 108, 101, 115, 46, 114, 117, 110, 115]⟩ 744), none, (.ref 418), .none, 0⟩), #[]⟩),
  (412, ⟨(.type "dict"), none, (.dict #[⟨hs w #[111, 102, 102], (.str ⟨#[111, 102, 102]⟩ 746), (.ref 411)⟩] 1), #[]⟩),
  (411, ⟨(.type "tuple"), none, (.seq #[] 0), #[]⟩),
  (418, ⟨(.type "code"), none, (.fields #[(.str ⟨#[115, 116, 97, 116, 101, 95, 97, 116]⟩ 747), (.str ⟨#[115, 116, 97, 116, 101, 95, 97, 116]⟩ 748), (.str ⟨#[47, 99, 108, 97, 105, 109, 47, 99, 117, 116, 46, 112, 121]⟩ 749), (.int (210) 0), (.int (3) 0), (.int (0) 0), (.int (1) 0), (.int (3) 0), (.ref 413), (.bool true), (.int (181) 0), (.ref 414), .none, (.ref 415), (.ref 416), (.ref 417), (.int (757) 0), (.int (210) 0), (.str ⟨#[47, 99, 108, 97, 105, 109, 47, 99, 117, 116, 46, 112, 121]⟩ 758)]), #[]⟩),
  (426, ⟨.none, none, (.func ⟨⟨#[114, 111, 117, 110, 100, 95, 111, 102]⟩, ⟨#[114, 111, 117, 110, 100, 95, 111, 102]⟩, defArgs (top 61), .stmts (defBody (top 61)), defScope (top 61), 0, [], .none, .none, .none, .none, none, .none, .none, 0⟩), #[]⟩),
  (428, ⟨(.type "function"), none, (.func ⟨⟨#[114, 111, 117, 110, 100, 95, 111, 102]⟩, ⟨#[114, 111, 117, 110, 100, 95, 111, 102]⟩, defArgs (top 61), .stmts (defBody (top 61)), defScope (top 61), 3, [], .none, (.ref 421), .none, (.str ⟨#[104, 117, 115, 104, 114, 117, 108, 101, 115, 46, 114, 117, 110, 115]⟩ 744), none, (.ref 427), .none, 0⟩), #[]⟩),
  (421, ⟨(.type "dict"), none, (.dict #[⟨hs w #[111, 102, 102], (.str ⟨#[111, 102, 102]⟩ 760), (.ref 420)⟩] 1), #[]⟩),
  (420, ⟨(.type "tuple"), none, (.seq #[] 0), #[]⟩)]
def KL5 (w : World) : PySem.W.Frag := [(427, ⟨(.type "code"), none, (.fields #[(.str ⟨#[114, 111, 117, 110, 100, 95, 111, 102]⟩ 761), (.str ⟨#[114, 111, 117, 110, 100, 95, 111, 102]⟩ 762), (.str ⟨#[47, 99, 108, 97, 105, 109, 47, 99, 117, 116, 46, 112, 121]⟩ 763), (.int (216) 0), (.int (2) 0), (.int (0) 0), (.int (1) 0), (.int (3) 0), (.ref 422), (.bool true), (.int (181) 0), (.ref 423), .none, (.ref 424), (.ref 425), (.ref 426), (.int (770) 0), (.int (216) 0), (.str ⟨#[47, 99, 108, 97, 105, 109, 47, 99, 117, 116, 46, 112, 121]⟩ 771)]), #[]⟩),
  (435, ⟨.none, none, (.func ⟨⟨#[116, 105, 109, 101, 115]⟩, ⟨#[116, 105, 109, 101, 115]⟩, defArgs (top 62), .stmts (defBody (top 62)), defScope (top 62), 0, [], .none, .none, .none, .none, none, .none, .none, 0⟩), #[]⟩),
  (437, ⟨(.type "function"), none, (.func ⟨⟨#[116, 105, 109, 101, 115]⟩, ⟨#[116, 105, 109, 101, 115]⟩, defArgs (top 62), .stmts (defBody (top 62)), defScope (top 62), 3, [], .none, (.ref 430), .none, (.str ⟨#[104, 117, 115, 104, 114, 117, 108, 101, 115, 46, 114, 117, 110, 115]⟩ 744), none, (.ref 436), .none, 0⟩), #[]⟩),
  (430, ⟨(.type "dict"), none, (.dict #[⟨hs w #[111, 102, 102], (.str ⟨#[111, 102, 102]⟩ 773), (.ref 429)⟩] 1), #[]⟩),
  (429, ⟨(.type "tuple"), none, (.seq #[] 0), #[]⟩),
  (436, ⟨(.type "code"), none, (.fields #[(.str ⟨#[116, 105, 109, 101, 115]⟩ 774), (.str ⟨#[116, 105, 109, 101, 115]⟩ 775), (.str ⟨#[47, 99, 108, 97, 105, 109, 47, 99, 117, 116, 46, 112, 121]⟩ 776), (.int (221) 0), (.int (4) 0), (.int (0) 0), (.int (1) 0), (.int (3) 0), (.ref 431), (.bool true), (.int (181) 0), (.ref 432), .none, (.ref 433), (.ref 434), (.ref 435), (.int (788) 0), (.int (221) 0), (.str ⟨#[47, 99, 108, 97, 105, 109, 47, 99, 117, 116, 46, 112, 121]⟩ 789)]), #[]⟩),
  (440, ⟨.none, none, (.func ⟨⟨#[119, 101, 110, 116, 95, 111, 110]⟩, ⟨#[119, 101, 110, 116, 95, 111, 110]⟩, defArgs (top 63), .stmts (defBody (top 63)), defScope (top 63), 0, [], .none, .none, .none, .none, none, .none, .none, 0⟩), #[]⟩),
  (442, ⟨(.type "function"), none, (.func ⟨⟨#[119, 101, 110, 116, 95, 111, 110]⟩, ⟨#[119, 101, 110, 116, 95, 111, 110]⟩, defArgs (top 63), .stmts (defBody (top 63)), defScope (top 63), 3, [], .none, .none, .none, (.str ⟨#[104, 117, 115, 104, 114, 117, 108, 101, 115, 46, 114, 117, 110, 115]⟩ 744), none, (.ref 441), .none, 0⟩), #[]⟩),
  (441, ⟨(.type "code"), none, (.fields #[(.str ⟨#[119, 101, 110, 116, 95, 111, 110]⟩ 791), (.str ⟨#[119, 101, 110, 116, 95, 111, 110]⟩ 792), (.str ⟨#[47, 99, 108, 97, 105, 109, 47, 99, 117, 116, 46, 112, 121]⟩ 793), (.int (231) 0), (.int (4) 0), (.int (0) 0), (.int (0) 0), (.int (3) 0), (.ref 438), (.bool true), (.int (181) 0), (.ref 439), .none, .none, .none, (.ref 440), (.int (794) 0), (.int (231) 0), (.str ⟨#[47, 99, 108, 97, 105, 109, 47, 99, 117, 116, 46, 112, 121]⟩ 795)]), #[]⟩),
  (445, ⟨.none, none, (.func ⟨⟨#[116, 97, 108, 108, 121]⟩, ⟨#[116, 97, 108, 108, 121]⟩, defArgs (top 64), .stmts (defBody (top 64)), defScope (top 64), 0, [], .none, .none, .none, .none, none, .none, .none, 0⟩), #[]⟩),
  (447, ⟨(.type "function"), none, (.func ⟨⟨#[116, 97, 108, 108, 121]⟩, ⟨#[116, 97, 108, 108, 121]⟩, defArgs (top 64), .stmts (defBody (top 64)), defScope (top 64), 3, [], .none, .none, .none, (.str ⟨#[104, 117, 115, 104, 114, 117, 108, 101, 115, 46, 114, 117, 110, 115]⟩ 744), none, (.ref 446), .none, 0⟩), #[]⟩),
  (446, ⟨(.type "code"), none, (.fields #[(.str ⟨#[116, 97, 108, 108, 121]⟩ 797), (.str ⟨#[116, 97, 108, 108, 121]⟩ 798), (.str ⟨#[47, 99, 108, 97, 105, 109, 47, 99, 117, 116, 46, 112, 121]⟩ 799), (.int (248) 0), (.int (2) 0), (.int (0) 0), (.int (0) 0), (.int (3) 0), (.ref 443), (.bool true), (.int (181) 0), (.ref 444), .none, .none, .none, (.ref 445), (.int (800) 0), (.int (248) 0), (.str ⟨#[47, 99, 108, 97, 105, 109, 47, 99, 117, 116, 46, 112, 121]⟩ 801)]), #[]⟩),
  (452, ⟨.none, none, (.func ⟨⟨#[116, 114, 97, 105, 108]⟩, ⟨#[116, 114, 97, 105, 108]⟩, defArgs (top 65), .stmts (defBody (top 65)), defScope (top 65), 0, [], .none, .none, .none, .none, none, .none, .none, 0⟩), #[]⟩),
  (454, ⟨(.type "function"), none, (.func ⟨⟨#[116, 114, 97, 105, 108]⟩, ⟨#[116, 114, 97, 105, 108]⟩, defArgs (top 65), .stmts (defBody (top 65)), defScope (top 65), 3, [], .none, .none, .none, (.str ⟨#[104, 117, 115, 104, 114, 117, 108, 101, 115, 46, 114, 117, 110, 115]⟩ 744), none, (.ref 453), .none, 0⟩), #[]⟩),
  (453, ⟨(.type "code"), none, (.fields #[(.str ⟨#[116, 114, 97, 105, 108]⟩ 803), (.str ⟨#[116, 114, 97, 105, 108]⟩ 804), (.str ⟨#[47, 99, 108, 97, 105, 109, 47, 99, 117, 116, 46, 112, 121]⟩ 805), (.int (250) 0), (.int (3) 0), (.int (0) 0), (.int (0) 0), (.int (3) 0), (.ref 448), (.bool true), (.int (181) 0), (.ref 449), .none, (.ref 450), (.ref 451), (.ref 452), (.int (809) 0), (.int (250) 0), (.str ⟨#[47, 99, 108, 97, 105, 109, 47, 99, 117, 116, 46, 112, 121]⟩ 810)]), #[]⟩),
  (459, ⟨.none, none, (.func ⟨⟨#[119, 97, 121, 115, 95, 102, 114, 111, 109]⟩, ⟨#[119, 97, 121, 115, 95, 102, 114, 111, 109]⟩, defArgs (top 66), .stmts (defBody (top 66)), defScope (top 66), 0, [], .none, .none, .none, .none, none, .none, .none, 0⟩), #[]⟩),
  (461, ⟨(.type "function"), none, (.func ⟨⟨#[119, 97, 121, 115, 95, 102, 114, 111, 109]⟩, ⟨#[119, 97, 121, 115, 95, 102, 114, 111, 109]⟩, defArgs (top 66), .stmts (defBody (top 66)), defScope (top 66), 3, [], .none, .none, .none, (.str ⟨#[104, 117, 115, 104, 114, 117, 108, 101, 115, 46, 114, 117, 110, 115]⟩ 744), none, (.ref 460), .none, 0⟩), #[]⟩),
  (460, ⟨(.type "code"), none, (.fields #[(.str ⟨#[119, 97, 121, 115, 95, 102, 114, 111, 109]⟩ 812), (.str ⟨#[119, 97, 121, 115, 95, 102, 114, 111, 109]⟩ 813), (.str ⟨#[47, 99, 108, 97, 105, 109, 47, 99, 117, 116, 46, 112, 121]⟩ 814), (.int (252) 0), (.int (3) 0), (.int (0) 0), (.int (0) 0), (.int (3) 0), (.ref 455), (.bool true), (.int (181) 0), (.ref 456), .none, (.ref 457), (.ref 458), (.ref 459), (.int (822) 0), (.int (252) 0), (.str ⟨#[47, 99, 108, 97, 105, 109, 47, 99, 117, 116, 46, 112, 121]⟩ 823)]), #[]⟩),
  (466, ⟨.none, none, (.func ⟨⟨#[116, 114, 97, 105, 108, 95, 97, 108, 111, 110, 103]⟩, ⟨#[116, 114, 97, 105, 108, 95, 97, 108, 111, 110, 103]⟩, defArgs (top 67), .stmts (defBody (top 67)), defScope (top 67), 0, [], .none, .none, .none, .none, none, .none, .none, 0⟩), #[]⟩),
  (468, ⟨(.type "function"), none, (.func ⟨⟨#[116, 114, 97, 105, 108, 95, 97, 108, 111, 110, 103]⟩, ⟨#[116, 114, 97, 105, 108, 95, 97, 108, 111, 110, 103]⟩, defArgs (top 67), .stmts (defBody (top 67)), defScope (top 67), 3, [], .none, .none, .none, (.str ⟨#[104, 117, 115, 104, 114, 117, 108, 101, 115, 46, 114, 117, 110, 115]⟩ 744), none, (.ref 467), .none, 0⟩), #[]⟩),
  (467, ⟨(.type "code"), none, (.fields #[(.str ⟨#[116, 114, 97, 105, 108, 95, 97, 108, 111, 110, 103]⟩ 825), (.str ⟨#[116, 114, 97, 105, 108, 95, 97, 108, 111, 110, 103]⟩ 826), (.str ⟨#[47, 99, 108, 97, 105, 109, 47, 99, 117, 116, 46, 112, 121]⟩ 827), (.int (261) 0), (.int (2) 0), (.int (0) 0), (.int (0) 0), (.int (3) 0), (.ref 462), (.bool true), (.int (181) 0), (.ref 463), .none, (.ref 464), (.ref 465), (.ref 466), (.int (834) 0), (.int (261) 0), (.str ⟨#[47, 99, 108, 97, 105, 109, 47, 99, 117, 116, 46, 112, 121]⟩ 835)]), #[]⟩),
  (473, ⟨.none, none, (.func ⟨⟨#[110, 117, 109, 98, 101, 114, 95, 97, 116]⟩, ⟨#[110, 117, 109, 98, 101, 114, 95, 97, 116]⟩, defArgs (top 68), .stmts (defBody (top 68)), defScope (top 68), 0, [], .none, .none, .none, .none, none, .none, .none, 0⟩), #[]⟩),
  (475, ⟨(.type "function"), none, (.func ⟨⟨#[110, 117, 109, 98, 101, 114, 95, 97, 116]⟩, ⟨#[110, 117, 109, 98, 101, 114, 95, 97, 116]⟩, defArgs (top 68), .stmts (defBody (top 68)), defScope (top 68), 3, [], .none, .none, .none, (.str ⟨#[104, 117, 115, 104, 114, 117, 108, 101, 115, 46, 114, 117, 110, 115]⟩ 744), none, (.ref 474), .none, 0⟩), #[]⟩),
  (474, ⟨(.type "code"), none, (.fields #[(.str ⟨#[110, 117, 109, 98, 101, 114, 95, 97, 116]⟩ 837), (.str ⟨#[110, 117, 109, 98, 101, 114, 95, 97, 116]⟩ 838), (.str ⟨#[47, 99, 108, 97, 105, 109, 47, 99, 117, 116, 46, 112, 121]⟩ 839), (.int (270) 0), (.int (3) 0), (.int (0) 0), (.int (0) 0), (.int (3) 0), (.ref 469), (.bool true), (.int (181) 0), (.ref 470), .none, (.ref 471), (.ref 472), (.ref 473), (.int (843) 0), (.int (270) 0), (.str ⟨#[47, 99, 108, 97, 105, 109, 47, 99, 117, 116, 46, 112, 121]⟩ 844)]), #[]⟩),
  (478, ⟨.none, none, (.func ⟨⟨#[100, 111, 105, 110, 103, 115]⟩, ⟨#[100, 111, 105, 110, 103, 115]⟩, defArgs (top 69), .stmts (defBody (top 69)), defScope (top 69), 0, [], .none, .none, .none, .none, none, .none, .none, 0⟩), #[]⟩)]
def KL6 (w : World) : PySem.W.Frag := [(480, ⟨(.type "function"), none, (.func ⟨⟨#[100, 111, 105, 110, 103, 115]⟩, ⟨#[100, 111, 105, 110, 103, 115]⟩, defArgs (top 69), .stmts (defBody (top 69)), defScope (top 69), 3, [], .none, .none, .none, (.str ⟨#[104, 117, 115, 104, 114, 117, 108, 101, 115, 46, 114, 117, 110, 115]⟩ 744), none, (.ref 479), .none, 0⟩), #[]⟩),
  (479, ⟨(.type "code"), none, (.fields #[(.str ⟨#[100, 111, 105, 110, 103, 115]⟩ 846), (.str ⟨#[100, 111, 105, 110, 103, 115]⟩ 847), (.str ⟨#[47, 99, 108, 97, 105, 109, 47, 99, 117, 116, 46, 112, 121]⟩ 848), (.int (272) 0), (.int (4) 0), (.int (0) 0), (.int (0) 0), (.int (3) 0), (.ref 476), (.bool true), (.int (181) 0), (.ref 477), .none, .none, .none, (.ref 478), (.int (849) 0), (.int (272) 0), (.str ⟨#[47, 99, 108, 97, 105, 109, 47, 99, 117, 116, 46, 112, 121]⟩ 850)]), #[]⟩),
  (483, ⟨.none, none, (.func ⟨⟨#[99, 111, 117, 110, 116, 95, 98, 101, 108, 111, 119]⟩, ⟨#[99, 111, 117, 110, 116, 95, 98, 101, 108, 111, 119]⟩, defArgs (top 70), .stmts (defBody (top 70)), defScope (top 70), 0, [], .none, .none, .none, .none, none, .none, .none, 0⟩), #[]⟩),
  (485, ⟨(.type "function"), none, (.func ⟨⟨#[99, 111, 117, 110, 116, 95, 98, 101, 108, 111, 119]⟩, ⟨#[99, 111, 117, 110, 116, 95, 98, 101, 108, 111, 119]⟩, defArgs (top 70), .stmts (defBody (top 70)), defScope (top 70), 3, [], .none, .none, .none, (.str ⟨#[104, 117, 115, 104, 114, 117, 108, 101, 115, 46, 114, 117, 110, 115]⟩ 744), none, (.ref 484), .none, 0⟩), #[]⟩),
  (484, ⟨(.type "code"), none, (.fields #[(.str ⟨#[99, 111, 117, 110, 116, 95, 98, 101, 108, 111, 119]⟩ 852), (.str ⟨#[99, 111, 117, 110, 116, 95, 98, 101, 108, 111, 119]⟩ 853), (.str ⟨#[47, 99, 108, 97, 105, 109, 47, 99, 117, 116, 46, 112, 121]⟩ 854), (.int (277) 0), (.int (2) 0), (.int (0) 0), (.int (0) 0), (.int (3) 0), (.ref 481), (.bool true), (.int (181) 0), (.ref 482), .none, .none, .none, (.ref 483), (.int (855) 0), (.int (277) 0), (.str ⟨#[47, 99, 108, 97, 105, 109, 47, 99, 117, 116, 46, 112, 121]⟩ 856)]), #[]⟩),
  (513, ⟨.none, none, (.func ⟨⟨#[95, 95, 105, 110, 105, 116, 95, 95]⟩, ⟨#[87, 97, 116, 99, 104, 46, 95, 95, 105, 110, 105, 116, 95, 95]⟩, defArgs (topM 75 0), .stmts (defBody (topM 75 0)), defScope (topM 75 0), 0, [], .none, .none, .none, .none, none, .none, .none, 0⟩), #[]⟩),
  (515, ⟨(.type "function"), none, (.func ⟨⟨#[95, 95, 105, 110, 105, 116, 95, 95]⟩, ⟨#[87, 97, 116, 99, 104, 46, 95, 95, 105, 110, 105, 116, 95, 95]⟩, defArgs (topM 75 0), .stmts (defBody (topM 75 0)), defScope (topM 75 0), 3, [], .none, (.ref 508), .none, (.str ⟨#[104, 117, 115, 104, 114, 117, 108, 101, 115, 46, 119, 97, 116, 99, 104]⟩ 876), none, (.ref 514), .none, 0⟩), #[]⟩),
  (508, ⟨(.type "dict"), none, (.dict #[⟨hs w #[111, 102, 102], (.str ⟨#[111, 102, 102]⟩ 890), (.ref 507)⟩] 1), #[]⟩),
  (507, ⟨(.type "tuple"), none, (.seq #[] 0), #[]⟩),
  (514, ⟨(.type "code"), none, (.fields #[(.str ⟨#[95, 95, 105, 110, 105, 116, 95, 95]⟩ 891), (.str ⟨#[87, 97, 116, 99, 104, 46, 95, 95, 105, 110, 105, 116, 95, 95]⟩ 892), (.str ⟨#[47, 99, 108, 97, 105, 109, 47, 99, 117, 116, 46, 112, 121]⟩ 893), (.int (288) 0), (.int (3) 0), (.int (0) 0), (.int (1) 0), (.int (3) 0), (.ref 509), (.bool true), (.int (181) 0), (.ref 510), .none, (.ref 511), (.ref 512), (.ref 513), (.int (899) 0), (.int (288) 0), (.str ⟨#[47, 99, 108, 97, 105, 109, 47, 99, 117, 116, 46, 112, 121]⟩ 900)]), #[]⟩),
  (540, ⟨.none, none, (.func ⟨⟨#[103, 111]⟩, ⟨#[87, 97, 116, 99, 104, 46, 103, 111]⟩, defArgs (topM 75 4), .stmts (defBody (topM 75 4)), defScope (topM 75 4), 0, [], .none, .none, .none, .none, none, .none, .none, 0⟩), #[]⟩),
  (542, ⟨(.type "function"), none, (.func ⟨⟨#[103, 111]⟩, ⟨#[87, 97, 116, 99, 104, 46, 103, 111]⟩, defArgs (topM 75 4), .stmts (defBody (topM 75 4)), defScope (topM 75 4), 3, [], (.ref 537), .none, .none, (.str ⟨#[104, 117, 115, 104, 114, 117, 108, 101, 115, 46, 119, 97, 116, 99, 104]⟩ 876), none, (.ref 541), .none, 0⟩), #[]⟩),
  (537, ⟨(.type "tuple"), none, (.seq #[(.int (1) 924)] 0), #[]⟩),
  (541, ⟨(.type "code"), none, (.fields #[(.str ⟨#[103, 111]⟩ 925), (.str ⟨#[87, 97, 116, 99, 104, 46, 103, 111]⟩ 926), (.str ⟨#[47, 99, 108, 97, 105, 109, 47, 99, 117, 116, 46, 112, 121]⟩ 927), (.int (304) 0), (.int (2) 0), (.int (0) 0), (.int (0) 0), (.int (3) 0), (.ref 538), (.bool true), (.int (181) 0), (.ref 539), .none, .none, .none, (.ref 540), (.int (928) 0), (.int (304) 0), (.str ⟨#[47, 99, 108, 97, 105, 109, 47, 99, 117, 116, 46, 112, 121]⟩ 929)]), #[]⟩),
  (548, ⟨.none, none, (.func ⟨⟨#[104, 117, 115, 104]⟩, ⟨#[87, 97, 116, 99, 104, 46, 104, 117, 115, 104]⟩, defArgs (topM 75 5), .stmts (defBody (topM 75 5)), defScope (topM 75 5), 0, [], .none, .none, .none, .none, none, .none, .none, 0⟩), #[]⟩),
  (550, ⟨(.type "function"), none, (.func ⟨⟨#[104, 117, 115, 104]⟩, ⟨#[87, 97, 116, 99, 104, 46, 104, 117, 115, 104]⟩, defArgs (topM 75 5), .stmts (defBody (topM 75 5)), defScope (topM 75 5), 3, [], (.ref 543), .none, .none, (.str ⟨#[104, 117, 115, 104, 114, 117, 108, 101, 115, 46, 119, 97, 116, 99, 104]⟩ 876), none, (.ref 549), .none, 0⟩), #[]⟩),
  (543, ⟨(.type "tuple"), none, (.seq #[(.int (1) 931)] 0), #[]⟩),
  (549, ⟨(.type "code"), none, (.fields #[(.str ⟨#[104, 117, 115, 104]⟩ 932), (.str ⟨#[87, 97, 116, 99, 104, 46, 104, 117, 115, 104]⟩ 933), (.str ⟨#[47, 99, 108, 97, 105, 109, 47, 99, 117, 116, 46, 112, 121]⟩ 934), (.int (311) 0), (.int (3) 0), (.int (0) 0), (.int (0) 0), (.int (3) 0), (.ref 544), (.bool true), (.int (181) 0), (.ref 545), .none, (.ref 546), (.ref 547), (.ref 548), (.int (940) 0), (.int (311) 0), (.str ⟨#[47, 99, 108, 97, 105, 109, 47, 99, 117, 116, 46, 112, 121]⟩ 941)]), #[]⟩),
  (555, ⟨.none, none, (.func ⟨⟨#[119, 97, 107, 101]⟩, ⟨#[87, 97, 116, 99, 104, 46, 119, 97, 107, 101]⟩, defArgs (topM 75 6), .stmts (defBody (topM 75 6)), defScope (topM 75 6), 0, [], .none, .none, .none, .none, none, .none, .none, 0⟩), #[]⟩),
  (557, ⟨(.type "function"), none, (.func ⟨⟨#[119, 97, 107, 101]⟩, ⟨#[87, 97, 116, 99, 104, 46, 119, 97, 107, 101]⟩, defArgs (topM 75 6), .stmts (defBody (topM 75 6)), defScope (topM 75 6), 3, [], .none, .none, .none, (.str ⟨#[104, 117, 115, 104, 114, 117, 108, 101, 115, 46, 119, 97, 116, 99, 104]⟩ 876), none, (.ref 556), .none, 0⟩), #[]⟩),
  (556, ⟨(.type "code"), none, (.fields #[(.str ⟨#[119, 97, 107, 101]⟩ 943), (.str ⟨#[87, 97, 116, 99, 104, 46, 119, 97, 107, 101]⟩ 944), (.str ⟨#[47, 99, 108, 97, 105, 109, 47, 99, 117, 116, 46, 112, 121]⟩ 945), (.int (318) 0), (.int (2) 0), (.int (0) 0), (.int (0) 0), (.int (3) 0), (.ref 551), (.bool true), (.int (181) 0), (.ref 552), .none, (.ref 553), (.ref 554), (.ref 555), (.int (950) 0), (.int (318) 0), (.str ⟨#[47, 99, 108, 97, 105, 109, 47, 99, 117, 116, 46, 112, 121]⟩ 951)]), #[]⟩),
  (563, ⟨.none, none, (.func ⟨⟨#[116, 117, 114, 110]⟩, ⟨#[87, 97, 116, 99, 104, 46, 116, 117, 114, 110]⟩, defArgs (topM 75 7), .stmts (defBody (topM 75 7)), defScope (topM 75 7), 0, [], .none, .none, .none, .none, none, .none, .none, 0⟩), #[]⟩),
  (565, ⟨(.type "function"), none, (.func ⟨⟨#[116, 117, 114, 110]⟩, ⟨#[87, 97, 116, 99, 104, 46, 116, 117, 114, 110]⟩, defArgs (topM 75 7), .stmts (defBody (topM 75 7)), defScope (topM 75 7), 3, [], (.ref 558), .none, .none, (.str ⟨#[104, 117, 115, 104, 114, 117, 108, 101, 115, 46, 119, 97, 116, 99, 104]⟩ 876), none, (.ref 564), .none, 0⟩), #[]⟩),
  (558, ⟨(.type "tuple"), none, (.seq #[(.int (1) 953)] 0), #[]⟩),
  (564, ⟨(.type "code"), none, (.fields #[(.str ⟨#[116, 117, 114, 110]⟩ 954), (.str ⟨#[87, 97, 116, 99, 104, 46, 116, 117, 114, 110]⟩ 955), (.str ⟨#[47, 99, 108, 97, 105, 109, 47, 99, 117, 116, 46, 112, 121]⟩ 956), (.int (323) 0), (.int (3) 0), (.int (0) 0), (.int (0) 0), (.int (3) 0), (.ref 559), (.bool true), (.int (181) 0), (.ref 560), .none, (.ref 561), (.ref 562), (.ref 563), (.int (962) 0), (.int (323) 0), (.str ⟨#[47, 99, 108, 97, 105, 109, 47, 99, 117, 116, 46, 112, 121]⟩ 963)]), #[]⟩)]
def KL7 (w : World) : PySem.W.Frag := [(570, ⟨.none, none, (.func ⟨⟨#[112, 117, 116]⟩, ⟨#[87, 97, 116, 99, 104, 46, 112, 117, 116]⟩, defArgs (topM 75 8), .stmts (defBody (topM 75 8)), defScope (topM 75 8), 0, [], .none, .none, .none, .none, none, .none, .none, 0⟩), #[]⟩),
  (572, ⟨(.type "function"), none, (.func ⟨⟨#[112, 117, 116]⟩, ⟨#[87, 97, 116, 99, 104, 46, 112, 117, 116]⟩, defArgs (topM 75 8), .stmts (defBody (topM 75 8)), defScope (topM 75 8), 3, [], .none, .none, .none, (.str ⟨#[104, 117, 115, 104, 114, 117, 108, 101, 115, 46, 119, 97, 116, 99, 104]⟩ 876), none, (.ref 571), .none, 0⟩), #[]⟩),
  (571, ⟨(.type "code"), none, (.fields #[(.str ⟨#[112, 117, 116]⟩ 965), (.str ⟨#[87, 97, 116, 99, 104, 46, 112, 117, 116]⟩ 966), (.str ⟨#[47, 99, 108, 97, 105, 109, 47, 99, 117, 116, 46, 112, 121]⟩ 967), (.int (329) 0), (.int (3) 0), (.int (0) 0), (.int (0) 0), (.int (3) 0), (.ref 566), (.bool true), (.int (181) 0), (.ref 567), .none, (.ref 568), (.ref 569), (.ref 570), (.int (973) 0), (.int (329) 0), (.str ⟨#[47, 99, 108, 97, 105, 109, 47, 99, 117, 116, 46, 112, 121]⟩ 974)]), #[]⟩),
  (577, ⟨.none, none, (.func ⟨⟨#[112, 117, 116, 95, 111, 102, 102]⟩, ⟨#[87, 97, 116, 99, 104, 46, 112, 117, 116, 95, 111, 102, 102]⟩, defArgs (topM 75 9), .stmts (defBody (topM 75 9)), defScope (topM 75 9), 0, [], .none, .none, .none, .none, none, .none, .none, 0⟩), #[]⟩),
  (579, ⟨(.type "function"), none, (.func ⟨⟨#[112, 117, 116, 95, 111, 102, 102]⟩, ⟨#[87, 97, 116, 99, 104, 46, 112, 117, 116, 95, 111, 102, 102]⟩, defArgs (topM 75 9), .stmts (defBody (topM 75 9)), defScope (topM 75 9), 3, [], .none, .none, .none, (.str ⟨#[104, 117, 115, 104, 114, 117, 108, 101, 115, 46, 119, 97, 116, 99, 104]⟩ 876), none, (.ref 578), .none, 0⟩), #[]⟩),
  (578, ⟨(.type "code"), none, (.fields #[(.str ⟨#[112, 117, 116, 95, 111, 102, 102]⟩ 976), (.str ⟨#[87, 97, 116, 99, 104, 46, 112, 117, 116, 95, 111, 102, 102]⟩ 977), (.str ⟨#[47, 99, 108, 97, 105, 109, 47, 99, 117, 116, 46, 112, 121]⟩ 978), (.int (336) 0), (.int (2) 0), (.int (0) 0), (.int (0) 0), (.int (3) 0), (.ref 573), (.bool true), (.int (181) 0), (.ref 574), .none, (.ref 575), (.ref 576), (.ref 577), (.int (981) 0), (.int (336) 0), (.str ⟨#[47, 99, 108, 97, 105, 109, 47, 99, 117, 116, 46, 112, 121]⟩ 982)]), #[]⟩),
  (582, ⟨.none, none, (.func ⟨⟨#[112, 117, 116, 95, 111, 110]⟩, ⟨#[87, 97, 116, 99, 104, 46, 112, 117, 116, 95, 111, 110]⟩, defArgs (topM 75 10), .stmts (defBody (topM 75 10)), defScope (topM 75 10), 0, [], .none, .none, .none, .none, none, .none, .none, 0⟩), #[]⟩),
  (584, ⟨(.type "function"), none, (.func ⟨⟨#[112, 117, 116, 95, 111, 110]⟩, ⟨#[87, 97, 116, 99, 104, 46, 112, 117, 116, 95, 111, 110]⟩, defArgs (topM 75 10), .stmts (defBody (topM 75 10)), defScope (topM 75 10), 3, [], .none, .none, .none, (.str ⟨#[104, 117, 115, 104, 114, 117, 108, 101, 115, 46, 119, 97, 116, 99, 104]⟩ 876), none, (.ref 583), .none, 0⟩), #[]⟩),
  (583, ⟨(.type "code"), none, (.fields #[(.str ⟨#[112, 117, 116, 95, 111, 110]⟩ 984), (.str ⟨#[87, 97, 116, 99, 104, 46, 112, 117, 116, 95, 111, 110]⟩ 985), (.str ⟨#[47, 99, 108, 97, 105, 109, 47, 99, 117, 116, 46, 112, 121]⟩ 986), (.int (340) 0), (.int (2) 0), (.int (0) 0), (.int (0) 0), (.int (3) 0), (.ref 580), (.bool true), (.int (181) 0), (.ref 581), .none, .none, .none, (.ref 582), (.int (987) 0), (.int (340) 0), (.str ⟨#[47, 99, 108, 97, 105, 109, 47, 99, 117, 116, 46, 112, 121]⟩ 988)]), #[]⟩),
  (603, ⟨.none, none, (.func ⟨⟨#[110, 111, 119]⟩, ⟨#[87, 97, 116, 99, 104, 46, 110, 111, 119]⟩, defArgs (topM 75 13), .stmts (defBody (topM 75 13)), defScope (topM 75 13), 0, [], .none, .none, .none, .none, none, .none, .none, 0⟩), #[]⟩),
  (605, ⟨(.type "function"), none, (.func ⟨⟨#[110, 111, 119]⟩, ⟨#[87, 97, 116, 99, 104, 46, 110, 111, 119]⟩, defArgs (topM 75 13), .stmts (defBody (topM 75 13)), defScope (topM 75 13), 3, [], .none, .none, .none, (.str ⟨#[104, 117, 115, 104, 114, 117, 108, 101, 115, 46, 119, 97, 116, 99, 104]⟩ 876), none, (.ref 604), .none, 0⟩), #[]⟩),
  (604, ⟨(.type "code"), none, (.fields #[(.str ⟨#[110, 111, 119]⟩ 1005), (.str ⟨#[87, 97, 116, 99, 104, 46, 110, 111, 119]⟩ 1006), (.str ⟨#[47, 99, 108, 97, 105, 109, 47, 99, 117, 116, 46, 112, 121]⟩ 1007), (.int (350) 0), (.int (1) 0), (.int (0) 0), (.int (0) 0), (.int (3) 0), (.ref 599), (.bool true), (.int (181) 0), (.ref 600), .none, (.ref 601), (.ref 602), (.ref 603), (.int (1009) 0), (.int (350) 0), (.str ⟨#[47, 99, 108, 97, 105, 109, 47, 99, 117, 116, 46, 112, 121]⟩ 1010)]), #[]⟩),
  (610, ⟨.none, none, (.func ⟨⟨#[115, 116, 97, 116, 101]⟩, ⟨#[87, 97, 116, 99, 104, 46, 115, 116, 97, 116, 101]⟩, defArgs (topM 75 14), .stmts (defBody (topM 75 14)), defScope (topM 75 14), 0, [], .none, .none, .none, .none, none, .none, .none, 0⟩), #[]⟩),
  (612, ⟨(.type "function"), none, (.func ⟨⟨#[115, 116, 97, 116, 101]⟩, ⟨#[87, 97, 116, 99, 104, 46, 115, 116, 97, 116, 101]⟩, defArgs (topM 75 14), .stmts (defBody (topM 75 14)), defScope (topM 75 14), 3, [], .none, .none, .none, (.str ⟨#[104, 117, 115, 104, 114, 117, 108, 101, 115, 46, 119, 97, 116, 99, 104]⟩ 876), none, (.ref 611), .none, 0⟩), #[]⟩),
  (611, ⟨(.type "code"), none, (.fields #[(.str ⟨#[115, 116, 97, 116, 101]⟩ 1012), (.str ⟨#[87, 97, 116, 99, 104, 46, 115, 116, 97, 116, 101]⟩ 1013), (.str ⟨#[47, 99, 108, 97, 105, 109, 47, 99, 117, 116, 46, 112, 121]⟩ 1014), (.int (353) 0), (.int (1) 0), (.int (0) 0), (.int (0) 0), (.int (3) 0), (.ref 606), (.bool true), (.int (181) 0), (.ref 607), .none, (.ref 608), (.ref 609), (.ref 610), (.int (1016) 0), (.int (353) 0), (.str ⟨#[47, 99, 108, 97, 105, 109, 47, 99, 117, 116, 46, 112, 121]⟩ 1017)]), #[]⟩),
  (617, ⟨.none, none, (.func ⟨⟨#[111, 102, 102]⟩, ⟨#[87, 97, 116, 99, 104, 46, 111, 102, 102]⟩, defArgs (topM 75 15), .stmts (defBody (topM 75 15)), defScope (topM 75 15), 0, [], .none, .none, .none, .none, none, .none, .none, 0⟩), #[]⟩),
  (619, ⟨(.type "function"), none, (.func ⟨⟨#[111, 102, 102]⟩, ⟨#[87, 97, 116, 99, 104, 46, 111, 102, 102]⟩, defArgs (topM 75 15), .stmts (defBody (topM 75 15)), defScope (topM 75 15), 3, [], .none, .none, .none, (.str ⟨#[104, 117, 115, 104, 114, 117, 108, 101, 115, 46, 119, 97, 116, 99, 104]⟩ 876), none, (.ref 618), .none, 0⟩), #[]⟩),
  (618, ⟨(.type "code"), none, (.fields #[(.str ⟨#[111, 102, 102]⟩ 1019), (.str ⟨#[87, 97, 116, 99, 104, 46, 111, 102, 102]⟩ 1020), (.str ⟨#[47, 99, 108, 97, 105, 109, 47, 99, 117, 116, 46, 112, 121]⟩ 1021), (.int (356) 0), (.int (1) 0), (.int (0) 0), (.int (0) 0), (.int (3) 0), (.ref 613), (.bool true), (.int (181) 0), (.ref 614), .none, (.ref 615), (.ref 616), (.ref 617), (.int (1023) 0), (.int (356) 0), (.str ⟨#[47, 99, 108, 97, 105, 109, 47, 99, 117, 116, 46, 112, 121]⟩ 1024)]), #[]⟩),
  (624, ⟨.none, none, (.func ⟨⟨#[99, 111, 117, 110, 116, 115]⟩, ⟨#[87, 97, 116, 99, 104, 46, 99, 111, 117, 110, 116, 115]⟩, defArgs (topM 75 16), .stmts (defBody (topM 75 16)), defScope (topM 75 16), 0, [], .none, .none, .none, .none, none, .none, .none, 0⟩), #[]⟩),
  (626, ⟨(.type "function"), none, (.func ⟨⟨#[99, 111, 117, 110, 116, 115]⟩, ⟨#[87, 97, 116, 99, 104, 46, 99, 111, 117, 110, 116, 115]⟩, defArgs (topM 75 16), .stmts (defBody (topM 75 16)), defScope (topM 75 16), 3, [], .none, .none, .none, (.str ⟨#[104, 117, 115, 104, 114, 117, 108, 101, 115, 46, 119, 97, 116, 99, 104]⟩ 876), none, (.ref 625), .none, 0⟩), #[]⟩),
  (625, ⟨(.type "code"), none, (.fields #[(.str ⟨#[99, 111, 117, 110, 116, 115]⟩ 1026), (.str ⟨#[87, 97, 116, 99, 104, 46, 99, 111, 117, 110, 116, 115]⟩ 1027), (.str ⟨#[47, 99, 108, 97, 105, 109, 47, 99, 117, 116, 46, 112, 121]⟩ 1028), (.int (359) 0), (.int (1) 0), (.int (0) 0), (.int (0) 0), (.int (3) 0), (.ref 620), (.bool true), (.int (181) 0), (.ref 621), .none, (.ref 622), (.ref 623), (.ref 624), (.int (1030) 0), (.int (359) 0), (.str ⟨#[47, 99, 108, 97, 105, 109, 47, 99, 117, 116, 46, 112, 121]⟩ 1031)]), #[]⟩),
  (631, ⟨.none, none, (.func ⟨⟨#[119, 97, 110, 116, 95, 119, 104, 101, 101, 108]⟩, ⟨#[87, 97, 116, 99, 104, 46, 119, 97, 110, 116, 95, 119, 104, 101, 101, 108]⟩, defArgs (topM 75 17), .stmts (defBody (topM 75 17)), defScope (topM 75 17), 0, [], .none, .none, .none, .none, none, .none, .none, 0⟩), #[]⟩),
  (633, ⟨(.type "function"), none, (.func ⟨⟨#[119, 97, 110, 116, 95, 119, 104, 101, 101, 108]⟩, ⟨#[87, 97, 116, 99, 104, 46, 119, 97, 110, 116, 95, 119, 104, 101, 101, 108]⟩, defArgs (topM 75 17), .stmts (defBody (topM 75 17)), defScope (topM 75 17), 3, [], .none, .none, .none, (.str ⟨#[104, 117, 115, 104, 114, 117, 108, 101, 115, 46, 119, 97, 116, 99, 104]⟩ 876), none, (.ref 632), .none, 0⟩), #[]⟩),
  (632, ⟨(.type "code"), none, (.fields #[(.str ⟨#[119, 97, 110, 116, 95, 119, 104, 101, 101, 108]⟩ 1033), (.str ⟨#[87, 97, 116, 99, 104, 46, 119, 97, 110, 116, 95, 119, 104, 101, 101, 108]⟩ 1034), (.str ⟨#[47, 99, 108, 97, 105, 109, 47, 99, 117, 116, 46, 112, 121]⟩ 1035), (.int (362) 0), (.int (2) 0), (.int (0) 0), (.int (0) 0), (.int (3) 0), (.ref 627), (.bool true), (.int (181) 0), (.ref 628), .none, (.ref 629), (.ref 630), (.ref 631), (.int (1038) 0), (.int (362) 0), (.str ⟨#[47, 99, 108, 97, 105, 109, 47, 99, 117, 116, 46, 112, 121]⟩ 1039)]), #[]⟩),
  (638, ⟨.none, none, (.func ⟨⟨#[101, 110, 116, 101, 114]⟩, ⟨#[87, 97, 116, 99, 104, 46, 101, 110, 116, 101, 114]⟩, defArgs (topM 75 18), .stmts (defBody (topM 75 18)), defScope (topM 75 18), 0, [], .none, .none, .none, .none, none, .none, .none, 0⟩), #[]⟩)]
def KL8 (w : World) : PySem.W.Frag := [(640, ⟨(.type "function"), none, (.func ⟨⟨#[101, 110, 116, 101, 114]⟩, ⟨#[87, 97, 116, 99, 104, 46, 101, 110, 116, 101, 114]⟩, defArgs (topM 75 18), .stmts (defBody (topM 75 18)), defScope (topM 75 18), 3, [], .none, .none, .none, (.str ⟨#[104, 117, 115, 104, 114, 117, 108, 101, 115, 46, 119, 97, 116, 99, 104]⟩ 876), none, (.ref 639), .none, 0⟩), #[]⟩),
  (639, ⟨(.type "code"), none, (.fields #[(.str ⟨#[101, 110, 116, 101, 114]⟩ 1041), (.str ⟨#[87, 97, 116, 99, 104, 46, 101, 110, 116, 101, 114]⟩ 1042), (.str ⟨#[47, 99, 108, 97, 105, 109, 47, 99, 117, 116, 46, 112, 121]⟩ 1043), (.int (366) 0), (.int (2) 0), (.int (0) 0), (.int (0) 0), (.int (3) 0), (.ref 634), (.bool true), (.int (181) 0), (.ref 635), .none, (.ref 636), (.ref 637), (.ref 638), (.int (1046) 0), (.int (366) 0), (.str ⟨#[47, 99, 108, 97, 105, 109, 47, 99, 117, 116, 46, 112, 121]⟩ 1047)]), #[]⟩),
  (645, ⟨.none, none, (.func ⟨⟨#[101, 110, 116, 101, 114, 95, 115, 116, 97, 116, 101]⟩, ⟨#[87, 97, 116, 99, 104, 46, 101, 110, 116, 101, 114, 95, 115, 116, 97, 116, 101]⟩, defArgs (topM 75 19), .stmts (defBody (topM 75 19)), defScope (topM 75 19), 0, [], .none, .none, .none, .none, none, .none, .none, 0⟩), #[]⟩),
  (647, ⟨(.type "function"), none, (.func ⟨⟨#[101, 110, 116, 101, 114, 95, 115, 116, 97, 116, 101]⟩, ⟨#[87, 97, 116, 99, 104, 46, 101, 110, 116, 101, 114, 95, 115, 116, 97, 116, 101]⟩, defArgs (topM 75 19), .stmts (defBody (topM 75 19)), defScope (topM 75 19), 3, [], .none, .none, .none, (.str ⟨#[104, 117, 115, 104, 114, 117, 108, 101, 115, 46, 119, 97, 116, 99, 104]⟩ 876), none, (.ref 646), .none, 0⟩), #[]⟩),
  (646, ⟨(.type "code"), none, (.fields #[(.str ⟨#[101, 110, 116, 101, 114, 95, 115, 116, 97, 116, 101]⟩ 1049), (.str ⟨#[87, 97, 116, 99, 104, 46, 101, 110, 116, 101, 114, 95, 115, 116, 97, 116, 101]⟩ 1050), (.str ⟨#[47, 99, 108, 97, 105, 109, 47, 99, 117, 116, 46, 112, 121]⟩ 1051), (.int (370) 0), (.int (3) 0), (.int (0) 0), (.int (0) 0), (.int (3) 0), (.ref 641), (.bool true), (.int (181) 0), (.ref 642), .none, (.ref 643), (.ref 644), (.ref 645), (.int (1059) 0), (.int (370) 0), (.str ⟨#[47, 99, 108, 97, 105, 109, 47, 99, 117, 116, 46, 112, 121]⟩ 1060)]), #[]⟩),
  (652, ⟨.none, none, (.func ⟨⟨#[101, 110, 116, 101, 114, 95, 111, 102, 102]⟩, ⟨#[87, 97, 116, 99, 104, 46, 101, 110, 116, 101, 114, 95, 111, 102, 102]⟩, defArgs (topM 75 20), .stmts (defBody (topM 75 20)), defScope (topM 75 20), 0, [], .none, .none, .none, .none, none, .none, .none, 0⟩), #[]⟩),
  (654, ⟨(.type "function"), none, (.func ⟨⟨#[101, 110, 116, 101, 114, 95, 111, 102, 102]⟩, ⟨#[87, 97, 116, 99, 104, 46, 101, 110, 116, 101, 114, 95, 111, 102, 102]⟩, defArgs (topM 75 20), .stmts (defBody (topM 75 20)), defScope (topM 75 20), 3, [], .none, .none, .none, (.str ⟨#[104, 117, 115, 104, 114, 117, 108, 101, 115, 46, 119, 97, 116, 99, 104]⟩ 876), none, (.ref 653), .none, 0⟩), #[]⟩),
  (653, ⟨(.type "code"), none, (.fields #[(.str ⟨#[101, 110, 116, 101, 114, 95, 111, 102, 102]⟩ 1062), (.str ⟨#[87, 97, 116, 99, 104, 46, 101, 110, 116, 101, 114, 95, 111, 102, 102]⟩ 1063), (.str ⟨#[47, 99, 108, 97, 105, 109, 47, 99, 117, 116, 46, 112, 121]⟩ 1064), (.int (374) 0), (.int (2) 0), (.int (0) 0), (.int (0) 0), (.int (3) 0), (.ref 648), (.bool true), (.int (181) 0), (.ref 649), .none, (.ref 650), (.ref 651), (.ref 652), (.int (1071) 0), (.int (374) 0), (.str ⟨#[47, 99, 108, 97, 105, 109, 47, 99, 117, 116, 46, 112, 121]⟩ 1072)]), #[]⟩),
  (666, ⟨.none, none, (.func ⟨⟨#[114, 101, 112, 108, 97, 99, 101, 100]⟩, ⟨#[114, 101, 112, 108, 97, 99, 101, 100]⟩, defArgs (top 76), .stmts (defBody (top 76)), defScope (top 76), 0, [], .none, .none, .none, .none, none, .none, .none, 0⟩), #[]⟩),
  (668, ⟨(.type "function"), none, (.func ⟨⟨#[114, 101, 112, 108, 97, 99, 101, 100]⟩, ⟨#[114, 101, 112, 108, 97, 99, 101, 100]⟩, defArgs (top 76), .stmts (defBody (top 76)), defScope (top 76), 3, [], .none, .none, .none, (.str ⟨#[104, 117, 115, 104, 114, 117, 108, 101, 115, 46, 119, 97, 116, 99, 104]⟩ 876), none, (.ref 667), .none, 0⟩), #[]⟩),
  (667, ⟨(.type "code"), none, (.fields #[(.str ⟨#[114, 101, 112, 108, 97, 99, 101, 100]⟩ 1086), (.str ⟨#[114, 101, 112, 108, 97, 99, 101, 100]⟩ 1087), (.str ⟨#[47, 99, 108, 97, 105, 109, 47, 99, 117, 116, 46, 112, 121]⟩ 1088), (.int (377) 0), (.int (3) 0), (.int (0) 0), (.int (0) 0), (.int (3) 0), (.ref 662), (.bool true), (.int (181) 0), (.ref 663), .none, (.ref 664), (.ref 665), (.ref 666), (.int (1092) 0), (.int (377) 0), (.str ⟨#[47, 99, 108, 97, 105, 109, 47, 99, 117, 116, 46, 112, 121]⟩ 1093)]), #[]⟩),
  (673, ⟨.none, none, (.func ⟨⟨#[95, 108, 97, 119, 95, 98, 97, 103]⟩, ⟨#[95, 108, 97, 119, 95, 98, 97, 103]⟩, defArgs (top 78), .stmts (defBody (top 78)), defScope (top 78), 0, [], .none, .none, .none, .none, none, .none, .none, 0⟩), #[]⟩),
  (675, ⟨(.type "function"), none, (.func ⟨⟨#[95, 108, 97, 119, 95, 98, 97, 103]⟩, ⟨#[95, 108, 97, 119, 95, 98, 97, 103]⟩, defArgs (top 78), .stmts (defBody (top 78)), defScope (top 78), 3, [], .none, .none, .none, (.str ⟨#[108, 97, 119, 95, 104, 117, 115, 104, 114, 117, 108, 101, 115, 95, 107, 54, 57, 95, 119, 104, 111, 108, 101, 95, 119, 97, 116, 99, 104, 95, 102, 97, 114, 95, 111, 110]⟩ 1095), none, (.ref 674), .none, 0⟩), #[]⟩),
  (674, ⟨(.type "code"), none, (.fields #[(.str ⟨#[95, 108, 97, 119, 95, 98, 97, 103]⟩ 1097), (.str ⟨#[95, 108, 97, 119, 95, 98, 97, 103]⟩ 1098), (.str ⟨#[47, 99, 108, 97, 105, 109, 47, 99, 117, 116, 46, 112, 121]⟩ 1099), (.int (380) 0), (.int (2) 0), (.int (0) 0), (.int (0) 0), (.int (3) 0), (.ref 669), (.bool true), (.int (181) 0), (.ref 670), .none, (.ref 671), (.ref 672), (.ref 673), (.int (1105) 0), (.int (380) 0), (.str ⟨#[47, 99, 108, 97, 105, 109, 47, 99, 117, 116, 46, 112, 121]⟩ 1106)]), #[]⟩),
  (680, ⟨.none, none, (.func ⟨⟨#[95, 108, 97, 119, 95, 116, 97, 107, 101]⟩, ⟨#[95, 108, 97, 119, 95, 116, 97, 107, 101]⟩, defArgs (top 79), .stmts (defBody (top 79)), defScope (top 79), 0, [], .none, .none, .none, .none, none, .none, .none, 0⟩), #[]⟩),
  (682, ⟨(.type "function"), none, (.func ⟨⟨#[95, 108, 97, 119, 95, 116, 97, 107, 101]⟩, ⟨#[95, 108, 97, 119, 95, 116, 97, 107, 101]⟩, defArgs (top 79), .stmts (defBody (top 79)), defScope (top 79), 3, [], .none, .none, .none, (.str ⟨#[108, 97, 119, 95, 104, 117, 115, 104, 114, 117, 108, 101, 115, 95, 107, 54, 57, 95, 119, 104, 111, 108, 101, 95, 119, 97, 116, 99, 104, 95, 102, 97, 114, 95, 111, 110]⟩ 1095), none, (.ref 681), .none, 0⟩), #[]⟩),
  (681, ⟨(.type "code"), none, (.fields #[(.str ⟨#[95, 108, 97, 119, 95, 116, 97, 107, 101]⟩ 1108), (.str ⟨#[95, 108, 97, 119, 95, 116, 97, 107, 101]⟩ 1109), (.str ⟨#[47, 99, 108, 97, 105, 109, 47, 99, 117, 116, 46, 112, 121]⟩ 1110), (.int (389) 0), (.int (2) 0), (.int (0) 0), (.int (0) 0), (.int (3) 0), (.ref 676), (.bool true), (.int (181) 0), (.ref 677), .none, (.ref 678), (.ref 679), (.ref 680), (.int (1114) 0), (.int (389) 0), (.str ⟨#[47, 99, 108, 97, 105, 109, 47, 99, 117, 116, 46, 112, 121]⟩ 1115)]), #[]⟩),
  (687, ⟨.none, none, (.func ⟨⟨#[95, 108, 97, 119, 95, 119, 104, 101, 101, 108, 115]⟩, ⟨#[95, 108, 97, 119, 95, 119, 104, 101, 101, 108, 115]⟩, defArgs (top 80), .stmts (defBody (top 80)), defScope (top 80), 0, [], .none, .none, .none, .none, none, .none, .none, 0⟩), #[]⟩),
  (689, ⟨(.type "function"), none, (.func ⟨⟨#[95, 108, 97, 119, 95, 119, 104, 101, 101, 108, 115]⟩, ⟨#[95, 108, 97, 119, 95, 119, 104, 101, 101, 108, 115]⟩, defArgs (top 80), .stmts (defBody (top 80)), defScope (top 80), 3, [], .none, .none, .none, (.str ⟨#[108, 97, 119, 95, 104, 117, 115, 104, 114, 117, 108, 101, 115, 95, 107, 54, 57, 95, 119, 104, 111, 108, 101, 95, 119, 97, 116, 99, 104, 95, 102, 97, 114, 95, 111, 110]⟩ 1095), none, (.ref 688), .none, 0⟩), #[]⟩),
  (688, ⟨(.type "code"), none, (.fields #[(.str ⟨#[95, 108, 97, 119, 95, 119, 104, 101, 101, 108, 115]⟩ 1117), (.str ⟨#[95, 108, 97, 119, 95, 119, 104, 101, 101, 108, 115]⟩ 1118), (.str ⟨#[47, 99, 108, 97, 105, 109, 47, 99, 117, 116, 46, 112, 121]⟩ 1119), (.int (397) 0), (.int (1) 0), (.int (0) 0), (.int (0) 0), (.int (3) 0), (.ref 683), (.bool true), (.int (181) 0), (.ref 684), .none, (.ref 685), (.ref 686), (.ref 687), (.int (1125) 0), (.int (397) 0), (.str ⟨#[47, 99, 108, 97, 105, 109, 47, 99, 117, 116, 46, 112, 121]⟩ 1126)]), #[]⟩),
  (694, ⟨.none, none, (.func ⟨⟨#[95, 108, 97, 119, 95, 99, 111, 110, 100, 105, 116, 105, 111, 110]⟩, ⟨#[95, 108, 97, 119, 95, 99, 111, 110, 100, 105, 116, 105, 111, 110]⟩, defArgs (top 81), .stmts (defBody (top 81)), defScope (top 81), 0, [], .none, .none, .none, .none, none, .none, .none, 0⟩), #[]⟩),
  (696, ⟨(.type "function"), none, (.func ⟨⟨#[95, 108, 97, 119, 95, 99, 111, 110, 100, 105, 116, 105, 111, 110]⟩, ⟨#[95, 108, 97, 119, 95, 99, 111, 110, 100, 105, 116, 105, 111, 110]⟩, defArgs (top 81), .stmts (defBody (top 81)), defScope (top 81), 3, [], .none, .none, .none, (.str ⟨#[108, 97, 119, 95, 104, 117, 115, 104, 114, 117, 108, 101, 115, 95, 107, 54, 57, 95, 119, 104, 111, 108, 101, 95, 119, 97, 116, 99, 104, 95, 102, 97, 114, 95, 111, 110]⟩ 1095), none, (.ref 695), .none, 0⟩), #[]⟩),
  (695, ⟨(.type "code"), none, (.fields #[(.str ⟨#[95, 108, 97, 119, 95, 99, 111, 110, 100, 105, 116, 105, 111, 110]⟩ 1128), (.str ⟨#[95, 108, 97, 119, 95, 99, 111, 110, 100, 105, 116, 105, 111, 110]⟩ 1129), (.str ⟨#[47, 99, 108, 97, 105, 109, 47, 99, 117, 116, 46, 112, 121]⟩ 1130), (.int (405) 0), (.int (3) 0), (.int (0) 0), (.int (0) 0), (.int (3) 0), (.ref 690), (.bool true), (.int (181) 0), (.ref 691), .none, (.ref 692), (.ref 693), (.ref 694), (.int (1136) 0), (.int (405) 0), (.str ⟨#[47, 99, 108, 97, 105, 109, 47, 99, 117, 116, 46, 112, 121]⟩ 1137)]), #[]⟩),
  (701, ⟨.none, none, (.func ⟨⟨#[95, 108, 97, 119, 95, 99, 104, 97, 110, 103, 101]⟩, ⟨#[95, 108, 97, 119, 95, 99, 104, 97, 110, 103, 101]⟩, defArgs (top 82), .stmts (defBody (top 82)), defScope (top 82), 0, [], .none, .none, .none, .none, none, .none, .none, 0⟩), #[]⟩),
  (703, ⟨(.type "function"), none, (.func ⟨⟨#[95, 108, 97, 119, 95, 99, 104, 97, 110, 103, 101]⟩, ⟨#[95, 108, 97, 119, 95, 99, 104, 97, 110, 103, 101]⟩, defArgs (top 82), .stmts (defBody (top 82)), defScope (top 82), 3, [], .none, .none, .none, (.str ⟨#[108, 97, 119, 95, 104, 117, 115, 104, 114, 117, 108, 101, 115, 95, 107, 54, 57, 95, 119, 104, 111, 108, 101, 95, 119, 97, 116, 99, 104, 95, 102, 97, 114, 95, 111, 110]⟩ 1095), none, (.ref 702), .none, 0⟩), #[]⟩)]
def KL9 (w : World) : PySem.W.Frag := [(702, ⟨(.type "code"), none, (.fields #[(.str ⟨#[95, 108, 97, 119, 95, 99, 104, 97, 110, 103, 101]⟩ 1139), (.str ⟨#[95, 108, 97, 119, 95, 99, 104, 97, 110, 103, 101]⟩ 1140), (.str ⟨#[47, 99, 108, 97, 105, 109, 47, 99, 117, 116, 46, 112, 121]⟩ 1141), (.int (411) 0), (.int (2) 0), (.int (0) 0), (.int (0) 0), (.int (3) 0), (.ref 697), (.bool true), (.int (181) 0), (.ref 698), .none, (.ref 699), (.ref 700), (.ref 701), (.int (1145) 0), (.int (411) 0), (.str ⟨#[47, 99, 108, 97, 105, 109, 47, 99, 117, 116, 46, 112, 121]⟩ 1146)]), #[]⟩),
  (706, ⟨.none, none, (.func ⟨⟨#[95, 108, 97, 119, 95, 114, 117, 108, 101]⟩, ⟨#[95, 108, 97, 119, 95, 114, 117, 108, 101]⟩, defArgs (top 83), .stmts (defBody (top 83)), defScope (top 83), 0, [], .none, .none, .none, .none, none, .none, .none, 0⟩), #[]⟩),
  (708, ⟨(.type "function"), none, (.func ⟨⟨#[95, 108, 97, 119, 95, 114, 117, 108, 101]⟩, ⟨#[95, 108, 97, 119, 95, 114, 117, 108, 101]⟩, defArgs (top 83), .stmts (defBody (top 83)), defScope (top 83), 3, [], .none, .none, .none, (.str ⟨#[108, 97, 119, 95, 104, 117, 115, 104, 114, 117, 108, 101, 115, 95, 107, 54, 57, 95, 119, 104, 111, 108, 101, 95, 119, 97, 116, 99, 104, 95, 102, 97, 114, 95, 111, 110]⟩ 1095), none, (.ref 707), .none, 0⟩), #[]⟩),
  (707, ⟨(.type "code"), none, (.fields #[(.str ⟨#[95, 108, 97, 119, 95, 114, 117, 108, 101]⟩ 1148), (.str ⟨#[95, 108, 97, 119, 95, 114, 117, 108, 101]⟩ 1149), (.str ⟨#[47, 99, 108, 97, 105, 109, 47, 99, 117, 116, 46, 112, 121]⟩ 1150), (.int (414) 0), (.int (3) 0), (.int (0) 0), (.int (0) 0), (.int (3) 0), (.ref 704), (.bool true), (.int (181) 0), (.ref 705), .none, .none, .none, (.ref 706), (.int (1151) 0), (.int (414) 0), (.str ⟨#[47, 99, 108, 97, 105, 109, 47, 99, 117, 116, 46, 112, 121]⟩ 1152)]), #[]⟩),
  (711, ⟨.none, none, (.func ⟨⟨#[95, 108, 97, 119, 95, 114, 117, 108, 101, 115]⟩, ⟨#[95, 108, 97, 119, 95, 114, 117, 108, 101, 115]⟩, defArgs (top 84), .stmts (defBody (top 84)), defScope (top 84), 0, [], .none, .none, .none, .none, none, .none, .none, 0⟩), #[]⟩),
  (713, ⟨(.type "function"), none, (.func ⟨⟨#[95, 108, 97, 119, 95, 114, 117, 108, 101, 115]⟩, ⟨#[95, 108, 97, 119, 95, 114, 117, 108, 101, 115]⟩, defArgs (top 84), .stmts (defBody (top 84)), defScope (top 84), 3, [], .none, .none, .none, (.str ⟨#[108, 97, 119, 95, 104, 117, 115, 104, 114, 117, 108, 101, 115, 95, 107, 54, 57, 95, 119, 104, 111, 108, 101, 95, 119, 97, 116, 99, 104, 95, 102, 97, 114, 95, 111, 110]⟩ 1095), none, (.ref 712), .none, 0⟩), #[]⟩),
  (712, ⟨(.type "code"), none, (.fields #[(.str ⟨#[95, 108, 97, 119, 95, 114, 117, 108, 101, 115]⟩ 1154), (.str ⟨#[95, 108, 97, 119, 95, 114, 117, 108, 101, 115]⟩ 1155), (.str ⟨#[47, 99, 108, 97, 105, 109, 47, 99, 117, 116, 46, 112, 121]⟩ 1156), (.int (425) 0), (.int (3) 0), (.int (0) 0), (.int (0) 0), (.int (3) 0), (.ref 709), (.bool true), (.int (181) 0), (.ref 710), .none, .none, .none, (.ref 711), (.int (1157) 0), (.int (425) 0), (.str ⟨#[47, 99, 108, 97, 105, 109, 47, 99, 117, 116, 46, 112, 121]⟩ 1158)]), #[]⟩),
  (718, ⟨.none, none, (.func ⟨⟨#[95, 108, 97, 119, 95, 100, 114, 97, 119, 110]⟩, ⟨#[95, 108, 97, 119, 95, 100, 114, 97, 119, 110]⟩, defArgs (top 85), .stmts (defBody (top 85)), defScope (top 85), 0, [], .none, .none, .none, .none, none, .none, .none, 0⟩), #[]⟩),
  (720, ⟨(.type "function"), none, (.func ⟨⟨#[95, 108, 97, 119, 95, 100, 114, 97, 119, 110]⟩, ⟨#[95, 108, 97, 119, 95, 100, 114, 97, 119, 110]⟩, defArgs (top 85), .stmts (defBody (top 85)), defScope (top 85), 3, [], .none, .none, .none, (.str ⟨#[108, 97, 119, 95, 104, 117, 115, 104, 114, 117, 108, 101, 115, 95, 107, 54, 57, 95, 119, 104, 111, 108, 101, 95, 119, 97, 116, 99, 104, 95, 102, 97, 114, 95, 111, 110]⟩ 1095), none, (.ref 719), .none, 0⟩), #[]⟩),
  (719, ⟨(.type "code"), none, (.fields #[(.str ⟨#[95, 108, 97, 119, 95, 100, 114, 97, 119, 110]⟩ 1160), (.str ⟨#[95, 108, 97, 119, 95, 100, 114, 97, 119, 110]⟩ 1161), (.str ⟨#[47, 99, 108, 97, 105, 109, 47, 99, 117, 116, 46, 112, 121]⟩ 1162), (.int (427) 0), (.int (1) 0), (.int (0) 0), (.int (0) 0), (.int (3) 0), (.ref 714), (.bool true), (.int (181) 0), (.ref 715), .none, (.ref 716), (.ref 717), (.ref 718), (.int (1165) 0), (.int (427) 0), (.str ⟨#[47, 99, 108, 97, 105, 109, 47, 99, 117, 116, 46, 112, 121]⟩ 1166)]), #[]⟩),
  (725, ⟨.none, none, (.func ⟨⟨#[95, 108, 97, 119, 95, 115, 111]⟩, ⟨#[95, 108, 97, 119, 95, 115, 111]⟩, defArgs (top 86), .stmts (defBody (top 86)), defScope (top 86), 0, [], .none, .none, .none, .none, none, .none, .none, 0⟩), #[]⟩),
  (727, ⟨(.type "function"), none, (.func ⟨⟨#[95, 108, 97, 119, 95, 115, 111]⟩, ⟨#[95, 108, 97, 119, 95, 115, 111]⟩, defArgs (top 86), .stmts (defBody (top 86)), defScope (top 86), 3, [], .none, .none, .none, (.str ⟨#[108, 97, 119, 95, 104, 117, 115, 104, 114, 117, 108, 101, 115, 95, 107, 54, 57, 95, 119, 104, 111, 108, 101, 95, 119, 97, 116, 99, 104, 95, 102, 97, 114, 95, 111, 110]⟩ 1095), none, (.ref 726), .none, 0⟩), #[]⟩),
  (726, ⟨(.type "code"), none, (.fields #[(.str ⟨#[95, 108, 97, 119, 95, 115, 111]⟩ 1168), (.str ⟨#[95, 108, 97, 119, 95, 115, 111]⟩ 1169), (.str ⟨#[47, 99, 108, 97, 105, 109, 47, 99, 117, 116, 46, 112, 121]⟩ 1170), (.int (430) 0), (.int (3) 0), (.int (0) 0), (.int (0) 0), (.int (3) 0), (.ref 721), (.bool true), (.int (181) 0), (.ref 722), .none, (.ref 723), (.ref 724), (.ref 725), (.int (1174) 0), (.int (430) 0), (.str ⟨#[47, 99, 108, 97, 105, 109, 47, 99, 117, 116, 46, 112, 121]⟩ 1175)]), #[]⟩),
  (730, ⟨.none, none, (.func ⟨⟨#[95, 108, 97, 119, 95, 98, 101, 97, 116]⟩, ⟨#[95, 108, 97, 119, 95, 98, 101, 97, 116]⟩, defArgs (top 87), .stmts (defBody (top 87)), defScope (top 87), 0, [], .none, .none, .none, .none, none, .none, .none, 0⟩), #[]⟩),
  (732, ⟨(.type "function"), none, (.func ⟨⟨#[95, 108, 97, 119, 95, 98, 101, 97, 116]⟩, ⟨#[95, 108, 97, 119, 95, 98, 101, 97, 116]⟩, defArgs (top 87), .stmts (defBody (top 87)), defScope (top 87), 3, [], .none, .none, .none, (.str ⟨#[108, 97, 119, 95, 104, 117, 115, 104, 114, 117, 108, 101, 115, 95, 107, 54, 57, 95, 119, 104, 111, 108, 101, 95, 119, 97, 116, 99, 104, 95, 102, 97, 114, 95, 111, 110]⟩ 1095), none, (.ref 731), .none, 0⟩), #[]⟩),
  (731, ⟨(.type "code"), none, (.fields #[(.str ⟨#[95, 108, 97, 119, 95, 98, 101, 97, 116]⟩ 1177), (.str ⟨#[95, 108, 97, 119, 95, 98, 101, 97, 116]⟩ 1178), (.str ⟨#[47, 99, 108, 97, 105, 109, 47, 99, 117, 116, 46, 112, 121]⟩ 1179), (.int (436) 0), (.int (5) 0), (.int (0) 0), (.int (0) 0), (.int (3) 0), (.ref 728), (.bool true), (.int (181) 0), (.ref 729), .none, .none, .none, (.ref 730), (.int (1180) 0), (.int (436) 0), (.str ⟨#[47, 99, 108, 97, 105, 109, 47, 99, 117, 116, 46, 112, 121]⟩ 1181)]), #[]⟩),
  (737, ⟨.none, none, (.func ⟨⟨#[95, 108, 97, 119, 95, 111, 119, 110]⟩, ⟨#[95, 108, 97, 119, 95, 111, 119, 110]⟩, defArgs (top 88), .stmts (defBody (top 88)), defScope (top 88), 0, [], .none, .none, .none, .none, none, .none, .none, 0⟩), #[]⟩),
  (739, ⟨(.type "function"), none, (.func ⟨⟨#[95, 108, 97, 119, 95, 111, 119, 110]⟩, ⟨#[95, 108, 97, 119, 95, 111, 119, 110]⟩, defArgs (top 88), .stmts (defBody (top 88)), defScope (top 88), 3, [], .none, .none, .none, (.str ⟨#[108, 97, 119, 95, 104, 117, 115, 104, 114, 117, 108, 101, 115, 95, 107, 54, 57, 95, 119, 104, 111, 108, 101, 95, 119, 97, 116, 99, 104, 95, 102, 97, 114, 95, 111, 110]⟩ 1095), none, (.ref 738), .none, 0⟩), #[]⟩),
  (738, ⟨(.type "code"), none, (.fields #[(.str ⟨#[95, 108, 97, 119, 95, 111, 119, 110]⟩ 1183), (.str ⟨#[95, 108, 97, 119, 95, 111, 119, 110]⟩ 1184), (.str ⟨#[47, 99, 108, 97, 105, 109, 47, 99, 117, 116, 46, 112, 121]⟩ 1185), (.int (453) 0), (.int (1) 0), (.int (0) 0), (.int (0) 0), (.int (3) 0), (.ref 733), (.bool true), (.int (181) 0), (.ref 734), .none, (.ref 735), (.ref 736), (.ref 737), (.int (1187) 0), (.int (453) 0), (.str ⟨#[47, 99, 108, 97, 105, 109, 47, 99, 117, 116, 46, 112, 121]⟩ 1188)]), #[]⟩),
  (744, ⟨.none, none, (.func ⟨⟨#[95, 108, 97, 119, 95, 116, 114, 97, 99, 107]⟩, ⟨#[95, 108, 97, 119, 95, 116, 114, 97, 99, 107]⟩, defArgs (top 89), .stmts (defBody (top 89)), defScope (top 89), 0, [], .none, .none, .none, .none, none, .none, .none, 0⟩), #[]⟩),
  (746, ⟨(.type "function"), none, (.func ⟨⟨#[95, 108, 97, 119, 95, 116, 114, 97, 99, 107]⟩, ⟨#[95, 108, 97, 119, 95, 116, 114, 97, 99, 107]⟩, defArgs (top 89), .stmts (defBody (top 89)), defScope (top 89), 3, [], .none, .none, .none, (.str ⟨#[108, 97, 119, 95, 104, 117, 115, 104, 114, 117, 108, 101, 115, 95, 107, 54, 57, 95, 119, 104, 111, 108, 101, 95, 119, 97, 116, 99, 104, 95, 102, 97, 114, 95, 111, 110]⟩ 1095), none, (.ref 745), .none, 0⟩), #[]⟩),
  (745, ⟨(.type "code"), none, (.fields #[(.str ⟨#[95, 108, 97, 119, 95, 116, 114, 97, 99, 107]⟩ 1190), (.str ⟨#[95, 108, 97, 119, 95, 116, 114, 97, 99, 107]⟩ 1191), (.str ⟨#[47, 99, 108, 97, 105, 109, 47, 99, 117, 116, 46, 112, 121]⟩ 1192), (.int (455) 0), (.int (4) 0), (.int (0) 0), (.int (0) 0), (.int (3) 0), (.ref 740), (.bool true), (.int (181) 0), (.ref 741), .none, (.ref 742), (.ref 743), (.ref 744), (.int (1201) 0), (.int (455) 0), (.str ⟨#[47, 99, 108, 97, 105, 109, 47, 99, 117, 116, 46, 112, 121]⟩ 1202)]), #[]⟩),
  (749, ⟨.none, none, (.func ⟨⟨#[95, 108, 97, 119, 95, 111, 102, 102]⟩, ⟨#[95, 108, 97, 119, 95, 111, 102, 102]⟩, defArgs (top 90), .stmts (defBody (top 90)), defScope (top 90), 0, [], .none, .none, .none, .none, none, .none, .none, 0⟩), #[]⟩),
  (751, ⟨(.type "function"), none, (.func ⟨⟨#[95, 108, 97, 119, 95, 111, 102, 102]⟩, ⟨#[95, 108, 97, 119, 95, 111, 102, 102]⟩, defArgs (top 90), .stmts (defBody (top 90)), defScope (top 90), 3, [], .none, .none, .none, (.str ⟨#[108, 97, 119, 95, 104, 117, 115, 104, 114, 117, 108, 101, 115, 95, 107, 54, 57, 95, 119, 104, 111, 108, 101, 95, 119, 97, 116, 99, 104, 95, 102, 97, 114, 95, 111, 110]⟩ 1095), none, (.ref 750), .none, 0⟩), #[]⟩),
  (750, ⟨(.type "code"), none, (.fields #[(.str ⟨#[95, 108, 97, 119, 95, 111, 102, 102]⟩ 1204), (.str ⟨#[95, 108, 97, 119, 95, 111, 102, 102]⟩ 1205), (.str ⟨#[47, 99, 108, 97, 105, 109, 47, 99, 117, 116, 46, 112, 121]⟩ 1206), (.int (463) 0), (.int (2) 0), (.int (0) 0), (.int (0) 0), (.int (3) 0), (.ref 747), (.bool true), (.int (181) 0), (.ref 748), .none, .none, .none, (.ref 749), (.int (1207) 0), (.int (463) 0), (.str ⟨#[47, 99, 108, 97, 105, 109, 47, 99, 117, 116, 46, 112, 121]⟩ 1208)]), #[]⟩)]
def KL10 (w : World) : PySem.W.Frag := [(754, ⟨.none, none, (.func ⟨⟨#[95, 108, 97, 119, 95, 115, 116, 97, 114, 116, 115]⟩, ⟨#[95, 108, 97, 119, 95, 115, 116, 97, 114, 116, 115]⟩, defArgs (top 91), .stmts (defBody (top 91)), defScope (top 91), 0, [], .none, .none, .none, .none, none, .none, .none, 0⟩), #[]⟩),
  (756, ⟨(.type "function"), none, (.func ⟨⟨#[95, 108, 97, 119, 95, 115, 116, 97, 114, 116, 115]⟩, ⟨#[95, 108, 97, 119, 95, 115, 116, 97, 114, 116, 115]⟩, defArgs (top 91), .stmts (defBody (top 91)), defScope (top 91), 3, [], .none, .none, .none, (.str ⟨#[108, 97, 119, 95, 104, 117, 115, 104, 114, 117, 108, 101, 115, 95, 107, 54, 57, 95, 119, 104, 111, 108, 101, 95, 119, 97, 116, 99, 104, 95, 102, 97, 114, 95, 111, 110]⟩ 1095), none, (.ref 755), .none, 0⟩), #[]⟩),
  (755, ⟨(.type "code"), none, (.fields #[(.str ⟨#[95, 108, 97, 119, 95, 115, 116, 97, 114, 116, 115]⟩ 1210), (.str ⟨#[95, 108, 97, 119, 95, 115, 116, 97, 114, 116, 115]⟩ 1211), (.str ⟨#[47, 99, 108, 97, 105, 109, 47, 99, 117, 116, 46, 112, 121]⟩ 1212), (.int (467) 0), (.int (1) 0), (.int (0) 0), (.int (0) 0), (.int (3) 0), (.ref 752), (.bool true), (.int (181) 0), (.ref 753), .none, .none, .none, (.ref 754), (.int (1213) 0), (.int (467) 0), (.str ⟨#[47, 99, 108, 97, 105, 109, 47, 99, 117, 116, 46, 112, 121]⟩ 1214)]), #[]⟩),
  (761, ⟨.none, none, (.func ⟨⟨#[95, 108, 97, 119, 95, 104, 97, 110, 100]⟩, ⟨#[95, 108, 97, 119, 95, 104, 97, 110, 100]⟩, defArgs (top 92), .stmts (defBody (top 92)), defScope (top 92), 0, [], .none, .none, .none, .none, none, .none, .none, 0⟩), #[]⟩),
  (763, ⟨(.type "function"), none, (.func ⟨⟨#[95, 108, 97, 119, 95, 104, 97, 110, 100]⟩, ⟨#[95, 108, 97, 119, 95, 104, 97, 110, 100]⟩, defArgs (top 92), .stmts (defBody (top 92)), defScope (top 92), 3, [], .none, .none, .none, (.str ⟨#[108, 97, 119, 95, 104, 117, 115, 104, 114, 117, 108, 101, 115, 95, 107, 54, 57, 95, 119, 104, 111, 108, 101, 95, 119, 97, 116, 99, 104, 95, 102, 97, 114, 95, 111, 110]⟩ 1095), none, (.ref 762), .none, 0⟩), #[]⟩),
  (762, ⟨(.type "code"), none, (.fields #[(.str ⟨#[95, 108, 97, 119, 95, 104, 97, 110, 100]⟩ 1216), (.str ⟨#[95, 108, 97, 119, 95, 104, 97, 110, 100]⟩ 1217), (.str ⟨#[47, 99, 108, 97, 105, 109, 47, 99, 117, 116, 46, 112, 121]⟩ 1218), (.int (475) 0), (.int (3) 0), (.int (0) 0), (.int (0) 0), (.int (3) 0), (.ref 757), (.bool true), (.int (181) 0), (.ref 758), .none, (.ref 759), (.ref 760), (.ref 761), (.int (1225) 0), (.int (475) 0), (.str ⟨#[47, 99, 108, 97, 105, 109, 47, 99, 117, 116, 46, 112, 121]⟩ 1226)]), #[]⟩),
  (768, ⟨.none, none, (.func ⟨⟨#[95, 108, 97, 119, 95, 97, 116, 95, 119, 97, 116, 99, 104]⟩, ⟨#[95, 108, 97, 119, 95, 97, 116, 95, 119, 97, 116, 99, 104]⟩, defArgs (top 93), .stmts (defBody (top 93)), defScope (top 93), 0, [], .none, .none, .none, .none, none, .none, .none, 0⟩), #[]⟩),
  (770, ⟨(.type "function"), none, (.func ⟨⟨#[95, 108, 97, 119, 95, 97, 116, 95, 119, 97, 116, 99, 104]⟩, ⟨#[95, 108, 97, 119, 95, 97, 116, 95, 119, 97, 116, 99, 104]⟩, defArgs (top 93), .stmts (defBody (top 93)), defScope (top 93), 3, [], .none, .none, .none, (.str ⟨#[108, 97, 119, 95, 104, 117, 115, 104, 114, 117, 108, 101, 115, 95, 107, 54, 57, 95, 119, 104, 111, 108, 101, 95, 119, 97, 116, 99, 104, 95, 102, 97, 114, 95, 111, 110]⟩ 1095), none, (.ref 769), .none, 0⟩), #[]⟩),
  (769, ⟨(.type "code"), none, (.fields #[(.str ⟨#[95, 108, 97, 119, 95, 97, 116, 95, 119, 97, 116, 99, 104]⟩ 1228), (.str ⟨#[95, 108, 97, 119, 95, 97, 116, 95, 119, 97, 116, 99, 104]⟩ 1229), (.str ⟨#[47, 99, 108, 97, 105, 109, 47, 99, 117, 116, 46, 112, 121]⟩ 1230), (.int (483) 0), (.int (2) 0), (.int (0) 0), (.int (0) 0), (.int (3) 0), (.ref 764), (.bool true), (.int (181) 0), (.ref 765), .none, (.ref 766), (.ref 767), (.ref 768), (.int (1236) 0), (.int (483) 0), (.str ⟨#[47, 99, 108, 97, 105, 109, 47, 99, 117, 116, 46, 112, 121]⟩ 1237)]), #[]⟩),
  (775, ⟨.none, none, (.func ⟨⟨#[95, 108, 97, 119, 95, 102, 97, 114]⟩, ⟨#[95, 108, 97, 119, 95, 102, 97, 114]⟩, defArgs (top 94), .stmts (defBody (top 94)), defScope (top 94), 0, [], .none, .none, .none, .none, none, .none, .none, 0⟩), #[]⟩),
  (777, ⟨(.type "function"), none, (.func ⟨⟨#[95, 108, 97, 119, 95, 102, 97, 114]⟩, ⟨#[95, 108, 97, 119, 95, 102, 97, 114]⟩, defArgs (top 94), .stmts (defBody (top 94)), defScope (top 94), 3, [], .none, .none, .none, (.str ⟨#[108, 97, 119, 95, 104, 117, 115, 104, 114, 117, 108, 101, 115, 95, 107, 54, 57, 95, 119, 104, 111, 108, 101, 95, 119, 97, 116, 99, 104, 95, 102, 97, 114, 95, 111, 110]⟩ 1095), none, (.ref 776), .none, 0⟩), #[]⟩),
  (776, ⟨(.type "code"), none, (.fields #[(.str ⟨#[95, 108, 97, 119, 95, 102, 97, 114]⟩ 1239), (.str ⟨#[95, 108, 97, 119, 95, 102, 97, 114]⟩ 1240), (.str ⟨#[47, 99, 108, 97, 105, 109, 47, 99, 117, 116, 46, 112, 121]⟩ 1241), (.int (494) 0), (.int (1) 0), (.int (0) 0), (.int (0) 0), (.int (3) 0), (.ref 771), (.bool true), (.int (181) 0), (.ref 772), .none, (.ref 773), (.ref 774), (.ref 775), (.int (1244) 0), (.int (494) 0), (.str ⟨#[47, 99, 108, 97, 105, 109, 47, 99, 117, 116, 46, 112, 121]⟩ 1245)]), #[]⟩),
  (780, ⟨.none, none, (.func ⟨⟨#[95, 108, 97, 119, 95, 115, 112, 111, 116]⟩, ⟨#[95, 108, 97, 119, 95, 115, 112, 111, 116]⟩, defArgs (top 95), .stmts (defBody (top 95)), defScope (top 95), 0, [], .none, .none, .none, .none, none, .none, .none, 0⟩), #[]⟩),
  (782, ⟨(.type "function"), none, (.func ⟨⟨#[95, 108, 97, 119, 95, 115, 112, 111, 116]⟩, ⟨#[95, 108, 97, 119, 95, 115, 112, 111, 116]⟩, defArgs (top 95), .stmts (defBody (top 95)), defScope (top 95), 3, [], .none, .none, .none, (.str ⟨#[108, 97, 119, 95, 104, 117, 115, 104, 114, 117, 108, 101, 115, 95, 107, 54, 57, 95, 119, 104, 111, 108, 101, 95, 119, 97, 116, 99, 104, 95, 102, 97, 114, 95, 111, 110]⟩ 1095), none, (.ref 781), .none, 0⟩), #[]⟩),
  (781, ⟨(.type "code"), none, (.fields #[(.str ⟨#[95, 108, 97, 119, 95, 115, 112, 111, 116]⟩ 1247), (.str ⟨#[95, 108, 97, 119, 95, 115, 112, 111, 116]⟩ 1248), (.str ⟨#[47, 99, 108, 97, 105, 109, 47, 99, 117, 116, 46, 112, 121]⟩ 1249), (.int (497) 0), (.int (4) 0), (.int (0) 0), (.int (0) 0), (.int (3) 0), (.ref 778), (.bool true), (.int (181) 0), (.ref 779), .none, .none, .none, (.ref 780), (.int (1250) 0), (.int (497) 0), (.str ⟨#[47, 99, 108, 97, 105, 109, 47, 99, 117, 116, 46, 112, 121]⟩ 1251)]), #[]⟩),
  (785, ⟨.none, none, (.func ⟨⟨#[95, 108, 97, 119, 95, 108, 105, 107, 101, 95, 111, 110, 101]⟩, ⟨#[95, 108, 97, 119, 95, 108, 105, 107, 101, 95, 111, 110, 101]⟩, defArgs (top 96), .stmts (defBody (top 96)), defScope (top 96), 0, [], .none, .none, .none, .none, none, .none, .none, 0⟩), #[]⟩),
  (787, ⟨(.type "function"), none, (.func ⟨⟨#[95, 108, 97, 119, 95, 108, 105, 107, 101, 95, 111, 110, 101]⟩, ⟨#[95, 108, 97, 119, 95, 108, 105, 107, 101, 95, 111, 110, 101]⟩, defArgs (top 96), .stmts (defBody (top 96)), defScope (top 96), 3, [], .none, .none, .none, (.str ⟨#[108, 97, 119, 95, 104, 117, 115, 104, 114, 117, 108, 101, 115, 95, 107, 54, 57, 95, 119, 104, 111, 108, 101, 95, 119, 97, 116, 99, 104, 95, 102, 97, 114, 95, 111, 110]⟩ 1095), none, (.ref 786), .none, 0⟩), #[]⟩),
  (786, ⟨(.type "code"), none, (.fields #[(.str ⟨#[95, 108, 97, 119, 95, 108, 105, 107, 101, 95, 111, 110, 101]⟩ 1253), (.str ⟨#[95, 108, 97, 119, 95, 108, 105, 107, 101, 95, 111, 110, 101]⟩ 1254), (.str ⟨#[47, 99, 108, 97, 105, 109, 47, 99, 117, 116, 46, 112, 121]⟩ 1255), (.int (510) 0), (.int (5) 0), (.int (0) 0), (.int (0) 0), (.int (3) 0), (.ref 783), (.bool true), (.int (181) 0), (.ref 784), .none, .none, .none, (.ref 785), (.int (1256) 0), (.int (510) 0), (.str ⟨#[47, 99, 108, 97, 105, 109, 47, 99, 117, 116, 46, 112, 121]⟩ 1257)]), #[]⟩),
  (790, ⟨.none, none, (.func ⟨⟨#[108, 97, 119]⟩, ⟨#[108, 97, 119]⟩, defArgs (top 97), .stmts (defBody (top 97)), defScope (top 97), 0, [], .none, .none, .none, .none, none, .none, .none, 0⟩), #[]⟩),
  (792, ⟨(.type "function"), none, (.func ⟨⟨#[108, 97, 119]⟩, ⟨#[108, 97, 119]⟩, defArgs (top 97), .stmts (defBody (top 97)), defScope (top 97), 3, [], .none, .none, .none, (.str ⟨#[108, 97, 119, 95, 104, 117, 115, 104, 114, 117, 108, 101, 115, 95, 107, 54, 57, 95, 119, 104, 111, 108, 101, 95, 119, 97, 116, 99, 104, 95, 102, 97, 114, 95, 111, 110]⟩ 1095), none, (.ref 791), .none, 0⟩), #[]⟩),
  (791, ⟨(.type "code"), none, (.fields #[(.str ⟨#[108, 97, 119]⟩ 1259), (.str ⟨#[108, 97, 119]⟩ 1260), (.str ⟨#[47, 99, 108, 97, 105, 109, 47, 99, 117, 116, 46, 112, 121]⟩ 1261), (.int (521) 0), (.int (1) 0), (.int (0) 0), (.int (0) 0), (.int (3) 0), (.ref 788), (.bool true), (.int (181) 0), (.ref 789), .none, .none, .none, (.ref 790), (.int (1262) 0), (.int (521) 0), (.str ⟨#[47, 99, 108, 97, 105, 109, 47, 99, 117, 116, 46, 112, 121]⟩ 1263)]), #[]⟩)]
def KL (w : World) : PySem.W.Frag := KL0 w ++ KL1 w ++ KL2 w ++ KL3 w ++ KL4 w ++ KL5 w ++ KL6 w ++ KL7 w ++ KL8 w ++ KL9 w ++ KL10 w
def asL : List Addr := [3, 31, 30, 51, 50, 63, 62, 75, 74, 94, 93, 114, 113, 134, 133, 154, 153, 287, 286, 657, 656, 162, 164, 163, 169, 171, 170, 176, 178, 177, 181, 183, 182, 186, 188, 187, 191, 193, 192, 196, 198, 197, 203, 205, 204, 210, 212, 211, 217, 219, 218, 224, 226, 225, 231, 233, 232, 238, 240, 239, 254, 256, 249, 248, 255, 268, 270, 269, 296, 298, 297, 301, 303, 302, 308, 310, 309, 315, 317, 316, 322, 324, 323, 329, 331, 330, 334, 336, 335, 341, 343, 342, 346, 348, 347, 368, 370, 369, 375, 377, 376, 382, 384, 383, 387, 389, 388, 394, 396, 395, 401, 403, 402, 408, 410, 409, 417, 419, 412, 411, 418, 426, 428, 421, 420, 427, 435, 437, 430, 429, 436, 440, 442, 441, 445, 447, 446, 452, 454, 453, 459, 461, 460, 466, 468, 467, 473, 475, 474, 478, 480, 479, 483, 485, 484, 513, 515, 508, 507, 514, 540, 542, 537, 541, 548, 550, 543, 549, 555, 557, 556, 563, 565, 558, 564, 570, 572, 571, 577, 579, 578, 582, 584, 583, 603, 605, 604, 610, 612, 611, 617, 619, 618, 624, 626, 625, 631, 633, 632, 638, 640, 639, 645, 647, 646, 652, 654, 653, 666, 668, 667, 673, 675, 674, 680, 682, 681, 687, 689, 688, 694, 696, 695, 701, 703, 702, 706, 708, 707, 711, 713, 712, 718, 720, 719, 725, 727, 726, 730, 732, 731, 737, 739, 738, 744, 746, 745, 749, 751, 750, 754, 756, 755, 761, 763, 762, 768, 770, 769, 775, 777, 776, 780, 782, 781, 785, 787, 786, 790, 792, 791]
def tabA : List Addr := []
def emB (g : Addr → Option Obj) (a : Addr) : Bool := match g a with
  | some o => He.emptyTab o
  | none => false
def fnWs (w : World) (xs : List He.DefD) : List He.FnW := xs.map fun d => He.fnW (KL w) d.at_
theorem ka0 (w : World) : (fa0.all fun f => f.ok (KL w)) = true := by
  kernel_rfl
theorem ka1 (w : World) : (fa1.all fun f => f.ok (KL w)) = true := by
  kernel_rfl
theorem ka2 (w : World) : (fa2.all fun f => f.ok (KL w)) = true := by
  kernel_rfl
theorem ka3 (w : World) : (fa3.all fun f => f.ok (KL w)) = true := by
  kernel_rfl
theorem ka4 (w : World) : (fa4.all fun f => f.ok (KL w)) = true := by
  kernel_rfl
theorem kb0 (w : World) : (fn0.all fun d => d.ok (KL w)) = true := by
  kernel_rfl
theorem kc0 (w : World) : fnWs w fn0 = fn0.map He.DefD.val := by
  kernel_rfl
theorem kb1 (w : World) : (fn1.all fun d => d.ok (KL w)) = true := by
  kernel_rfl
theorem kc1 (w : World) : fnWs w fn1 = fn1.map He.DefD.val := by
  kernel_rfl
theorem kb2 (w : World) : (fn2.all fun d => d.ok (KL w)) = true := by
  kernel_rfl
theorem kc2 (w : World) : fnWs w fn2 = fn2.map He.DefD.val := by
  kernel_rfl
theorem kx (w : World) : U.exOk exs (KL w) = true := by
  kernel_rfl
theorem kt (w : World) : (tf.all fun p => PySem.W.codeHdIn (KL w) (He.cT (KL w) p).1 (He.cT (KL w) p).2) = true := by
  kernel_rfl
theorem kt2 (w : World) : tf.map (fun p => (He.cT (KL w) p).2) = tabA := by
  kernel_rfl
theorem kt3 (w : World) : (tabA.all fun a => ((KL w).lookup a).isNone) = true := by
  kernel_rfl
theorem all_app {α : Type} {p : α → Bool} {xs ys : List α} (h1 : xs.all p = true) (h2 : ys.all p = true) : (xs ++ ys).all p = true := by rw [List.all_append, h1, h2]; rfl
theorem map_app {w : World} {xs ys : List He.DefD} (h1 : fnWs w xs = xs.map He.DefD.val) (h2 : fnWs w ys = ys.map He.DefD.val) : fnWs w (xs ++ ys) = (xs ++ ys).map He.DefD.val := by
  unfold fnWs at *
  rw [List.map_append, List.map_append, h1, h2]
theorem fa_ok (w : World) : (fa.all fun f => f.ok (KL w)) = true := (all_app ((all_app ((all_app ((all_app (ka0 w) (ka1 w))) (ka2 w))) (ka3 w))) (ka4 w))
theorem fn_ok (w : World) : (fn.all fun d => d.ok (KL w)) = true := (all_app ((all_app (kb0 w) (kb1 w))) (kb2 w))
theorem fn_val (w : World) : fnWs w fn = fn.map He.DefD.val := (map_app ((map_app (kc0 w) (kc1 w))) (kc2 w))
theorem kl_t (w : World) : He.SaysT fa fn [] w (KL w) := by
  show (((fa.all fun f => f.ok (KL w)) && fn.all fun d => d.ok (KL w), fnWs w fn), ([] : List (Option (List (Option (PySem.Str × Int)))))) = ((true, fn.map He.DefD.val), [])
  rw [fa_ok, fn_ok, fn_val] <;> rfl
theorem kl_says (w : World) {h : Heap} (e : (tabA.all (emB h.get?)) = true) : He.SaysX fa fn [] tf (U.exOk exs) w h (KL w) := by
  have inA : ∀ p ∈ tf, (He.cT (KL w) p).2 ∈ tabA := fun p hp => by
    rw [← kt2 w]
    exact List.mem_map.mpr ⟨p, hp, rfl⟩
  refine ⟨kl_t w, kx w, fun p hp => List.all_eq_true.mp (kt w) p hp, fun p hp => ?_, fun p hp => ?_⟩
  · exact Option.isNone_iff_eq_none.mp (List.all_eq_true.mp (kt3 w) _ (inA p hp))
  · have q := List.all_eq_true.mp e _ (inA p hp)
    unfold emB at q
    split at q
    · rename_i o ho
      rw [ho, He.emptyTab_eq q]
    · cases q
abbrev hk : PySem.W.Hook where
  α := PySem.W.Frag × Bool
  obs := fun s => (He.frT s.heap.get? asL, tabA.all (emB s.heap.get?))
  val := fun w => (KL w, true)
  says := fun w h => ∃ K : PySem.W.Frag, K.In h ∧ He.SaysX fa fn [] tf (U.exOk exs) w h K
  of := fun w s e => ⟨KL w, by rw [← show He.frT s.heap.get? asL = KL w from congrArg (·.1) e]; exact He.frT_in, kl_says w (congrArg (·.2) e)⟩
  keeps := fun _ _ _ ⟨K, hK, c⟩ k => ⟨K, PySem.W.Frag.In.keeps hK k, ⟨c.t, c.more, c.hd, c.out, fun p hp => k _ _ (c.empty p hp)⟩⟩
def ob (s : PySem.W.SharedT) : PySem.W.Frag × Bool := (He.frT (HandSHeadRun.getT s) asL, tabA.all (emB (HandSHeadRun.getT s)))
section
open PySem PySem.W PySem.Calls PyProof.Rows HandSHeadRun
theorem run1 (w : World) (os : OsState) : (HandSHeadRun.endF (stepQ (denQ tabQ) RR.prog w) 8000 RR.prog w os).map (fun s => looksF RR.prog (boot_heap w.params) s.abs) = some true := by
  kernel_rfl
theorem run2 (w : World) (os : OsState) : (HandSHeadRun.endF (stepQ (denQ tabQ) RR.prog w) 8000 RR.prog w os).map (fun s => seenQ (PySem.W.view RR.prog [97]) loose (importedModules RR.prog.main.body) (fun s => xlAt (PySem.W.view RR.prog [97]) [] s && recOk RR.toRowW.records s) s.abs) = some (openGood (PySem.W.view RR.prog [97]) loose) := by
  kernel_rfl
theorem run3 (w : World) (os : OsState) : (HandSHeadRun.endF (stepQ (denQ tabQ) RR.prog w) 8000 RR.prog w os).map (fun s => ob s) = some (KL w, true) := by
  kernel_rfl
theorem split3 {α β γ δ : Type} {x : Option α} {f : α → β} {g : α → γ} {h : α → δ} {b : β} {c : γ} {d : δ} (hf : x.map f = some b) (hg : x.map g = some c) (hh : x.map h = some d) : x.map (fun s => (f s, g s, h s)) = some (b, c, d) := by
  cases x with
  | none => cases hf
  | some a => cases hf; cases hg; cases hh; rfl
theorem run (w : World) : HandSHeadRun.RunEq RR (PySem.W.view RR.prog [97]) hk ob 8000 loose w := fun os => split3 (run1 w os) (run2 w os) (run3 w os)
end
end Hd
set_option Elab.async false
set_option linter.all false
set_option maxRecDepth 100000
set_option maxHeartbeats 4000000
namespace U
open PySem PySem.Spec PyProof.Rows L2

def askd : List String := ["int", "bool", "str", "tuple", "list"]
structure IsiC (K : PySem.W.Frag) (C : Addr) : Prop where
  cl : Cls K C
  own : PySem.W.findIn K (.ref C) "__class__" = some (some (.builtin "object.__class__"))
  get : PySem.W.specialIn K (.builtin "object.__class__") "__get__" = some (some (.builtin "getset_descriptor.__get__"))
  tks : PySem.W.takesIn K (.builtin "object.__class__") = some true
  obj : PySem.W.mroIn K C (.type "object") = some true
  no : ∀ T ∈ askd, PySem.W.kitOne K (.ref C) (.type T) = some false
inductive D where
  | non | bl (b : Bool) | int (i : Int) | str (x : Str) | tup (xs : List D) | ref (n : Nat)
inductive Ob where
  | lst (xs : List D)
  | rol (xs : List D)
  | fzt (xs : List D)
  | tab (n : Str × Option Str) (q : Str)
  | exc (p : Addr) (d : Option Addr) (cl : Value) (c : Str) (fs : List (Str × D))
  | kst (xs : List D)
  | ins (c : Str) (fs : List (Str × D))
  | dct (kvs : List (D × D))
  | dcl (kvs : List (D × D))
abbrev Sto := List Ob
abbrev Pl := List Addr

mutual
inductive RV (K : PySem.W.Frag) (H : Hp) (m : Pl) : D → V → Prop
  | non : RV K H m .non .non
  | bl {b} : RV K H m (.bl b) (.bl b)
  | int {i} : RV K H m (.int i) (.int i)
  | str {x} : RV K H m (.str x) (.str x)
  | tup {xs a vs} : SqT K H a vs → RVs K H m xs vs → RV K H m (.tup xs) (.ref a)
  | ref {n a} : m[n]? = some a → RV K H m (.ref n) (.ref a)
inductive RVs (K : PySem.W.Frag) (H : Hp) (m : Pl) : List D → List V → Prop
  | nil : RVs K H m [] []
  | cons {d ds v vs} : RV K H m d v → RVs K H m ds vs → RVs K H m (d :: ds) (v :: vs)
end

structure Ext (H H' : Hp) : Prop where
  tups : ∀ b xs, H b = some (.tup xs) → H' b = some (.tup xs)
  frzs : ∀ b o u, H b = some (.frz o u) → H' b = some (.frz o u)
  cods : ∀ b q, H b = some (LamX.CodeO b q) → H' b = some (LamX.CodeO b q)
  xds : ∀ b fs, H b = some (.xd fs) → H' b = some (.xd fs)
theorem Ext.refl (H : Hp) : Ext H H := ⟨fun _ _ h => h, fun _ _ _ h => h, fun _ _ h => h, fun _ _ h => h⟩
theorem Ext.trans {H H1 H2 : Hp} (a : Ext H H1) (b : Ext H1 H2) : Ext H H2 := ⟨fun c xs h => b.tups c xs (a.tups c xs h), fun c o u h => b.frzs c o u (a.frzs c o u h), fun c q h => b.cods c q (a.cods c q h), fun c fs h => b.xds c fs (a.xds c fs h)⟩
theorem Ext.new {H : Hp} {p : Addr} {o : HO} (h : H p = none) : Ext H (upd H p o) :=
  ⟨fun b xs e => by rw [upd_ne (ne_of_none e h)]; exact e, fun b o u e => by rw [upd_ne (ne_of_none e h)]; exact e, fun b q e => by rw [upd_ne (ne_of_none e h)]; exact e, fun b q e => by rw [upd_ne (ne_of_none e h)]; exact e⟩
theorem Ext.sqT {K : PySem.W.Frag} {H H' : Hp} {a : Addr} {xs : List V} (e : Ext H H') (h : SqT K H a xs) : SqT K H' a xs := by
  rcases h with (h | ⟨o, h⟩) | h
  · exact .inl (.inl (e.tups _ _ h))
  · exact .inl (.inr ⟨o, e.frzs _ _ _ h⟩)
  · exact .inr h
section
variable {K : PySem.W.Frag} {H H' : Hp} {m m' : Pl}
theorem pre_get {m m' : Pl} (p : m <+: m') {n : Nat} {a : Addr} (h : m[n]? = some a) : m'[n]? = some a := by
  obtain ⟨t, rfl⟩ := p
  rw [List.getElem?_append_left (List.getElem?_eq_some_iff.mp h).1]
  exact h
mutual
theorem RV.mono (e : Ext H H') (p : m <+: m') : ∀ {d : D} {v : V}, RV K H m d v → RV K H' m' d v
  | .non, _, h => by cases h; exact .non
  | .bl _, _, h => by cases h; exact .bl
  | .int _, _, h => by cases h; exact .int
  | .str _, _, h => by cases h; exact .str
  | .tup xs, _, h => by
    cases h with
    | tup h1 h2 => exact .tup (e.sqT h1) (RVs.mono e p h2)
  | .ref _, _, h => by
    cases h with
    | ref h1 => exact .ref (pre_get p h1)
theorem RVs.mono (e : Ext H H') (p : m <+: m') : ∀ {ds : List D} {vs : List V}, RVs K H m ds vs → RVs K H' m' ds vs
  | [], _, h => by cases h; exact .nil
  | _ :: _, _, h => by
    cases h with
    | cons h1 h2 => exact .cons (RV.mono e p h1) (RVs.mono e p h2)
end
theorem RVs.length : ∀ {ds : List D} {vs : List V}, RVs K H m ds vs → ds.length = vs.length
  | [], _, h => by cases h; rfl
  | _ :: _, _, h => by
    cases h with
    | cons h1 h2 => simp [RVs.length h2]
theorem RVs.get : ∀ {ds : List D} {vs : List V} {i : Nat} {d : D}, RVs K H m ds vs → ds[i]? = some d → ∃ v, vs[i]? = some v ∧ RV K H m d v
  | [], _, _, _, _, e => by simp at e
  | x :: xs, _, i, d, h, e => by
    cases h with
    | @cons _ _ v vs h1 h2 =>
      cases i with
      | zero => simp at e; subst e; exact ⟨v, rfl, h1⟩
      | succ i => simpa using RVs.get h2 (by simpa using e)
theorem RVs.getv : ∀ {ds : List D} {vs : List V} {i : Nat} {v : V}, RVs K H m ds vs → vs[i]? = some v → ∃ d, ds[i]? = some d ∧ RV K H m d v
  | [], _, _, _, h, e => by cases h; simp at e
  | x :: xs, _, i, v, h, e => by
    cases h with
    | @cons _ _ w vs h1 h2 =>
      cases i with
      | zero => simp at e; subst e; exact ⟨x, rfl, h1⟩
      | succ i => simpa using RVs.getv h2 (by simpa using e)
theorem RVs.append : ∀ {ds es : List D} {vs ws : List V}, RVs K H m ds vs → RVs K H m es ws → RVs K H m (ds ++ es) (vs ++ ws)
  | [], _, _, _, h, g => by cases h; exact g
  | _ :: _, _, _, _, h, g => by
    cases h with
    | cons h1 h2 => exact .cons h1 (RVs.append h2 g)
theorem RVs.one {d : D} {v : V} (h : RV K H m d v) : RVs K H m [d] [v] := .cons h .nil
theorem RVs.drop : ∀ {ds : List D} {vs : List V} (n : Nat), RVs K H m ds vs → RVs K H m (ds.drop n) (vs.drop n)
  | _, _, 0, h => h
  | [], _, _ + 1, h => by cases h; exact .nil
  | _ :: _, _, n + 1, h => by
    cases h with
    | cons h1 h2 => exact RVs.drop n h2
theorem RVs.take : ∀ {ds : List D} {vs : List V} (n : Nat), RVs K H m ds vs → RVs K H m (ds.take n) (vs.take n)
  | _, _, 0, h => .nil
  | [], _, _ + 1, h => by cases h; exact .nil
  | _ :: _, _, n + 1, h => by
    cases h with
    | cons h1 h2 => exact .cons h1 (RVs.take n h2)
theorem RVs.set {d : D} {v : V} (r : RV K H m d v) : ∀ {ds : List D} {vs : List V} (n : Nat), RVs K H m ds vs → RVs K H m (ds.set n d) (vs.set n v)
  | [], _, _, h => by cases h; exact .nil
  | _ :: _, _, 0, h => by
    cases h with
    | cons h1 h2 => exact .cons r h2
  | _ :: _, _, n + 1, h => by
    cases h with
    | cons h1 h2 => exact .cons h1 (RVs.set r n h2)
end

mutual
def keyD : D → Option NestedKey
  | .non => some .none
  | .bl b => some (.num (if b = true then 1 else 0))
  | .int i => some (.num i)
  | .tup xs => (keysD xs).map .tup
  | .str _ => none
  | .ref _ => none
def keysD : List D → Option (List NestedKey)
  | [] => some []
  | d :: ds => match keyD d, keysD ds with
    | some k, some ks => some (k :: ks)
    | _, _ => none
end
abbrev DEn := NestedKey × Addr × Value
def dObj (a : Addr) (xs : List DEn) : HO := .ext fun h => ∃ (w0 : World) (o : Obj) (es : Array DictEntry) (ep : Nat), h.get? a = some o ∧ o.ExactDict ∧ o.data = .dict es ep ∧ es.toList = xs.map fun x => ⟨x.1.hash w0, .ref x.2.1, x.2.2⟩
structure DR (K : PySem.W.Frag) (H : Hp) (m : Pl) (a : Addr) (kvs : List (D × D)) (xs : List DEn) (vs : List V) : Prop where
  sys : (a == sysModules) = false
  at_ : H a = some (dObj a xs)
  nd : (xs.map (·.1)).Nodup
  key : kvs.map (fun p => keyD p.1) = xs.map (fun x => some x.1)
  dep : ∀ x ∈ xs, x.1.depth ≤ 8
  rk : RVs K H m (kvs.map (·.1)) (xs.map fun x => V.ref x.2.1)
  rv : RVs K H m (kvs.map (·.2)) vs
  vv : Vals vs (xs.map (·.2.2))
  len : kvs.length ≤ sizeLine
def ObjD (o : Obj) (xs : List DEn) : Prop := o.ExactDict ∧ ∃ (w0 : World) (es : Array DictEntry) (ep : Nat), o.data = .dict es ep ∧ es.toList = xs.map fun x => ⟨x.1.hash w0, .ref x.2.1, x.2.2⟩
structure DL (K : PySem.W.Frag) (H : Hp) (m : Pl) (a : Addr) (o : Obj) (kvs : List (D × D)) (xs : List DEn) (vs : List V) : Prop where
  sys : (a == sysModules) = false
  at_ : H a = some (.frz o (dObj a xs))
  obj : ObjD o xs
  nd : (xs.map (·.1)).Nodup
  key : kvs.map (fun p => keyD p.1) = xs.map (fun x => some x.1)
  dep : ∀ x ∈ xs, x.1.depth ≤ 8
  rk : RVs K H m (kvs.map (·.1)) (xs.map fun x => V.ref x.2.1)
  rv : RVs K H m (kvs.map (·.2)) vs
  vv : Vals vs (xs.map (·.2.2))
  len : kvs.length ≤ sizeLine
def XR (K : PySem.W.Frag) (H : Hp) (m : Pl) (fs : List (Str × D)) (dO : Option Addr) : Prop :=
  (fs = [] ∧ dO = none) ∨ ∃ dd vfs, dO = some dd ∧ H dd = some (.xd vfs) ∧ vfs.map (·.1) = fs.map (·.1) ∧ RVs K H m (fs.map (·.2)) (vfs.map (·.2))
def OR (K : PySem.W.Frag) (H : Hp) (m : Pl) (a : Addr) : Ob → Prop
  | .lst xs => ∃ vs, H a = some (.lst vs) ∧ RVs K H m xs vs
  | .rol xs => ∃ o vs, H a = some (.frz o (.lst vs)) ∧ RVs K H m xs vs
  | .fzt xs => ∃ o vs, H a = some (.frz o (.tup vs)) ∧ RVs K H m xs vs ∧ o.dict = none
  | .tab n q => a = (He.cT K n).2 ∧ LamX.TabS H a q
  | .exc p d cl c fs => a = p ∧ cl = .ref (He.ga K c) ∧ XR K H m fs d
  | .kst xs => ∃ vs, (∀ H', SqL K H' a vs) ∧ RVs K H m xs vs
  | .ins c fs => ∃ dx vfs, H a = some (.ins (He.ga K c) dx vfs) ∧ vfs.map (·.1) = fs.map (·.1) ∧ RVs K H m (fs.map (·.2)) (vfs.map (·.2)) ∧ fs.length < 500 ∧ IsiC K (He.ga K c)
  | .dct kvs => ∃ xs vs, DR K H m a kvs xs vs
  | .dcl kvs => ∃ o xs vs, DL K H m a o kvs xs vs
def Ob.trk : Ob → Bool
  | .kst _ => false
  | .exc _ _ _ _ _ => false
  | _ => true
structure SR (K : PySem.W.Frag) (H : Hp) (m : Pl) (st : Sto) : Prop where
  len : m.length = st.length
  nd : ∀ (i j : Nat) (a : Addr) (o o' : Ob), m[i]? = some a → m[j]? = some a → st[i]? = some o → st[j]? = some o' → o.trk = true → o'.trk = true → i = j
  ob : ∀ (i : Nat) (a : Addr) (o : Ob), m[i]? = some a → st[i]? = some o → OR K H m a o
section
variable {K : PySem.W.Frag} {H H' : Hp} {m m' : Pl} {st : Sto}
theorem OR.tracked {a : Addr} {o : Ob} (h : OR K H m a o) (t : o.trk = true) : ∃ u, H a = some u ∧ ∀ xs, u ≠ .tup xs := by
  cases o with
  | lst xs => obtain ⟨vs, h, _⟩ := h; exact ⟨_, h, fun _ e => by cases e⟩
  | rol xs => obtain ⟨o, vs, h, _⟩ := h; exact ⟨_, h, fun _ e => by cases e⟩
  | fzt xs => obtain ⟨o, vs, h, _⟩ := h; exact ⟨_, h, fun _ e => by cases e⟩
  | tab P q => obtain ⟨_, ps, h, _⟩ := h; exact ⟨_, h, fun _ e => by cases e⟩
  | exc p d cl c fs => cases t
  | kst xs => cases t
  | ins c fs => obtain ⟨dx, vfs, h, _⟩ := h; exact ⟨_, h, fun _ e => by cases e⟩
  | dct kvs => obtain ⟨xs, vs, h⟩ := h; exact ⟨_, h.at_, fun _ e => by cases e⟩
  | dcl kvs => obtain ⟨o, xs, vs, h⟩ := h; exact ⟨_, h.at_, fun _ e => by cases e⟩
theorem OR.mono {a : Addr} {o : Ob} (e : Ext H H') (p : m <+: m') (k : o.trk = true → ∀ u, H a = some u → H' a = some u) (h : OR K H m a o) : OR K H' m' a o := by
  cases o with
  | lst xs => obtain ⟨vs, h, r⟩ := h; exact ⟨vs, k rfl _ h, r.mono e p⟩
  | rol xs => obtain ⟨o, vs, h, r⟩ := h; exact ⟨o, vs, k rfl _ h, r.mono e p⟩
  | fzt xs => obtain ⟨o, vs, h, r, hd⟩ := h; exact ⟨o, vs, k rfl _ h, r.mono e p, hd⟩
  | tab P q => obtain ⟨ha, ps, h, h2, h3⟩ := h; exact ⟨ha, ps, k rfl _ h, h2, fun pos cv hc => let ⟨c, e1, e2⟩ := h3 pos cv hc; ⟨c, e1, e.cods c q e2⟩⟩
  | exc q d cl c fs => obtain ⟨h1, h2, h3⟩ := h; exact ⟨h1, h2, h3.elim (fun z => .inl z) fun ⟨dd, vfs, z1, z2, z3, z4⟩ => .inr ⟨dd, vfs, z1, e.xds _ _ z2, z3, z4.mono e p⟩⟩
  | kst xs => obtain ⟨vs, h, r⟩ := h; exact ⟨vs, h, r.mono e p⟩
  | ins c fs => obtain ⟨dx, vfs, h, h2, r, l⟩ := h; exact ⟨dx, vfs, k rfl _ h, h2, r.mono e p, l⟩
  | dct kvs => obtain ⟨xs, vs, h⟩ := h; exact ⟨xs, vs, h.sys, k rfl _ h.at_, h.nd, h.key, h.dep, h.rk.mono e p, h.rv.mono e p, h.vv, h.len⟩
  | dcl kvs => obtain ⟨o, xs, vs, h⟩ := h; exact ⟨o, xs, vs, h.sys, k rfl _ h.at_, h.obj, h.nd, h.key, h.dep, h.rk.mono e p, h.rv.mono e p, h.vv, h.len⟩
theorem SR.at (s : SR K H m st) {i : Nat} {o : Ob} (h : st[i]? = some o) : ∃ a, m[i]? = some a ∧ OR K H m a o := by
  have hi : i < m.length := by rw [s.len]; exact (List.getElem?_eq_some_iff.mp h).1
  exact ⟨m[i], by simp [hi], s.ob i _ o (by simp [hi]) h⟩
theorem SR.ext (s : SR K H m st) (e : Ext H H') (k : ∀ a ∈ m, ∀ u, H a = some u → H' a = some u) : SR K H' m st :=
  ⟨s.len, s.nd, fun i a o h1 h2 => (s.ob i a o h1 h2).mono e (List.prefix_refl m) fun _ => k a (List.mem_of_getElem? h1)⟩
theorem SR.tup (s : SR K H m st) {p : Addr} {o : HO} (h : H p = none) : SR K (upd H p o) m st :=
  s.ext (.new h) fun a ha u e => by rw [upd_ne (ne_of_none e h)]; exact e
theorem SR.new (s : SR K H m st) {p : Addr} {o : HO} {ob : Ob} (h : H p = none) (n : OR K (upd H p o) (m ++ [p]) p ob) : SR K (upd H p o) (m ++ [p]) (st ++ [ob]) := by
  have look : ∀ {i : Nat} {a : Addr} {q : Ob}, (m ++ [p])[i]? = some a → (st ++ [ob])[i]? = some q → (m[i]? = some a ∧ st[i]? = some q) ∨ (i = m.length ∧ a = p ∧ q = ob) := by
    intro i a q h1 h2
    by_cases hi : i < m.length
    · rw [List.getElem?_append_left hi] at h1
      rw [List.getElem?_append_left (by rw [← s.len]; exact hi)] at h2
      exact .inl ⟨h1, h2⟩
    · have hl : i < (m ++ [p]).length := (List.getElem?_eq_some_iff.mp h1).1
      have hi' : i = m.length := by simp at hl; omega
      subst hi'
      simp at h1
      rw [s.len] at h2
      simp at h2
      exact .inr ⟨rfl, h1.symm, h2.symm⟩
  have off : ∀ {i : Nat} {q : Ob}, m[i]? = some p → st[i]? = some q → q.trk = true → False := fun {i q} h1 h2 t => by
    obtain ⟨u, e, _⟩ := (s.ob i p q h1 h2).tracked t
    rw [h] at e
    cases e
  refine ⟨by simp [s.len], fun i j a oi oj hi hj hoi hoj ti tj => ?_, fun i a q h1 h2 => ?_⟩
  · rcases look hi hoi with ⟨x1, x2⟩ | ⟨x1, x2, x3⟩
    · rcases look hj hoj with ⟨y1, y2⟩ | ⟨y1, y2, y3⟩
      · exact s.nd i j a oi oj x1 y1 x2 y2 ti tj
      · subst y2; exact (off x1 x2 ti).elim
    · rcases look hj hoj with ⟨y1, y2⟩ | ⟨y1, y2, y3⟩
      · subst x2; exact (off y1 y2 tj).elim
      · omega
  · by_cases hi : i < m.length
    · rw [List.getElem?_append_left hi] at h1
      rw [List.getElem?_append_left (by rw [← s.len]; exact hi)] at h2
      exact (s.ob i a q h1 h2).mono (.new h) (List.prefix_append m [p]) fun _ u e => by rw [upd_ne (ne_of_none e h)]; exact e
    · have hl : i < (m ++ [p]).length := (List.getElem?_eq_some_iff.mp h1).1
      have hi' : i = m.length := by simp at hl; omega
      subst hi'
      simp at h1
      rw [s.len] at h2
      simp at h2
      subst h1 h2
      exact n
theorem no_tup_code {a : Addr} {xs : List DEn} {q : Str} : dObj a xs ≠ LamX.CodeO a q := fun z => by
  have mk : ∀ n : Nat, ∃ h : Heap, h.objs.size = n := fun n => by
    induction n with
    | zero => exact ⟨{}, rfl⟩
    | succ n ih =>
      obtain ⟨h, e⟩ := ih
      exact ⟨h.push { cls := .none, data := .fields #[] }, by rw [Heap.size_push, e]⟩
  obtain ⟨h, hs⟩ := mk a
  have ha : (h.push { cls := .none, data := .fields #[.none, .str q 0] }).get? a = some { cls := .none, data := .fields #[.none, .str q 0] } := by
    have := Heap.get?_push_size h (o := { cls := .none, data := .fields #[.none, .str q 0] }) rfl
    rwa [hs] at this
  unfold dObj LamX.CodeO at z
  injection z with z
  have z2 := congrFun z (h.push { cls := .none, data := .fields #[.none, .str q 0] })
  have t : ∃ (oc : Obj) (vs : Array Value) (t : Tok), (h.push { cls := .none, data := .fields #[.none, .str q 0] }).get? a = some oc ∧ oc.data = .fields vs ∧ vs[1]? = some (.str q t) := ⟨_, _, 0, ha, rfl, rfl⟩
  rw [← z2] at t
  obtain ⟨_, o, es, ep, e1, _, e2, _⟩ := t
  rw [ha] at e1
  cases e1
  cases e2
theorem Ext.write {p : Addr} {o u : HO} (h : H p = some u) (h1 : ∀ xs, u ≠ .tup xs) (h2 : ∀ o' w, u ≠ .frz o' w) (h3 : ∀ q, u ≠ LamX.CodeO p q := by first | exact fun _ z => by unfold LamX.CodeO at z; cases z | exact fun _ => U.no_tup_code) (h4 : ∀ fs, u ≠ .xd fs := by first | exact fun _ z => by cases z | exact fun _ z => by unfold U.dObj at z; cases z) : Ext H (upd H p o) :=
  ⟨fun b xs e => by rw [upd_ne (ne_of e h fun z => h1 xs z.symm)]; exact e, fun b o w e => by rw [upd_ne (ne_of e h fun z => h2 o w z.symm)]; exact e, fun b q e => by
    by_cases hb : b = p
    · subst hb
      rw [h] at e
      exact absurd (Option.some.inj e) (h3 q)
    · rw [upd_ne hb]
      exact e, fun b fs e => by rw [upd_ne (ne_of e h fun z => h4 fs z.symm)]; exact e⟩
theorem SR.write (s : SR K H m st) {i : Nat} {p : Addr} {o u : HO} {ob o0 : Ob} (hi : m[i]? = some p) (h0 : st[i]? = some o0) (t0 : o0.trk = true) (h : H p = some u) (h1 : ∀ xs, u ≠ .tup xs) (h2 : ∀ o' w, u ≠ .frz o' w)
    (n : OR K (upd H p o) m p ob) (h3 : ∀ q, u ≠ LamX.CodeO p q := by first | exact fun _ z => by unfold LamX.CodeO at z; cases z | exact fun _ => U.no_tup_code) (h4 : ∀ fs, u ≠ .xd fs := by first | exact fun _ z => by cases z | exact fun _ z => by unfold U.dObj at z; cases z) : SR K (upd H p o) m (st.set i ob) := by
  have back : ∀ {j : Nat} {q : Ob}, (st.set i ob)[j]? = some q → (j = i ∧ q = ob) ∨ (j ≠ i ∧ st[j]? = some q) := by
    intro j q e
    by_cases hj : j = i
    · subst hj
      rw [List.getElem?_set_self (List.getElem?_eq_some_iff.mp h0).1] at e
      cases e
      exact .inl ⟨rfl, rfl⟩
    · rw [List.getElem?_set_ne (Ne.symm hj)] at e
      exact .inr ⟨hj, e⟩
  refine ⟨by simp [s.len], fun j k a oj ok hj hk hoj hok tj tk => ?_, fun j a q e1 e2 => ?_⟩
  · rcases back hoj with ⟨x1, x2⟩ | ⟨x1, x2⟩
    · rcases back hok with ⟨y1, y2⟩ | ⟨y1, y2⟩
      · omega
      · subst x1; exact s.nd j k a o0 ok hj hk h0 y2 t0 tk
    · rcases back hok with ⟨y1, y2⟩ | ⟨y1, y2⟩
      · subst y1; exact s.nd j k a oj o0 hj hk x2 h0 tj t0
      · exact s.nd j k a oj ok hj hk x2 y2 tj tk
  · rcases back e2 with ⟨x1, x2⟩ | ⟨x1, x2⟩
    · subst x1 x2
      rw [hi] at e1; cases e1
      exact n
    · refine (s.ob j a q e1 x2).mono (.write h h1 h2 h3 h4) (List.prefix_refl m) fun tq w e => ?_
      have ne : a ≠ p := fun z => x1 (s.nd j i a q o0 e1 (z ▸ hi) x2 h0 tq t0)
      rw [upd_ne ne]; exact e
end

abbrev Ev := List (Option D)
structure RE (K : PySem.W.Frag) (H : Hp) (m : Pl) (env : Ev) (σ : L2.St) : Prop where
  len : env.length = σ.length
  at_ : ∀ (i : Nat) (d : D), env[i]? = some (some d) → ∃ v, σ[i]? = some (some v) ∧ RV K H m d v
section
variable {K : PySem.W.Frag} {H H' : Hp} {m m' : Pl} {env : Ev} {σ : L2.St}
theorem RE.mono (r : RE K H m env σ) (e : Ext H H') (p : m <+: m') : RE K H' m' env σ :=
  ⟨r.len, fun i d h => let ⟨v, h1, h2⟩ := r.at_ i d h; ⟨v, h1, h2.mono e p⟩⟩
theorem RE.set (r : RE K H m env σ) {i : Nat} {d : D} {v : V} (h : RV K H m d v) : RE K H m (env.set i (some d)) (σ.set i (some v)) := by
  refine ⟨by simp [r.len], fun j x e => ?_⟩
  by_cases hj : i = j
  · subst hj
    by_cases hl : i < env.length
    · rw [List.getElem?_set_self hl] at e
      cases e
      exact ⟨v, by rw [List.getElem?_set_self (by rw [← r.len]; exact hl)], h⟩
    · rw [List.getElem?_eq_none (by simp; omega)] at e
      cases e
  · rw [List.getElem?_set_ne hj] at e ⊢
    exact r.at_ j x e
end

inductive R (α : Type) where
  | ok (a : α) (st : Sto)
  | err (c : Str) (fs : List (Str × D)) (st : Sto)
  | fail
def R.bind {α β : Type} (r : R α) (f : α → Sto → R β) : R β := match r with
  | .ok a st => f a st
  | .err c fs st => .err c fs st
  | .fail => .fail
inductive RS where
  | nx (env : Ev) (st : Sto)
  | rt (d : D) (st : Sto)
  | bk (env : Ev) (st : Sto)
  | ct (env : Ev) (st : Sto)
  | err (c : Str) (fs : List (Str × D)) (env : Ev) (st : Sto)
  | fail
def R.then {α : Type} (env : Ev) (r : R α) (f : α → Sto → RS) : RS := match r with
  | .ok a st => f a st
  | .err c fs st => .err c fs env st
  | .fail => .fail
abbrev EM := Ev → Sto → R D
abbrev TM := Ev → Sto → R Bool
abbrev AM := Ev → Sto → R (List D)
abbrev SM := Ev → Sto → RS
def Post {α β : Type} (K : PySem.W.Frag) (ok : Hp → Pl → α → β → Prop) (E : XK) (m : Pl) (H : Hp) (Q : β → Hp → Prop) : R α → Prop
  | .ok d st => ∀ v H' m', Ext H H' → m <+: m' → SR K H' m' st → ok H' m' d v → Q v H'
  | .err c fs st => ∀ dO H' m', Ext H H' → m <+: m' → SR K H' m' st → XR K H' m' fs dO → E (.ref (He.ga K c)) dO H'
  | .fail => False
def PostS (K : PySem.W.Frag) (W : WX) (m : Pl) (H : Hp) (Dn : Ends) : RS → Prop
  | .nx env st => ∀ σ H' m', Ext H H' → m <+: m' → SR K H' m' st → RE K H' m' env σ → Dn.nx σ H'
  | .rt d st => ∀ v H' m', Ext H H' → m <+: m' → SR K H' m' st → RV K H' m' d v → Dn.rt v H'
  | .bk env st => ∀ σ H' m', Ext H H' → m <+: m' → SR K H' m' st → RE K H' m' env σ → Dn.bk σ H'
  | .ct env st => ∀ σ H' m', Ext H H' → m <+: m' → SR K H' m' st → RE K H' m' env σ → Dn.ct σ H'
  | .err c fs env st => ∀ dO σ H' m', Ext H H' → m <+: m' → SR K H' m' st → XR K H' m' fs dO → RE K H' m' env σ → W (.ref (He.ga K c)) dO σ H'
  | .fail => False
abbrev okV (K : PySem.W.Frag) : Hp → Pl → D → V → Prop := fun H m d v => RV K H m d v
section
variable {K : PySem.W.Frag} {E : XK} {W : WX} {m m' : Pl} {H H' : Hp} {Dn : Ends} {σ : L2.St}
theorem Post.up {α β : Type} {ok : Hp → Pl → α → β → Prop} {Q : β → Hp → Prop} {r : R α} (h : Post K ok E m H Q r) (e : Ext H H') (p : m <+: m') : Post K ok E m' H' Q r := by
  cases r with
  | ok d st => exact fun v H2 m2 e2 p2 => h v H2 m2 (e.trans e2) (p.trans p2)
  | err c fs st => exact fun dO H2 m2 e2 p2 => h dO H2 m2 (e.trans e2) (p.trans p2)
  | fail => exact h
theorem PostS.up {r : RS} (h : PostS K W m H Dn r) (e : Ext H H') (p : m <+: m') : PostS K W m' H' Dn r := by
  cases r with
  | nx env st => exact fun v H2 m2 e2 p2 => h v H2 m2 (e.trans e2) (p.trans p2)
  | rt d st => exact fun v H2 m2 e2 p2 => h v H2 m2 (e.trans e2) (p.trans p2)
  | bk env st => exact fun v H2 m2 e2 p2 => h v H2 m2 (e.trans e2) (p.trans p2)
  | ct env st => exact fun v H2 m2 e2 p2 => h v H2 m2 (e.trans e2) (p.trans p2)
  | err c fs env st => exact fun dO v H2 m2 e2 p2 => h dO v H2 m2 (e.trans e2) (p.trans p2)
  | fail => exact h
theorem Post.bind {α β α' β' : Type} {ok : Hp → Pl → α → β → Prop} {ok' : Hp → Pl → α' → β' → Prop} {Q : β → Hp → Prop} {Q1 : β' → Hp → Prop} {r : R α'} {f : α' → Sto → R α} (h : Post K ok E m H Q (r.bind f))
    (k : ∀ d st v H' m', Ext H H' → m <+: m' → SR K H' m' st → ok' H' m' d v → Post K ok E m' H' Q (f d st) → Q1 v H') : Post K ok' E m H Q1 r := by
  cases r with
  | ok d st => exact fun v H2 m2 e2 p2 s2 r2 => k d st v H2 m2 e2 p2 s2 r2 (Post.up (r := f d st) h e2 p2)
  | err c fs st => exact h
  | fail => exact h
theorem PostS.bind {α' β' : Type} {ok' : Hp → Pl → α' → β' → Prop} {Q1 : β' → Hp → Prop} {r : R α'} {env : Ev} {f : α' → Sto → RS} (hE : RE K H m env σ) (h : PostS K W m H Dn (r.then env f))
    (k : ∀ d st v H' m', Ext H H' → m <+: m' → SR K H' m' st → ok' H' m' d v → PostS K W m' H' Dn (f d st) → Q1 v H') : Post K ok' (WE W σ) m H Q1 r := by
  cases r with
  | ok d st => exact fun v H2 m2 e2 p2 s2 r2 => k d st v H2 m2 e2 p2 s2 r2 (PostS.up (r := f d st) h e2 p2)
  | err c fs st => exact fun dO H2 m2 e2 p2 s2 r2 => h dO σ H2 m2 e2 p2 s2 r2 (hE.mono e2 p2)
  | fail => exact h
theorem Post.here {α β : Type} {ok : Hp → Pl → α → β → Prop} {Q : β → Hp → Prop} {d : α} {v : β} {st : Sto} (h : Post K ok E m H Q (.ok d st)) (s : SR K H m st) (r : ok H m d v) : Q v H :=
  h v H m (.refl H) (List.prefix_refl m) s r
end
theorem _root_.L2.PE.imp {X : Cx} {e : Expr} {t t' : TE} (h : PE X e t) (i : ∀ σ H Q, t' σ H Q → t σ H Q) : PE X e t' := ⟨fun pins s σ H Q I q => h.run pins s σ H Q I (i _ _ _ q)⟩
theorem _root_.L2.PT.imp {X : Cx} {e : Expr} {t t' : TT} (h : PT X e t) (i : ∀ σ H Q, t' σ H Q → t σ H Q) : PT X e t' := ⟨fun pins s σ H Q I q => h.run pins s σ H Q I (i _ _ _ q)⟩
theorem _root_.L2.PW.imp {X : Cx} {e : Expr} {t t' : TT} (h : PW X e t) (i : ∀ σ H Q, t' σ H Q → t σ H Q) : PW X e t' := ⟨fun wh pins s σ H Q I q => h.run wh pins s σ H Q I (i _ _ _ q)⟩
theorem _root_.L2.PA.imp {X : Cx} {e : List Expr} {t t' : TA} (h : PA X e t) (i : ∀ σ H Q, t' σ H Q → t σ H Q) : PA X e t' := ⟨fun pos pins s σ H Q I q => h.run pos pins s σ H Q I (i _ _ _ q)⟩
theorem _root_.L2.PS.imp {X : Cx} {e : Stmt} {t t' : TS} (h : PS X e t) (i : ∀ D σ H, t' D σ H → t D σ H) : PS X e t' := ⟨fun pins s σ H D I q => h.run pins s σ H D I (i _ _ _ q)⟩
theorem _root_.L2.PSs.imp {X : Cx} {e : List Stmt} {t t' : TS} (h : PSs X e t) (i : ∀ D σ H, t' D σ H → t D σ H) : PSs X e t' := ⟨fun pins s σ H D I q => h.run pins s σ H D I (i _ _ _ q)⟩
end U
set_option Elab.async false
set_option linter.all false
set_option maxRecDepth 100000
set_option maxHeartbeats 4000000
namespace U
open PySem PySem.Spec PyProof.Rows L2

def eVar (i : Nat) : EM := fun env st => match env[i]? with
  | some (some d) => .ok d st
  | _ => .fail
def eC (d : D) : EM := fun _ st => .ok d st
def eUn (f : D → Sto → R D) (a : EM) : EM := fun env st => (a env st).bind f
def eBin (f : D → D → Sto → R D) (a b : EM) : EM := fun env st => (a env st).bind fun x st => (b env st).bind fun y st => f x y st
def aNil : AM := fun _ st => .ok [] st
def aCons (a : EM) (r : AM) : AM := fun env st => (a env st).bind fun x st => (r env st).bind fun xs st => .ok (x :: xs) st
def eFn (f : List D → Sto → R D) (a : AM) : EM := fun env st => (a env st).bind f
def toB (d : D) (st : Sto) : R Bool := match d with
  | .bl b => .ok b st
  | _ => .fail
def tOf (g : EM) : TM := fun env st => (g env st).bind toB
def tAnd (a b : TM) : TM := fun env st => (a env st).bind fun c st => if c = true then b env st else .ok false st
def tOr (a b : TM) : TM := fun env st => (a env st).bind fun c st => if c = true then .ok true st else b env st
def tNot (a : TM) : TM := fun env st => (a env st).bind fun c st => .ok (!c) st
def eAnd (a b : EM) : EM := fun env st => (a env st).bind fun x st => match x with
  | .bl c => if c = true then b env st else .ok (.bl false) st
  | _ => .fail
def eOr (a b : EM) : EM := fun env st => (a env st).bind fun x st => match x with
  | .bl c => if c = true then .ok (.bl true) st else b env st
  | _ => .fail
def eNot (a : EM) : EM := fun env st => (a env st).bind fun x st => match x with
  | .bl c => .ok (.bl (!c)) st
  | _ => .fail
def eIf (c : TM) (a b : EM) : EM := fun env st => (c env st).bind fun k st => if k = true then a env st else b env st

section
variable {X : Cx} {W : WX} {a b c : Expr} {ga gb gc : EM} {es : List Expr} {gs : AM} {pos : Pos}
variable {ta tb tc : TM}
def most : Nat := 4000000
theorem most_lt {n : Nat} (h : n < most) : n < sizeLine := Nat.lt_of_lt_of_le h (by rw [sizeLine_eq]; decide)
def mkTup (ds : List D) (st : Sto) : R D := if ds.length ≤ most then .ok (.tup ds) st else .fail
def mkLst (ds : List D) (st : Sto) : R D := if ds.length ≤ most then .ok (.ref st.length) (st ++ [.lst ds]) else .fail
end
end U
set_option Elab.async false
set_option linter.all false
set_option maxRecDepth 100000
set_option maxHeartbeats 4000000
namespace U
open PySem PySem.Spec PyProof.Rows L2

def sSkip : SM := fun env st => .nx env st
def sSeq (a b : SM) : SM := fun env st => match a env st with
  | .nx env st => b env st
  | r => r
def sRet (g : EM) : SM := fun env st => (g env st).then env fun d st => .rt d st
def sIf (t : TM) (a b : SM) : SM := fun env st => (t env st).then env fun c st => if c = true then a env st else b env st
def sSet (i : Nat) (g : EM) : SM := fun env st => (g env st).then env fun d st => .nx (env.set i (some d)) st
def sExpr (g : EM) : SM := fun env st => (g env st).then env fun _ st => .nx env st
def sNever : SM := fun _ _ => .fail
section
variable {X : Cx} {W : WX} {a b c : Expr} {ga gb gc : EM} {tc : TM} {s1 s2 : SM} {st : Stmt} {rest : List Stmt} {pos : Pos}
abbrev GM := D → Ev → Sto → Option (Ev × Sto)
abbrev GMs := List D → Ev → Sto → Option (Ev × Sto)
def PostG (K : PySem.W.Frag) (m : Pl) (H : Hp) (Q : L2.St → Hp → Prop) : Option (Ev × Sto) → Prop
  | some (env, st) => ∀ σ H' m', Ext H H' → m <+: m' → SR K H' m' st → RE K H' m' env σ → Q σ H'
  | none => False
theorem PostG.up {K : PySem.W.Frag} {m m' : Pl} {H H' : Hp} {Q : L2.St → Hp → Prop} {r : Option (Ev × Sto)} (h : PostG K m H Q r) (e : Ext H H') (p : m <+: m') : PostG K m' H' Q r := by
  cases r with
  | none => exact h
  | some q => exact fun σ H2 m2 e2 p2 => h σ H2 m2 (e.trans e2) (p.trans p2)
theorem _root_.L2.PG.imp {X : Cx} {e : Expr} {t t' : TG} (h : PG X e t) (i : ∀ v σ H Q, t' v σ H Q → t v σ H Q) : PG X e t' := ⟨fun pins s σ H v u Q I r q => h.run pins s σ H v u Q I r (i _ _ _ _ q)⟩
theorem _root_.L2.PGs.imp {X : Cx} {e : List Expr} {t t' : TGs} (h : PGs X e t) (i : ∀ v σ H Q, t' v σ H Q → t v σ H Q) : PGs X e t' := ⟨fun pins s σ H v u Q I r q => h.run pins s σ H v u Q I r (i _ _ _ _ q)⟩
def gN (i : Nat) : GM := fun d env st => some (env.set i (some d), st)
def gsNil : GMs := fun ds env st => match ds with
  | [] => some (env, st)
  | _ => none
def gsCons (g : GM) (gs : GMs) : GMs := fun ds env st => match ds with
  | d :: ds => match g d env st with
    | some (env, st) => gs ds env st
    | none => none
  | [] => none
def gT (n : Nat) (g : GMs) : GM := fun d env st => match d with
  | .tup xs => if xs.length = n then g xs env st else none
  | _ => none
variable {g : GM} {gs : GMs} {ts : List Expr}
def sAsg (ga : EM) (g : GM) : SM := fun env st => (ga env st).then env fun d st => match g d env st with
  | some (env, st) => .nx env st
  | none => .fail
def sPar (i j : Nat) (ga gb : EM) : SM := fun env st => (ga env st).then env fun x st => (gb env st).then env fun y st => .nx ((env.set i (some x)).set j (some y)) st
end
end U
set_option Elab.async false
set_option linter.all false
set_option maxRecDepth 100000
set_option maxHeartbeats 4000000
namespace U
open PySem PySem.Spec PyProof.Rows L2

def lstOf (st : Sto) (n : Nat) : Option (List D) := match st[n]? with
  | some (.lst xs) => some xs
  | some (.rol xs) => some xs
  | some (.kst xs) => some xs
  | _ => none
def pairD (x y : D) : D := .tup [x, y]
def enumFrom (k : Nat) : List D → List D
  | [] => []
  | x :: xs => .tup [.int (k : Int), x] :: enumFrom (k + 1) xs
inductive Src where
  | fix (xs : List D)
  | dyn (n : Nat)
  | zipL (a b : Nat)
  | enumL (a : Nat)
  | keys (n : Nat)
  | zipLT (a : Nat) (ys : List D)
  | zipTL (xs : List D) (b : Nat)
  | zip3 (xs : List D) (b : Nat) (zs : List D)
def zipD3 : List D → List D → List D → List D
  | x :: xs, y :: ys, z :: zs => .tup [x, y, z] :: zipD3 xs ys zs
  | _, _, _ => []
def Src.at (s : Src) (st : Sto) : Option (List D) := match s with
  | .fix xs => some xs
  | .dyn n => lstOf st n
  | .zipL a b => match lstOf st a, lstOf st b with
    | some xs, some ys => some (List.zipWith pairD xs ys)
    | _, _ => none
  | .enumL a => (lstOf st a).map (enumFrom 0)
  | .keys n => match st[n]? with
    | some (.dcl kvs) => some (kvs.map (·.1))
    | _ => none
  | .zipLT a ys => (lstOf st a).map fun xs => List.zipWith pairD xs ys
  | .zipTL xs b => (lstOf st b).map fun ys => List.zipWith pairD xs ys
  | .zip3 xs b zs => (lstOf st b).map fun ys => zipD3 xs ys zs
abbrev IM := Ev → Sto → R Src
theorem _root_.L2.PI.imp {X : Cx} {tg e : Expr} {t t' : TI} (h : PI X tg e t) (i : ∀ σ H R, t' σ H R → t σ H R) : PI X tg e t' := ⟨fun pins s σ H R I q => h.run pins s σ H R I (i _ _ _ q)⟩
section
variable {X : Cx} {W : WX} {a b c tg : Expr} {ga gb gc : EM} {es : List Expr} {gs : AM} {pos : Pos}
def rngL (lo : Int) (n : Nat) : List D := (List.range n).map fun (i : Nat) => D.int (lo + (i : Int))
theorem zip_get {xs ys : List D} {i : Nat} {d : D} (h : (List.zipWith pairD xs ys)[i]? = some d) : ∃ x y, xs[i]? = some x ∧ ys[i]? = some y ∧ d = .tup [x, y] := by
  rw [List.getElem?_zipWith_eq_some] at h
  obtain ⟨x, y, h1, h2, h3⟩ := h
  exact ⟨x, y, h1, h2, h3.symm⟩
def seqSrc (d : D) (st : Sto) : R Src := match d with
  | .tup xs => .ok (.fix xs) st
  | .ref n => match lstOf st n with
    | some _ => .ok (.dyn n) st
    | none => .fail
  | _ => .fail
def rngSrc (d : D) (st : Sto) : R Src := match d with
  | .int j => if -(2 ^ 62) ≤ j ∧ j < 2 ^ 62 then .ok (.fix (rngL 0 j.toNat)) st else .fail
  | _ => .fail
def iSeq (g : EM) : IM := fun env st => (g env st).bind seqSrc
def iRng (g : EM) : IM := fun env st => (g env st).bind rngSrc
def iBin (f : D → D → Sto → R Src) (a b : EM) : IM := fun env st => (a env st).bind fun x st => (b env st).bind fun y st => f x y st
def zipSrc (d e : D) (st : Sto) : R Src := match d, e with
  | .tup xs, .tup ys => .ok (.fix (List.zipWith pairD xs ys)) st
  | .ref i, .ref j => match lstOf st i, lstOf st j with
    | some _, some _ => .ok (.zipL i j) st
    | _, _ => .fail
  | _, _ => .fail
end
end U
set_option Elab.async false
set_option linter.all false
set_option maxRecDepth 100000
set_option maxHeartbeats 4000000
namespace U
open PySem PySem.Spec PyProof.Rows L2

def runFor (s : Src) (g : GM) (body : SM) : Nat → Nat → SM
  | 0, _ => fun _ _ => .fail
  | f + 1, i => fun env st => match s.at st with
    | none => .fail
    | some xs => match xs[i]? with
      | none => .nx env st
      | some d => match g d env st with
        | none => .fail
        | some (env1, st1) => match body env1 st1 with
          | .nx env2 st2 => runFor s g body f (i + 1) env2 st2
          | .ct env2 st2 => runFor s g body f (i + 1) env2 st2
          | .bk env2 st2 => .nx env2 st2
          | r => r
def startFor (g : GM) (body : SM) (env : Ev) (s : Src) (st : Sto) : RS := match s.at st with
  | none => .fail
  | some xs => runFor s g body (xs.length + 1) 0 env st
def sFor (src : IM) (g : GM) (body : SM) : SM := fun env st => (src env st).then env (startFor g body env)
section
variable {X : Cx} {W : WX} {tg iter c : Expr} {src : IM} {g : GM} {body : List Stmt} {gb : SM} {tc : TM} {pos : Pos}
def runWhile (t : TM) (body : SM) : Nat → SM
  | 0 => fun _ _ => .fail
  | f + 1 => fun env st => (t env st).then env fun c st => if c = true then (match body env st with
    | .nx env2 st2 => runWhile t body f env2 st2
    | .ct env2 st2 => runWhile t body f env2 st2
    | .bk env2 st2 => .nx env2 st2
    | r => r) else .nx env st
end

def wipeE (env : Ev) : List Nat → Ev
  | [] => env
  | v :: vs => (wipeE env vs).set v none
section
variable {K : PySem.W.Frag} {vs : List Nat} {t : TG} {ts : TGs} {g : GM} {gs : GMs}
end
def runLc (s : Src) (g : GM) (t : TM) (e : EM) (k : Nat) (env : Ev) : Nat → Nat → Sto → R D
  | 0, _, _ => .fail
  | f + 1, i, st => match s.at st with
    | none => .fail
    | some xs => match xs[i]? with
      | none => .ok (.ref k) st
      | some d => match g d env st with
        | none => .fail
        | some (env1, _) => (t env1 st).bind fun b st => if b = true then (e env1 st).bind fun y st => (match st[k]? with
            | some (.lst acc) => if acc.length < most then runLc s g t e k env f (i + 1) (st.set k (.lst (acc ++ [y]))) else .fail
            | _ => .fail)
          else runLc s g t e k env f (i + 1) st
def startLc (g : GM) (t : TM) (e : EM) (env : Ev) (s : Src) (st : Sto) : R D := match s.at st with
  | none => .fail
  | some xs => runLc s g t e st.length env (xs.length + 1) 0 (st ++ [.lst []])
def tTrue : TM := fun _ st => .ok true st
abbrev W0 : WX := fun _ _ _ _ => False
section
variable {X : Cx} {W : WX} {tg iter elt : Expr} {ifs : List Expr} {src : IM} {g : GM} {tt : TM} {ge : EM} {scope : Scope} {own : List (Str × Nat)} {pos : Pos}
theorem src_at_app {s : Src} {st : Sto} {ob : Ob} {xs : List D} (h : s.at st = some xs) : s.at (st ++ [ob]) = some xs := by
  have key : ∀ {n : Nat} {ys : List D}, lstOf st n = some ys → lstOf (st ++ [ob]) n = some ys := by
    intro n ys h
    unfold lstOf at h ⊢
    by_cases hn : n < st.length
    · rw [List.getElem?_append_left hn]; exact h
    · rw [List.getElem?_eq_none (by omega)] at h; cases h
  cases s with
  | fix ys => exact h
  | dyn n => exact key h
  | zipL a b =>
    unfold Src.at at h ⊢
    simp only at h ⊢
    cases g1 : lstOf st a with
    | none => rw [g1] at h; cases h
    | some ys =>
      cases g2 : lstOf st b with
      | none => rw [g1, g2] at h; cases h
      | some zs => rw [g1, g2] at h; rw [key g1, key g2]; exact h
  | enumL a =>
    unfold Src.at at h ⊢
    simp only at h ⊢
    cases g1 : lstOf st a with
    | none => rw [g1] at h; cases h
    | some ys => rw [g1] at h; rw [key g1]; exact h
  | keys n =>
    unfold Src.at at h ⊢
    simp only at h ⊢
    by_cases hn : n < st.length
    · rw [List.getElem?_append_left hn]; exact h
    · rw [List.getElem?_eq_none (by omega)] at h; cases h
  | zipLT a ys =>
    unfold Src.at at h ⊢
    simp only at h ⊢
    cases g1 : lstOf st a with
    | none => rw [g1] at h; cases h
    | some zs => rw [g1] at h; rw [key g1]; exact h
  | zipTL ys a =>
    unfold Src.at at h ⊢
    simp only at h ⊢
    cases g1 : lstOf st a with
    | none => rw [g1] at h; cases h
    | some zs => rw [g1] at h; rw [key g1]; exact h
  | zip3 ys a us =>
    unfold Src.at at h ⊢
    simp only at h ⊢
    cases g1 : lstOf st a with
    | none => rw [g1] at h; cases h
    | some zs => rw [g1] at h; rw [key g1]; exact h
end
end U
set_option Elab.async false
set_option linter.all false
set_option maxRecDepth 100000
set_option maxHeartbeats 4000000
namespace U
open PySem PySem.Spec PyProof.Rows L2

def R.hush {α : Type} : R α → R α
  | .err _ _ _ => .fail
  | r => r
def cLc (src : IM) (vs : List Nat) (g : GM) (t : TM) (e : EM) : EM := fun env st => (src env st).bind fun s st => (startLc g t e (wipeE env vs) s st).hush
theorem _root_.L2.PTs.imp {X : Cx} {e : List Expr} {t t' : TT} (h : PTs X e t) (i : ∀ σ H Q, t' σ H Q → t σ H Q) : PTs X e t' := ⟨fun pins s σ H Q I q => h.run pins s σ H Q I (i _ _ _ q)⟩
section
variable {X : Cx} {W : WX} {tg iter elt : Expr} {ifs : List Expr} {src : IM} {g : GM} {tt : TM} {ge : EM} {scope : Scope} {own : List (Str × Nat)} {pos spos : Pos} {tgt : TG}
end

abbrev Fm := List D → Sto → R D
def env0 (n slots : Nat) (ds : List D) : Ev := ds.map some ++ List.replicate (slots - n) none
def endFn : RS → R D
  | .rt d st => .ok d st
  | .nx _ st => .ok .non st
  | .err c fs _ st => .err c fs st
  | _ => .fail
def mkFn (n slots : Nat) (body : SM) : Fm := fun ds st => if ds.length = n then endFn (body (env0 n slots ds) st) else .fail
def spF (K : PySem.W.Frag) (n : Nat) (f : Fm) : Sp := fun vs H Q E => vs.length = n ∧ ∃ ds m st, RVs K H m ds vs ∧ SR K H m st ∧ Post K (okV K) E m H Q (f ds st)
def Arity (n : Nat) (f : Fm) : Prop := ∀ ds st, ds.length ≠ n → f ds st = .fail
section
variable {P : Program} {w : World} {K : PySem.W.Frag} {mg : Str → Option Value} {base : Heap}
end
structure Fn (P : Program) (w : World) (K : PySem.W.Frag) (mg : Str → Option Value) (base : Heap) (k : Nat) (x : Str) (n : Nat) (f : Fm) : Prop where
  ex : ∃ (a : Addr) (fd : FuncData) (ps : List Str), FnOk P w K mg base (L2.CX P w) k a fd ps (spF K n f) ∧ mg x = some (.ref a) ∧ PySem.W.keepIn K (.ref a) = true ∧ Binds K fd ps []
  ar : Arity n f
section
variable {X : Cx} {W : WX} {a : Expr} {es : List Expr} {gs : AM} {pos p : Pos} {k n : Nat} {x : Str} {f : Fm}
end
end U
set_option Elab.async false
set_option linter.all false
set_option maxRecDepth 100000
set_option maxHeartbeats 4000000
namespace U
open PySem PySem.Spec PyProof.Rows L2

def mapO {α β : Type} (f : α → Option β) : List α → Option (List β)
  | [] => some []
  | x :: xs => match f x with
    | none => none
    | some y => match mapO f xs with
      | none => none
      | some ys => some (y :: ys)
def toP : Nat → Sto → D → Option PyData
  | _, _, .non => some .none
  | _, _, .bl b => some (.bool b)
  | _, _, .int i => some (.int i)
  | _, _, .str x => some (.str x)
  | 0, _, _ => none
  | n + 1, st, .tup xs => (mapO (toP n st) xs).map .tuple
  | n + 1, st, .ref i => match lstOf st i with
    | some xs => (mapO (toP n st) xs).map .list
    | none => none
section
variable {K : PySem.W.Frag} {H : Hp} {m : Pl} {st : Sto}
end
def toS (st : Sto) (d : D) : Option PyData := match toP 60 st d with
  | some p => if SeqAt.shaped p = true then some p else none
  | none => none
def dEq (neg : Bool) (x y : D) (st : Sto) : R D := match toS st x, toS st y with
  | some p, some q => .ok (.bl (if neg then !PyData.eqv p q else PyData.eqv p q)) st
  | _, _ => .fail
def itemsP : PyData → Option (List PyData)
  | .tuple ps => some ps
  | .list ps => some ps
  | _ => none
def dIn (neg : Bool) (x y : D) (st : Sto) : R D := match toS st x, toS st y with
  | some p, some q => match itemsP q with
    | some ps => .ok (.bl (if neg then !ps.any (fun z => PyData.eqv z p) else ps.any (fun z => PyData.eqv z p))) st
    | none => .fail
  | _, _ => .fail
section
variable {X : Cx} {k : Nat}
def dI (f : Int → Int → R D) (x y : D) : R D := match x, y with
  | .int i, .int j => f i j
  | _, _ => .fail
def dSub (x y : D) (st : Sto) : R D := dI (fun i j => .ok (.int (i - j)) st) x y
def dMod (x y : D) (st : Sto) : R D := dI (fun i j => if 0 < j then .ok (.int (i % j)) st else .fail) x y
def dDiv (x y : D) (st : Sto) : R D := dI (fun i j => if 0 < j ∧ j < 1000000000000000000000000000000000000000000000000000000000001 then .ok (.int (i / j)) st else .fail) x y
def dPow (x y : D) (st : Sto) : R D := dI (fun i j => if 0 ≤ j ∧ j ≤ 1000000 ∧ i.natAbs < 2 ^ 64 then .ok (.int (i ^ j.toNat)) st else .fail) x y
def dLt (x y : D) (st : Sto) : R D := dI (fun i j => .ok (.bl (decide (i < j))) st) x y
def dLe (x y : D) (st : Sto) : R D := dI (fun i j => .ok (.bl (decide (i ≤ j))) st) x y
def dGt (x y : D) (st : Sto) : R D := dI (fun i j => .ok (.bl (decide (j < i))) st) x y
def dGe (x y : D) (st : Sto) : R D := dI (fun i j => .ok (.bl (decide (j ≤ i))) st) x y
def dIsN (neg : Bool) (x y : D) (st : Sto) : R D := match y with
  | .non => (match x with
    | .non => .ok (.bl (!neg)) st
    | _ => .ok (.bl neg) st)
  | _ => .fail
def dAdd (x y : D) (st : Sto) : R D := match x, y with
  | .int i, .int j => .ok (.int (i + j)) st
  | .tup xs, .tup ys => if xs.length + ys.length ≤ most then .ok (.tup (xs ++ ys)) st else .fail
  | .str a, .str b => if a.length + b.length ≤ most then .ok (.str (a ++ b)) st else .fail
  | .ref a, .ref b => match st[a]?, st[b]? with
    | some (.lst xs), some (.lst ys) => mkLst (xs ++ ys) st
    | _, _ => .fail
  | _, _ => .fail
theorem RVs.rep {K : PySem.W.Frag} {H : Hp} {m : Pl} {xs : List D} {vs : List V} (r : RVs K H m xs vs) : ∀ n : Nat, RVs K H m (List.replicate n xs).flatten (List.replicate n vs).flatten
  | 0 => .nil
  | n + 1 => by
    rw [List.replicate_succ, List.replicate_succ, List.flatten_cons, List.flatten_cons]
    exact r.append (RVs.rep r n)
def dMul (x y : D) (st : Sto) : R D := match x, y with
  | .int i, .int j => if (-(2 ^ 64) < i ∧ i < 2 ^ 64) ∨ (-(2 ^ 64) < j ∧ j < 2 ^ 64) then .ok (.int (i * j)) st else .fail
  | .tup xs, .int k => if xs ≠ [] ∧ 2 ≤ k ∧ k ≤ 1000 ∧ xs.length ≤ 1000 then .ok (.tup (List.replicate k.toNat xs).flatten) st else .fail
  | _, _ => .fail
end
section
variable {X : Cx} {W : WX} {a b c : Expr} {ga gb gc : EM} {pos : Pos}
end
end U
set_option Elab.async false
set_option linter.all false
set_option maxRecDepth 100000
set_option maxHeartbeats 4000000
namespace U
open PySem PySem.Spec PyProof.Rows L2

def seqOf (st : Sto) (d : D) : Option (List D) := match d with
  | .tup xs => some xs
  | .ref n => lstOf st n
  | _ => none
def fLen (ds : List D) (st : Sto) : R D := match ds with
  | [.str x] => if x.length ≤ most then .ok (.int x.length) st else .fail
  | [d] => match seqOf st d with
    | some xs => .ok (.int xs.length) st
    | none => .fail
  | _ => .fail
def tyD (st : Sto) : D → Option String
  | .non => some "NoneType"
  | .bl _ => some "bool"
  | .int _ => some "int"
  | .str _ => some "str"
  | .tup _ => some "tuple"
  | .ref n => match st[n]? with
    | some (.lst _) => some "list"
    | some (.rol _) => some "list"
    | some (.ins _ _) => some "own"
    | _ => none
def isiT (a b : String) : Bool := a == b || (a == "bool" && b == "int")
def dIsi (T : String) (d : D) (st : Sto) : R D := match tyD st d with
  | some a => .ok (.bl (isiT a T)) st
  | none => .fail
section
variable {X : Cx} {W : WX} {a b c : Expr} {ga gb gc : EM} {es : List Expr} {gs : AM} {pos p p2 : Pos}
def fTup (ds : List D) (st : Sto) : R D := match ds with
  | [d] => match seqOf st d with
    | some xs => .ok (.tup xs) st
    | none => .fail
  | _ => .fail
def fList (ds : List D) (st : Sto) : R D := match ds with
  | [d] => match seqOf st d with
    | some xs => .ok (.ref st.length) (st ++ [.lst xs])
    | none => .fail
  | _ => .fail
def fI2 (f : Int → Int → Int) (ds : List D) (st : Sto) : R D := match ds with
  | [.int i, .int j] => .ok (.int (f i j)) st
  | _ => .fail
abbrev iMax : Int → Int → Int := fun i j => if j > i then j else i
abbrev iMin : Int → Int → Int := fun i j => if j < i then j else i
def dNeg (d : D) (st : Sto) : R D := match d with
  | .int i => .ok (.int (-i)) st
  | _ => .fail
def dIx (x y : D) (st : Sto) : R D := match seqOf st x, y with
  | some xs, .int i => match atI xs i with
    | some d => .ok d st
    | none => .fail
  | _, _ => .fail
def cutD (xs : List D) (lo hi : Option Int) : List D := (xs.drop (HT.sIx xs.length 0 lo)).take (HT.sIx xs.length xs.length hi - HT.sIx xs.length 0 lo)
def oM := Ev → Sto → R (Option Int)
def oNone : oM := fun _ st => .ok none st
def oSome (g : EM) : oM := fun env st => (g env st).bind fun d st => match d with
  | .int i => .ok (some i) st
  | _ => .fail
theorem _root_.L2.PO.imp {X : Cx} {e : Option Expr} {t t' : TO} (h : PO X e t) (i : ∀ σ H Q, t' σ H Q → t σ H Q) : PO X e t' := ⟨fun pins s σ H Q I q => h.run pins s σ H Q I (i _ _ _ q)⟩
def sliceD (d : D) (lo hi : Option Int) (st : Sto) : R D := match d with
  | .tup xs => .ok (.tup (cutD xs lo hi)) st
  | .ref n => match lstOf st n with
    | some xs => .ok (.ref st.length) (st ++ [.lst (cutD xs lo hi)])
    | none => .fail
  | _ => .fail
def eSlice (g : EM) (lo hi : oM) : EM := fun env st => (g env st).bind fun d st => (lo env st).bind fun l st => (hi env st).bind fun h st => sliceD d l h st
end
end U
set_option Elab.async false
set_option linter.all false
set_option maxRecDepth 100000
set_option maxHeartbeats 4000000
namespace U
open PySem PySem.Spec PyProof.Rows L2

def isLst (x : D) (st : Sto) : Bool := match x with
  | .ref n => (lstOf st n).isSome
  | _ => false
def eMtL (f : D → List D → Sto → R D) (ga : EM) (gs : AM) : EM := fun env st => (ga env st).bind fun x st => if isLst x st = true then (gs env st).bind fun xs st => f x xs st else .fail
section
variable {X : Cx} {W : WX} {a b c : Expr} {ga gb gc : EM} {es : List Expr} {gs : AM} {pos p p2 apos : Pos}
def mAppend (x : D) (xs : List D) (st : Sto) : R D := match x, xs with
  | .ref n, [d] => match st[n]? with
    | some (.lst ys) => if ys.length < most then .ok .non (st.set n (.lst (ys ++ [d]))) else .fail
    | _ => .fail
  | _, _ => .fail
def gSet (ga gb : EM) : D → Ev → Sto → Option (Ev × Sto) := fun d env st => match (ga env st).bind fun x st => (gb env st).bind fun y st => (match x, y with
    | .ref n, .int i => (match st[n]? with
      | some (.lst xs) => (match ixN xs.length i with
        | some j => .ok .non (st.set n (.lst (xs.set j d)))
        | none => .fail)
      | _ => .fail)
    | _, _ => .fail : R D) with
  | .ok _ st => some (env, st)
  | _ => none
def lookF (f : Str) : List (Str × D) → Option D
  | [] => none
  | (g, x) :: r => if g = f then some x else lookF f r
def putD (f : Str) (v : D) : List (Str × D) → List (Str × D)
  | [] => [(f, v)]
  | (g, x) :: r => if g = f then (g, v) :: r else (g, x) :: putD f v r
def dFld (c f : Str) (d : D) (st : Sto) : R D := match d with
  | .ref n => match st[n]? with
    | some (.ins c' fs) => if c' = c then (match lookF f fs with
      | some x => .ok x st
      | none => .fail) else .fail
    | _ => .fail
  | _ => .fail
def setFld (c f : Str) (x d : D) (env : Ev) (st : Sto) : RS := match x with
  | .ref n => match st[n]? with
    | some (.ins c' fs) => if c' = c ∧ fs.length < 400 then .nx env (st.set n (.ins c (putD f d fs))) else .fail
    | _ => .fail
  | _ => .fail
def sFldM (c f : Str) (ga gv : EM) : SM := fun env st => (gv env st).then env fun d st => (ga env st).then env fun x st => setFld c f x d env st
theorem putD_len (f : Str) (d : D) : ∀ fs : List (Str × D), (putD f d fs).length ≤ fs.length + 1
  | [] => Nat.le_refl _
  | (g, x) :: r => by
    unfold putD
    split
    · simp
    · simp only [List.length_cons]
      have := putD_len f d r
      omega
structure Mkr (P : Program) (w : World) (K : PySem.W.Frag) (mg : Str → Option Value) (base : Heap) (k : Nat) (c : Str) (n : Nat) (f : Fm) : Prop where
  ex : ∃ (fa : Addr) (fd : FuncData) (ps : List Str), FnOk P w K mg base (L2.CX P w) k fa fd ps (spF K (n + 1) f) ∧ mg c = some (.ref (He.ga K c)) ∧ Mk K (He.ga K c) fa ∧ Binds K fd ps []
  isi : IsiC K (He.ga K c)
  ar : Arity (n + 1) f
def mkIns (c : Str) (f : Fm) : Fm := fun ds st => (f (.ref st.length :: ds) (st ++ [.ins c []])).bind fun d st' => match d with
  | .non => .ok (.ref st.length) st'
  | _ => .fail
end
end U
set_option Elab.async false
set_option linter.all false
set_option maxRecDepth 100000
set_option maxHeartbeats 4000000
namespace U
section
open PySem
open Sem (wp)
open AutoSeq1 (wpAny_loadPart')
end
open PySem PySem.Spec PyProof.Rows L2
def enumSrc (d : D) (st : Sto) : R Src := match d with
  | .tup xs => .ok (.fix (enumFrom 0 xs)) st
  | .ref n => match lstOf st n with
    | some _ => .ok (.enumL n) st
    | none => .fail
  | _ => .fail
def iEnum (g : EM) : IM := fun env st => (g env st).bind enumSrc
end U
set_option Elab.async false
set_option linter.all false
set_option maxRecDepth 100000
set_option maxHeartbeats 4000000
namespace U
open PySem PySem.Spec PyProof.Rows L2
end U
set_option Elab.async false
set_option linter.all false
set_option maxRecDepth 100000
set_option maxHeartbeats 4000000
namespace U
open PySem PySem.Spec PyProof.Rows L2
mutual
def ren (ρ : Nat → Nat) : D → D
  | .tup xs => .tup (rens ρ xs)
  | .ref n => .ref (ρ n)
  | .non => .non
  | .bl b => .bl b
  | .int i => .int i
  | .str x => .str x
def rens (ρ : Nat → Nat) : List D → List D
  | [] => []
  | d :: ds => ren ρ d :: rens ρ ds
end
mutual
def Bnd (n : Nat) : D → Prop
  | .tup xs => Bnds n xs
  | .ref k => k < n
  | .non => True
  | .bl _ => True
  | .int _ => True
  | .str _ => True
def Bnds (n : Nat) : List D → Prop
  | [] => True
  | d :: ds => Bnd n d ∧ Bnds n ds
end
def renO (ρ : Nat → Nat) : Ob → Ob
  | .lst xs => .lst (rens ρ xs)
  | .rol xs => .rol (rens ρ xs)
  | .fzt xs => .fzt (rens ρ xs)
  | .tab P q => .tab P q
  | .exc p d cl c fs => .exc p d cl c (fs.map fun p => (p.1, ren ρ p.2))
  | .kst xs => .kst (rens ρ xs)
  | .ins c fs => .ins c (fs.map fun p => (p.1, ren ρ p.2))
  | .dct kvs => .dct (kvs.map fun p => (ren ρ p.1, ren ρ p.2))
  | .dcl kvs => .dcl (kvs.map fun p => (ren ρ p.1, ren ρ p.2))
def BndO (n : Nat) : Ob → Prop
  | .lst xs => Bnds n xs
  | .rol xs => Bnds n xs
  | .fzt xs => Bnds n xs
  | .tab _ _ => True
  | .exc _ _ _ _ fs => Bnds n (fs.map (·.2))
  | .kst xs => Bnds n xs
  | .ins _ fs => Bnds n (fs.map (·.2))
  | .dct kvs => Bnds n (kvs.map (·.1)) ∧ Bnds n (kvs.map (·.2))
  | .dcl kvs => Bnds n (kvs.map (·.1)) ∧ Bnds n (kvs.map (·.2))
section
variable {K : PySem.W.Frag} {H : Hp} {m ms : Pl} {ρ : Nat → Nat} {n : Nat}
mutual
theorem RV.back (hms : ∀ i, i < n → ∀ a, m[ρ i]? = some a → ms[i]? = some a) : ∀ {d : D} {v : V}, Bnd n d → RV K H m (ren ρ d) v → RV K H ms d v
  | .non, _, _, h => by simp only [ren] at h; cases h; exact .non
  | .bl _, _, _, h => by simp only [ren] at h; cases h; exact .bl
  | .int _, _, _, h => by simp only [ren] at h; cases h; exact .int
  | .str _, _, _, h => by simp only [ren] at h; cases h; exact .str
  | .tup xs, _, hb, h => by
    simp only [ren] at h
    simp only [Bnd] at hb
    cases h with
    | tup hq rs => exact .tup hq (RVs.back hms hb rs)
  | .ref k, _, hb, h => by
    simp only [ren] at h
    simp only [Bnd] at hb
    cases h with
    | ref hk => exact .ref (hms k hb _ hk)
theorem RVs.back (hms : ∀ i, i < n → ∀ a, m[ρ i]? = some a → ms[i]? = some a) : ∀ {ds : List D} {vs : List V}, Bnds n ds → RVs K H m (rens ρ ds) vs → RVs K H ms ds vs
  | [], _, _, h => by simp only [rens] at h; cases h; exact .nil
  | d :: ds, _, hb, h => by
    simp only [rens] at h
    simp only [Bnds] at hb
    cases h with
    | cons h1 h2 => exact .cons (RV.back hms hb.1 h1) (RVs.back hms hb.2 h2)
end
theorem rens_map : ∀ (fs : List (Str × D)), (fs.map fun p => (p.1, ren ρ p.2)).map (·.2) = rens ρ (fs.map (·.2))
  | [] => rfl
  | p :: fs => by simp only [List.map_cons, rens]; rw [← rens_map fs]
mutual
theorem keyD_ren : ∀ d : D, keyD (ren ρ d) = keyD d
  | .non => by simp only [ren]
  | .bl _ => by simp only [ren]
  | .int _ => by simp only [ren]
  | .str _ => by simp only [ren]
  | .ref _ => by simp only [ren, keyD]
  | .tup xs => by simp only [ren, keyD]; rw [keysD_ren xs]
theorem keysD_ren : ∀ ds : List D, keysD (rens ρ ds) = keysD ds
  | [] => by simp only [rens]
  | d :: ds => by simp only [rens, keysD]; rw [keyD_ren d, keysD_ren ds]
end
theorem rens_m1 : ∀ (kvs : List (D × D)), (kvs.map fun p => (ren ρ p.1, ren ρ p.2)).map (·.1) = rens ρ (kvs.map (·.1))
  | [] => rfl
  | p :: kvs => by simp only [List.map_cons, rens]; rw [← rens_m1 kvs]
theorem rens_m2 : ∀ (kvs : List (D × D)), (kvs.map fun p => (ren ρ p.1, ren ρ p.2)).map (·.2) = rens ρ (kvs.map (·.2))
  | [] => rfl
  | p :: kvs => by simp only [List.map_cons, rens]; rw [← rens_m2 kvs]
theorem OR.back (hms : ∀ i, i < n → ∀ a, m[ρ i]? = some a → ms[i]? = some a) {a : Addr} {o : Ob} (hb : BndO n o) (h : OR K H m a (renO ρ o)) : OR K H ms a o := by
  cases o with
  | lst xs => obtain ⟨vs, e, r⟩ := h; exact ⟨vs, e, r.back hms hb⟩
  | rol xs => obtain ⟨o, vs, e, r⟩ := h; exact ⟨o, vs, e, r.back hms hb⟩
  | fzt xs => obtain ⟨o, vs, e, r, hd⟩ := h; exact ⟨o, vs, e, r.back hms hb, hd⟩
  | tab P q => exact h
  | exc p d cl c fs =>
    obtain ⟨h1, h2, h3⟩ := h
    refine ⟨h1, h2, ?_⟩
    rcases h3 with ⟨z1, z2⟩ | ⟨dd, vfs, z1, z2, z3, z4⟩
    · exact .inl ⟨by simpa using z1, z2⟩
    · rw [rens_map] at z4
      exact .inr ⟨dd, vfs, z1, z2, by rw [z3]; simp, z4.back hms hb⟩
  | kst xs => obtain ⟨vs, e, r⟩ := h; exact ⟨vs, e, r.back hms hb⟩
  | ins c fs =>
    obtain ⟨dx, vfs, e, e2, r, l⟩ := h
    refine ⟨dx, vfs, e, by rw [e2]; simp, ?_, by simpa using l⟩
    rw [rens_map] at r
    exact r.back hms hb
  | dct kvs =>
    obtain ⟨xs, vs, h⟩ := h
    refine ⟨xs, vs, h.sys, h.at_, h.nd, ?_, h.dep, ?_, ?_, h.vv, by simpa using h.len⟩
    · rw [← h.key, List.map_map]
      apply List.map_congr_left
      intro p _
      exact (keyD_ren p.1).symm
    · have r := h.rk
      rw [rens_m1] at r
      exact r.back hms hb.1
    · have r := h.rv
      rw [rens_m2] at r
      exact r.back hms hb.2
  | dcl kvs =>
    obtain ⟨o, xs, vs, h⟩ := h
    refine ⟨o, xs, vs, h.sys, h.at_, h.obj, h.nd, ?_, h.dep, ?_, ?_, h.vv, by simpa using h.len⟩
    · rw [← h.key, List.map_map]
      apply List.map_congr_left
      intro p _
      exact (keyD_ren p.1).symm
    · have r := h.rk
      rw [rens_m1] at r
      exact r.back hms hb.1
    · have r := h.rv
      rw [rens_m2] at r
      exact r.back hms hb.2
theorem renO_trk (o : Ob) : (renO ρ o).trk = o.trk := by cases o <;> rfl
mutual
theorem RV.bnd : ∀ {d : D} {v : V}, RV K H m d v → Bnd m.length d
  | .non, _, _ => by simp only [Bnd]
  | .bl _, _, _ => by simp only [Bnd]
  | .int _, _, _ => by simp only [Bnd]
  | .str _, _, _ => by simp only [Bnd]
  | .tup xs, _, h => by
    simp only [Bnd]
    cases h with
    | tup hq rs => exact RVs.bnd rs
  | .ref k, _, h => by
    simp only [Bnd]
    cases h with
    | ref hk => exact (List.getElem?_eq_some_iff.mp hk).1
theorem RVs.bnd : ∀ {ds : List D} {vs : List V}, RVs K H m ds vs → Bnds m.length ds
  | [], _, _ => by simp only [Bnds]
  | _ :: _, _, h => by
    simp only [Bnds]
    cases h with
    | cons h1 h2 => exact ⟨RV.bnd h1, RVs.bnd h2⟩
end
theorem OR.bnd {a : Addr} {o : Ob} (h : OR K H m a o) : BndO m.length o := by
  cases o with
  | lst xs => obtain ⟨vs, e, r⟩ := h; exact r.bnd
  | rol xs => obtain ⟨o, vs, e, r⟩ := h; exact r.bnd
  | fzt xs => obtain ⟨o, vs, e, r, _⟩ := h; exact r.bnd
  | tab P q => trivial
  | exc p d cl c fs =>
    obtain ⟨_, _, h3⟩ := h
    rcases h3 with ⟨z1, _⟩ | ⟨dd, vfs, _, _, _, z4⟩
    · subst z1; trivial
    · exact z4.bnd
  | kst xs => obtain ⟨vs, e, r⟩ := h; exact r.bnd
  | ins c fs => obtain ⟨dx, vfs, e, e2, r, l⟩ := h; exact r.bnd
  | dct kvs => obtain ⟨xs, vs, h⟩ := h; exact ⟨h.rk.bnd, h.rv.bnd⟩
  | dcl kvs => obtain ⟨o, xs, vs, h⟩ := h; exact ⟨h.rk.bnd, h.rv.bnd⟩
theorem SR.bnd {st : Sto} (s : SR K H m st) {i : Nat} {o : Ob} (h : st[i]? = some o) : BndO st.length o := by
  obtain ⟨a, _, r⟩ := s.at h
  rw [← s.len]
  exact r.bnd
end
structure Fits (st st1 st' : Sto) (ρ : Nat → Nat) : Prop where
  len : st.length ≤ st1.length
  old : ∀ i, i < st.length → ρ i = i
  inj : ∀ i j, i < st1.length → j < st1.length → ρ i = ρ j → i = j
  ob : ∀ i o, st1[i]? = some o → st'[ρ i]? = some (renO ρ o)
def Good (st : Sto) : Prop := ∀ (i : Nat) (o : Ob), st[i]? = some o → BndO st.length o
structure Tells (m s : Fm) : Prop where
  ok : ∀ ds st d st1, Good st → Bnds st.length ds → s ds st = .ok d st1 → Good st1 ∧ Bnd st1.length d ∧ ∃ ρ st', m ds st = .ok (ren ρ d) st' ∧ Fits st st1 st' ρ
  err : ∀ ds st c fs st1, Good st → Bnds st.length ds → s ds st = .err c fs st1 → Good st1 ∧ Bnds st1.length (fs.map (·.2)) ∧ ∃ ρ st', m ds st = .err c (fs.map fun p => (p.1, ren ρ p.2)) st' ∧ Fits st st1 st' ρ
section
variable {K : PySem.W.Frag} {H H' : Hp} {m0 m' : Pl} {st st1 st' : Sto} {ρ : Nat → Nat}
def placed (m' : Pl) (ρ : Nat → Nat) (n : Nat) : Pl := (List.range n).map fun i => m'.getD (ρ i) 0
theorem placed_get (f : Fits st st1 st' ρ) (hl : m'.length = st'.length) {i : Nat} (hi : i < st1.length) : (placed m' ρ st1.length)[i]? = m'[ρ i]? := by
  unfold placed
  rw [List.getElem?_map, List.getElem?_range hi]
  have ho : st1[i]? = some st1[i] := by simp [hi]
  have h2 := f.ob i _ ho
  have h3 : ρ i < m'.length := by rw [hl]; exact (List.getElem?_eq_some_iff.mp h2).1
  simp [List.getD, h3]
theorem placed_ok (f : Fits st st1 st' ρ) (hl : m'.length = st'.length) : ∀ i, i < st1.length → ∀ a, m'[ρ i]? = some a → (placed m' ρ st1.length)[i]? = some a := fun i hi a e => by rw [placed_get f hl hi]; exact e
theorem placed_pre (f : Fits st st1 st' ρ) (hl : m'.length = st'.length) (h0 : m0.length = st.length) (p : m0 <+: m') : m0 <+: placed m' ρ st1.length := by
  have hlen : (placed m' ρ st1.length).length = st1.length := by simp [placed]
  rw [List.prefix_iff_eq_take]
  apply List.ext_getElem?
  intro i
  by_cases hi : i < m0.length
  · have hi1 : i < st1.length := by have := f.len; omega
    rw [List.getElem?_take, if_pos hi, placed_get f hl hi1, f.old i (by omega)]
    have e : m0[i]? = some m0[i] := by simp [hi]
    rw [e, pre_get p e]
  · rw [List.getElem?_eq_none (by omega), List.getElem?_eq_none (by rw [List.length_take]; omega)]
theorem placed_sr (f : Fits st st1 st' ρ) (g : Good st1) (s : SR K H' m' st') : SR K H' (placed m' ρ st1.length) st1 := by
  have back : ∀ {i : Nat} {a : Addr} {o : Ob}, (placed m' ρ st1.length)[i]? = some a → st1[i]? = some o → m'[ρ i]? = some a ∧ st'[ρ i]? = some (renO ρ o) ∧ i < st1.length := fun {i a o} h1 h2 => by
    have hi : i < st1.length := (List.getElem?_eq_some_iff.mp h2).1
    rw [placed_get f s.len hi] at h1
    exact ⟨h1, f.ob i o h2, hi⟩
  refine ⟨by simp [placed], fun i j a oi oj h1 h2 h3 h4 t1 t2 => ?_, fun i a o h1 h2 => ?_⟩
  · obtain ⟨x1, x2, x3⟩ := back h1 h3
    obtain ⟨y1, y2, y3⟩ := back h2 h4
    exact f.inj i j x3 y3 (s.nd _ _ a _ _ x1 y1 x2 y2 (by rw [renO_trk]; exact t1) (by rw [renO_trk]; exact t2))
  · obtain ⟨x1, x2, x3⟩ := back h1 h2
    exact (s.ob _ a _ x1 x2).back (placed_ok f s.len) (g i o h2)
end
theorem SR.good {K : PySem.W.Frag} {H : Hp} {m : Pl} {st : Sto} (s : SR K H m st) : Good st := fun i o h => s.bnd h
theorem spF_tells {K : PySem.W.Frag} {n : Nat} {m s : Fm} (t : Tells m s) {vs : List V} {H : Hp} {Q : VK} {E : XK} (h : spF K n s vs H Q E) : spF K n m vs H Q E := by
  obtain ⟨hl, ds, m0, st, r, sr, hp⟩ := h
  refine ⟨hl, ds, m0, st, r, sr, ?_⟩
  have hb : Bnds st.length ds := by rw [← sr.len]; exact r.bnd
  cases q : s ds st with
  | fail => rw [q] at hp; exact hp.elim
  | ok d st1 =>
    rw [q] at hp
    obtain ⟨g1, b1, ρ, st', e, f⟩ := t.ok ds st d st1 sr.good hb q
    rw [e]
    intro v H' m' x p s' rv
    exact hp v H' _ x (placed_pre f s'.len sr.len p) (placed_sr f g1 s') (rv.back (placed_ok f s'.len) b1)
  | err c fs st1 =>
    rw [q] at hp
    obtain ⟨g1, b1, ρ, st', e, f⟩ := t.err ds st c fs st1 sr.good hb q
    rw [e]
    intro dO H' m' x p s' xr
    refine hp dO H' _ x (placed_pre f s'.len sr.len p) (placed_sr f g1 s') ?_
    rcases xr with ⟨e1, e2⟩ | ⟨dd, vfs, e1, e2, e3, e4⟩
    · exact .inl ⟨by simpa using e1, e2⟩
    · rw [rens_map] at e4
      exact .inr ⟨dd, vfs, e1, e2, by rw [e3]; simp, e4.back (placed_ok f s'.len) b1⟩
theorem Fn.by {P : Program} {w : World} {K : PySem.W.Frag} {mg : Str → Option Value} {base : Heap} {k : Nat} {x : Str} {n : Nat} {m s : Fm} (F : Fn P w K mg base k x n m) (t : Tells m s) (ar : Arity n s) : Fn P w K mg base k x n s := by
  obtain ⟨a, fd, ps, ok, h1, h2, h3⟩ := F.ex
  exact ⟨⟨a, fd, ps, ok.imp fun vs H Q E h => spF_tells t h, h1, h2, h3⟩, ar⟩
theorem Mkr.by {P : Program} {w : World} {K : PySem.W.Frag} {mg : Str → Option Value} {base : Heap} {k : Nat} {x : Str} {n : Nat} {m s : Fm} (F : Mkr P w K mg base k x n m) (t : Tells m s) (ar : Arity (n + 1) s) : Mkr P w K mg base k x n s := by
  obtain ⟨a, fd, ps, ok, h1, h2, h3⟩ := F.ex
  exact ⟨⟨a, fd, ps, ok.imp fun vs H Q E h => spF_tells t h, h1, h2, h3⟩, F.isi, ar⟩
end U
set_option Elab.async false
set_option linter.all false
set_option maxRecDepth 100000
set_option maxHeartbeats 4000000
namespace U
open PySem PySem.Spec PyProof.Rows L2
mutual
theorem ren_id : ∀ d : D, ren id d = d
  | .tup xs => by simp only [ren]; rw [rens_id xs]
  | .ref n => by simp only [ren, id]
  | .non => by simp only [ren]
  | .bl b => by simp only [ren]
  | .int i => by simp only [ren]
  | .str x => by simp only [ren]
theorem rens_id : ∀ ds : List D, rens id ds = ds
  | [] => by simp only [rens]
  | d :: ds => by simp only [rens]; rw [ren_id d, rens_id ds]
end
theorem renO_id (o : Ob) : renO id o = o := by
  cases o with
  | lst xs => simp only [renO, rens_id]
  | rol xs => simp only [renO, rens_id]
  | fzt xs => simp only [renO, rens_id]
  | tab P q => rfl
  | exc p d cl c fs =>
    simp only [renO]
    congr 1
    induction fs with
    | nil => rfl
    | cons p fs ih => rw [List.map_cons, ren_id, ih]
  | kst xs => simp only [renO, rens_id]
  | ins c fs =>
    simp only [renO]
    congr 1
    induction fs with
    | nil => rfl
    | cons p fs ih => rw [List.map_cons, ren_id, ih]
  | dct kvs =>
    simp only [renO]
    congr 1
    induction kvs with
    | nil => rfl
    | cons p kvs ih => rw [List.map_cons, ren_id, ren_id, ih]
  | dcl kvs =>
    simp only [renO]
    congr 1
    induction kvs with
    | nil => rfl
    | cons p kvs ih => rw [List.map_cons, ren_id, ren_id, ih]
def obs (n : Nat) (f : List D → Sto → Option D) : Fm := fun ds st => if ds.length = n then (match f ds st with
  | some d => .ok d st
  | none => .fail) else .fail
theorem obs_ok {n : Nat} {f : List D → Sto → Option D} {ds : List D} {st : Sto} {d : D} (hl : ds.length = n) (h : f ds st = some d) : obs n f ds st = .ok d st := by
  unfold obs
  rw [if_pos hl, h]
theorem obs_inv {n : Nat} {f : List D → Sto → Option D} {ds : List D} {st st1 : Sto} {d : D} (h : obs n f ds st = .ok d st1) : ds.length = n ∧ f ds st = some d ∧ st1 = st := by
  unfold obs at h
  split at h
  · rename_i hl
    split at h
    · rename_i d' q
      cases h
      exact ⟨hl, q, rfl⟩
    · cases h
  · cases h
theorem obs_noerr {n : Nat} {f : List D → Sto → Option D} {ds : List D} {st st1 : Sto} {c : Str} {fs : List (Str × D)} (h : obs n f ds st = .err c fs st1) : False := by
  unfold obs at h
  split at h
  · split at h <;> cases h
  · cases h
theorem fits_app {st ex : Sto} : Fits st st (st ++ ex) id :=
  ⟨Nat.le_refl _, fun _ _ => rfl, fun _ _ _ _ h => h, fun i o h => by rw [renO_id]; show (st ++ ex)[i]? = some o; rw [List.getElem?_append_left (List.getElem?_eq_some_iff.mp h).1]; exact h⟩
theorem Tells.obs {m : Fm} {n : Nat} {f : List D → Sto → Option D} (h : ∀ ds st d, Good st → Bnds st.length ds → ds.length = n → f ds st = some d → Bnd st.length d ∧ ∃ ex, m ds st = .ok d (st ++ ex)) : Tells m (U.obs n f) where
  ok := fun ds st d st1 g b e => by
    obtain ⟨hl, hf, rfl⟩ := obs_inv e
    obtain ⟨h1, ex, h2⟩ := h ds st1 d g b hl hf
    exact ⟨g, h1, id, st1 ++ ex, by rw [ren_id]; exact h2, fits_app⟩
  err := fun ds st c fs st1 g b e => (obs_noerr e).elim
theorem get_end {st : Sto} {o : Ob} : (st ++ [o])[st.length]? = some o := by simp
theorem set_end {st : Sto} {o o' : Ob} : (st ++ [o]).set st.length o' = st ++ [o'] := by simp
theorem runLc_pure {s : Src} {g : GM} {t : TM} {e : EM} {env : Ev} {st : Sto} {xs : List D} {p : D → Bool} {f : D → D} (hs : ∀ acc, s.at (st ++ [.lst acc]) = some xs) (hm : xs.length ≤ most)
    (h : ∀ x ∈ xs, ∀ acc, ∃ env1, g x env (st ++ [.lst acc]) = some (env1, st ++ [.lst acc]) ∧ t env1 (st ++ [.lst acc]) = .ok (p x) (st ++ [.lst acc]) ∧ (p x = true → e env1 (st ++ [.lst acc]) = .ok (f x) (st ++ [.lst acc]))) :
    ∀ (k i : Nat) (acc : List D), xs.length = i + k → acc.length ≤ i → runLc s g t e st.length env (k + 1) i (st ++ [.lst acc]) = .ok (.ref st.length) (st ++ [.lst (acc ++ ((xs.drop i).filter p).map f)])
  | 0, i, acc, hk, ha => by
    unfold runLc
    simp only [hs]
    rw [List.getElem?_eq_none (by omega)]
    simp [List.drop_eq_nil_of_le (show xs.length ≤ i by omega)]
  | k + 1, i, acc, hk, ha => by
    have hi : i < xs.length := by omega
    obtain ⟨env1, h1, h2, h3⟩ := h xs[i] (List.getElem_mem hi) acc
    unfold runLc
    simp only [hs]
    rw [List.getElem?_eq_getElem hi]
    simp only [h1, h2, R.bind]
    have hd : xs.drop i = xs[i] :: xs.drop (i + 1) := (List.drop_eq_getElem_cons hi)
    cases hp : p xs[i] with
    | false =>
      simp only [Bool.false_eq_true, if_false]
      rw [runLc_pure hs hm h k (i + 1) acc (by omega) (by omega), hd, List.filter_cons_of_neg (by rw [hp]; decide)]
    | true =>
      simp only [if_true, h3 hp, get_end, set_end]
      rw [if_pos (by omega), runLc_pure hs hm h k (i + 1) _ (by omega) (by simp; omega), hd, List.filter_cons_of_pos hp, List.map_cons, List.append_assoc]
      rfl
theorem startLc_pure {s : Src} {g : GM} {t : TM} {e : EM} {env : Ev} {st : Sto} {xs : List D} {p : D → Bool} {f : D → D} (h0 : s.at st = some xs) (hm : xs.length ≤ most)
    (h : ∀ x ∈ xs, ∀ acc, ∃ env1, g x env (st ++ [.lst acc]) = some (env1, st ++ [.lst acc]) ∧ t env1 (st ++ [.lst acc]) = .ok (p x) (st ++ [.lst acc]) ∧ (p x = true → e env1 (st ++ [.lst acc]) = .ok (f x) (st ++ [.lst acc]))) :
    startLc g t e env s st = .ok (.ref st.length) (st ++ [.lst ((xs.filter p).map f)]) := by
  unfold startLc
  rw [h0]
  simp only
  rw [runLc_pure (fun acc => src_at_app h0) hm h xs.length 0 [] (by omega) (by simp)]
  simp
theorem startLc_map {s : Src} {g : GM} {e : EM} {env : Ev} {st : Sto} {xs : List D} {f : D → D} (h0 : s.at st = some xs) (hm : xs.length ≤ most)
    (h : ∀ x ∈ xs, ∀ acc, ∃ env1, g x env (st ++ [.lst acc]) = some (env1, st ++ [.lst acc]) ∧ e env1 (st ++ [.lst acc]) = .ok (f x) (st ++ [.lst acc])) :
    startLc g tTrue e env s st = .ok (.ref st.length) (st ++ [.lst (xs.map f)]) := by
  rw [startLc_pure (p := fun _ => true) (f := f) h0 hm fun x hx acc => ?_]
  · rw [List.filter_eq_self.mpr (by simp)]
  · obtain ⟨env1, h1, h2⟩ := h x hx acc
    exact ⟨env1, h1, rfl, fun _ => h2⟩
theorem lstOf_end {st : Sto} {xs : List D} : lstOf (st ++ [.lst xs]) st.length = some xs := by unfold lstOf; rw [get_end]
theorem tyD_app {st ex : Sto} {d : D} {t : String} (h : tyD st d = some t) : tyD (st ++ ex) d = some t := by
  cases d with
  | ref n =>
    have hn : n < st.length := by
      by_cases hn : n < st.length
      · exact hn
      · unfold tyD at h; simp only at h; rw [List.getElem?_eq_none (by omega)] at h; cases h
    unfold tyD at h ⊢
    simp only at h ⊢
    rw [List.getElem?_append_left hn]
    exact h
  | _ => exact h
def kn (st : Sto) (d : D) : Bool := (tyD st d).isSome
theorem kn_app {st ex : Sto} {d : D} (h : kn st d = true) : kn (st ++ ex) d = true := by
  obtain ⟨t, e⟩ := Option.isSome_iff_exists.mp h
  unfold kn
  rw [tyD_app e]
  rfl
end U
set_option Elab.async false
set_option linter.all false
set_option maxRecDepth 100000
set_option maxHeartbeats 4000000
namespace U
open PySem
section
variable {f h : D → D → Sto → R D} {f1 : D → Sto → R D} {fm : Fm} {a b c : EM} {t t2 : TM} {as : AM} {s s2 : SM} {src : IM} {g g' : GM} {gs : GMs} {env : Ev} {st : Sto} {i j n k slots : Nat} {d : D} {ds : List D} {vs : List Nat} {α β : Type} {r : R α} {x : α} {cn fd : Str} {fs : List (Str × D)}
theorem ev_var : eVar i env st = (match env[i]? with | some (some d) => .ok d st | _ => .fail) := rfl
theorem ev_c : eC d env st = .ok d st := rfl
theorem ev_bin : eBin f a b env st = (a env st).bind fun x st => (b env st).bind fun y st => f x y st := rfl
theorem ev_anil : aNil env st = .ok [] st := rfl
theorem ev_acons : aCons a as env st = (a env st).bind fun x st => (as env st).bind fun xs st => .ok (x :: xs) st := rfl
theorem ev_fn : eFn fm as env st = (as env st).bind fm := rfl
theorem ev_tof : tOf a env st = (a env st).bind toB := rfl
theorem ev_tob {q : Bool} : toB (.bl q) st = .ok q st := rfl
theorem ev_tor : tOr t t2 env st = (t env st).bind fun c st => if c = true then .ok true st else t2 env st := rfl
theorem ev_if : eIf t a b env st = (t env st).bind fun k st => if k = true then a env st else b env st := rfl
theorem ev_iseq : iSeq a env st = (a env st).bind seqSrc := rfl
theorem ev_lc {e : EM} : cLc src vs g t e env st = (src env st).bind fun s st => (startLc g t e (wipeE env vs) s st).hush := rfl
theorem ev_seq : sSeq s s2 env st = (match s env st with | .nx env st => s2 env st | r => r) := rfl
theorem ev_ret : sRet a env st = (a env st).then env fun d st => .rt d st := rfl
theorem ev_sif : sIf t s s2 env st = (t env st).then env fun c st => if c = true then s env st else s2 env st := rfl
theorem ev_set : sSet i a env st = (a env st).then env fun d st => .nx (env.set i (some d)) st := rfl
theorem ev_expr : sExpr a env st = (a env st).then env fun _ st => .nx env st := rfl
theorem ev_asg : sAsg a g env st = (a env st).then env fun d st => match g d env st with | some (env, st) => .nx env st | none => .fail := rfl
theorem ev_for : sFor src g s env st = (src env st).then env (startFor g s env) := rfl
theorem ev_fld : sFldM cn fd a b env st = (b env st).then env fun d st => (a env st).then env fun x st => setFld cn fd x d env st := rfl
theorem ev_mkfn : mkFn n slots s ds st = if ds.length = n then endFn (s (env0 n slots ds) st) else .fail := rfl
theorem ev_bok {q : α → Sto → R β} : (R.ok x st).bind q = q x st := rfl
theorem ev_tok {q : α → Sto → RS} : (R.ok x st).then env q = q x st := rfl
theorem ev_hok : (R.ok x st).hush = .ok x st := rfl
theorem ev_sseq {xs : List D} : seqSrc (.tup xs) st = .ok (.fix xs) st := rfl
theorem ev_ltI {i j : Int} : dLt (.int i) (.int j) st = .ok (.bl (decide (i < j))) st := rfl
theorem ev_leI {i j : Int} : dLe (.int i) (.int j) st = .ok (.bl (decide (i ≤ j))) st := rfl
theorem ev_gtI {i j : Int} : dGt (.int i) (.int j) st = .ok (.bl (decide (j < i))) st := rfl
theorem ev_addI {i j : Int} : dAdd (.int i) (.int j) st = .ok (.int (i + j)) st := rfl
theorem ev_lenT {xs : List D} : fLen [.tup xs] st = .ok (.int xs.length) st := rfl
theorem eqI {i j : Int} {neg : Bool} : dEq neg (.int i) (.int j) st = .ok (.bl (if neg then !(i == j) else i == j)) st := by
  unfold dEq toS
  simp only [toP]
  rw [if_pos (show SeqAt.shaped (.int i) = true from rfl), if_pos (show SeqAt.shaped (.int j) = true from rfl)]
  simp only [PyData.eqv]
end
end U
set_option Elab.async false
set_option linter.all false
set_option maxRecDepth 100000
set_option maxHeartbeats 4000000
namespace U
open PySem PySem.Spec PyProof.Rows L2
def withinD (lo hi : Int) : D → Bool
  | .int i => decide (lo ≤ i) && decide (i ≤ hi)
  | _ => false
def itemsD : D → Option (List D)
  | .tup xs => some xs
  | _ => none
def prodD : List D → Int
  | [] => 1
  | .int i :: r => i * prodD r
  | _ :: r => prodD r
def wheelsD (d : D) : Bool := match d with
  | .tup xs => decide (1 ≤ xs.length) && decide (xs.length ≤ 3) && xs.all (withinD 2 4) && decide (prodD xs ≤ 24)
  | _ => false
def wI : D → Int
  | .int i => i
  | _ => 0
def valuesD (ws : List D) (d : D) : Bool := match d with
  | .tup xs => decide (xs.length = ws.length) && (List.zipWith (fun x w => withinD 0 (wI w - 1) x) xs ws).all id
  | _ => false
def leftD (n : Nat) (d : D) : Bool := match d with
  | .tup xs => decide (xs.length = n) && xs.all (withinD 0 2)
  | _ => false
def stateD (ws : List D) (n : Nat) (d : D) : Bool := match d with
  | .tup [a, b] => valuesD ws a && leftD n b
  | _ => false
def risingD (n : Int) (d : D) : Bool := match d with
  | .tup xs => xs.all (withinD 0 (n - 1)) && (List.zipWith (fun x y => decide (wI x < wI y)) xs (xs.drop 1)).all id
  | _ => false
mutual
def dk (st : Sto) : D → Bool
  | .tup xs => dks st xs
  | .ref n => kn st (.ref n)
  | .non => true
  | .bl _ => true
  | .int _ => true
  | .str _ => true
def dks (st : Sto) : List D → Bool
  | [] => true
  | d :: ds => dk st d && dks st ds
end
mutual
theorem dk_app {st ex : Sto} : ∀ {d : D}, dk st d = true → dk (st ++ ex) d = true
  | .tup xs, h => by simp only [dk] at h ⊢; exact dks_app h
  | .ref n, h => by simp only [dk] at h ⊢; exact kn_app h
  | .non, _ => by simp only [dk]
  | .bl _, _ => by simp only [dk]
  | .int _, _ => by simp only [dk]
  | .str _, _ => by simp only [dk]
theorem dks_app {st ex : Sto} : ∀ {ds : List D}, dks st ds = true → dks (st ++ ex) ds = true
  | [], _ => by simp only [dks]
  | d :: ds, h => by simp only [dks, Bool.and_eq_true] at h ⊢; exact ⟨dk_app h.1, dks_app h.2⟩
end
def scalD : D → Bool
  | .tup _ => false
  | .ref _ => false
  | .str x => SeqAt.shaped (.str x)
  | _ => true
def wordIn (ws : List Str) : D → Bool
  | .str x => ws.any (· == x)
  | _ => false
theorem toS_scal {st : Sto} {d : D} (h : scalD d = true) : ∃ p, toS st d = some p ∧ ∀ a : Str, PyData.eqv (.str a) p = wordIn [a] d := by
  cases d with
  | tup xs => cases h
  | ref n => cases h
  | str x =>
    have hs : SeqAt.shaped (.str x) = true := h
    refine ⟨.str x, by unfold toS; simp only [toP, hs, if_true], fun a => ?_⟩
    simp [PyData.eqv, wordIn]
  | non => exact ⟨.none, rfl, fun a => by simp [PyData.eqv, wordIn]⟩
  | bl b => exact ⟨.bool b, rfl, fun a => by simp [PyData.eqv, wordIn]⟩
  | int i => exact ⟨.int i, rfl, fun a => by simp [PyData.eqv, wordIn]⟩
theorem mapO_strs {n : Nat} {st : Sto} : ∀ ws : List Str, mapO (toP n st) (ws.map D.str) = some (ws.map PyData.str)
  | [] => rfl
  | w :: ws => by
    simp only [List.map_cons, mapO]
    rw [show toP n st (.str w) = some (.str w) by cases n <;> rfl, mapO_strs ws]
theorem in_words {st : Sto} {d : D} (ws : List Str) (h : scalD d = true) (hw : SeqAt.shaped (.tuple (ws.map PyData.str)) = true) : dIn false d (.tup (ws.map D.str)) st = .ok (.bl (wordIn ws d)) st := by
  obtain ⟨p, e, he⟩ := toS_scal (st := st) h
  have e2 : toS st (.tup (ws.map D.str)) = some (.tuple (ws.map PyData.str)) := by
    unfold toS
    simp only [toP, mapO_strs, Option.map_some, hw, if_true]
  unfold dIn
  rw [e, e2]
  simp only [itemsP]
  congr 2
  simp only [Bool.false_eq_true, if_false, List.any_map]
  clear e e2 hw
  induction ws with
  | nil => cases d <;> rfl
  | cons w ws ih =>
    simp only [List.any_cons, Function.comp_apply, he w]
    rw [ih]
    cases d <;> simp [wordIn]
def spotD (ws : List D) (words : List Str) : D → Bool
  | .tup [word, wheel, place] => wordIn words word && withinD 0 (ws.length - 1) wheel && withinD 0 (wI (ws.getD (wI wheel).toNat .non) - 1) place
  | _ => false
def momentD (n : Int) : D → Bool
  | .tup [word, rule] => wordIn ["hushed", "awake"] word && withinD 0 (n - 1) rule
  | _ => false
def condD (ws : List D) (n : Int) (d : D) : Bool := spotD ws ["is", "not", "below"] d || momentD n d
def changeD (ws : List D) (d : D) : Bool := spotD ws ["put", "turn"] d
def hushD : D → Bool
  | .tup [_, beats] => withinD 1 3 beats
  | _ => false
def fstD : D → D
  | .tup (x :: _) => x
  | _ => .non
def sndD : D → D
  | .tup (_ :: y :: _) => y
  | _ => .non
def isI : D → Bool
  | .int _ => true
  | _ => false
theorem isI_eq {d : D} (h : isI d = true) : d = .int (wI d) := by cases d <;> first | rfl | cases h
def hushesD (n : Int) (d : D) : Bool := match d with
  | .tup xs => decide (xs.length ≤ 5) && xs.all hushD && risingD n (.tup (xs.map fstD))
  | _ => false
def memI (d : D) (xs : List D) : Bool := xs.any fun y => wI y == wI d
def wakesD (n : Int) (d : D) (hs : List D) : Bool := match d with
  | .tup xs => decide (xs.length ≤ 5) && risingD n d && !(hs.any fun h => memI (fstD h) xs)
  | _ => false
def rowD (most : Nat) : D → Bool
  | .tup xs => decide (xs.length ≤ most)
  | _ => false
theorem eqN {st : Sto} {n : Nat} {k : Int} {neg : Bool} : dEq neg (.int (n : Int)) (.int k) st = .ok (.bl (if neg then !decide ((n : Int) = k) else decide ((n : Int) = k))) st := by
  rw [eqI]
  congr 2
def tupsD : D → List D
  | .tup xs => xs
  | _ => []
def ruleD (ws : List D) (n : Int) (d : D) : Bool := match d with
  | .tup [test, changes, hushes, wakes] => rowD 4 test && rowD 3 changes && (tupsD test).all (condD ws n) && (tupsD changes).all (changeD ws) && hushesD n hushes && wakesD n wakes (tupsD hushes)
  | _ => false
def wordsD (d : D) : Bool := match d with
  | .tup (w :: _) => scalD w
  | _ => true
def twoT : Option D → Option D → Option (List D × List D)
  | some (.tup ws), some (.tup rs) => some (ws, rs)
  | _, _ => none
def bookD (st : Sto) (d : D) : Option (List D × List D) := match d with
  | .ref n => match st[n]? with
    | some (.ins c fs) => if c = "Book" then twoT (lookF "wheels" fs) (lookF "rules" fs) else none
    | _ => none
  | _ => none
theorem twoT_inv {a b : Option D} {ws rs : List D} (h : twoT a b = some (ws, rs)) : a = some (.tup ws) ∧ b = some (.tup rs) := by
  unfold twoT at h
  split at h
  · cases h; exact ⟨rfl, rfl⟩
  · cases h
theorem bookD_at {st : Sto} {d : D} {ws rs : List D} (h : bookD st d = some (ws, rs)) : ∃ n fs, d = .ref n ∧ st[n]? = some (.ins "Book" fs) ∧ lookF "wheels" fs = some (.tup ws) ∧ lookF "rules" fs = some (.tup rs) := by
  unfold bookD at h
  split at h
  · rename_i n
    split at h
    · rename_i c fs q
      split at h
      · rename_i hc
        subst hc
        obtain ⟨h1, h2⟩ := twoT_inv h
        exact ⟨n, fs, rfl, q, h1, h2⟩
      · cases h
    · cases h
  · cases h
theorem book_wheels {st : Sto} {d : D} {ws rs : List D} (h : bookD st d = some (ws, rs)) : dFld "Book" "wheels" d st = .ok (.tup ws) st := by
  obtain ⟨n, fs, rfl, e, h1, h2⟩ := bookD_at h
  unfold dFld
  simp only [e, if_true, h1]
theorem book_rules {st : Sto} {d : D} {ws rs : List D} (h : bookD st d = some (ws, rs)) : dFld "Book" "rules" d st = .ok (.tup rs) st := by
  obtain ⟨n, fs, rfl, e, h1, h2⟩ := bookD_at h
  unfold dFld
  simp only [e, if_true, h2]
theorem bookD_app {st ex : Sto} {d : D} {ws rs : List D} (h : bookD st d = some (ws, rs)) : bookD (st ++ ex) d = some (ws, rs) := by
  obtain ⟨n, fs, rfl, e, h1, h2⟩ := bookD_at h
  unfold bookD
  simp only [List.getElem?_append_left (List.getElem?_eq_some_iff.mp e).1, e, if_true, h1, h2, twoT]
theorem mulI {st : Sto} {i j : Int} (h0 : 0 ≤ i) (h1 : i < 18446744073709551616) : dMul (.int i) (.int j) st = .ok (.int (i * j)) st := by
  unfold dMul
  simp only
  rw [if_pos (.inl ⟨by omega, by omega⟩)]
theorem dks_of {st : Sto} : ∀ {ds : List D}, (∀ x ∈ ds, dk st x = true) → dks st ds = true
  | [], _ => by simp only [dks]
  | d :: ds, h => by simp only [dks, Bool.and_eq_true]; exact ⟨h d List.mem_cons_self, dks_of fun x hx => h x (List.mem_cons_of_mem _ hx)⟩
theorem dk_of {st : Sto} {ds : List D} (h : ∀ x ∈ ds, dk st x = true) : dk st (.tup ds) = true := by simp only [dk]; exact dks_of h
theorem mapO_ints {n : Nat} {st : Sto} : ∀ {xs : List D}, xs.all isI = true → mapO (toP n st) xs = some (xs.map fun x => PyData.int (wI x))
  | [], _ => rfl
  | x :: xs, h => by
    simp only [List.all_cons, Bool.and_eq_true] at h
    cases x with
    | int i =>
      have e : toP n st (.int i) = some (.int i) := by cases n <;> rfl
      simp only [List.map_cons, mapO, e, mapO_ints h.2]
      rfl
    | _ => cases h.1
theorem shaped_ints : ∀ (xs : List D), PyData.canLayAll0 (xs.map fun x => PyData.int (wI x)) = true ∧ PyData.depthAll (xs.map fun x => PyData.int (wI x)) = 0
  | [] => ⟨by simp [PyData.canLayAll0], by simp [PyData.depthAll]⟩
  | x :: xs => by
    obtain ⟨h1, h2⟩ := shaped_ints xs
    exact ⟨by simp [PyData.canLayAll0, PyData.canLay0, h1], by simp [PyData.depthAll, PyData.depth, h2]⟩
theorem toS_ints {st : Sto} {xs : List D} (h : xs.all isI = true) : toS st (.tup xs) = some (.tuple (xs.map fun x => PyData.int (wI x))) := by
  obtain ⟨h1, h2⟩ := shaped_ints xs
  have hs : SeqAt.shaped (.tuple (xs.map fun x => PyData.int (wI x))) = true := by
    unfold SeqAt.shaped
    simp [PyData.canLay0, h1, PyData.depth, h2]
  unfold toS
  simp only [toP, mapO_ints h, Option.map_some, hs, if_true]
theorem in_ints {st : Sto} {xs : List D} {i : Int} (h : xs.all isI = true) : dIn false (.int i) (.tup xs) st = .ok (.bl (memI (.int i) xs)) st := by
  unfold dIn
  rw [toS_ints h, show toS st (.int i) = some (.int i) from rfl]
  simp only [itemsP, memI, wI, Bool.false_eq_true, if_false, List.any_map]
  congr 2
def ruleWords : D → Bool
  | .tup [ts, cs, _, _] => (tupsD ts).all wordsD && (tupsD cs).all wordsD
  | _ => true
end U
set_option Elab.async false
set_option linter.all false
set_option maxRecDepth 100000
set_option maxHeartbeats 1000000
namespace U
open PySem
def wr (n : Nat) (f : List D → Sto → Option (D × Sto)) : Fm := fun ds st => if ds.length = n then (match f ds st with
  | some (d, st1) => .ok d st1
  | none => .fail) else .fail
theorem wr_ok {n : Nat} {f : List D → Sto → Option (D × Sto)} {ds : List D} {st st1 : Sto} {d : D} (hl : ds.length = n) (h : f ds st = some (d, st1)) : wr n f ds st = .ok d st1 := by
  unfold wr
  rw [if_pos hl, h]
theorem Tells.wr {m : Fm} {n : Nat} {f : List D → Sto → Option (D × Sto)} (h : ∀ ds st d st1, Good st → Bnds st.length ds → ds.length = n → f ds st = some (d, st1) → st1.length = st.length ∧ Good st1 ∧ Bnd st1.length d ∧ ∃ ex, m ds st = .ok d (st1 ++ ex)) : Tells m (U.wr n f) where
  ok := fun ds st d st1 g b e => by
    unfold U.wr at e
    split at e
    · rename_i hl
      split at e
      · rename_i d' st1' q
        cases e
        obtain ⟨h0, h1, h2, ex, h3⟩ := h ds st d st1 g b hl q
        refine ⟨h1, h2, id, st1 ++ ex, by rw [ren_id]; exact h3, by omega, fun _ _ => rfl, fun _ _ _ _ h => h, fun i o h => ?_⟩
        rw [renO_id]
        show (st1 ++ ex)[i]? = some o
        rw [List.getElem?_append_left (List.getElem?_eq_some_iff.mp h).1]
        exact h
      · cases e
    · cases e
  err := fun ds st c fs st1 g b e => by
    unfold U.wr at e
    split at e
    · split at e <;> cases e
    · cases e
def bookO (ws rs : List D) : Ob := .ins "Book" [("wheels", .tup ws), ("rules", .tup rs)]
theorem runFor_J {s : Src} {g : GM} {body : SM} {xs : List D} (J : Nat → Ev → Sto → Prop) (hat : ∀ i env st, J i env st → s.at st = some xs)
    (h : ∀ i x env st, xs[i]? = some x → J i env st → ∃ env1 st1 env2 st2, g x env st = some (env1, st1) ∧ body env1 st1 = .nx env2 st2 ∧ J (i + 1) env2 st2) :
    ∀ (k i : Nat) (env : Ev) (st : Sto), xs.length = i + k → J i env st → ∃ env' st', runFor s g body (k + 1) i env st = .nx env' st' ∧ J xs.length env' st'
  | 0, i, env, st, hk, hJ => by
    have e : i = xs.length := by omega
    subst e
    refine ⟨env, st, ?_, hJ⟩
    unfold runFor
    simp only [hat _ _ _ hJ]
    rw [List.getElem?_eq_none (Nat.le_refl _)]
  | k + 1, i, env, st, hk, hJ => by
    have hi : i < xs.length := by omega
    obtain ⟨env1, st1, env2, st2, h1, h2, h3⟩ := h i xs[i] env st (List.getElem?_eq_getElem hi) hJ
    obtain ⟨env', st', h4, h5⟩ := runFor_J J hat h k (i + 1) env2 st2 (by omega) h3
    refine ⟨env', st', ?_, h5⟩
    unfold runFor
    simp only [hat _ _ _ hJ]
    rw [List.getElem?_eq_getElem hi]
    simp only [h1, h2]
    exact h4
theorem startFor_J {s : Src} {g : GM} {body : SM} {xs : List D} {env : Ev} {st : Sto} (J : Nat → Ev → Sto → Prop) (hat : ∀ i env st, J i env st → s.at st = some xs) (h0 : J 0 env st)
    (h : ∀ i x env st, xs[i]? = some x → J i env st → ∃ env1 st1 env2 st2, g x env st = some (env1, st1) ∧ body env1 st1 = .nx env2 st2 ∧ J (i + 1) env2 st2) : ∃ env' st', startFor g body env s st = .nx env' st' ∧ J xs.length env' st' := by
  unfold startFor
  rw [hat 0 env st h0]
  exact runFor_J J hat h xs.length 0 env st (by omega) h0
theorem setFld_ok {st : Sto} {k : Nat} {c f : Str} {fs : List (Str × D)} {d : D} {env : Ev} (h : st[k]? = some (.ins c fs)) (hl : fs.length < 400) : setFld c f (.ref k) d env st = .nx env (st.set k (.ins c (putD f d fs))) := by
  unfold setFld
  simp only [h]
  rw [if_pos (by simp [hl])]
theorem get_set {st : Sto} {k : Nat} {o : Ob} (h : k < st.length) : (st.set k o)[k]? = some o := List.getElem?_set_self h
theorem bookO_at {st : Sto} {k : Nat} {ws rs : List D} (h : st[k]? = some (bookO ws rs)) : bookD st (.ref k) = some (ws, rs) := by
  unfold bookD
  simp only [h, bookO, if_true, lookF]
  rw [if_neg (by decide)]
  rfl
end U
set_option Elab.async false
set_option linter.all false
set_option maxRecDepth 100000
set_option maxHeartbeats 1000000
namespace U
open PySem
mutual
theorem ren_old {n : Nat} {ρ : Nat → Nat} (h : ∀ i, i < n → ρ i = i) : ∀ {d : D}, Bnd n d → ren ρ d = d
  | .tup xs, b => by simp only [Bnd] at b; simp only [ren]; rw [rens_old h b]
  | .ref k, b => by simp only [Bnd] at b; simp only [ren]; rw [h k b]
  | .non, _ => by simp only [ren]
  | .bl _, _ => by simp only [ren]
  | .int _, _ => by simp only [ren]
  | .str _, _ => by simp only [ren]
theorem rens_old {n : Nat} {ρ : Nat → Nat} (h : ∀ i, i < n → ρ i = i) : ∀ {ds : List D}, Bnds n ds → rens ρ ds = ds
  | [], _ => by simp only [rens]
  | d :: ds, b => by simp only [Bnds] at b; simp only [rens]; rw [ren_old h b.1, rens_old h b.2]
end
theorem renO_old {n : Nat} {ρ : Nat → Nat} (h : ∀ i, i < n → ρ i = i) {o : Ob} (b : BndO n o) : renO ρ o = o := by
  cases o with
  | lst xs => simp only [renO]; rw [rens_old h b]
  | rol xs => simp only [renO]; rw [rens_old h b]
  | fzt xs => simp only [renO]; rw [rens_old h b]
  | tab P q => rfl
  | exc p d cl c fs =>
    simp only [renO]
    congr 1
    have b' : Bnds n (fs.map (·.2)) := b
    clear b
    induction fs with
    | nil => rfl
    | cons p fs ih =>
      simp only [List.map_cons, Bnds] at b'
      rw [List.map_cons, ren_old h b'.1, ih b'.2]
  | kst xs => simp only [renO]; rw [rens_old h b]
  | ins c fs =>
    simp only [renO]
    congr 1
    have b' : Bnds n (fs.map (·.2)) := b
    clear b
    induction fs with
    | nil => rfl
    | cons p fs ih =>
      simp only [List.map_cons, Bnds] at b'
      rw [List.map_cons, ren_old h b'.1, ih b'.2]
  | dct kvs =>
    simp only [renO]
    congr 1
    obtain ⟨b1, b2⟩ := b
    induction kvs with
    | nil => rfl
    | cons p kvs ih =>
      simp only [List.map_cons, Bnds] at b1 b2
      rw [List.map_cons, ren_old h b1.1, ren_old h b2.1, ih b1.2 b2.2]
  | dcl kvs =>
    simp only [renO]
    congr 1
    obtain ⟨b1, b2⟩ := b
    induction kvs with
    | nil => rfl
    | cons p kvs ih =>
      simp only [List.map_cons, Bnds] at b1 b2
      rw [List.map_cons, ren_old h b1.1, ren_old h b2.1, ih b1.2 b2.2]
mutual
theorem Bnd.mono {n k : Nat} (h : n ≤ k) : ∀ {d : D}, Bnd n d → Bnd k d
  | .tup xs, b => by simp only [Bnd] at b ⊢; exact Bnds.mono h b
  | .ref i, b => by simp only [Bnd] at b ⊢; omega
  | .non, _ => by simp only [Bnd]
  | .bl _, _ => by simp only [Bnd]
  | .int _, _ => by simp only [Bnd]
  | .str _, _ => by simp only [Bnd]
theorem Bnds.mono {n k : Nat} (h : n ≤ k) : ∀ {ds : List D}, Bnds n ds → Bnds k ds
  | [], _ => by simp only [Bnds]
  | d :: ds, b => by simp only [Bnds] at b ⊢; exact ⟨Bnd.mono h b.1, Bnds.mono h b.2⟩
end
theorem BndO.mono {n k : Nat} (h : n ≤ k) {o : Ob} (b : BndO n o) : BndO k o := by
  cases o with
  | lst xs => exact Bnds.mono h b
  | rol xs => exact Bnds.mono h b
  | fzt xs => exact Bnds.mono h b
  | tab P q => trivial
  | exc p d cl c fs => exact Bnds.mono h b
  | kst xs => exact Bnds.mono h b
  | ins c fs => exact Bnds.mono h b
  | dct kvs => exact ⟨Bnds.mono h b.1, Bnds.mono h b.2⟩
  | dcl kvs => exact ⟨Bnds.mono h b.1, Bnds.mono h b.2⟩
def nw (n : Nat) (f : List D → Sto → Option Ob) : Fm := fun ds st => if ds.length = n then (match f ds st with
  | some o => .ok (.ref st.length) (st ++ [o])
  | none => .fail) else .fail
theorem nw_ok {n : Nat} {f : List D → Sto → Option Ob} {ds : List D} {st : Sto} {o : Ob} (hl : ds.length = n) (h : f ds st = some o) : nw n f ds st = .ok (.ref st.length) (st ++ [o]) := by
  unfold nw
  rw [if_pos hl, h]
theorem Tells.nw {m : Fm} {n : Nat} {f : List D → Sto → Option Ob} (h : ∀ ds st o, Good st → Bnds st.length ds → ds.length = n → f ds st = some o → BndO st.length o ∧ ∃ ex j, ex[j]? = some o ∧ m ds st = .ok (.ref (st.length + j)) (st ++ ex)) : Tells m (U.nw n f) where
  ok := fun ds st d st1 g b e => by
    unfold U.nw at e
    split at e
    · rename_i hl
      split at e
      · rename_i o q
        cases e
        obtain ⟨h1, ex, j, h2, h3⟩ := h ds st o g b hl q
        have old : ∀ i, i < st.length → (fun i => if i < st.length then i else st.length + j) i = i := fun i hi => if_pos hi
        refine ⟨fun i p e => ?_, by simp only [Bnd]; simp, fun i => if i < st.length then i else st.length + j, st ++ ex, ?_, ?_⟩
        · by_cases hi : i < st.length
          · rw [List.getElem?_append_left hi] at e
            exact (g i p e).mono (by simp)
          · have hi2 : i < (st ++ [o]).length := (List.getElem?_eq_some_iff.mp e).1
            have : i = st.length := by simp at hi2; omega
            subst this
            simp at e
            subst e
            exact h1.mono (by simp)
        · simp only [ren]
          rw [if_neg (Nat.lt_irrefl _)]
          exact h3
        · refine ⟨by simp, old, fun i k hi hk e => ?_, fun i p e => ?_⟩
          · simp at hi hk
            have e' : (if i < st.length then i else st.length + j) = (if k < st.length then k else st.length + j) := e
            split at e' <;> split at e' <;> omega
          · by_cases hi : i < st.length
            · rw [List.getElem?_append_left hi] at e
              show (st ++ ex)[if i < st.length then i else st.length + j]? = _
              rw [if_pos hi, List.getElem?_append_left hi, e, renO_old old (g i p e)]
            · have hi2 : i < (st ++ [o]).length := (List.getElem?_eq_some_iff.mp e).1
              have : i = st.length := by simp at hi2; omega
              subst this
              simp at e
              subst e
              show (st ++ ex)[if st.length < st.length then st.length else st.length + j]? = _
              rw [if_neg (Nat.lt_irrefl _), List.getElem?_append_right (by omega), renO_old old h1]
              simpa using h2
      · cases e
    · cases e
  err := fun ds st c fs st1 g b e => by
    unfold U.nw at e
    split at e
    · split at e <;> cases e
    · cases e
theorem ixS {st : Sto} {v d : D} {vs : List D} {i : Int} (h : seqOf st v = some vs) (ha : L2.atI vs i = some d) : dIx v (.int i) st = .ok d st := by
  unfold dIx
  rw [h]
  simp only [ha]
def soO (c : D) (vs ls : List D) : Option Bool := match c with
  | .tup [.str w, .int r] => match L2.atI ls r with
    | some (.int i) => if w = "hushed" then some (decide (0 < i)) else if w = "awake" then some (i == 0) else none
    | _ => none
  | .tup [.str w, .int x, .int p] => match L2.atI vs x with
    | some (.int i) => if w = "is" then some (i == p) else if w = "not" then some (!(i == p)) else if w = "below" then some (decide (i < p)) else none
    | _ => none
  | _ => none
theorem strEq {st : Sto} (a b : Str) (ha : SeqAt.shaped (.str a) = true) (hb : SeqAt.shaped (.str b) = true) : dEq false (.str a) (.str b) st = .ok (.bl (a == b)) st := by
  unfold dEq toS
  simp only [toP, ha, hb, if_true, PyData.eqv, Bool.false_eq_true, if_false]
def readyO (rs : List D) (r : Int) (vs ls : List D) : Option Bool := match L2.atI ls r, L2.atI rs r with
  | some (.int i), some (.tup [.tup cs, _, _, _]) => if 0 < i then some false else if (cs.all fun c => (soO c vs ls).isSome) = true then some (cs.all fun c => soO c vs ls == some true) else none
  | _, _ => none
theorem dk_ints {st : Sto} {xs : List D} (h : xs.all isI = true) : dk st (.tup xs) = true := dk_of fun x hx => by
  rw [isI_eq (List.all_eq_true.mp h x hx)]
  simp only [dk]
end U
set_option Elab.async false
set_option linter.all false
set_option maxRecDepth 100000
set_option maxHeartbeats 1000000
namespace U
open PySem
def lst3 (g x c : Int) : Ob := .lst [.int g, .int x, .int c]
def takeX (x c : Int) : Int := (x * 48271 + 7919 * (c + 1) * (c + 1) + 11) % 2147483647
def takeD (g x c many : Int) : Int := if 0 < g then g % many else (takeX x c / 8) ^ 3 % 2147483629 % many
def takeO (g x c many : Int) : Ob := if 0 < g then lst3 (g / many) x c else lst3 g (takeX x c) (c + 1)
def int3 (o : Ob) : Option (Int × Int × Int) := match o with
  | .lst [.int g, .int x, .int c] => some (g, x, c)
  | _ => none
def CtOk (x c : Int) : Prop := 0 ≤ x ∧ x < 2147483647 ∧ 0 ≤ c ∧ c < 1000000000
instance (x c : Int) : Decidable (CtOk x c) := inferInstanceAs (Decidable (_ ∧ _ ∧ _ ∧ _))
def s_take : Fm := wr 2 fun ds st => match ds with
  | [.ref k, .int many] => match (st[k]?).bind int3 with
    | some (g, x, c) => if CtOk x c ∧ 0 < many ∧ many < 1000000000000000000000000000000000000000000000000000000000001 then some (.int (takeD g x c many), st.set k (takeO g x c many)) else none
    | none => none
  | _ => none
theorem take_of {st : Sto} {k : Nat} {g x c many : Int} (h : st[k]? = some (lst3 g x c)) (hc : CtOk x c) (h0 : 0 < many) (h1 : many < 1000000000000000000000000000000000000000000000000000000000001) : s_take [.ref k, .int many] st = .ok (.int (takeD g x c many)) (st.set k (takeO g x c many)) := by
  refine wr_ok rfl ?_
  show (match (st[k]?).bind int3 with | some (g, x, c) => if CtOk x c ∧ 0 < many ∧ many < 1000000000000000000000000000000000000000000000000000000000001 then some (D.int (takeD g x c many), st.set k (takeO g x c many)) else none | none => none) = _
  rw [h]
  show (if CtOk x c ∧ 0 < many ∧ many < 1000000000000000000000000000000000000000000000000000000000001 then some (D.int (takeD g x c many), st.set k (takeO g x c many)) else none) = _
  rw [if_pos ⟨hc, h0, h1⟩]
theorem take_range {g x c many : Int} (h0 : 0 < many) : 0 ≤ takeD g x c many ∧ takeD g x c many < many := by
  unfold takeD
  split
  · exact ⟨Int.emod_nonneg _ (by omega), Int.emod_lt_of_pos _ h0⟩
  · exact ⟨Int.emod_nonneg _ (by omega), Int.emod_lt_of_pos _ h0⟩
theorem takeX_range {x c : Int} : 0 ≤ takeX x c ∧ takeX x c < 2147483647 := ⟨Int.emod_nonneg _ (by decide), Int.emod_lt_of_pos _ (by decide)⟩
theorem take_next {g x c many : Int} (hc : CtOk x c) (h : c + 1 < 1000000000) : ∃ g' x' c', takeO g x c many = lst3 g' x' c' ∧ CtOk x' c' ∧ c' ≤ c + 1 := by
  unfold takeO
  split
  · exact ⟨_, _, _, rfl, hc, by omega⟩
  · exact ⟨_, _, _, rfl, ⟨takeX_range.1, takeX_range.2, by have := hc.2.2.1; omega, h⟩, Int.le_refl _⟩
theorem lst_at {st : Sto} {k : Nat} {xs : List D} (h : st[k]? = some (.lst xs)) : seqOf st (.ref k) = some xs := by
  unfold seqOf lstOf
  simp only [h]
theorem modI {st : Sto} {i j : Int} (h : 0 < j) : dMod (.int i) (.int j) st = .ok (.int (i % j)) st := if_pos h
theorem divI {st : Sto} {i j : Int} (h : 0 < j) (h2 : j < 1000000000000000000000000000000000000000000000000000000000001) : dDiv (.int i) (.int j) st = .ok (.int (i / j)) st := if_pos ⟨h, h2⟩
theorem powI {st : Sto} {i j : Int} (h : 0 ≤ j) (h2 : j ≤ 1000000) (h3 : i.natAbs < 18446744073709551616) : dPow (.int i) (.int j) st = .ok (.int (i ^ j.toNat)) st := if_pos ⟨h, h2, h3⟩
def cellI (ns : List Int) (k : Nat) : Int := ns.getD k 0
def absI (i : Int) : Int := if i < 0 then -i else i
def bagG (c : Int) : Int := if 1000000000000000000 ≤ absI c then absI c else 0
def primes : List Int := [2147483629, 2147483587, 2147483579, 2147483563, 2147483549, 2147483543, 2147483497, 2147483489]
def bagX (c : Int) (k : Nat) : Int := (c % 2147483647 + 104729 * (k : Int) + 7) ^ 5 % primes.getD (k % 8) 1
theorem bagX_range (c : Int) (k : Nat) : 0 ≤ bagX c k ∧ bagX c k < 2147483647 := by
  have h : ∀ j, j < 8 → 0 < primes.getD j 1 ∧ primes.getD j 1 < 2147483647 := by decide
  obtain ⟨h1, h2⟩ := h (k % 8) (Nat.mod_lt _ (by decide))
  unfold bagX
  exact ⟨Int.emod_nonneg _ (by omega), Int.lt_trans (Int.emod_lt_of_pos _ h1) h2⟩
def intsOf : List D → Option (List Int)
  | [] => some []
  | .int i :: r => (intsOf r).map (i :: ·)
  | _ :: _ => none
theorem intsOf_map : ∀ ns : List Int, intsOf (ns.map D.int) = some ns
  | [] => rfl
  | i :: ns => by simp only [List.map_cons, intsOf, intsOf_map ns, Option.map_some]
def s_bag : Fm := nw 2 fun ds st => match ds with
  | [.ref n, .int k] => match (lstOf st n).bind intsOf with
    | some ns => if 0 ≤ k ∧ k < 1000000 ∧ ns.length ≤ 1000000 then some (lst3 (bagG (cellI ns k.toNat)) (bagX (cellI ns k.toNat) k.toNat) 0) else none
    | none => none
  | _ => none
theorem bag_of {st : Sto} {n k : Nat} {ns : List Int} (h : lstOf st n = some (ns.map D.int)) (hk : k < 1000000) (hn : ns.length ≤ 1000000) : s_bag [.ref n, .int k] st = .ok (.ref st.length) (st ++ [lst3 (bagG (cellI ns k)) (bagX (cellI ns k) k) 0]) := by
  refine nw_ok rfl ?_
  show (match (lstOf st n).bind intsOf with | some ns => if 0 ≤ (k : Int) ∧ (k : Int) < 1000000 ∧ ns.length ≤ 1000000 then some (lst3 (bagG (cellI ns (k : Int).toNat)) (bagX (cellI ns (k : Int).toNat) (k : Int).toNat) 0) else none | none => none) = _
  rw [h, Option.bind_some, intsOf_map]
  show (if 0 ≤ (k : Int) ∧ (k : Int) < 1000000 ∧ ns.length ≤ 1000000 then some (lst3 (bagG (cellI ns (k : Int).toNat)) (bagX (cellI ns (k : Int).toNat) (k : Int).toNat) 0) else none) = _
  rw [if_pos ⟨by omega, by omega, hn⟩, Int.toNat_natCast]
section
variable {st : Sto} {n j : Nat} {ns : List Int}
end
theorem rngL_length {lo : Int} {n : Nat} : (rngL lo n).length = n := by simp [rngL]
theorem rngL_get {n i : Nat} {x : D} (h : (rngL 0 n)[i]? = some x) : i < n ∧ x = .int (i : Int) := by
  have hi : i < (rngL 0 n).length := (List.getElem?_eq_some_iff.mp h).1
  rw [rngL_length] at hi
  unfold rngL at h
  rw [List.getElem?_map, List.getElem?_range hi] at h
  simp only [Option.map_some, Option.some.injEq, Int.zero_add] at h
  exact ⟨hi, h.symm⟩
theorem rngL_map {α : Type} {n : Nat} {f : D → α} : (rngL 0 n).map f = (List.range n).map fun (i : Nat) => f (.int (i : Int)) := by
  unfold rngL
  rw [List.map_map]
  congr 1
  funext i
  simp only [Function.comp_apply, Int.zero_add]
theorem rng_src {st : Sto} {n : Nat} (h : n ≤ most) : rngSrc (.int (n : Int)) st = .ok (.fix (rngL 0 n)) st := by
  have : n ≤ 4000000 := h
  unfold rngSrc
  simp only
  rw [if_pos (by omega)]
  rfl
theorem irng_of {a : EM} {env : Ev} {st st1 : Sto} {n : Nat} (h : a env st = .ok (.int (n : Int)) st1) (hn : n ≤ most) : iRng a env st = .ok (.fix (rngL 0 n)) st1 := by
  unfold iRng
  rw [h, ev_bok]
  exact rng_src hn
end U
set_option Elab.async false
set_option linter.all false
set_option maxRecDepth 100000
set_option maxHeartbeats 1000000
namespace U
open PySem PySem.Spec PyProof.Rows L2
def Script (ob : Ob) (ns : List Int) : Prop := ob = .rol (ns.map D.int) ∨ ob = .kst (ns.map D.int)
theorem Script.at {ob : Ob} {ns : List Int} (h : Script ob ns) {st : Sto} (e : st[0]? = some ob) : lstOf st 0 = some (ns.map D.int) := by
  unfold lstOf
  rw [e]
  rcases h with rfl | rfl <;> rfl
end U
set_option Elab.async false
set_option linter.all false
set_option maxRecDepth 100000
set_option maxHeartbeats 4000000
namespace U
open PySem PySem.Spec PyProof.Rows L2
inductive Arg where
  | at (i : Nat)
  | df (d : D)
def pick : List Arg → List D → Option (List D)
  | [], _ => some []
  | .at i :: l, ds => match ds[i]? with
    | some d => (pick l ds).map (d :: ·)
    | none => none
  | .df d :: l, ds => (pick l ds).map (d :: ·)
def via (l : List Arg) (f : Fm) : Fm := fun ds st => match pick l ds with
  | some es => f es st
  | none => .fail
def aApp (ga gk : AM) : AM := fun env st => (ga env st).bind fun xs st => (gk env st).bind fun ys st => .ok (xs ++ ys) st
section
variable {X : Cx} {W : WX} {a e : Expr} {es : List Expr} {kws : List Keyword} {ga gs gk : AM} {ge : EM} {pos p kpos : Pos} {k n np : Nat} {x : Str} {f : Fm} {nm : Option Str}
theorem _root_.L2.PK.imp {X : Cx} {kws : List Keyword} {t t' : TA} (h : PK X kws t) (i : ∀ σ H Q, t' σ H Q → t σ H Q) : PK X kws t' := ⟨fun pos pins s σ H Q I q => h.run pos pins s σ H Q I (i _ _ _ q)⟩
structure FnS (P : Program) (w : World) (K : PySem.W.Frag) (mg : Str → Option Value) (base : Heap) (k : Nat) (x : Str) (n : Nat) (f : Fm) (np : Nat) (ks : List Str) (l : List Arg) : Prop where
  ex : ∃ (a : Addr) (fd : FuncData) (ps : List Str) (g : List Value → List Value → List Value) (gV : List V → List V → List V), FnOk P w K mg base (L2.CX P w) k a fd ps (spF K n f) ∧ mg x = some (.ref a) ∧ PySem.W.keepIn K (.ref a) = true ∧ KBn K fd ps np ks g gV ∧
    ∀ (H : Hp) (m : Pl) (ds es : List D) (vs zs : List V), RVs K H m ds vs → RVs K H m es zs → vs.length = np → zs.length = ks.length → ∃ fs, pick l (ds ++ es) = some fs ∧ RVs K H m fs (gV vs zs)
  ar : Arity n f
end
section
variable {K : PySem.W.Frag} {x qual : Str} {params : Arguments} {body : List Stmt} {scope : Scope} {dvs : List V} {kws : List (Str × V)} {f : Addr} {fd : FuncData} {ps : List Str}
end
end U
set_option Elab.async false
set_option linter.all false
set_option maxRecDepth 100000
set_option maxHeartbeats 4000000
namespace U
open PySem PySem.Spec PyProof.Rows L2
end U
namespace U
open PySem PySem.Spec PyProof.Rows L2
def insI (x : Int) : List Int → List Int
  | [] => [x]
  | y :: r => if x ≤ y then x :: y :: r else y :: insI x r
def isort : List Int → List Int
  | [] => []
  | x :: r => insI x (isort r)
theorem insI_perm (x : Int) : ∀ r : List Int, (insI x r).Perm (x :: r)
  | [] => .refl _
  | y :: r => by
    unfold insI
    split
    · exact .refl _
    · exact ((insI_perm x r).cons y).trans (List.Perm.swap x y r)
theorem isort_perm : ∀ r : List Int, (isort r).Perm r
  | [] => .refl _
  | x :: r => (insI_perm x _).trans ((isort_perm r).cons x)
theorem insI_sorted (x : Int) : ∀ {r : List Int}, r.Pairwise (· ≤ ·) → (insI x r).Pairwise (· ≤ ·)
  | [], _ => List.pairwise_singleton _ _
  | y :: r, h => by
    obtain ⟨h1, h2⟩ := List.pairwise_cons.mp h
    unfold insI
    split
    · rename_i hxy
      exact List.pairwise_cons.mpr ⟨fun z hz => by
        rcases List.mem_cons.mp hz with e | hz
        · rw [e]; exact hxy
        · exact Int.le_trans hxy (h1 z hz), h⟩
    · rename_i hxy
      refine List.pairwise_cons.mpr ⟨fun z hz => ?_, insI_sorted x h2⟩
      rcases List.mem_cons.mp ((insI_perm x r).mem_iff.mp hz) with e | hz
      · rw [e]; omega
      · exact h1 z hz
theorem isort_sorted : ∀ r : List Int, (isort r).Pairwise (· ≤ ·)
  | [] => .nil
  | x :: r => insI_sorted x (isort_sorted r)
theorem RVs.ints {K : PySem.W.Frag} {H : Hp} {m : Pl} : ∀ {ns : List Int} {vs : List V}, RVs K H m (ns.map D.int) vs → vs = ns.map V.int
  | [], _, h => by cases h; rfl
  | n :: ns, _, h => by
    cases h with
    | cons h1 h2 =>
      cases h1
      rw [RVs.ints h2]
      rfl
section
variable {X : Cx} {W : WX} {a : Expr} {ga : EM} {p pos pos2 p2 : Pos}
def fTRg (ds : List D) (st : Sto) : R D := match ds with
  | [.int j] => if j ≤ 16777216 ∧ -16777216 ≤ j then .ok (.tup (rngL 0 j.toNat)) st else .fail
  | _ => .fail
end
end U
set_option Elab.async false
set_option linter.all false
set_option maxRecDepth 100000
set_option maxHeartbeats 1000000
namespace U
open PySem PySem.Spec PyProof.Rows L2
def noText : NestedKey → Bool
  | .none => true
  | .num _ => true
  | .text _ => false
  | .tup ks => go ks
where go : List NestedKey → Bool
  | [] => true
  | k :: ks => noText k && go ks
mutual
theorem hash_any (w w' : World) : ∀ k : NestedKey, noText k = true → k.hash w = k.hash w'
  | .none, _ => by simp only [NestedKey.hash]
  | .num _, _ => by simp only [NestedKey.hash]
  | .text _, h => by simp [noText] at h
  | .tup ks, h => by
    simp only [noText] at h
    simp only [NestedKey.hash]
    rw [hashes_any w w' ks h]
theorem hashes_any (w w' : World) : ∀ ks : List NestedKey, noText.go ks = true → NestedKey.hashes w ks = NestedKey.hashes w' ks
  | [], _ => by simp only [NestedKey.hashes]
  | k :: ks, h => by
    simp only [noText.go, Bool.and_eq_true] at h
    simp only [NestedKey.hashes]
    rw [hash_any w w' k h.1, hashes_any w w' ks h.2]
end
mutual
theorem keyD_noText : ∀ {d : D} {k : NestedKey}, keyD d = some k → noText k = true
  | .non, _, h => by simp only [keyD] at h; cases h; simp only [noText]
  | .bl _, _, h => by simp only [keyD] at h; cases h; simp only [noText]
  | .int _, _, h => by simp only [keyD] at h; cases h; simp only [noText]
  | .str _, _, h => by simp only [keyD] at h; cases h
  | .ref _, _, h => by simp only [keyD] at h; cases h
  | .tup xs, _, h => by
    simp only [keyD] at h
    cases q : keysD xs with
    | none => rw [q] at h; cases h
    | some ks =>
      rw [q] at h
      cases h
      simp only [noText]
      exact keysD_noText q
theorem keysD_noText : ∀ {ds : List D} {ks : List NestedKey}, keysD ds = some ks → noText.go ks = true
  | [], _, h => by simp only [keysD] at h; cases h; simp only [noText.go]
  | d :: ds, _, h => by
    simp only [keysD] at h
    split at h
    · rename_i k ks h1 h2
      cases h
      simp only [noText.go, Bool.and_eq_true]
      exact ⟨keyD_noText h1, keysD_noText h2⟩
    · cases h
end
section
variable {X : Cx} {pins : List (Addr × Obj)} {σ : L2.St} {H : Hp} {s : Shared} {m : Pl}
mutual
theorem key_in (I : Inv X pins σ H s) : ∀ {d : D} {v : V} {u : Value} {k : NestedKey}, RV X.K H m d v → RelV v u → keyD d = some k → NestedIs s.heap k u
  | .non, _, _, _, r, rv, h => by
    simp only [keyD] at h; cases h; cases r
    cases (show _ = Value.none from rv)
    exact .none
  | .bl b, _, _, _, r, rv, h => by
    simp only [keyD] at h; cases h; cases r
    cases (show _ = Value.bool b from rv)
    exact .bool rfl
  | .int i, _, _, _, r, rv, h => by
    simp only [keyD] at h; cases h; cases r
    obtain ⟨t, rfl⟩ := rv
    exact .int i t
  | .str _, _, _, _, _, _, h => by simp only [keyD] at h; cases h
  | .ref _, _, _, _, _, _, h => by simp only [keyD] at h; cases h
  | .tup xs, _, _, _, r, rv, h => by
    simp only [keyD] at h
    cases q : keysD xs with
    | none => rw [q] at h; cases h
    | some ks =>
      rw [q] at h
      cases h
      cases r with
      | tup hq rs =>
        cases (show _ = Value.ref _ from rv)
        obtain ⟨its, r1, ⟨o, ho, hc, n, hd⟩, _⟩ := I.tuple hq
        exact .tup ho hc hd (by simpa using keys_in I rs r1 q)
theorem keys_in (I : Inv X pins σ H s) : ∀ {ds : List D} {vs : List V} {us : List Value} {ks : List NestedKey}, RVs X.K H m ds vs → Vals vs us → keysD ds = some ks → NestedAll s.heap ks us
  | [], _, _, _, r, rv, h => by
    simp only [keysD] at h; cases h; cases r; cases rv
    exact .nil
  | d :: ds, _, _, _, r, rv, h => by
    simp only [keysD] at h
    split at h
    · rename_i k ks h1 h2
      cases h
      cases r with
      | cons r1 r2 =>
        cases rv with
        | cons v1 v2 => exact .cons (key_in I r1 v1 h1) (keys_in I r2 v2 h2)
    · cases h
end
theorem DR.dict (I : Inv X pins σ H s) {a : Addr} {kvs : List (D × D)} {xs : List DEn} {vs : List V} (h : DR X.K H m a kvs xs vs) : s.heap.DictOfH (nestedKind X.prog X.w) a xs := by
  obtain ⟨⟨w0, o, es, ep, h1, h2, h3, h4⟩, _⟩ := (show ObjOk X.prog X.w H s.heap a (dObj a xs) from I.hok a _ h.at_)
  have hx : ∀ (i : Nat) (x : DEn), xs[i]? = some x → ∃ d : D, keyD d = some x.1 ∧ RV X.K H m d (.ref x.2.1) := fun i x hi => by
    obtain ⟨d, hd, r⟩ := h.rk.getv (i := i) (v := .ref x.2.1) (by rw [List.getElem?_map, hi]; rfl)
    rw [List.getElem?_map] at hd
    obtain ⟨p, hp, rfl⟩ := Option.map_eq_some_iff.mp hd
    have e := congrArg (fun l => l[i]?) h.key
    simp only [List.getElem?_map, hp, hi, Option.map_some] at e
    exact ⟨p.1, by injection e, r⟩
  refine ⟨o, es, ep, h1, h2, h3, ?_, fun x hm => ?_, h.nd⟩
  · rw [h4]
    apply List.map_congr_left
    intro x hm
    obtain ⟨i, hi⟩ := List.getElem?_of_mem hm
    obtain ⟨d, hd, _⟩ := hx i x hi
    show (⟨x.1.hash w0, _, _⟩ : DictEntry) = ⟨x.1.hash X.w, _, _⟩
    rw [hash_any w0 X.w _ (keyD_noText hd)]
  · obtain ⟨i, hi⟩ := List.getElem?_of_mem hm
    obtain ⟨d, hd, r⟩ := hx i x hi
    exact ⟨key_in I r rfl hd, h.dep x hm⟩
end
def getK (kvs : List (D × D)) (k : NestedKey) : Option D := match kvs with
  | [] => none
  | p :: r => if keyD p.1 = some k then some p.2 else getK r k
def putK (kvs : List (D × D)) (kd : D) (k : NestedKey) (v : D) : List (D × D) := if (getK kvs k).isSome then kvs.map (fun p => if keyD p.1 = some k then (p.1, v) else p) else kvs ++ [(kd, v)]
section
variable {K : PySem.W.Frag} {H : Hp} {m : Pl} {a : Addr}
theorem get_rel {k : NestedKey} : ∀ {kvs : List (D × D)} {xs : List DEn} {vs : List V}, kvs.map (fun p => keyD p.1) = xs.map (fun x => some x.1) → RVs K H m (kvs.map (·.2)) vs → Vals vs (xs.map (·.2.2)) →
    (getK kvs k = none ∧ atKey xs k = none) ∨ ∃ d v p, getK kvs k = some d ∧ atKey xs k = some p ∧ RV K H m d v ∧ RelV v p.2
  | [], [], _, _, _, _ => .inl ⟨rfl, rfl⟩
  | [], _ :: _, _, e, _, _ => by cases e
  | _ :: _, [], _, e, _, _ => by cases e
  | p :: kvs, x :: xs, _, e, r, rv => by
    simp only [List.map_cons, List.cons.injEq] at e
    cases r with
    | @cons _ _ v vs r1 r2 =>
      cases rv with
      | cons v1 v2 =>
        unfold getK atKey
        rw [List.find?_cons]
        by_cases hk : x.1 = k
        · rw [if_pos (by rw [e.1, hk]), hk]
          simp only [decide_true, Option.map_some]
          exact .inr ⟨_, _, _, rfl, rfl, r1, v1⟩
        · rw [if_neg (by rw [e.1]; intro z; exact hk (Option.some.inj z))]
          simp only [hk, decide_false]
          exact get_rel e.2 r2 v2
end
def dctOf (st : Sto) (d : D) : Option (List (D × D)) := match d with
  | .ref n => match st[n]? with
    | some (.dct kvs) => some kvs
    | _ => none
  | _ => none
def askK (d : D) : Option NestedKey := match d with
  | .tup _ => match keyD d with
    | some k => if k.depth ≤ 8 then some k else none
    | none => none
  | _ => none
def dInD (neg : Bool) (y d : D) (st : Sto) : R D := match dctOf st d, askK y with
  | some kvs, some k => .ok (.bl (if neg = true then !(getK kvs k).isSome else (getK kvs k).isSome)) st
  | _, _ => .fail
section
variable {X : Cx} {W : WX} {k : Nat}
theorem get_some {K : PySem.W.Frag} {H : Hp} {m : Pl} {a : Addr} {kvs : List (D × D)} {xs : List DEn} {vs : List V} (h : DR K H m a kvs xs vs) (k : NestedKey) : (atKey xs k).isSome = (getK kvs k).isSome := by
  rcases get_rel (k := k) h.key h.rv h.vv with ⟨h1, h2⟩ | ⟨d, v, p, h1, h2, _, _⟩ <;> rw [h1, h2] <;> rfl
def dGetD (d y : D) (st : Sto) : R D := match dctOf st d, askK y with
  | some kvs, some k => match getK kvs k with
    | some v => .ok v st
    | none => .fail
  | _, _ => .fail
end
end U
set_option Elab.async false
set_option linter.all false
set_option maxRecDepth 100000
set_option maxHeartbeats 1000000
namespace U
open PySem PySem.Spec PyProof.Rows L2
section
variable {X : Cx} {W : WX} {k : Nat} {a b c : Expr} {ga gb gc : EM} {pos p p2 : Pos}
def eDnew : EM := fun _ st => .ok (.ref st.length) (st ++ [.dct []])
def putSt (d y v : D) (st : Sto) : Option Sto := match d with
  | .ref n => match st[n]? with
    | some (.dct kvs) => match askK y with
      | some k => if kvs.length < most then some (st.set n (.dct (putK kvs y k v))) else none
      | none => none
    | _ => none
  | _ => none
def sDPutM (ga gb gv : EM) : SM := fun env st => (gv env st).then env fun v st => (ga env st).then env fun d st => (gb env st).then env fun y st => match putSt d y v st with
  | some st => .nx env st
  | none => .fail
theorem RVs.map_if {K : PySem.W.Frag} {H : Hp} {m : Pl} {q : NestedKey} {dv : D} {v : V} (r : RV K H m dv v) : ∀ {kvs : List (D × D)} {xs : List DEn} {vs : List V}, kvs.map (fun p => keyD p.1) = xs.map (fun x => some x.1) → RVs K H m (kvs.map (·.2)) vs → vs.length = xs.length →
    RVs K H m ((kvs.map fun p => if keyD p.1 = some q then (p.1, dv) else p).map (·.2)) (List.zipWith (fun (x : DEn) w => if x.1 = q then v else w) xs vs)
  | [], [], _, _, h, _ => by cases h; exact .nil
  | [], _ :: _, _, e, _, _ => by cases e
  | _ :: _, [], _, e, _, _ => by cases e
  | p :: kvs, x :: xs, _, e, h, l => by
    simp only [List.map_cons, List.cons.injEq] at e
    cases h with
    | @cons _ _ w ws h1 h2 =>
      simp only [List.map_cons, List.zipWith_cons_cons]
      refine .cons ?_ (RVs.map_if r e.2 h2 (by simpa using l))
      by_cases hk : x.1 = q
      · rw [if_pos hk, if_pos (by rw [e.1, hk])]; exact r
      · rw [if_neg hk, if_neg (by rw [e.1]; intro z; exact hk (Option.some.inj z))]; exact h1
theorem vals_if {q : NestedKey} {v : V} {u : Value} (rv : RelV v u) : ∀ {xs : List DEn} {vs : List V}, Vals vs (xs.map (·.2.2)) → Vals (List.zipWith (fun (x : DEn) w => if x.1 = q then v else w) xs vs) ((xs.map (putAt q u)).map (·.2.2))
  | [], _, h => by cases h; exact .nil
  | x :: xs, _, h => by
    cases h with
    | cons h1 h2 =>
      simp only [List.map_cons, List.zipWith_cons_cons]
      refine .cons ?_ (vals_if rv h2)
      unfold putAt
      by_cases hk : x.1 = q
      · rw [if_pos hk, if_pos hk]; exact rv
      · rw [if_neg hk, if_neg hk]; exact h1
theorem put_keys (q : NestedKey) (u : Value) : ∀ xs : List DEn, (xs.map (putAt q u)).map (·.1) = xs.map (·.1)
  | [] => rfl
  | x :: xs => by
    simp only [List.map_cons]
    rw [put_keys q u xs]
    unfold putAt
    by_cases hk : x.1 = q
    · rw [if_pos hk]
    · rw [if_neg hk]
theorem put_adr (q : NestedKey) (u : Value) : ∀ xs : List DEn, (xs.map (putAt q u)).map (fun x => V.ref x.2.1) = xs.map (fun x => V.ref x.2.1)
  | [] => rfl
  | x :: xs => by
    simp only [List.map_cons]
    rw [put_adr q u xs]
    unfold putAt
    by_cases hk : x.1 = q
    · rw [if_pos hk]
    · rw [if_neg hk]
theorem putD_keys (q : NestedKey) (dv : D) : ∀ kvs : List (D × D), (kvs.map fun p => if keyD p.1 = some q then (p.1, dv) else p).map (·.1) = kvs.map (·.1)
  | [] => rfl
  | p :: kvs => by
    simp only [List.map_cons]
    rw [putD_keys q dv kvs]
    by_cases hk : keyD p.1 = some q
    · rw [if_pos hk]
    · rw [if_neg hk]
theorem key1 {kvs : List (D × D)} : kvs.map (fun p => keyD p.1) = (kvs.map (·.1)).map keyD := by rw [List.map_map]; rfl
theorem key2 {xs : List DEn} : xs.map (fun x => some x.1) = (xs.map (·.1)).map some := by rw [List.map_map]; rfl
theorem DR.put {K : PySem.W.Frag} {H H' : Hp} {m : Pl} {a b : Addr} {kvs : List (D × D)} {xs : List DEn} {vs : List V} (h : DR K H m a kvs xs vs) {yd dv : D} {k : NestedKey} {v : V} {u : Value} (hk : keyD yd = some k) (hk2 : k.depth ≤ 8) (hl : kvs.length < most)
    (e : Ext H H') (ry : RV K H' m yd (.ref b)) (rv : RV K H' m dv v) (ru : RelV v u) (at' : H' a = some (dObj a (storedH xs k b u))) : ∃ vs', DR K H' m a (putK kvs yd k dv) (storedH xs k b u) vs' := by
  have hlen : vs.length = xs.length := by have := h.vv.length; simpa using this
  have gs := get_some h k
  unfold putK storedH at *
  by_cases hs : (getK kvs k).isSome = true
  · rw [if_pos hs]
    rw [gs, if_pos hs] at at' ⊢
    refine ⟨List.zipWith (fun (x : DEn) w => if x.1 = k then v else w) xs vs, h.sys, at', by rw [put_keys]; exact h.nd, ?_, fun x hx => ?_, ?_, RVs.map_if rv h.key (h.rv.mono e (List.prefix_refl m)) hlen, vals_if ru h.vv, by rw [List.length_map]; exact h.len⟩
    · rw [key1, key2, putD_keys, put_keys, ← key1, ← key2]; exact h.key
    · obtain ⟨y, hy, rfl⟩ := List.mem_map.mp hx
      unfold putAt
      by_cases hk : y.1 = k
      · rw [if_pos hk]; exact h.dep y hy
      · rw [if_neg hk]; exact h.dep y hy
    · rw [putD_keys, put_adr]; exact h.rk.mono e (List.prefix_refl m)
  · rw [if_neg hs]
    rw [gs, if_neg hs] at at' ⊢
    have hno : ∀ x ∈ xs, x.1 ≠ k := fun x hx ex => by
      have h1 : (atKey xs k).isSome = true := by
        unfold atKey
        rw [Option.isSome_map, List.find?_isSome]
        exact ⟨x, hx, by simp [ex]⟩
      rw [gs] at h1
      exact hs h1
    refine ⟨vs ++ [v], h.sys, at', ?_, ?_, ?_, ?_, ?_, ?_, ?_⟩
    · rw [List.map_append, List.nodup_append]
      refine ⟨h.nd, by simp, fun x hx y hy => ?_⟩
      obtain ⟨z, hz, rfl⟩ := List.mem_map.mp hx
      simp only [List.map_cons, List.map_nil, List.mem_singleton] at hy
      rw [hy]
      exact hno z hz
    · rw [List.map_append, List.map_append, h.key]; simp [hk]
    · intro x hx
      rcases List.mem_append.mp hx with hx | hx
      · exact h.dep x hx
      · simp only [List.mem_singleton] at hx; subst hx; exact hk2
    · rw [List.map_append, List.map_append]; exact (h.rk.mono e (List.prefix_refl m)).append (.one ry)
    · rw [List.map_append]; exact (h.rv.mono e (List.prefix_refl m)).append (.one rv)
    · rw [List.map_append]; exact h.vv.append (.cons ru .nil)
    · rw [List.length_append]; exact most_lt (n := kvs.length) hl
def fListD (ds : List D) (st : Sto) : R D := match ds with
  | [d] => match dctOf st d with
    | some kvs => .ok (.ref st.length) (st ++ [.lst (kvs.map (·.1))])
    | none => .fail
  | _ => .fail
end
end U
set_option Elab.async false
set_option linter.all false
set_option maxRecDepth 100000
set_option maxHeartbeats 1000000
namespace U
open PySem PySem.Spec PyProof.Rows L2
section
variable {X : Cx} {W : WX} {k : Nat} {a b c : Expr} {ga gb gc : EM} {pos p p2 : Pos}
def fInt (ds : List D) (st : Sto) : R D := match ds with
  | [.int i] => .ok (.int i) st
  | [.bl b] => .ok (.int (if b = true then 1 else 0)) st
  | _ => .fail
def fDivmod (ds : List D) (st : Sto) : R D := match ds with
  | [.int i, .int j] => if 0 < j ∧ j < 1073741824 then .ok (.tup [.int (i / j), .int (i % j)]) st else .fail
  | _ => .fail
def sPar3 (i j l : Nat) (ga gb gc : EM) : SM := fun env st => (ga env st).then env fun x st => (gb env st).then env fun y st => (gc env st).then env fun z st => .nx (((env.set i (some x)).set j (some y)).set l (some z)) st
end
end U
set_option Elab.async false
set_option linter.all false
set_option maxRecDepth 100000
set_option maxHeartbeats 1000000
namespace U
open PySem PySem.Spec PyProof.Rows L2
def wfuel : Nat := 5000000
section
variable {X : Cx} {W : WX} {k : Nat} {a : Expr} {ga : EM} {p pos : Pos}
end
end U
set_option Elab.async false
set_option linter.all false
set_option maxRecDepth 100000
set_option maxHeartbeats 4000000
namespace U
open PySem PySem.Spec PyProof.Rows L2

def dIsi2 (S T : String) (d : D) (st : Sto) : R D := match tyD st d with
  | some q => .ok (.bl (isiT q S || isiT q T)) st
  | none => .fail
section
variable {X : Cx} {W : WX} {a b c : Expr} {ga gb gc : EM} {es : List Expr} {gs : AM} {pos p p2 p3 pt apos : Pos}
end
def runIn (s : Src) (g : GM) (t : TM) (e : EM) (k : Nat) (env : Ev) (cont : Sto → R D) : Nat → Nat → Sto → R D
  | 0, _, _ => .fail
  | f + 1, j, st => match s.at st with
    | none => .fail
    | some ys => match ys[j]? with
      | none => cont st
      | some d => match g d env st with
        | none => .fail
        | some (env1, _) => (t env1 st).bind fun b st => if b = true then (e env1 st).bind fun y st => (match st[k]? with
            | some (.lst acc) => if acc.length < most then runIn s g t e k env cont f (j + 1) (st.set k (.lst (acc ++ [y]))) else .fail
            | _ => .fail) else runIn s g t e k env cont f (j + 1) st
def startIn (g : GM) (t : TM) (e : EM) (k : Nat) (env : Ev) (cont : Sto → R D) (s : Src) (st : Sto) : R D := match s.at st with
  | none => .fail
  | some ys => runIn s g t e k env cont (ys.length + 1) 0 st
def runLc2 (s : Src) (g : GM) (t : TM) (src1 : IM) (vs1 : List Nat) (g1 : GM) (t1 : TM) (e : EM) (k : Nat) (env : Ev) : Nat → Nat → Sto → R D
  | 0, _, _ => .fail
  | f + 1, i, st => match s.at st with
    | none => .fail
    | some xs => match xs[i]? with
      | none => .ok (.ref k) st
      | some d => match g d env st with
        | none => .fail
        | some (env1, _) => (t env1 st).bind fun b st => if b = true then (src1 env1 st).bind (startIn g1 t1 e k (wipeE env1 vs1) fun st => runLc2 s g t src1 vs1 g1 t1 e k env f (i + 1) st)
          else runLc2 s g t src1 vs1 g1 t1 e k env f (i + 1) st
def startLc2 (g : GM) (t : TM) (src1 : IM) (vs1 : List Nat) (g1 : GM) (t1 : TM) (e : EM) (env : Ev) (s : Src) (st : Sto) : R D := match s.at st with
  | none => .fail
  | some xs => runLc2 s g t src1 vs1 g1 t1 e st.length env (xs.length + 1) 0 (st ++ [.lst []])
def cLc2 (src : IM) (vs : List Nat) (g : GM) (t : TM) (src1 : IM) (vs1 : List Nat) (g1 : GM) (t1 : TM) (e : EM) : EM := fun env st => (src env st).bind fun s st => (startLc2 g t src1 vs1 g1 t1 e (wipeE env vs) s st).hush
section
variable {X : Cx} {W : WX} {tg iter elt tg1 iter1 : Expr} {ifs ifs1 : List Expr} {src src1 : IM} {g g1 : GM} {tt tt1 : TM} {ge : EM} {scope : Scope} {own : List (Str × Nat)} {vs1 : List Nat} {pos spos : Pos} {tgt tgt1 : TG}
end
end U
set_option Elab.async false
set_option linter.all false
set_option maxRecDepth 100000
set_option maxHeartbeats 4000000
namespace U
open PySem PySem.Spec PyProof.Rows L2

section
variable {X : Cx}
def dMulT (x y : D) (st : Sto) : R D := match x, y with
  | .tup xs, .int k => if xs ≠ [] ∧ 0 ≤ k ∧ k ≤ 1000 ∧ xs.length ≤ 1000 then .ok (.tup (List.replicate k.toNat xs).flatten) st else .fail
  | _, _ => .fail
end
end U
set_option Elab.async false
set_option linter.all false
set_option maxRecDepth 100000
set_option maxHeartbeats 1000000
namespace U
open PySem PySem.Spec PySem.Calls PyProof.Rows PyProof.V L2
mutual
theorem reads_there {h : Heap} : ∀ {v : Value} {d : PyData} {as : List Addr}, Reads h v d as → ∀ a ∈ as, ∃ o, h.get? a = some o
  | _, _, _, .none => fun a ha => by cases ha
  | _, _, _, .bool _ => fun a ha => by cases ha
  | _, _, _, .int _ _ => fun a ha => by cases ha
  | _, _, _, .str _ _ => fun a ha => by cases ha
  | _, _, _, .list h1 _ _ r => fun a ha => by
    rcases List.mem_cons.mp ha with rfl | ha
    · exact ⟨_, h1⟩
    · exact readsAll_there r a ha
  | _, _, _, .tuple _ _ _ r => fun a ha => readsAll_there r a ha
  | _, _, _, .dict h1 _ _ r1 r2 => fun a ha => by
    rcases List.mem_append.mp ha with ha | ha
    · rcases List.mem_cons.mp ha with rfl | ha
      · exact ⟨_, h1⟩
      · exact readsAll_there r1 a ha
    · exact readsAll_there r2 a ha
theorem readsAll_there {h : Heap} : ∀ {vs : List Value} {ds : List PyData} {as : List Addr}, ReadsAll h vs ds as → ∀ a ∈ as, ∃ o, h.get? a = some o
  | _, _, _, .nil => fun a ha => by cases ha
  | _, _, _, .cons r1 r2 => fun a ha => by
    rcases List.mem_append.mp ha with ha | ha
    · exact reads_there r1 a ha
    · exact readsAll_there r2 a ha
end
section
variable {X : Cx} {W : WX} {k : Nat} {a b : Expr} {ga gb : EM} {p pos apos : Pos}
end
end U
set_option Elab.async false
set_option linter.all false
set_option maxRecDepth 100000
set_option maxHeartbeats 1000000
namespace U
open PySem PySem.Spec PySem.Calls PyProof.Rows PyProof.V L2
section
variable {X : Cx} {CX : CXT} {k n : Nat} {f : Addr} {fd : FuncData} {ps ks : List Str} {sp : Sp} {E : XK} {x : Str} {p pos : Pos} {kws : List Keyword} {tk : TA} {g : List Value → List Value → List Value} {gV : List V → List V → List V}
end
section
variable {X : Cx} {W : WX} {k n : Nat} {x : Str} {f : Fm} {p pos : Pos} {kws : List Keyword} {gk : AM}
end
end U
namespace U
open PySem PySem.Spec PySem.Calls PyProof.Rows PyProof.V L2
end U
set_option Elab.async false
set_option linter.all false
set_option maxRecDepth 100000
set_option maxHeartbeats 1000000
namespace U
open PySem PySem.Spec PySem.Calls PyProof.Rows PyProof.V L2
section
variable {X : Cx} {W : WX} {k : Nat} {a b : Expr} {ga gb : EM} {p pos apos : Pos}
end
end U
set_option Elab.async false
set_option linter.all false
set_option maxRecDepth 100000
set_option maxHeartbeats 3200000
namespace U
open PySem PySem.Spec PySem.Calls PyProof.Rows PyProof.V L2
section
variable {P : Program} {w : World} {A : Around} {E : Value → Shared → Prop} {s : Shared}
end
section
variable {X : Cx} {W : WX} {k : Nat} {a : Expr} {ga : EM} {p p2 q pos : Pos}
end
end U
set_option Elab.async false
set_option linter.all false
set_option maxRecDepth 100000
set_option maxHeartbeats 1000000
namespace U
open PySem PySem.Spec PySem.Calls PyProof.Rows PyProof.V L2
section
variable {X : Cx} {W : WX} {k : Nat} {a b : Expr} {ga gb : EM} {p p2 pos : Pos}
end
end U
set_option Elab.async false
set_option linter.all false
set_option maxRecDepth 100000
set_option maxHeartbeats 1000000
namespace U
open PySem PySem.Spec PySem.Calls PyProof.Rows PyProof.V L2
section
variable {X : Cx} {pins : List (Addr × Obj)} {σ : L2.St} {H H' : Hp} {s : Shared} {m : Pl} {K : PySem.W.Frag} {a : Addr} {o : Obj} {kvs : List (D × D)} {xs : List DEn} {vs : List V}
theorem lock_obj (I : Inv X pins σ H s) (h : H a = some (.frz o (dObj a xs))) : s.heap.get? a = some o ∧ ObjD o xs := by
  obtain ⟨hg, ⟨w0, o2, es, ep, h1, h2, h3, h4⟩, _⟩ := (show ObjOk X.prog X.w H s.heap a (.frz o (dObj a xs)) from I.hok a _ h)
  obtain rfl : o = o2 := by rw [hg] at h1; injection h1
  exact ⟨hg, h2, w0, es, ep, h3, h4⟩
theorem DL.dict (I : Inv X pins σ H s) (h : DL X.K H m a o kvs xs vs) : s.heap.DictOfH (nestedKind X.prog X.w) a xs := by
  obtain ⟨hg, hx0, w0, es, ep, h3, h4⟩ := lock_obj I h.at_
  have hx : ∀ (i : Nat) (x : DEn), xs[i]? = some x → ∃ d : D, keyD d = some x.1 ∧ RV X.K H m d (.ref x.2.1) := fun i x hi => by
    obtain ⟨d, hd, r⟩ := h.rk.getv (i := i) (v := .ref x.2.1) (by rw [List.getElem?_map, hi]; rfl)
    rw [List.getElem?_map] at hd
    obtain ⟨p, hp, rfl⟩ := Option.map_eq_some_iff.mp hd
    have e := congrArg (fun l => l[i]?) h.key
    simp only [List.getElem?_map, hp, hi, Option.map_some] at e
    exact ⟨p.1, by injection e, r⟩
  refine ⟨o, es, ep, hg, hx0, h3, ?_, fun x hm => ?_, h.nd⟩
  · rw [h4]
    apply List.map_congr_left
    intro x hm
    obtain ⟨i, hi⟩ := List.getElem?_of_mem hm
    obtain ⟨d, hd, _⟩ := hx i x hi
    show (⟨x.1.hash w0, _, _⟩ : DictEntry) = ⟨x.1.hash X.w, _, _⟩
    rw [hash_any w0 X.w _ (keyD_noText hd)]
  · obtain ⟨i, hi⟩ := List.getElem?_of_mem hm
    obtain ⟨d, hd, r⟩ := hx i x hi
    exact ⟨key_in I r rfl hd, h.dep x hm⟩
mutual
theorem RV.mono2 (hq : ∀ b vs, SqT K H b vs → SqT K H' b vs) : ∀ {d : D} {v : V}, RV K H m d v → RV K H' m d v
  | .non, _, h => by cases h; exact .non
  | .bl _, _, h => by cases h; exact .bl
  | .int _, _, h => by cases h; exact .int
  | .str _, _, h => by cases h; exact .str
  | .tup _, _, h => by
    cases h with
    | tup h1 h2 => exact .tup (hq _ _ h1) (RVs.mono2 hq h2)
  | .ref _, _, h => by
    cases h with
    | ref h1 => exact .ref h1
theorem RVs.mono2 (hq : ∀ b vs, SqT K H b vs → SqT K H' b vs) : ∀ {ds : List D} {us : List V}, RVs K H m ds us → RVs K H' m ds us
  | [], _, h => by cases h; exact .nil
  | _ :: _, _, h => by
    cases h with
    | cons h1 h2 => exact .cons (RV.mono2 hq h1) (RVs.mono2 hq h2)
end
theorem OR.mono2 {b : Addr} {ob : Ob} (hx : ∀ b fs, H b = some (.xd fs) → H' b = some (.xd fs)) (hc : ∀ b q, H b = some (LamX.CodeO b q) → H' b = some (LamX.CodeO b q)) (hq : ∀ b vs, SqT K H b vs → SqT K H' b vs) (k : ob.trk = true → ∀ u, H b = some u → H' b = some u) (h : OR K H m b ob) : OR K H' m b ob := by
  cases ob with
  | lst xs => obtain ⟨vs, h, r⟩ := h; exact ⟨vs, k rfl _ h, r.mono2 hq⟩
  | rol xs => obtain ⟨o, vs, h, r⟩ := h; exact ⟨o, vs, k rfl _ h, r.mono2 hq⟩
  | fzt xs => obtain ⟨o, vs, h, r, hd⟩ := h; exact ⟨o, vs, k rfl _ h, r.mono2 hq, hd⟩
  | tab P q => obtain ⟨ha, ps, h, h2, h3⟩ := h; exact ⟨ha, ps, k rfl _ h, h2, fun pos cv hcv => let ⟨c, e1, e2⟩ := h3 pos cv hcv; ⟨c, e1, hc c q e2⟩⟩
  | exc q d cl c fs => obtain ⟨h1, h2, h3⟩ := h; exact ⟨h1, h2, h3.elim (fun z => .inl z) fun ⟨dd, vfs, z1, z2, z3, z4⟩ => .inr ⟨dd, vfs, z1, hx _ _ z2, z3, z4.mono2 hq⟩⟩
  | kst xs => obtain ⟨vs, h, r⟩ := h; exact ⟨vs, h, r.mono2 hq⟩
  | ins c fs => obtain ⟨dx, vfs, h, h2, r, l⟩ := h; exact ⟨dx, vfs, k rfl _ h, h2, r.mono2 hq, l⟩
  | dct kvs => obtain ⟨xs, vs, h⟩ := h; exact ⟨xs, vs, h.sys, k rfl _ h.at_, h.nd, h.key, h.dep, h.rk.mono2 hq, h.rv.mono2 hq, h.vv, h.len⟩
  | dcl kvs => obtain ⟨o, xs, vs, h⟩ := h; exact ⟨o, xs, vs, h.sys, k rfl _ h.at_, h.obj, h.nd, h.key, h.dep, h.rk.mono2 hq, h.rv.mono2 hq, h.vv, h.len⟩
end
end U
set_option Elab.async false
set_option linter.all false
set_option maxRecDepth 100000
set_option maxHeartbeats 1000000
namespace U
open PySem PySem.Spec PySem.Calls PyProof.Rows PyProof.V L2
open PySem.Sem (wp)
section
variable {prog : Program} {w : World} {A : Around} {E : Value → Shared → Prop} {s : Shared} {k k1 k2 : Bool} {h h' : Heap} {l it b z TI TO i1 i2 l1 l2 : Addr} {i n1 n2 : Nat} {xs ys : Array Value} {x y va vb : Value}
end
end U
set_option Elab.async false
set_option linter.all false
set_option maxRecDepth 100000
set_option maxHeartbeats 1000000
namespace U
open PySem PySem.Spec PySem.Calls PyProof.Rows PyProof.V L2
section
variable {X : Cx} {W : WX} {pins : List (Addr × Obj)} {σ : L2.St} {H : Hp} {s : Shared} {m : Pl} {K : PySem.W.Frag} {k k1 k2 : Bool} {a b : Addr} {xs ys : List V}
def zipSrcM (d e : D) (st : Sto) : R Src := match d, e with
  | .ref i, .tup ys => (match lstOf st i with
    | some _ => .ok (.zipLT i ys) st
    | none => .fail)
  | .tup xs, .ref j => (match lstOf st j with
    | some _ => .ok (.zipTL xs j) st
    | none => .fail)
  | _, _ => .fail
end
end U
set_option Elab.async false
set_option linter.all false
set_option maxRecDepth 100000
set_option maxHeartbeats 1000000
namespace U
open PySem PySem.Spec PySem.Calls PyProof.Rows PyProof.V L2
section
variable {X : Cx}
end
section
variable {prog : Program} {w : World} {A : Around} {E : Value → Shared → Prop} {s : Shared}
end
section
variable {X : Cx} {W : WX} {a b : Expr} {ga gb : EM} {p2 pos : Pos}
end
end U
set_option Elab.async false
set_option linter.all false
set_option maxRecDepth 100000
set_option maxHeartbeats 1000000
namespace U
open PySem PySem.Spec PySem.Calls PyProof.Rows PyProof.V L2
def sAug (i : Nat) (g : EM) : SM := fun env st => match env[i]? with
  | some (some (.int a)) => (g env st).then env fun d st => match d with
    | .int b => .nx (env.set i (some (.int (a + b)))) st
    | _ => .fail
  | _ => .fail
section
variable {X : Cx} {W : WX} {a : Expr} {ga : EM} {pos : Pos}
end
end U
set_option Elab.async false
set_option linter.all false
set_option maxRecDepth 100000
set_option maxHeartbeats 4000000
namespace U
open PySem PySem.Spec PySem.Calls PyProof.Rows PyProof.V L2
section
variable {X : Cx} {kx vx tg iter : Expr} {ifs : List Expr} {scope : Scope} {own : List (Str × Nat)} {pos pos' : Pos} {wi : TI} {g : TG} {tt : TT} {tk tv : TE}
end
section
variable {X : Cx} {W : WX} {kx vx tg iter : Expr} {ifs : List Expr} {src : IM} {g : GM} {tt : TM} {gk gv : EM} {scope : Scope} {pos : Pos} {tgt : TG} {k : Nat}
end
end U
set_option Elab.async false
set_option linter.all false
set_option maxRecDepth 100000
set_option maxHeartbeats 1000000
namespace U
open PySem PySem.Spec PySem.Calls PyProof.Rows PyProof.V L2
section
variable {X : Cx} {pins : List (Addr × Obj)} {σ : L2.St} {H : Hp} {s : Shared} {m : Pl}
end
section
variable {X : Cx} {W : WX} {k : Nat} {a : Expr} {ga : EM} {p pos : Pos}
end
theorem RVs.erase {K : PySem.W.Frag} {H : Hp} {m : Pl} {ds : List D} {vs : List V} (r : RVs K H m ds vs) (i : Nat) : RVs K H m (ds.eraseIdx i) (vs.eraseIdx i) := by
  rw [List.eraseIdx_eq_take_drop_succ, List.eraseIdx_eq_take_drop_succ]
  exact (r.take i).append (r.drop (i + 1))
section
variable {X : Cx} {W : WX} {k : Nat} {a b : Expr} {ga gb : EM} {p pos apos : Pos}
end
end U
set_option Elab.async false
set_option linter.all false
set_option maxRecDepth 100000
set_option maxHeartbeats 1000000
namespace U
open PySem PySem.Spec PySem.Calls PyProof.Rows PyProof.V L2
section
variable {prog : Program} {w : World} {A : Around} {E : Value → Shared → Prop} {s : Shared} {K : PySem.W.Frag} {x C f : Addr} {ox : Obj} {odd : Option Obj}
end
section
variable {X : Cx} {W : WX} {k : Nat} {a : Expr} {ga : EM} {p pos : Pos} {C g : Addr} {fd : FuncData} {ps : List Str} {sp : Sp} {E : L2.St → XK} {ta : TE}
end
def fLenI (c : Str) (f : Fm) (ds : List D) (st : Sto) : R D := match ds with
  | [.ref n] => match st[n]? with
    | some (.ins c' _) => if c' = c then (match f [.ref n] st with
      | .ok (.int i) st' => if 0 ≤ i ∧ i < 1000000000 then .ok (.int i) st' else .fail
      | .ok _ _ => .fail
      | .err c fs st' => .err c fs st'
      | .fail => .fail) else .fail
    | _ => .fail
  | _ => .fail
structure Mlen (P : Program) (w : World) (K : PySem.W.Frag) (mg : Str → Option Value) (base : Heap) (k : Nat) (c : Str) (f : Fm) : Prop where
  ex : ∃ (a : Addr) (fd : FuncData) (ps : List Str), FnOk P w K mg base (L2.CX P w) k a fd ps (spF K 1 f) ∧ Meth K (He.ga K c) "__len__" a ∧ Binds K fd ps []
  ar : Arity 1 f
section
variable {X : Cx} {W : WX} {k : Nat} {a : Expr} {ga : EM} {p pos : Pos} {c : Str} {f : Fm}
end
end U
set_option Elab.async false
set_option linter.all false
set_option maxRecDepth 100000
set_option maxHeartbeats 1000000
namespace U
open PySem PySem.Spec PySem.Calls PyProof.Rows PyProof.V L2
def words : List D → Option (List Str)
  | [] => some []
  | .str b :: r => (words r).map (b :: ·)
  | _ :: _ => none
section
variable {X : Cx} {W : WX} {k : Nat} {a b : Expr} {ga gb : EM} {p pos apos : Pos}
end
end U
set_option Elab.async false
set_option linter.all false
set_option maxRecDepth 100000
set_option maxHeartbeats 1000000
namespace U
open PySem PySem.Spec PyProof.Rows L2
section
variable {X : Cx} {W : WX} {k : Nat} {a : Expr} {ga : EM} {p pos : Pos}
end
structure FnG (P : Program) (w : World) (K : PySem.W.Frag) (mg : Str → Option Value) (base : Heap) (k : Nat) (f : Addr) (fd : FuncData) (ps : List Str) (sp : Sp) : Prop where
  go : ∀ (A : Around) (outer : List Env) (s : Shared) (H : Hp) (args : Args) (us : List Value) (vs : List V) (Q : VK) (E : XK),
    A.guards = some [] → Room k A → Env0 P w K mg base A outer s H → BindsTo s fd args (ps.zip us) → Vals vs us → sp vs H Q E →
    codeAny (model P w) A (.call (.ref f) args) (CR (L2.CX P w) outer P w H s Q E) s
section
variable {P : Program} {w : World} {K : PySem.W.Frag} {mg : Str → Option Value} {base : Heap}
end
section
variable {X : Cx} {W : WX} {a b c tg : Expr} {ga gb gc : EM} {pos : Pos}
end
end U
set_option Elab.async false
set_option linter.all false
set_option maxRecDepth 100000
set_option maxHeartbeats 1000000
namespace U
open PySem PySem.Spec PySem.Calls PyProof.Rows PyProof.V L2
section
variable {prog : Program} {w : World} {A : Around} {E : Value → Shared → Prop} {s : Shared}
end
section
variable {X : Cx} {W : WX} {a b : Expr} {ga gb : EM} {p2 pos : Pos}
end
end U
set_option Elab.async false
set_option linter.all false
set_option maxRecDepth 100000
set_option maxHeartbeats 1000000
namespace U
open PySem PySem.Spec PySem.Calls PyProof.Rows PyProof.V L2
section
variable {X : Cx} {W : WX} {pins : List (Addr × Obj)} {σ : L2.St} {H : Hp} {s : Shared} {m : Pl} {K : PySem.W.Frag} {k k1 k2 k3 : Bool} {a b c : Addr} {xs ys zs : List V}
end
end U
set_option Elab.async false
set_option linter.all false
set_option maxRecDepth 100000
set_option maxHeartbeats 1000000
namespace U
open PySem PySem.Spec PySem.Calls PyProof.Rows PyProof.V L2
def ftOf (st : Sto) (n : Nat) : Option (List D) := match st[n]? with
  | some (.fzt xs) => some xs
  | _ => none
theorem ft_at {st : Sto} {n : Nat} {xs : List D} (h : st[n]? = some (.fzt xs)) : ftOf st n = some xs := by unfold ftOf; rw [h]
def eThaw (g : EM) : EM := fun env st => (g env st).bind fun d st => match d with
  | .ref n => match ftOf st n with
    | some xs => .ok (.tup xs) st
    | none => .fail
  | _ => .fail
def mIdxZ (x : D) (ys : List D) (st : Sto) : R D := match x, ys with
  | .ref n, [.int k] => match ftOf st n with
    | some xs => if xs.all isI = true ∧ (xs.map wI).contains k = true then .ok (.int (((xs.map wI).idxOf k : Nat) : Int)) st else .fail
    | none => .fail
  | _, _ => .fail
def eIdxZ (ga : EM) (gs : AM) : EM := fun env st => (ga env st).bind fun x st => match x with
  | .ref n => match ftOf st n with
    | some _ => (gs env st).bind fun ys st => mIdxZ x ys st
    | none => .fail
  | _ => .fail
section
variable {X : Cx} {W : WX}
variable {a b : Expr} {ga gb : EM} {p pos apos : Pos}
end
end U
set_option Elab.async false
set_option linter.all false
set_option maxRecDepth 100000
set_option maxHeartbeats 1000000
namespace U
open PySem PySem.Spec PySem.Calls PyProof.Rows PyProof.V L2
section
variable {X : Cx} {W : WX} {es : List Expr} {gs : AM} {pos : Pos}
end
end U
set_option Elab.async false
set_option linter.all false
set_option maxRecDepth 100000
set_option maxHeartbeats 1000000
namespace U
open PySem PySem.Spec PySem.Calls PyProof.Rows PyProof.V L2
section
variable {K : PySem.W.Frag} {H H1 : Hp} {m : Pl}
end
end U
set_option Elab.async false
set_option linter.all false
set_option maxRecDepth 100000
set_option maxHeartbeats 1000000
namespace U
open PySem PySem.Spec PySem.Calls PyProof.Rows PyProof.V L2
structure Mth (P : Program) (w : World) (K : PySem.W.Frag) (mg : Str → Option Value) (base : Heap) (k : Nat) (c m : Str) (n : Nat) (f : Fm) (dds : List D) : Prop where
  ex : ∃ (a : Addr) (fd : FuncData) (ps : List Str) (us : List Value) (dvs : List V), FnOk P w K mg base (L2.CX P w) k a fd ps (spF K n f) ∧ Cls K (He.ga K c) ∧ Meth K (He.ga K c) m a ∧ Binds K fd ps us ∧ Vals dvs us ∧ ∀ (H : Hp) (pl : Pl), RVs K H pl dds dvs
  ar : Arity n f
def eMeth (c m : Str) (f : Fm) (dds : List D) (ga : EM) (gs : AM) : EM := fun env st => (ga env st).bind fun x st => match x with
  | .ref n => (match st[n]? with
    | some (.ins c' fs) => if c' = c ∧ (fs.map (·.1)).contains m = false then (gs env st).bind fun ds st => f (.ref n :: (ds ++ dds)) st else .fail
    | _ => .fail)
  | _ => .fail
section
variable {X : Cx} {k n : Nat} {o e : Expr} {es : List Expr} {ga : EM} {gs : AM} {apos pos : Pos} {c m : Str} {f : Fm} {dds : List D} {E : XK}
end
structure MkS (P : Program) (w : World) (K : PySem.W.Frag) (mg : Str → Option Value) (base : Heap) (k : Nat) (c : Str) (n : Nat) (f : Fm) (np : Nat) (ks : List Str) (l : List Arg) : Prop where
  ex : ∃ (a : Addr) (fd : FuncData) (ps : List Str) (g : List Value → List Value → List Value) (gV : List V → List V → List V), FnOk P w K mg base (L2.CX P w) k a fd ps (spF K n f) ∧ mg c = some (.ref (He.ga K c)) ∧ Mk K (He.ga K c) a ∧ KBn K fd ps (np + 1) ks g gV ∧
    ∀ (H : Hp) (m : Pl) (ds es : List D) (vs zs : List V), RVs K H m ds vs → RVs K H m es zs → vs.length = np + 1 → zs.length = ks.length → ∃ fs, pick l (ds ++ es) = some fs ∧ RVs K H m fs (gV vs zs)
  isi : IsiC K (He.ga K c)
  ar : Arity n f
section
variable {X : Cx} {k n np : Nat} {a : Expr} {es : List Expr} {kws : List Keyword} {ga gk : AM} {p pos : Pos} {c : Str} {f : Fm} {E : XK} {ks : List Str} {l : List Arg}
end
end U
set_option Elab.async false
set_option linter.all false
set_option maxRecDepth 100000
set_option maxHeartbeats 1000000
namespace U
open PySem PySem.Spec PySem.Calls PyProof.Rows PyProof.V L2
section
variable {X : Cx}
end
end U
set_option Elab.async false
set_option linter.all false
set_option maxRecDepth 100000
set_option maxHeartbeats 1000000
namespace U
open PySem PySem.Spec PySem.Calls PyProof.Rows PyProof.V L2
structure RsC (K : PySem.W.Frag) (mg : Str → Option Value) (c : Str) : Prop where
  gl : mg c = some (.ref (He.ga K c))
  ok : rscB c K = true
section
variable {X : Cx} {W : WX} {c m : Str} {j : Nat} {p p2 p3 pos : Pos}
end
abbrev Ans := D ⊕ (Str × List (Str × D))
def obsE (n : Nat) (f : List D → Sto → Option Ans) : Fm := fun ds st => if ds.length = n then (match f ds st with
  | some (.inl d) => .ok d st
  | some (.inr (c, fs)) => .err c fs st
  | none => .fail) else .fail
theorem Tells.obsE {m : Fm} {n : Nat} {f : List D → Sto → Option Ans} (h1 : ∀ ds st d, Good st → Bnds st.length ds → ds.length = n → f ds st = some (.inl d) → Bnd st.length d ∧ ∃ ex, m ds st = .ok d (st ++ ex))
    (h2 : ∀ ds st c fs, Good st → Bnds st.length ds → ds.length = n → f ds st = some (.inr (c, fs)) → Bnds st.length (fs.map (·.2)) ∧ ∃ ex, m ds st = .err c fs (st ++ ex)) : Tells m (U.obsE n f) where
  ok := fun ds st d st1 g b e => by
    unfold U.obsE at e
    split at e
    · rename_i hl
      split at e
      · rename_i d' q
        cases e
        obtain ⟨z1, ex, z2⟩ := h1 ds st d g b hl q
        exact ⟨g, z1, id, st ++ ex, by rw [ren_id]; exact z2, fits_app⟩
      · cases e
      · cases e
    · cases e
  err := fun ds st c fs st1 g b e => by
    unfold U.obsE at e
    split at e
    · rename_i hl
      split at e
      · cases e
      · rename_i c' fs' q
        cases e
        obtain ⟨z1, ex, z2⟩ := h2 ds st c fs g b hl q
        refine ⟨g, z1, id, st ++ ex, ?_, fits_app⟩
        have e1 : (fs.map fun p => (p.1, ren id p.2)) = fs := by
          have e2 : (fun p : Str × D => (p.1, ren id p.2)) = id := funext fun p => by rw [ren_id]; rfl
          rw [e2, List.map_id]
        rw [e1]
        exact z2
      · cases e
    · cases e
end U
set_option Elab.async false
set_option linter.all false
set_option maxRecDepth 100000
set_option maxHeartbeats 1000000
namespace U
open PySem PySem.Spec PySem.Calls PyProof.Rows PyProof.V L2
structure Ec where
  p : Addr
  d : Option Addr
  cl : Value
structure HasE (X : Cx) (z : Ec) : Prop where
  ex : ∃ (oe : Obj) (vs : Array Value), (z.p, oe) ∈ X.pn ∧ Zc z.cl z.d oe ∧ oe.data = .fields vs
section
variable {K : PySem.W.Frag} {H : Hp} {m : Pl} {st : Sto}
end
section
variable {X : Cx} {z : Ec}
variable {W : WX} {e0 : Expr} {ga : EM} {pos p p2 : Pos}
end
end U
set_option Elab.async false
set_option linter.all false
set_option maxRecDepth 100000
set_option maxHeartbeats 1000000
namespace U
open PySem PySem.Spec PySem.Calls PyProof.Rows PyProof.V L2
abbrev NoX : XK := fun _ _ _ => False
def RunE (P : Program) (w : World) (K : PySem.W.Frag) (mg : Str → Option Value) (base : Heap) (k : Nat) (f : Addr) (fd : FuncData) (ps : List Str) (g : Ec → Fm) : Prop :=
  ∀ (A : Around) (outer : List Env) (s : Shared) (H : Hp) (args : Args) (us : List Value) (vs : List V) (Q : VK) (z : Ec) (oe : Obj), L2H.RoomH k A → L2H.PinOk outer H s (z.p, oe) → Zc z.cl z.d oe → (∃ ws, oe.data = .fields ws) →
    Env0 P w K mg base A outer s H → BindsTo s fd args (ps.zip us) → Vals vs us → spF K 1 (g z) vs H Q NoX → codeAny (model P w) A (.call (.ref f) args) (CR (L2.CX P w) outer P w H s Q NoX) s
section
variable {P : Program} {w : World} {K : PySem.W.Frag} {mg : Str → Option Value} {base : Heap}
end
structure FnE (P : Program) (w : World) (K : PySem.W.Frag) (mg : Str → Option Value) (base : Heap) (k : Nat) (x : Str) (g : Ec → Fm) : Prop where
  ex : ∃ (a : Addr) (fd : FuncData) (ps : List Str), RunE P w K mg base k a fd ps g ∧ mg x = some (.ref a) ∧ PySem.W.keepIn K (.ref a) = true ∧ Binds K fd ps [] ∧ ps.length = 1
  ar : ∀ z, Arity 1 (g z)
section
variable {X : Cx} {W : WX} {a : Expr} {ga : EM} {pos p : Pos} {k : Nat} {x : Str} {g : Ec → Fm} {z : Ec}
end
end U
set_option Elab.async false
set_option linter.all false
set_option maxRecDepth 100000
set_option maxHeartbeats 1000000
namespace U
open PySem PySem.Spec PySem.Calls PyProof.Rows PyProof.V L2
section
open PySem.W
variable {M : Model} {A : Around} {E : Value → Shared → Prop} {s : Shared}
end
inductive NamesC (X : Cx) : List Expr → List Value → Prop
  | nil : NamesC X [] []
  | cons {x : Str} {p : Pos} {c : Value} {es : List Expr} {cs : List Value} (hg : Gl X x) (hd : (x == ("__debug__" : Str)) = false) (hm : X.mg x = some c) (he : starEach (.Name x p :: es) X.env = (false, eval (.Name x p) X.env) :: starEach es X.env) (r : NamesC X es cs) : NamesC X (.Name x p :: es) (c :: cs)
section
variable {X Y : Cx}
end
end U
set_option Elab.async false
set_option linter.all false
set_option maxRecDepth 100000
set_option maxHeartbeats 1000000
namespace U
open PySem PySem.Spec PySem.Calls PyProof.Rows PyProof.V L2
section
variable {X : Cx} {pins : List (Addr × Obj)} {σ : L2.St} {H : Hp} {s : Shared}
end
end U
set_option Elab.async false
set_option linter.all false
set_option maxRecDepth 100000
set_option maxHeartbeats 1000000
namespace U
open PySem PySem.Spec PySem.Calls PyProof.Rows PyProof.V L2
section
variable {K : PySem.W.Frag} {H : Hp} {m : Pl} {st ex : Sto}
theorem take_at {n : Nat} : ∀ i, i < n → ∀ a : Addr, m[i]? = some a → (m.take n)[i]? = some a := fun i hi a e => by
  rw [List.getElem?_take_of_lt hi]
  exact e
theorem SR.cut (s : SR K H m (st ++ ex)) (g : Good st) : SR K H (m.take st.length) st := by
  have hl : st.length ≤ m.length := by rw [s.len, List.length_append]; omega
  have back : ∀ {i : Nat} {a : Addr} {o : Ob}, (m.take st.length)[i]? = some a → st[i]? = some o → m[i]? = some a ∧ (st ++ ex)[i]? = some o := fun {i a o} h1 h2 => by
    have hi := (List.getElem?_eq_some_iff.mp h2).1
    rw [List.getElem?_take_of_lt hi] at h1
    exact ⟨h1, by rw [List.getElem?_append_left hi]; exact h2⟩
  refine ⟨by rw [List.length_take]; omega, fun i j a o1 o2 h1 h2 h3 h4 t1 t2 => ?_, fun i a o h1 h2 => ?_⟩
  · obtain ⟨x1, x2⟩ := back h1 h3
    obtain ⟨y1, y2⟩ := back h2 h4
    exact s.nd i j a o1 o2 x1 y1 x2 y2 t1 t2
  · obtain ⟨x1, x2⟩ := back h1 h2
    have r := s.ob i a o x1 x2
    rw [← renO_id o] at r
    exact r.back (ρ := id) (n := st.length) (fun i hi a e => take_at i hi a e) (g i o h2)
theorem RV.cut {n : Nat} {d : D} {v : V} (r : RV K H m d v) (b : Bnd n d) : RV K H (m.take n) d v := by
  rw [← ren_id d] at r
  exact r.back (ρ := id) (fun i hi a e => take_at i hi a e) b
theorem SR.exc {z : Ec} {c : Str} {fs : List (Str × D)} (s : SR K H m st) (hc : z.cl = .ref (He.ga K c)) (x : XR K H m fs z.d) : SR K H (m ++ [z.p]) (st ++ [.exc z.p z.d z.cl c fs]) := by
  have look : ∀ {i : Nat} {a : Addr} {q : Ob}, (m ++ [z.p])[i]? = some a → (st ++ [.exc z.p z.d z.cl c fs])[i]? = some q → (m[i]? = some a ∧ st[i]? = some q) ∨ (a = z.p ∧ q = .exc z.p z.d z.cl c fs) := fun {i a q} h1 h2 => by
    by_cases hi : i < m.length
    · rw [List.getElem?_append_left hi] at h1
      rw [List.getElem?_append_left (by rw [← s.len]; exact hi)] at h2
      exact .inl ⟨h1, h2⟩
    · have hl := (List.getElem?_eq_some_iff.mp h1).1
      have hi2 : i = m.length := by simp at hl; omega
      subst hi2
      simp at h1
      rw [s.len] at h2
      simp at h2
      exact .inr ⟨h1.symm, h2.symm⟩
  refine ⟨by simp [s.len], fun i j a o1 o2 h1 h2 h3 h4 t1 t2 => ?_, fun i a o h1 h2 => ?_⟩
  · rcases look h1 h3 with ⟨x1, x2⟩ | ⟨_, x2⟩
    · rcases look h2 h4 with ⟨y1, y2⟩ | ⟨_, y2⟩
      · exact s.nd i j a o1 o2 x1 y1 x2 y2 t1 t2
      · subst y2; cases t2
    · subst x2; cases t1
  · have p : m <+: m ++ [z.p] := List.prefix_append _ _
    rcases look h1 h2 with ⟨x1, x2⟩ | ⟨x1, x2⟩
    · exact (s.ob i a o x1 x2).mono (.refl H) p fun _ u e => e
    · subst x1 x2
      exact ⟨rfl, hc, x.elim (fun z => .inl z) fun ⟨dd, vfs, z1, z2, z3, z4⟩ => .inr ⟨dd, vfs, z1, z2, z3, z4.mono (.refl H) p⟩⟩
end
def knownE (raised : List Str) (c : Str) (fs : List (Str × D)) : Prop := raised.contains c = true ∧ fs.map (·.1) = fieldsOf c
instance {raised : List Str} {c : Str} {fs : List (Str × D)} : Decidable (knownE raised c fs) := by unfold knownE; infer_instance
section
variable {X : Cx} {sg : Scope} {g : Addr} {cdg : Value} {q : Str} {raised : List Str}
end
end U
set_option Elab.async false
set_option linter.all false
set_option maxRecDepth 100000
set_option maxHeartbeats 1000000
namespace U
open PySem PySem.Spec PySem.Calls PyProof.Rows PyProof.V L2
section
variable {X : Cx} {W : WX} {k : Nat} {a b : Expr} {ga gb : EM} {p pos apos : Pos}
end
section
variable {K : PySem.W.Frag} {raised : List Str}
end
section
variable {X : Cx} {W : WX} {raised : List Str} {n : Str × Option Str} {q : Str} {i k : Nat} {params : Arguments} {body : Expr} {scope : Scope} {p lpos pos : Pos} {ge : EM}
end
end U
set_option Elab.async false
set_option linter.all false
set_option maxRecDepth 100000
set_option maxHeartbeats 3200000
namespace U
open PySem PySem.Spec PySem.Calls PyProof.Rows PyProof.V L2
def ded : List Int → List Int
  | [] => []
  | x :: xs => match ded xs with
    | y :: r => if x = y then y :: r else x :: y :: r
    | [] => [x]
theorem ded_mem : ∀ (xs : List Int) (k : Int), k ∈ ded xs ↔ k ∈ xs
  | [], k => Iff.rfl
  | x :: xs, k => by
    have ih := ded_mem xs k
    unfold ded
    cases h : ded xs with
    | nil =>
      rw [h] at ih
      simp only [List.mem_cons, List.not_mem_nil, or_false]
      constructor
      · exact .inl
      · rintro (e | e)
        · exact e
        · exact absurd (ih.mpr e) List.not_mem_nil
    | cons y r =>
      rw [h] at ih
      simp only
      split
      · rename_i e
        subst e
        rw [ih, List.mem_cons]
        constructor
        · exact .inr
        · rintro (e | e)
          · subst e; exact ih.mp List.mem_cons_self
          · exact e
      · rw [List.mem_cons, List.mem_cons (a := k) (b := x) (l := xs), ih]
theorem ded_rise : ∀ {xs : List Int}, xs.Pairwise (· ≤ ·) → (ded xs).Pairwise (· < ·)
  | [], _ => .nil
  | x :: xs, h => by
    obtain ⟨h1, h2⟩ := List.pairwise_cons.mp h
    have ih := ded_rise h2
    unfold ded
    cases e : ded xs with
    | nil => exact .cons (by simp) .nil
    | cons y r =>
      rw [e] at ih
      simp only
      split
      · exact ih
      · rename_i hne
        have hy : x ≤ y := h1 y ((ded_mem xs y).mp (by rw [e]; exact List.mem_cons_self))
        refine .cons (fun z hz => ?_) ih
        rcases List.mem_cons.mp hz with rfl | hz
        · omega
        · have := (List.pairwise_cons.mp ih).1 z hz; omega
def sortU (ns : List Int) : List Int := ded (isort ns)
theorem sortU_mem (ns : List Int) (k : Int) : k ∈ sortU ns ↔ k ∈ ns := by
  unfold sortU
  rw [ded_mem, (isort_perm ns).mem_iff]
theorem sortU_rise (ns : List Int) : (sortU ns).Pairwise (· < ·) := ded_rise (isort_sorted ns)
section
variable {X : Cx} {W : WX} {k : Nat} {a : Expr} {ga : EM} {p p2 q pos : Pos}
def fSortSetT (ds : List D) (st : Sto) : R D := match ds with
  | [.tup xs] => if xs.all isI = true ∧ xs.length < 63 then .ok (.ref st.length) (st ++ [.lst ((sortU (xs.map wI)).map D.int)]) else .fail
  | _ => .fail
end
end U
set_option Elab.async false
set_option linter.all false
set_option maxRecDepth 100000
set_option maxHeartbeats 1000000
namespace U
open PySem PySem.Spec PySem.Calls PyProof.Rows PyProof.V L2
section
variable {P : Program} {w : World} {K : PySem.W.Frag} {mg : Str → Option Value} {base : Heap}
end
end U
set_option Elab.async false
set_option linter.all false
set_option maxRecDepth 100000
set_option maxHeartbeats 1000000
namespace U
open PySem PySem.Spec PyProof.Rows PyProof.V L2
section
variable {X : Cx} {W : WX} {a : Expr} {ga : EM} {pos apos : Pos}
end
end U
set_option Elab.async false
set_option linter.all false
set_option maxRecDepth 100000
set_option maxHeartbeats 1000000
namespace U
open PySem PySem.Spec PyProof.Rows PyProof.V L2
def rowR (d : Nat) (x : D) : Bool := match x with
  | .tup ys => ys.all (withinD 0 63) && decide (ys.length = d)
  | _ => false
def codeR (x : D) : Int := TS.code 64 ((tupsD x).map wI)
def rowsD (xs : List D) : Nat := match xs with
  | x :: _ => (tupsD x).length
  | [] => 1
def riseP (xs : List D) : Prop := xs.all (rowR (rowsD xs)) = true ∧ 1 ≤ rowsD xs ∧ xs.length < 64 ∧ (xs.map codeR).Pairwise (· < ·)
instance {xs : List D} : Decidable (riseP xs) := by unfold riseP; infer_instance
section
variable {X : Cx} {W : WX} {a : Expr} {ga : EM} {p p2 q pos : Pos}
end
end U
set_option Elab.async false
set_option linter.all false
set_option maxRecDepth 100000
set_option maxHeartbeats 1000000
namespace U
open PySem PySem.Spec PyProof.Rows L2
section
variable {X : Cx} {W : WX} {k : Nat} {a : Expr} {ga : EM} {p pos : Pos}
end
end U
set_option Elab.async false
set_option linter.all false
set_option maxRecDepth 100000
set_option maxHeartbeats 1000000
namespace PySem
namespace UX
open Builtin Builtin.ObjectAttr PySem.W PySem.Calls PyProof.Rows PySem.HandSPX
section
variable {prog : Program} {w : World} {A : Around} {R : Result → Shared → Prop} {hp : Heap} {g : Array GenState} {d : Drawn} {t : Nat} {os : OsState}
end
end UX
end PySem
namespace U
open PySem PySem.Spec PySem.Calls PyProof.Rows PyProof.V L2
structure ExB (B newId initId : String) (tl : List Value) : Prop where
  base : ExcBaseFacts B newId initId tl
  pass : ∀ self : Value, refuseLoop self "__setattr__" tl = pure ()
  obj : tl.contains (.type "object") = true
structure OexB (K : PySem.W.Frag) (newId : String) (tl : List Value) (C : Addr) : Prop where
  cls : ∃ nm q N bs sn sub ab col dd k0 k1 k2 k3 k5, K.lookup C = some (excClassObj nm q C N bs tl true sn sub ab col dd k0 k1 k2 k3 k5 newId)
  sa : PySem.W.findIn K (.ref C) "__setattr__" = some (some (.builtin "object.__setattr__"))
  exC : PySem.W.subIn K (.ref C) (.type "BaseException") = some true
  tyC : PySem.W.typeIn K (.ref C) = some (.type "type")
  kC : PySem.W.keepIn K (.ref C) = true
section
variable {X : Cx} {pins : List (Addr × Obj)} {σ : L2.St} {H : Hp} {s : Shared} {a C : Addr} {f : Str} {y : V} {u : Value} {A : Around} {B newId initId : String} {tl : List Value}
end
section
variable {X : Cx} {o e : Expr} {es : List Expr} {to te : TE} {ta : TA} {f : Str} {p p' p1 p2 pos : Pos} {B newId initId : String} {tl : List Value}
end
end U
set_option Elab.async false
set_option linter.all false
set_option maxRecDepth 100000
set_option maxHeartbeats 1000000
namespace U
open PySem PySem.Spec PySem.Calls PyProof.Rows PyProof.V L2
structure RxC (K : PySem.W.Frag) (mg : Str → Option Value) (newId : String) (tl : List Value) (c f : Str) : Prop where
  gl : mg c = some (.ref (He.ga K c))
  oex : OexB K newId tl (He.ga K c)
  own : PySem.W.findIn K (.ref (He.ga K c)) "__init__" = some (some (.ref (He.fAd K (c, some "__init__"))))
  isF : PySem.W.typeIn K (.ref (He.fAd K (c, some "__init__"))) = some (.type "function")
  no : PySem.W.findIn K (.ref (He.ga K c)) f = some none
section
variable {X : Cx} {W : WX} {c f : Str} {e : Expr} {ge : EM} {p p3 pos : Pos} {B newId initId : String} {tl : List Value} {k : Nat} {fd : FuncData} {ps : List Str}
end
end U
set_option Elab.async false
set_option linter.all false
set_option maxRecDepth 100000
set_option maxHeartbeats 1000000
namespace U
open PySem PySem.Spec PySem.Calls PyProof.Rows PyProof.V L2
section
variable {X : Cx} {W : WX} {k : Nat} {kx vx a : Expr} {gk gv ga : EM} {p pos : Pos}
end
section
variable {X : Cx} {W : WX} {k : Nat} {a : Expr} {ga : EM} {p pos : Pos}
end
section
variable {X : Cx} {m : Pl} {K : PySem.W.Frag}
end
end U
set_option Elab.async false
set_option linter.all false
set_option maxRecDepth 100000
set_option maxHeartbeats 1000000
namespace U
open PySem PySem.Spec PySem.Calls PyProof.Rows PyProof.V L2
section
variable {X : Cx} {pins : List (Addr × Obj)} {σ : L2.St} {H H' : Hp} {s : Shared} {m : Pl} {K : PySem.W.Frag} {a : Addr} {o : Obj} {kvs : List (D × D)} {xs : List DEn} {vs : List V}
end
end U
set_option Elab.async false
set_option linter.all false
set_option maxRecDepth 100000
set_option maxHeartbeats 1000000
namespace U
open PySem PySem.Spec PySem.Calls PyProof.Rows PyProof.V L2
section
variable {prog : Program} {w : World} {A : Around} {E : Value → Shared → Prop} {s : Shared} {l : Addr} {xs : Array (Int × Tok)} {its : List Value} {ns : List Int} {Q : Value → Shared → Prop}
end
def fSumT (ds : List D) (st : Sto) : R D := match ds with
  | [.tup xs] => if xs.all isI = true then .ok (.int (xs.map wI).sum) st else .fail
  | _ => .fail
section
variable {X : Cx} {W : WX} {k : Nat} {a : Expr} {ga : EM} {p pos : Pos}
end
end U
set_option Elab.async false
set_option linter.all false
set_option maxRecDepth 100000
set_option maxHeartbeats 1000000
namespace U
open PySem PySem.Spec PySem.Calls PyProof.Rows PyProof.V L2
section
variable {X : Cx} {W : WX} {k : Nat}
end
end U
set_option Elab.async false
set_option linter.all false
set_option maxRecDepth 100000
set_option maxHeartbeats 1000000
namespace U
open PySem PySem.Spec PySem.Calls PyProof.Rows PyProof.V L2
def fSumL (ds : List D) (st : Sto) : R D := match ds with
  | [.ref n] => match lstOf st n with
    | some xs => if xs.all isI = true then .ok (.int (xs.map wI).sum) st else .fail
    | none => .fail
  | _ => .fail
section
variable {X : Cx} {W : WX} {k : Nat} {a : Expr} {ga : EM} {p pos : Pos}
end
end U
set_option Elab.async false
set_option linter.all false
set_option maxRecDepth 100000
set_option maxHeartbeats 1000000
namespace U
open PySem PySem.Spec PySem.Calls PyProof.Rows PyProof.V L2
section
variable {X : Cx} {W : WX} {k : Nat} {a : Expr} {ga : EM} {p pos apos cpos : Pos}
end
end U
set_option Elab.async false
set_option linter.all false
set_option maxRecDepth 100000
set_option maxHeartbeats 1000000
namespace U
open PySem PySem.Spec PySem.Calls PyProof.Rows PyProof.V L2
section
variable {prog : Program} {w : World} {A : Around} {E : Value → Shared → Prop} {s : Shared} {K : PySem.W.Frag} {x C f : Addr} {ox : Obj} {odd : Option Obj}
end
section
variable {X : Cx} {W : WX} {k : Nat} {a : Expr} {ga : EM} {p pos : Pos} {C g : Addr} {fd : FuncData} {ps : List Str} {sp : Sp} {E : L2.St → XK} {ta : TE}
end
structure Mstr (P : Program) (w : World) (K : PySem.W.Frag) (mg : Str → Option Value) (base : Heap) (k : Nat) (c : Str) (f : Fm) : Prop where
  ex : ∃ (a : Addr) (fd : FuncData) (ps : List Str), FnOk P w K mg base (L2.CX P w) k a fd ps (spF K 1 f) ∧ Meth K (He.ga K c) "__str__" a ∧ Binds K fd ps []
  ar : Arity 1 f
section
variable {X : Cx} {W : WX} {k : Nat} {a : Expr} {ga : EM} {p pos : Pos} {c : Str} {f : Fm}
end
end U
set_option Elab.async false
set_option linter.all false
set_option maxRecDepth 100000
set_option maxHeartbeats 1000000
namespace U
open PySem PySem.Spec PySem.Calls PyProof.Rows PyProof.V L2
structure Meq (P : Program) (w : World) (K : PySem.W.Frag) (mg : Str → Option Value) (base : Heap) (k : Nat) (c : Str) (f : Fm) : Prop where
  ex : ∃ (a : Addr) (fd : FuncData) (ps : List Str), FnOk P w K mg base (L2.CX P w) k a fd ps (spF K 2 f) ∧ Meth K (He.ga K c) "__eq__" a ∧ Binds K fd ps []
  ar : Arity 2 f
section
variable {X : Cx} {W : WX} {k : Nat} {c : Str} {f : Fm}
end
end U
set_option Elab.async false
set_option linter.all false
set_option maxRecDepth 100000
set_option maxHeartbeats 1000000
namespace U
open PySem PySem.Spec PySem.Calls PyProof.Rows PyProof.V L2
section
variable {X : Cx} {W : WX} {e0 : Expr} {ga : EM} {pos p p2 : Pos}
end
end U
set_option Elab.async false
set_option linter.all false
set_option maxRecDepth 100000
set_option maxHeartbeats 1000000
namespace U
open PySem PySem.Spec PySem.Calls PyProof.Rows PyProof.V L2 Builtin
section
variable {prog : Program} {w : World} {A : Around} {E : Value → Shared → Prop} {s : Shared} {K : PySem.W.Frag} {x C f L : Addr} {ox : Obj} {odd : Option Obj} {b tb : Value} {h₀ : Heap} {m : Str → Option Value}
end
section
variable {X : Cx} {W : WX} {k : Nat} {c : Str} {f : Fm}
end
end U
set_option Elab.async false
set_option linter.all false
set_option maxRecDepth 100000
set_option maxHeartbeats 1000000
namespace U
open PySem PySem.Spec PySem.Calls PyProof.Rows PyProof.V L2
structure LamD (sc scope : Scope) (N : List Str) (y : Str) : Prop where
  kind : scope.kind = .function
  co : scope.isCoroutine = false
  gen : scope.isGenerator = false
  own : ∀ z ∈ scope.names, z.2 = .local → z.1 = y
  cell : ∀ z ∈ scope.names, z.2 ≠ .cell
  free : ∀ z ∈ scope.names, z.2 = .free → sc.names.lookup z.1 = some .cell ∨ sc.names.lookup z.1 = some .free
  loc : scope.names.lookup y = some .local
  out : y ∉ N
section
variable {X : Cx} {pins : List (Addr × Obj)} {σ : L2.St} {H : Hp} {s : Shared}
end
section
variable {X : Cx} {pins : List (Addr × Obj)} {σ : L2.St} {H : Hp} {s : Shared}
end
section
variable {X : Cx} {W : WX} {raised : List Str} {n : Str × Option Str} {q y : Str} {i k : Nat} {params : Arguments} {body : Expr} {scope : Scope} {p lpos pos p0 : Pos} {i0 : Int} {j0 : Nat} {ge : EM}
end
end U
set_option Elab.async false
set_option linter.all false
set_option maxRecDepth 100000
set_option maxHeartbeats 1000000
namespace U
open PySem
def foldO {α : Type} (F : α → D → Option α) : α → List D → Option α
  | a, [] => some a
  | a, x :: xs => match F a x with
    | some b => foldO F b xs
    | none => none
theorem runFor_foldO {α : Type} {F : α → D → Option α} {mk : α → Sto} {g : GM} {body : SM} {xs : List D} (I : Ev → Prop)
    (h : ∀ a x b env, x ∈ xs → F a x = some b → I env → ∃ env1 env2, g x env (mk a) = some (env1, mk a) ∧ (body env1 (mk a) = .nx env2 (mk b) ∨ body env1 (mk a) = .ct env2 (mk b)) ∧ I env2) :
    ∀ (k i : Nat) (a b : α) (env : Ev), xs.length = i + k → foldO F a (xs.drop i) = some b → I env → ∃ env', runFor (.fix xs) g body (k + 1) i env (mk a) = .nx env' (mk b) ∧ I env'
  | 0, i, a, b, env, hk, hf, hI => by
    rw [List.drop_eq_nil_of_le (by omega)] at hf
    cases hf
    refine ⟨env, ?_, hI⟩
    unfold runFor
    simp only [Src.at]
    rw [List.getElem?_eq_none (by omega)]
  | k + 1, i, a, b, env, hk, hf, hI => by
    have hi : i < xs.length := by omega
    rw [List.drop_eq_getElem_cons hi] at hf
    simp only [foldO] at hf
    cases q : F a xs[i] with
    | none => rw [q] at hf; cases hf
    | some c =>
      rw [q] at hf
      obtain ⟨env1, env2, h1, h2, h3⟩ := h a xs[i] c env (List.getElem_mem hi) q hI
      obtain ⟨env', h4, h5⟩ := runFor_foldO I h k (i + 1) c b env2 (by omega) hf h3
      refine ⟨env', ?_, h5⟩
      unfold runFor
      simp only [Src.at]
      rw [List.getElem?_eq_getElem hi]
      rcases h2 with h2 | h2 <;> simp only [h1, h2] <;> exact h4
theorem for_foldO {α : Type} {F : α → D → Option α} (mk : α → Sto) {g : GM} {body : SM} {xs : List D} (I : Ev → Prop) {a b : α} {env : Ev} (hf : foldO F a xs = some b) (h0 : I env)
    (h : ∀ a x b env, x ∈ xs → F a x = some b → I env → ∃ env1 env2, g x env (mk a) = some (env1, mk a) ∧ (body env1 (mk a) = .nx env2 (mk b) ∨ body env1 (mk a) = .ct env2 (mk b)) ∧ I env2) : ∃ env', startFor g body env (.fix xs) (mk a) = .nx env' (mk b) ∧ I env' :=
  runFor_foldO I h xs.length 0 a b env (by omega) hf h0
def chgO (ws : List D) (vs : List D) (c : D) : Option (List D) := match c with
  | .tup [.str w, .int x, .int p] => match L2.ixN vs.length x, L2.atI vs x, L2.atI ws x with
    | some j, some (.int v), some (.int n) => if 0 < n then (if w = "turn" then some (vs.set j (.int ((v + p) % n))) else if w = "put" then some (vs.set j (.int ((0 + p) % n))) else none) else none
    | _, _, _ => none
  | _ => none
def hshO (ls : List D) (c : D) : Option (List D) := match c with
  | .tup [.int r, .int b] => match L2.ixN ls.length r, L2.atI ls r with
    | some j, some (.int l) => some (ls.set j (.int (iMax l b)))
    | _, _ => none
  | _ => none
def wakO (ls : List D) (c : D) : Option (List D) := match c with
  | .int r => match L2.ixN ls.length r with
    | some j => some (ls.set j (.int 0))
    | none => none
  | _ => none
def doO (ws rs : List D) (r : Int) (vs ls : List D) : Option (List D × List D) := match L2.atI rs r with
  | some (.tup [_, .tup cs, .tup hs, .tup wk]) => match foldO (chgO ws) vs cs with
    | some vs1 => match foldO hshO ls hs with
      | some ls1 => match foldO wakO ls1 wk with
        | some ls2 => some (vs1, ls2)
        | none => none
      | none => none
    | none => none
  | _ => none
structure Mid where
  vs : List D
  ls : List D
  dn : List D
def askO (ws rs off : List D) (q : Mid) (x : D) : Option Mid := match x with
  | .int r => match readyO rs r q.vs q.ls with
    | some b => if memI (.int r) off = false ∧ b = true then (match doO ws rs r q.vs q.ls with
        | some (vs, ls) => if q.dn.length < 1000 then some ⟨vs, ls, q.dn ++ [.int r]⟩ else none
        | none => none) else some q
    | none => none
  | _ => none
def lessD (d : D) : D := .int (iMax 0 (wI d - 1))
def stepO (ws rs vs ls order off : List D) : Option D :=
  if off.all isI = true ∧ off.length ≤ most then match foldO (askO ws rs off) ⟨vs, ls, []⟩ order with
    | some q => if q.ls.all isI = true ∧ q.vs.all isI = true ∧ q.dn.all isI = true ∧ q.ls.length ≤ most then some (.tup [.tup q.dn, .tup [.tup q.vs, .tup (q.ls.map lessD)]]) else none
    | none => none else none
theorem at_end0 {st : Sto} {a : Ob} {r : List Ob} : (st ++ a :: r)[st.length]? = some a := by simp
theorem at_end1 {st : Sto} {a b : Ob} {r : List Ob} : (st ++ a :: b :: r)[st.length + 1]? = some b := by simp [List.getElem?_append_right]
theorem at_end2 {st : Sto} {a b c : Ob} {r : List Ob} : (st ++ a :: b :: c :: r)[st.length + 2]? = some c := by simp [List.getElem?_append_right]
theorem set_end0 {st : Sto} {a a' : Ob} {r : List Ob} : (st ++ a :: r).set st.length a' = st ++ a' :: r := by simp
theorem set_end1 {st : Sto} {a b b' : Ob} {r : List Ob} : (st ++ a :: b :: r).set (st.length + 1) b' = st ++ a :: b' :: r := by
  rw [List.set_append_right _ _ (by omega)]; simp
theorem set_end2 {st : Sto} {a b c c' : Ob} {r : List Ob} : (st ++ a :: b :: c :: r).set (st.length + 2) c' = st ++ a :: b :: c' :: r := by
  rw [List.set_append_right _ _ (by omega)]; simp
theorem at_endk {st : Sto} {ex : List Ob} (k : Nat) : (st ++ ex)[st.length + k]? = ex[k]? := by rw [List.getElem?_append_right (by omega)]; congr 1; omega
theorem lst_endk {st : Sto} {ex : List Ob} {xs : List D} (k : Nat) (h : ex[k]? = some (.lst xs)) : lstOf (st ++ ex) (st.length + k) = some xs := by unfold lstOf; rw [at_endk, h]
theorem gset_at {st : Sto} {env : Ev} {ga gb : EM} {n j : Nat} {i : Int} {xs : List D} {d : D} (ha : ga env st = .ok (.ref n) st) (hb : gb env st = .ok (.int i) st) (hn : st[n]? = some (.lst xs)) (hj : L2.ixN xs.length i = some j) : gSet ga gb d env st = some (env, st.set n (.lst (xs.set j d))) := by
  unfold gSet
  rw [ha]
  simp only [R.bind]
  rw [hb]
  simp only [R.bind, hn, hj]
theorem fList_tup {st : Sto} {xs : List D} : fList [.tup xs] st = .ok (.ref st.length) (st ++ [.lst xs]) := rfl
theorem mkLst_nil {st : Sto} : mkLst [] st = .ok (.ref st.length) (st ++ [.lst []]) := rfl
theorem fTup_end {st : Sto} {xs : List D} : fTup [.ref st.length] (st ++ [.lst xs]) = .ok (.tup xs) (st ++ [.lst xs]) := by unfold fTup seqOf; simp only [lstOf_end]
theorem mkTup2 {st : Sto} {a b : D} : mkTup [a, b] st = .ok (.tup [a, b]) st := rfl
theorem mkTup3 {st : Sto} {a b c : D} : mkTup [a, b, c] st = .ok (.tup [a, b, c]) st := rfl
theorem maxI {st : Sto} {i j : Int} : fI2 iMax [.int i, .int j] st = .ok (.int (iMax i j)) st := rfl
def ordO (rs : List D) : List D := rngL 0 rs.length
def nextO (ws rs off : List D) (s : D) : Option D := match s with
  | .tup [.tup vs, .tup ls] => stepO ws rs vs ls (ordO rs) off
  | _ => none
def waysO (f : D → Option D) : Nat → List (D × D) → D → Option (List (D × D))
  | 0, _, _ => none
  | n + 1, kvs, here => match askK here with
    | none => none
    | some k => if (getK kvs k).isSome = true then some kvs else match f here with
      | some (.tup [dn, th]) => if kvs.length < 100000 then waysO f n (kvs ++ [(here, .tup [dn, th])]) th else none
      | _ => none
def waysAll (f : D → Option D) : List (D × D) → List D → Option (List (D × D))
  | kvs, [] => some kvs
  | kvs, s :: r => match waysO f 16000 kvs s with
    | some kvs => waysAll f kvs r
    | none => none
def trailO (ways : List (D × D)) : Nat → List (D × D) → List D → D → Option (List (D × D) × List D × D)
  | 0, _, _, _ => none
  | n + 1, nums, dns, here => match askK here with
    | none => none
    | some k => if (getK nums k).isSome = true then some (nums, dns, here) else match getK ways k with
      | some (.tup [dn, th]) => if nums.length < 100000 ∧ dns.length < 100000 then trailO ways n (nums ++ [(here, .int nums.length)]) (dns ++ [dn]) th else none
      | _ => none
def alongO (ways : List (D × D)) (s : D) : Option (List D × List D × D) := match trailO ways 16000 [] [] s with
  | some (nums, dns, here) => match askK here with
    | some k => match getK nums k with
      | some d => some (nums.map (·.1), dns, d)
      | none => none
    | none => none
  | none => none
def trailP (ws rs : List D) (s : D) (off : List D) : Option (List D × List D × D) := match waysAll (nextO ws rs off) [] [s] with
  | some ways => alongO ways s
  | none => none
theorem putK_new {kvs : List (D × D)} {kd v : D} {k : NestedKey} (h : ¬ (getK kvs k).isSome = true) : putK kvs kd k v = kvs ++ [(kd, v)] := if_neg h
theorem dctOf_at' {st : Sto} {n : Nat} {kvs : List (D × D)} (h : st[n]? = some (.dct kvs)) : dctOf st (.ref n) = some kvs := by unfold dctOf; simp only [h]
theorem putSt_ok {st : Sto} {n : Nat} {kvs : List (D × D)} {y v : D} {k : NestedKey} (h : st[n]? = some (.dct kvs)) (hy : askK y = some k) (hl : kvs.length < most) (hn : ¬ (getK kvs k).isSome = true) : putSt (.ref n) y v st = some (st.set n (.dct (kvs ++ [(y, v)]))) := by
  unfold putSt
  simp only [h, hy]
  rw [if_pos hl, putK_new hn]
theorem ev_dput {ga gb gv : EM} {env : Ev} {st : Sto} : sDPutM ga gb gv env st = (gv env st).then env fun v st => (ga env st).then env fun d st => (gb env st).then env fun y st => (match putSt d y v st with | some st => .nx env st | none => .fail) := rfl
theorem ev_dnew {env : Ev} {st : Sto} : eDnew env st = .ok (.ref st.length) (st ++ [.dct []]) := rfl
theorem ev_while {t : TM} {body : SM} {f : Nat} {env : Ev} {st : Sto} : runWhile t body (f + 1) env st = (t env st).then env fun c st => if c = true then (match body env st with
    | .nx env st => runWhile t body f env st
    | .ct env st => runWhile t body f env st
    | .bk env st => .nx env st
    | r => r) else .nx env st := rfl
def nAt (b : Int) (n : Nat) (k : Int) : Int := if k < b then k else b + (k - b) % (n - b)
def runOk (ws rs : List D) (s off : D) : Bool := match s, off with
  | .tup [.tup vs, .tup ls], .tup os => ws.all isI && vs.all isI && ls.all isI && os.all isI && decide (vs.length ≤ most) && decide (ls.length ≤ most) && decide (os.length ≤ most) && decide (rs.length ≤ 1000) && stateD ws rs.length s && risingD rs.length off
  | _, _ => false
def runO (ws rs : List D) (s off : D) : Option (List D × List D × Int) := if runOk ws rs s off = true then match trailP ws rs s (tupsD off) with
    | some (ss, dns, .int b) => if 0 ≤ b ∧ b < ss.length ∧ ss.length ≤ 100000 ∧ dns.length ≤ 100000 ∧ (dns.all fun d => (tupsD d).all isI && (itemsD d).isSome) = true ∧ ss.all (fun s => keyD s |>.isSome) = true then some (ss, dns, b) else none
    | _ => none else none
mutual
theorem key_bnd {n : Nat} : ∀ {d : D}, (keyD d).isSome = true → Bnd n d
  | .non, _ => by simp only [Bnd]
  | .bl _, _ => by simp only [Bnd]
  | .int _, _ => by simp only [Bnd]
  | .str _, _ => by simp only [Bnd]
  | .ref _, h => by simp [keyD] at h
  | .tup xs, h => by
    simp only [keyD, Option.isSome_map] at h
    simp only [Bnd]
    exact keys_bnd h
theorem keys_bnd {n : Nat} : ∀ {ds : List D}, (keysD ds).isSome = true → Bnds n ds
  | [], _ => by simp only [Bnds]
  | d :: ds, h => by
    simp only [keysD] at h
    split at h
    · rename_i k ks h1 h2
      simp only [Bnds]
      exact ⟨key_bnd (by rw [h1]; rfl), keys_bnd (by rw [h2]; rfl)⟩
    · simp at h
end
theorem len_end {st : Sto} {ex : List Ob} {xs : List D} {k : Nat} (h : ex[k]? = some (.lst xs)) : fLen [.ref (st.length + k)] (st ++ ex) = .ok (.int xs.length) (st ++ ex) := by
  unfold fLen
  simp only [seqOf, lst_endk k h]
open PySem PySem.Spec PyProof.Rows L2 in
theorem cutN (xs : List D) (n : Nat) : cutD xs (some (n : Int)) none = xs.drop n := by
  unfold cutD
  rw [show HT.sIx xs.length 0 (some (n : Int)) = min n xs.length from HT.sIx_nat xs.length 0 n, HT.sIx_none]
  by_cases h : n ≤ xs.length
  · rw [Nat.min_eq_left h, List.take_of_length_le (by simp)]
  · rw [Nat.min_eq_right (by omega), List.drop_eq_nil_of_le (by omega), List.drop_eq_nil_of_le (by omega), List.take_nil]
def foundL (dns : List D) (r : Int) : List D := ((enumFrom 0 dns).filter fun x => memI (.int r) (tupsD (sndD x))).map fstD
def soonL (dns : List D) (r b : Int) : List D := (foundL dns r).filter fun x => decide (wI x < b)
def roundL (dns : List D) (r b : Int) : List D := (foundL dns r).drop (soonL dns r b).length
def below (xs : List D) (k : Int) : Int := (xs.filter fun x => decide (wI x < k)).length
def timesO (ss dns : List D) (b r k : Int) : Int := if k < b then below (soonL dns r b) k else (soonL dns r b).length + (k - b) / (ss.length - b) * (roundL dns r b).length + below (roundL dns r b) (b + (k - b) % (ss.length - b))
end U
set_option Elab.async false
set_option linter.all false
set_option maxRecDepth 100000
set_option maxHeartbeats 1000000
namespace U
open PySem
theorem ixN_nat {n i : Nat} (h : i < n) : L2.ixN n (i : Int) = some i := by
  unfold L2.ixN
  rw [if_pos (by omega), if_pos (by omega)]
  simp
theorem atI_nat {xs : List D} {i : Nat} {d : D} (h : xs[i]? = some d) : L2.atI xs (i : Int) = some d := by
  unfold L2.atI
  rw [ixN_nat (List.getElem?_eq_some_iff.mp h).1]
  exact h
def VOk (ws vs : List D) : Prop := vs.length = ws.length ∧ ∀ (i : Nat) (w : D), ws[i]? = some w → ∃ v m : Nat, vs[i]? = some (.int v) ∧ w = .int m ∧ v < m
def LOk (n b : Nat) (ls : List D) : Prop := ls.length = n ∧ ∀ i, i < n → ∃ l : Nat, ls[i]? = some (.int l) ∧ l ≤ b
def CondOk (ws : List D) (n : Nat) (c : D) : Prop := (∃ (w : Str) (x p m : Nat), c = .tup [.str w, .int x, .int p] ∧ (w = "is" ∨ w = "not" ∨ w = "below") ∧ ws[x]? = some (.int m) ∧ p < m) ∨ ∃ (w : Str) (q : Nat), c = .tup [.str w, .int q] ∧ (w = "hushed" ∨ w = "awake") ∧ q < n
def ChgOk (ws : List D) (c : D) : Prop := ∃ (w : Str) (x p m : Nat), c = .tup [.str w, .int x, .int p] ∧ (w = "turn" ∨ w = "put") ∧ ws[x]? = some (.int m) ∧ p < m
def HshOk (n : Nat) (c : D) : Prop := ∃ q b : Nat, c = .tup [.int q, .int b] ∧ q < n ∧ 1 ≤ b ∧ b ≤ 3
def WakOk (n : Nat) (c : D) : Prop := ∃ q : Nat, c = .int q ∧ q < n
def RuleOk (ws : List D) (n : Nat) (r : D) : Prop := ∃ cs chs hs wk, r = .tup [.tup cs, .tup chs, .tup hs, .tup wk] ∧ (∀ c ∈ cs, CondOk ws n c) ∧ (∀ c ∈ chs, ChgOk ws c) ∧ (∀ c ∈ hs, HshOk n c) ∧ ∀ c ∈ wk, WakOk n c
theorem VOk.set {ws vs : List D} {x v m : Nat} (h : VOk ws vs) (hw : ws[x]? = some (.int m)) (hv : v < m) : VOk ws (vs.set x (.int v)) := by
  refine ⟨by simp [h.1], fun i w hi => ?_⟩
  by_cases e : x = i
  · subst e
    rw [hw] at hi
    cases hi
    exact ⟨v, m, by rw [List.getElem?_set_self (by rw [h.1]; exact (List.getElem?_eq_some_iff.mp hw).1)], rfl, hv⟩
  · obtain ⟨v', m', h1, h2, h3⟩ := h.2 i w hi
    exact ⟨v', m', by rw [List.getElem?_set_ne e]; exact h1, h2, h3⟩
theorem LOk.set {n b x l : Nat} {ls : List D} (h : LOk n b ls) (hl : l ≤ b) : LOk n b (ls.set x (.int l)) := by
  refine ⟨by simp [h.1], fun i hi => ?_⟩
  by_cases e : x = i
  · subst e
    exact ⟨l, by rw [List.getElem?_set_self (by rw [h.1]; exact hi)], hl⟩
  · obtain ⟨l', h1, h2⟩ := h.2 i hi
    exact ⟨l', by rw [List.getElem?_set_ne e]; exact h1, h2⟩
theorem foldO_ok {α : Type} {F : α → D → Option α} (I : α → Prop) : ∀ {xs : List D} {a : α}, I a → (∀ a x, I a → x ∈ xs → ∃ b, F a x = some b ∧ I b) → ∃ b, foldO F a xs = some b ∧ I b
  | [], a, ha, _ => ⟨a, rfl, ha⟩
  | x :: xs, a, ha, h => by
    obtain ⟨b, h1, h2⟩ := h a x ha List.mem_cons_self
    obtain ⟨c, h3, h4⟩ := foldO_ok I h2 fun a y hI hy => h a y hI (List.mem_cons_of_mem _ hy)
    exact ⟨c, by simp only [foldO, h1]; exact h3, h4⟩
theorem mod_nat {v p m : Nat} : ((v : Int) + (p : Int)) % (m : Int) = (((v + p) % m : Nat) : Int) := by simp
theorem chg_ok {ws vs : List D} {c : D} (h : VOk ws vs) (hc : ChgOk ws c) : ∃ vs1, chgO ws vs c = some vs1 ∧ VOk ws vs1 := by
  obtain ⟨w, x, p, m, rfl, hw, hm, hp⟩ := hc
  obtain ⟨v, m', h1, h2, h3⟩ := h.2 x _ hm
  cases h2
  have hx : x < vs.length := (List.getElem?_eq_some_iff.mp h1).1
  have hm0 : (0 : Int) < (m : Int) := by omega
  unfold chgO
  simp only [ixN_nat hx, atI_nat h1, atI_nat hm]
  rw [if_pos hm0]
  rcases hw with rfl | rfl
  · rw [if_pos rfl, mod_nat]
    exact ⟨_, rfl, h.set hm (Nat.mod_lt _ (by omega))⟩
  · rw [if_neg (by decide +kernel), if_pos rfl, show (0 : Int) = ((0 : Nat) : Int) from rfl, mod_nat]
    exact ⟨_, rfl, h.set hm (Nat.mod_lt _ (by omega))⟩
theorem hsh_ok {n : Nat} {ls : List D} {c : D} (h : LOk n 3 ls) (hc : HshOk n c) : ∃ ls1, hshO ls c = some ls1 ∧ LOk n 3 ls1 := by
  obtain ⟨q, b, rfl, hq, h1, h3⟩ := hc
  obtain ⟨l, hl, hl3⟩ := h.2 q hq
  unfold hshO
  simp only [ixN_nat (show q < ls.length by rw [h.1]; exact hq), atI_nat hl]
  have e : iMax (l : Int) (b : Int) = ((max l b : Nat) : Int) := by unfold iMax; split <;> omega
  rw [e]
  exact ⟨_, rfl, h.set (by omega)⟩
theorem wak_ok {n : Nat} {ls : List D} {c : D} (h : LOk n 3 ls) (hc : WakOk n c) : ∃ ls1, wakO ls c = some ls1 ∧ LOk n 3 ls1 := by
  obtain ⟨q, rfl, hq⟩ := hc
  unfold wakO
  simp only [ixN_nat (show q < ls.length by rw [h.1]; exact hq)]
  exact ⟨_, rfl, h.set (l := 0) (by omega)⟩
theorem so_ok {ws vs ls : List D} {n b : Nat} {c : D} (h : VOk ws vs) (hl : LOk n b ls) (hc : CondOk ws n c) : (soO c vs ls).isSome = true := by
  rcases hc with ⟨w, x, p, m, rfl, hw, hm, hp⟩ | ⟨w, q, rfl, hw, hq⟩
  · obtain ⟨v, m', h1, h2, h3⟩ := h.2 x _ hm
    unfold soO
    simp only [atI_nat h1]
    rcases hw with rfl | rfl | rfl
    · rw [if_pos rfl]; rfl
    · rw [if_neg (by decide +kernel), if_pos rfl]; rfl
    · rw [if_neg (by decide +kernel), if_neg (by decide +kernel), if_pos rfl]; rfl
  · obtain ⟨l, h1, h2⟩ := hl.2 q hq
    unfold soO
    simp only [atI_nat h1]
    rcases hw with rfl | rfl
    · rw [if_pos rfl]; rfl
    · rw [if_neg (by decide +kernel), if_pos rfl]; rfl
def BookOk (ws rs : List D) : Prop := ∀ r ∈ rs, RuleOk ws rs.length r
theorem ready_ok {ws rs vs ls : List D} {b q : Nat} (B : BookOk ws rs) (h : VOk ws vs) (hl : LOk rs.length b ls) (hq : q < rs.length) : ∃ k, readyO rs (q : Int) vs ls = some k := by
  obtain ⟨cs, chs, hs, wk, e, h1, h2, h3, h4⟩ := B rs[q] (List.getElem_mem hq)
  obtain ⟨l, hl1, hl2⟩ := hl.2 q hq
  have hr : rs[q]? = some (.tup [.tup cs, .tup chs, .tup hs, .tup wk]) := by rw [List.getElem?_eq_getElem hq, e]
  unfold readyO
  simp only [atI_nat hl1, atI_nat hr]
  split
  · exact ⟨_, rfl⟩
  · rw [if_pos (List.all_eq_true.mpr fun c hc => so_ok h hl (h1 c hc))]
    exact ⟨_, rfl⟩
theorem do_ok {ws rs vs ls : List D} {q : Nat} (B : BookOk ws rs) (h : VOk ws vs) (hl : LOk rs.length 3 ls) (hq : q < rs.length) : ∃ vs1 ls1, doO ws rs (q : Int) vs ls = some (vs1, ls1) ∧ VOk ws vs1 ∧ LOk rs.length 3 ls1 := by
  obtain ⟨cs, chs, hs, wk, e, h1, h2, h3, h4⟩ := B rs[q] (List.getElem_mem hq)
  have hr : rs[q]? = some (.tup [.tup cs, .tup chs, .tup hs, .tup wk]) := by rw [List.getElem?_eq_getElem hq, e]
  obtain ⟨vs1, k1, k2⟩ := foldO_ok (F := chgO ws) (xs := chs) (VOk ws) h fun a x hI hx => chg_ok hI (h2 x hx)
  obtain ⟨ls1, k3, k4⟩ := foldO_ok (F := hshO) (xs := hs) (LOk rs.length 3) hl fun a x hI hx => hsh_ok hI (h3 x hx)
  obtain ⟨ls2, k5, k6⟩ := foldO_ok (F := wakO) (xs := wk) (LOk rs.length 3) k4 fun a x hI hx => wak_ok hI (h4 x hx)
  unfold doO
  simp only [atI_nat hr, k1, k3, k5]
  exact ⟨_, _, rfl, k2, k6⟩
theorem VOk.ints {ws vs : List D} (h : VOk ws vs) : vs.all isI = true := List.all_eq_true.mpr fun x hx => by
  obtain ⟨i, hi⟩ := List.getElem?_of_mem hx
  have hl : i < ws.length := by rw [← h.1]; exact (List.getElem?_eq_some_iff.mp hi).1
  obtain ⟨v, m, h1, _⟩ := h.2 i _ (List.getElem?_eq_getElem hl)
  rw [hi] at h1
  cases h1
  rfl
theorem LOk.ints {n b : Nat} {ls : List D} (h : LOk n b ls) : ls.all isI = true := List.all_eq_true.mpr fun x hx => by
  obtain ⟨i, hi⟩ := List.getElem?_of_mem hx
  have hl : i < n := by rw [← h.1]; exact (List.getElem?_eq_some_iff.mp hi).1
  obtain ⟨v, h1, _⟩ := h.2 i hl
  rw [hi] at h1
  cases h1
  rfl
theorem LOk.less {n : Nat} {ls : List D} (h : LOk n 3 ls) : LOk n 2 (ls.map lessD) := by
  refine ⟨by simp [h.1], fun i hi => ?_⟩
  obtain ⟨l, h1, h2⟩ := h.2 i hi
  refine ⟨l - 1, ?_, by omega⟩
  rw [List.getElem?_map, h1]
  show some (D.int (iMax 0 ((l : Int) - 1))) = _
  congr 2
  unfold iMax
  split <;> omega
theorem LOk.mono {n b c : Nat} {ls : List D} (h : LOk n b ls) (hb : b ≤ c) : LOk n c ls := ⟨h.1, fun i hi => let ⟨l, h1, h2⟩ := h.2 i hi; ⟨l, h1, Nat.le_trans h2 hb⟩⟩
theorem step_ok {ws rs vs ls order off : List D} (B : BookOk ws rs) (hn : rs.length ≤ 5) (h : VOk ws vs) (hl : LOk rs.length 2 ls) (ho : ∀ x ∈ order, ∃ q : Nat, x = .int q ∧ q < rs.length) (hlen : order.length ≤ 500) (hoff : off.all isI = true) (hol : off.length ≤ most) :
    ∃ dn vs1 ls1, stepO ws rs vs ls order off = some (.tup [.tup dn, .tup [.tup vs1, .tup ls1]]) ∧ VOk ws vs1 ∧ LOk rs.length 2 ls1 ∧ dn.all isI = true := by
  have key : ∀ (xs : List D) (q : Mid), (∀ x ∈ xs, ∃ q : Nat, x = .int q ∧ q < rs.length) → VOk ws q.vs → LOk rs.length 3 q.ls → q.dn.all isI = true → q.dn.length + xs.length ≤ 500 → ∃ q1, foldO (askO ws rs off) q xs = some q1 ∧ VOk ws q1.vs ∧ LOk rs.length 3 q1.ls ∧ q1.dn.all isI = true := by
    intro xs
    induction xs with
    | nil => intro q _ h1 h2 h3 _; exact ⟨q, rfl, h1, h2, h3⟩
    | cons x xs ih =>
      intro q hx h1 h2 h3 h4
      obtain ⟨r, rfl, hr⟩ := hx x List.mem_cons_self
      obtain ⟨k, hk⟩ := ready_ok B h1 h2 hr
      simp only [List.length_cons] at h4
      by_cases hc : memI (.int (r : Int)) off = false ∧ k = true
      · obtain ⟨vs1, ls1, d1, d2, d3⟩ := do_ok B h1 h2 hr
        have e : askO ws rs off q (.int (r : Int)) = some ⟨vs1, ls1, q.dn ++ [.int (r : Int)]⟩ := by
          unfold askO
          simp only [hk, d1]
          rw [if_pos hc, if_pos (by omega)]
        obtain ⟨q1, g1, g2⟩ := ih ⟨vs1, ls1, q.dn ++ [.int (r : Int)]⟩ (fun y hy => hx y (List.mem_cons_of_mem _ hy)) d2 d3 (by rw [List.all_append, h3]; rfl) (by simp; omega)
        exact ⟨q1, by simp only [foldO, e]; exact g1, g2⟩
      · have e : askO ws rs off q (.int (r : Int)) = some q := by
          unfold askO
          simp only [hk]
          rw [if_neg hc]
        obtain ⟨q1, g1, g2⟩ := ih q (fun y hy => hx y (List.mem_cons_of_mem _ hy)) h1 h2 h3 (by omega)
        exact ⟨q1, by simp only [foldO, e]; exact g1, g2⟩
  obtain ⟨q, g1, g2, g3, g4⟩ := key order ⟨vs, ls, []⟩ ho h (hl.mono (by omega)) rfl (by simpa using hlen)
  refine ⟨q.dn, q.vs, q.ls.map lessD, ?_, g2, g3.less, g4⟩
  unfold stepO
  rw [if_pos ⟨hoff, hol⟩, g1]
  simp only
  rw [if_pos ⟨g3.ints, g2.ints, g4, by rw [g3.1]; exact Nat.le_trans hn (by decide)⟩]
end U
set_option Elab.async false
set_option linter.all false
set_option maxRecDepth 100000
set_option maxHeartbeats 1000000
namespace U
open PySem
def SOk (ws rs : List D) (s : D) : Prop := ∃ vs ls, s = .tup [.tup vs, .tup ls] ∧ VOk ws vs ∧ LOk rs.length 2 ls
def thenD (ws rs off : List D) (s : D) : D := match nextO ws rs off s with
  | some (.tup [_, th]) => th
  | _ => s
def didD (ws rs off : List D) (s : D) : D := match nextO ws rs off s with
  | some (.tup [dn, _]) => dn
  | _ => .tup []
def iter (ws rs off : List D) : Nat → D → D
  | 0, s => s
  | n + 1, s => thenD ws rs off (iter ws rs off n s)
structure RunOk (ws rs off : List D) : Prop where
  book : BookOk ws rs
  n5 : rs.length ≤ 5
  w3 : ws.length ≤ 3
  w4 : ∀ w ∈ ws, ∃ m : Nat, w = .int m ∧ m ≤ 4
  offI : off.all isI = true
  offL : off.length ≤ 5
section
variable {ws rs off : List D}
theorem ord_get (h : rs.length ≤ 5) : ∀ x ∈ ordO rs, ∃ q : Nat, x = .int q ∧ q < rs.length := fun x hx => by
  obtain ⟨i, hi⟩ := List.getElem?_of_mem hx
  obtain ⟨h1, rfl⟩ := rngL_get (n := rs.length) hi
  exact ⟨i, rfl, h1⟩
theorem next_ok (R : RunOk ws rs off) {s : D} (h : SOk ws rs s) : nextO ws rs off s = some (.tup [didD ws rs off s, thenD ws rs off s]) ∧ SOk ws rs (thenD ws rs off s) ∧ ∃ dn, didD ws rs off s = .tup dn ∧ dn.all isI = true := by
  obtain ⟨vs, ls, rfl, hv, hl⟩ := h
  obtain ⟨dn, vs1, ls1, e, h1, h2, h3⟩ := step_ok (order := ordO rs) R.book R.n5 hv hl (ord_get R.n5) (by unfold ordO; rw [rngL_length]; have := R.n5; omega) R.offI (Nat.le_trans R.offL (by decide))
  have e2 : nextO ws rs off (.tup [.tup vs, .tup ls]) = some (.tup [.tup dn, .tup [.tup vs1, .tup ls1]]) := e
  unfold didD thenD
  simp only [e2]
  exact ⟨trivial, ⟨vs1, ls1, rfl, h1, h2⟩, dn, rfl, h3⟩
theorem iter_ok (R : RunOk ws rs off) {s : D} (h : SOk ws rs s) : ∀ n, SOk ws rs (iter ws rs off n s)
  | 0 => h
  | n + 1 => (next_ok R (iter_ok R h n)).2.1
theorem iter_add {s : D} (a : Nat) : ∀ n, iter ws rs off (a + n) s = iter ws rs off n (iter ws rs off a s)
  | 0 => rfl
  | n + 1 => by
    show thenD ws rs off (iter ws rs off (a + n) s) = thenD ws rs off (iter ws rs off n (iter ws rs off a s))
    rw [iter_add a n]
theorem keysD_ints : ∀ {xs : List D}, xs.all isI = true → keysD xs = some (xs.map fun x => .num (wI x))
  | [], _ => by simp only [keysD, List.map_nil]
  | x :: xs, h => by
    simp only [List.all_cons, Bool.and_eq_true] at h
    obtain ⟨i, rfl⟩ : ∃ i, x = .int i := ⟨_, isI_eq h.1⟩
    simp only [keysD, keyD, keysD_ints h.2, List.map_cons, wI]
def keyS (vs ls : List D) : NestedKey := .tup [.tup (vs.map fun x => .num (wI x)), .tup (ls.map fun x => .num (wI x))]
theorem key_state {vs ls : List D} (h1 : vs.all isI = true) (h2 : ls.all isI = true) : keyD (.tup [.tup vs, .tup ls]) = some (keyS vs ls) := by
  simp only [keyD, keysD, keysD_ints h1, keysD_ints h2, Option.map_some, keyS]
theorem depth_nums : ∀ xs : List D, NestedKey.depthAll (xs.map fun x => .num (wI x)) = 0
  | [] => by simp only [List.map_nil, NestedKey.depthAll]
  | x :: xs => by simp only [List.map_cons, NestedKey.depthAll, NestedKey.depth, depth_nums xs]; rfl
theorem ask_state {vs ls : List D} (h1 : vs.all isI = true) (h2 : ls.all isI = true) : askK (.tup [.tup vs, .tup ls]) = some (keyS vs ls) := by
  unfold askK
  simp only [key_state h1 h2]
  rw [if_pos]
  simp only [keyS, NestedKey.depth, NestedKey.depthAll, depth_nums]
  decide
theorem nums_inj : ∀ {xs ys : List D}, xs.all isI = true → ys.all isI = true → (xs.map fun x => NestedKey.num (wI x)) = ys.map (fun x => .num (wI x)) → xs = ys
  | [], [], _, _, _ => rfl
  | [], _ :: _, _, _, e => by cases e
  | _ :: _, [], _, _, e => by cases e
  | x :: xs, y :: ys, h1, h2, e => by
    simp only [List.all_cons, Bool.and_eq_true] at h1 h2
    simp only [List.map_cons, List.cons.injEq, NestedKey.num.injEq] at e
    rw [isI_eq h1.1, isI_eq h2.1, e.1, nums_inj h1.2 h2.2 e.2]
theorem key_inj {s t : D} (h1 : SOk ws rs s) (h2 : SOk ws rs t) (e : keyD s = keyD t) : s = t := by
  obtain ⟨vs, ls, rfl, hv, hl⟩ := h1
  obtain ⟨vs', ls', rfl, hv', hl'⟩ := h2
  rw [key_state hv.ints hl.ints, key_state hv'.ints hl'.ints] at e
  simp only [Option.some.injEq, keyS, NestedKey.tup.injEq, List.cons.injEq, and_true] at e
  rw [nums_inj hv.ints hv'.ints e.1, nums_inj hl.ints hl'.ints e.2]
theorem ask_ok {s : D} (h : SOk ws rs s) : ∃ k, askK s = some k ∧ keyD s = some k := by
  obtain ⟨vs, ls, rfl, hv, hl⟩ := h
  exact ⟨_, ask_state hv.ints hl.ints, key_state hv.ints hl.ints⟩
theorem nodup_lt : ∀ (N : Nat) (l : List Nat), l.Nodup → (∀ x ∈ l, x < N) → l.length ≤ N
  | 0, [], _, _ => Nat.le_refl _
  | 0, x :: l, _, h => absurd (h x List.mem_cons_self) (Nat.not_lt_zero _)
  | N + 1, l, hn, h => by
    by_cases hm : N ∈ l
    · have h1 := nodup_lt N (l.erase N) (hn.erase N) fun x hx => by
        have hx2 := (hn.mem_erase_iff).mp hx
        have := h x hx2.2
        omega
      rw [List.length_erase_of_mem hm] at h1
      omega
    · have := nodup_lt N l hn fun x hx => by
        have h1 := h x hx
        have h2 : x ≠ N := fun e => hm (e ▸ hx)
        omega
      omega
def digits (b : Nat) : List D → Nat
  | [] => 0
  | x :: xs => (wI x).toNat + b * digits b xs
theorem digits_lt {b : Nat} (hb : 0 < b) : ∀ {xs : List D}, (∀ x ∈ xs, ∃ v : Nat, x = .int v ∧ v < b) → digits b xs < b ^ xs.length
  | [], _ => by simp [digits]
  | x :: xs, h => by
    obtain ⟨v, rfl, hv⟩ := h x List.mem_cons_self
    have ih := digits_lt hb (xs := xs) fun y hy => h y (List.mem_cons_of_mem _ hy)
    simp only [digits, wI, List.length_cons, Int.toNat_natCast, Nat.pow_succ]
    have h1 : b * (digits b xs + 1) ≤ b * b ^ xs.length := Nat.mul_le_mul_left b ih
    rw [Nat.mul_comm (b ^ xs.length) b]
    have h2 : b * (digits b xs + 1) = b * digits b xs + b := Nat.mul_succ _ _
    omega
theorem digits_inj {b : Nat} (hb : 0 < b) : ∀ {xs ys : List D}, xs.length = ys.length → (∀ x ∈ xs, ∃ v : Nat, x = .int v ∧ v < b) → (∀ x ∈ ys, ∃ v : Nat, x = .int v ∧ v < b) → digits b xs = digits b ys → xs = ys
  | [], [], _, _, _, _ => rfl
  | [], _ :: _, e, _, _, _ => by cases e
  | _ :: _, [], e, _, _, _ => by cases e
  | x :: xs, y :: ys, e, h1, h2, h => by
    obtain ⟨v, rfl, hv⟩ := h1 x List.mem_cons_self
    obtain ⟨w, rfl, hw⟩ := h2 y List.mem_cons_self
    simp only [digits, wI, Int.toNat_natCast] at h
    have hm : v = w := by
      have := congrArg (· % b) h
      simp only [Nat.add_mul_mod_self_left, Nat.mod_eq_of_lt hv, Nat.mod_eq_of_lt hw] at this
      exact this
    subst hm
    have hd : digits b xs = digits b ys := Nat.eq_of_mul_eq_mul_left hb (by omega)
    rw [digits_inj hb (by simpa using e) (fun y hy => h1 y (List.mem_cons_of_mem _ hy)) (fun y hy => h2 y (List.mem_cons_of_mem _ hy)) hd]
def codeS : D → Nat
  | .tup [.tup vs, .tup ls] => digits 4 vs * 243 + digits 3 ls
  | _ => 0
theorem VOk.dig (R : RunOk ws rs off) {vs : List D} (h : VOk ws vs) : ∀ x ∈ vs, ∃ v : Nat, x = .int v ∧ v < 4 := fun x hx => by
  obtain ⟨i, hi⟩ := List.getElem?_of_mem hx
  have hl : i < ws.length := by rw [← h.1]; exact (List.getElem?_eq_some_iff.mp hi).1
  obtain ⟨v, m, h1, h2, h3⟩ := h.2 i _ (List.getElem?_eq_getElem hl)
  obtain ⟨m', h4, h5⟩ := R.w4 _ (List.getElem_mem hl)
  rw [hi] at h1
  cases h1
  rw [h4] at h2
  cases h2
  exact ⟨v, rfl, by omega⟩
theorem LOk.dig {n : Nat} {ls : List D} (h : LOk n 2 ls) : ∀ x ∈ ls, ∃ v : Nat, x = .int v ∧ v < 3 := fun x hx => by
  obtain ⟨i, hi⟩ := List.getElem?_of_mem hx
  have hl : i < n := by rw [← h.1]; exact (List.getElem?_eq_some_iff.mp hi).1
  obtain ⟨v, h1, h2⟩ := h.2 i hl
  rw [hi] at h1
  cases h1
  exact ⟨v, rfl, by omega⟩
theorem dig3 (R : RunOk ws rs off) {ls : List D} (h : LOk rs.length 2 ls) : digits 3 ls < 243 := by
  have h1 := digits_lt (b := 3) (by omega) h.dig
  have h2 : 3 ^ ls.length ≤ 3 ^ 5 := Nat.pow_le_pow_right (by omega) (by rw [h.1]; exact R.n5)
  omega
theorem dig4 (R : RunOk ws rs off) {vs : List D} (h : VOk ws vs) : digits 4 vs < 64 := by
  have h1 := digits_lt (b := 4) (by omega) (h.dig R)
  have h2 : 4 ^ vs.length ≤ 4 ^ 3 := Nat.pow_le_pow_right (by omega) (by rw [h.1]; exact R.w3)
  omega
theorem code_lt (R : RunOk ws rs off) {s : D} (h : SOk ws rs s) : codeS s < 15552 := by
  obtain ⟨vs, ls, rfl, hv, hl⟩ := h
  have h1 := dig4 R hv
  have h2 := dig3 R hl
  simp only [codeS]
  omega
theorem code_inj (R : RunOk ws rs off) {s t : D} (h1 : SOk ws rs s) (h2 : SOk ws rs t) (e : codeS s = codeS t) : s = t := by
  obtain ⟨vs, ls, rfl, hv, hl⟩ := h1
  obtain ⟨vs', ls', rfl, hv', hl'⟩ := h2
  have a1 := dig3 R hl
  have a2 := dig3 R hl'
  simp only [codeS] at e
  have e1 : digits 4 vs = digits 4 vs' := by omega
  have e2 : digits 3 ls = digits 3 ls' := by omega
  rw [digits_inj (by omega) (by rw [hv.1, hv'.1]) (hv.dig R) (hv'.dig R) e1, digits_inj (by omega) (by rw [hl.1, hl'.1]) hl.dig hl'.dig e2]
theorem few_states (R : RunOk ws rs off) {l : List D} (hn : l.Nodup) (h : ∀ s ∈ l, SOk ws rs s) : l.length ≤ 15552 := by
  have h1 := nodup_lt 15552 (l.map codeS) (by
    rw [List.nodup_iff_pairwise_ne, List.pairwise_map]
    exact List.Pairwise.imp_of_mem (fun {a b} ha hb hab e => hab (code_inj R (h a ha) (h b hb) e)) (List.nodup_iff_pairwise_ne.mp hn)) fun x hx => by
    obtain ⟨s, hs, rfl⟩ := List.mem_map.mp hx
    exact code_lt R (h s hs)
  simpa using h1
end
end U
set_option Elab.async false
set_option linter.all false
set_option maxRecDepth 100000
set_option maxHeartbeats 1000000
namespace U
open PySem
section
variable {ws rs off : List D}
theorem getK_none {k : NestedKey} : ∀ {kvs : List (D × D)}, (∀ p ∈ kvs, keyD p.1 ≠ some k) → getK kvs k = none
  | [], _ => rfl
  | p :: r, h => by
    unfold getK
    rw [if_neg (h p List.mem_cons_self)]
    exact getK_none fun q hq => h q (List.mem_cons_of_mem _ hq)
theorem getK_some {k : NestedKey} : ∀ {kvs : List (D × D)} {i : Nat} {p : D × D}, kvs[i]? = some p → keyD p.1 = some k → (∀ j q, j < i → kvs[j]? = some q → keyD q.1 ≠ some k) → getK kvs k = some p.2
  | [], _, _, h, _, _ => by simp at h
  | q :: r, 0, p, h, hk, _ => by
    simp at h
    subst h
    unfold getK
    rw [if_pos hk]
  | q :: r, i + 1, p, h, hk, hn => by
    unfold getK
    rw [if_neg (hn 0 q (by omega) rfl)]
    exact getK_some (by simpa using h) hk fun j q' hj hq => hn (j + 1) q' (by omega) (by simpa using hq)
theorem range_map_get {α : Type} {g : Nat → α} {m i : Nat} (h : i < m) : ((List.range m).map g)[i]? = some (g i) := by rw [List.getElem?_map, List.getElem?_range h]; rfl
theorem range_map_inv {α : Type} {g : Nat → α} {m i : Nat} {x : α} (h : ((List.range m).map g)[i]? = some x) : i < m ∧ x = g i := by
  have hi : i < m := by have := (List.getElem?_eq_some_iff.mp h).1; simpa using this
  rw [range_map_get hi] at h
  exact ⟨hi, (Option.some.inj h).symm⟩
structure Rho (ws rs off : List D) (s : D) (m b : Nat) : Prop where
  lt : b < m
  few : m ≤ 15552
  rep : iter ws rs off m s = iter ws rs off b s
  dist : ∀ i j, i < j → j < m → iter ws rs off i s ≠ iter ws rs off j s
theorem rho_search (s : D) : ∀ N : Nat, (∃ m b, m ≤ N ∧ b < m ∧ iter ws rs off m s = iter ws rs off b s ∧ ∀ i j, i < j → j < m → iter ws rs off i s ≠ iter ws rs off j s) ∨ ∀ i j, i < j → j ≤ N → iter ws rs off i s ≠ iter ws rs off j s
  | 0 => .inr fun i j h1 h2 => by omega
  | N + 1 => by
    rcases rho_search s N with ⟨m, b, h1, h2, h3, h4⟩ | h
    · exact .inl ⟨m, b, by omega, h2, h3, h4⟩
    · by_cases hx : ∃ b, b < N + 1 ∧ iter ws rs off (N + 1) s = iter ws rs off b s
      · obtain ⟨b, hb, e⟩ := hx
        exact .inl ⟨N + 1, b, Nat.le_refl _, hb, e, fun i j h1 h2 => h i j h1 (by omega)⟩
      · refine .inr fun i j h1 h2 e => ?_
        by_cases hj : j = N + 1
        · subst hj
          exact hx ⟨i, h1, e.symm⟩
        · exact h i j h1 (by omega) e
theorem rho_ex (R : RunOk ws rs off) {s : D} (h : SOk ws rs s) : ∃ m b, Rho ws rs off s m b := by
  rcases rho_search (ws := ws) (rs := rs) (off := off) s 15552 with ⟨m, b, h1, h2, h3, h4⟩ | hd
  · exact ⟨m, b, h2, h1, h3, h4⟩
  · have := few_states R (l := (List.range 15553).map fun i => iter ws rs off i s) (by
      rw [List.nodup_iff_pairwise_ne, List.pairwise_map]
      refine List.Pairwise.imp_of_mem (fun {a b} ha hb hab => hd a b hab ?_) List.pairwise_lt_range
      have := List.mem_range.mp hb
      omega) fun x hx => by
        obtain ⟨i, _, rfl⟩ := List.mem_map.mp hx
        exact iter_ok R h i
    rw [List.length_map, List.length_range] at this
    omega
def kvW (ws rs off : List D) (s : D) (i : Nat) : D × D := (iter ws rs off i s, .tup [didD ws rs off (iter ws rs off i s), thenD ws rs off (iter ws rs off i s)])
theorem range_snoc {α : Type} {g : Nat → α} {m : Nat} : (List.range (m + 1)).map g = (List.range m).map g ++ [g m] := by rw [List.range_succ, List.map_append]; rfl
theorem row_none (R : RunOk ws rs off) {s t : D} {m : Nat} {v : Nat → D} {k : NestedKey} (h : SOk ws rs s) (ht : SOk ws rs t) (hk : keyD t = some k) (hn : ∀ i, i < m → iter ws rs off i s ≠ t) : getK ((List.range m).map fun i => (iter ws rs off i s, v i)) k = none :=
  getK_none fun p hp e => by
    obtain ⟨i, hi, rfl⟩ := List.mem_map.mp hp
    exact hn i (List.mem_range.mp hi) (key_inj (iter_ok R h i) ht (by rw [e, hk]))
theorem row_some (R : RunOk ws rs off) {s t : D} {m i : Nat} {v : Nat → D} {k : NestedKey} (h : SOk ws rs s) (hk : keyD t = some k) (hi : i < m) (he : iter ws rs off i s = t) (hd : ∀ i j, i < j → j < m → iter ws rs off i s ≠ iter ws rs off j s) : getK ((List.range m).map fun i => (iter ws rs off i s, v i)) k = some (v i) := by
  refine getK_some (p := (iter ws rs off i s, v i)) (range_map_get (g := fun i => (iter ws rs off i s, v i)) hi) (by rw [he]; exact hk) fun j q hj hq e => ?_
  obtain ⟨h1, rfl⟩ := range_map_inv hq
  exact hd j i hj hi (key_inj (iter_ok R h j) (iter_ok R h i) (by rw [e, he, hk]))
theorem ways_all (R : RunOk ws rs off) {s : D} {m b : Nat} (h : SOk ws rs s) (r : Rho ws rs off s m b) : ∀ (n j : Nat), j ≤ m → m < j + n → waysO (nextO ws rs off) n ((List.range j).map (kvW ws rs off s)) (iter ws rs off j s) = some ((List.range m).map (kvW ws rs off s))
  | 0, j, h1, h2 => by omega
  | n + 1, j, h1, h2 => by
    have hj := iter_ok R h j
    obtain ⟨k, a1, a2⟩ := ask_ok hj
    unfold waysO
    simp only [a1]
    by_cases hm : j = m
    · subst hm
      have : getK ((List.range j).map (kvW ws rs off s)) k = some _ := row_some R (v := fun i => .tup [didD ws rs off (iter ws rs off i s), thenD ws rs off (iter ws rs off i s)]) h a2 r.lt r.rep.symm r.dist
      rw [this]
      rfl
    · have : getK ((List.range j).map (kvW ws rs off s)) k = none := row_none R (v := fun i => .tup [didD ws rs off (iter ws rs off i s), thenD ws rs off (iter ws rs off i s)]) h hj a2 fun i hi => r.dist i j hi (by omega)
      rw [this]
      rw [if_neg (by simp)]
      simp only [(next_ok R hj).1]
      have hf := r.few
      rw [if_pos (by simp; omega)]
      have e : (List.range j).map (kvW ws rs off s) ++ [(iter ws rs off j s, .tup [didD ws rs off (iter ws rs off j s), thenD ws rs off (iter ws rs off j s)])] = (List.range (j + 1)).map (kvW ws rs off s) := range_snoc.symm
      rw [e]
      exact ways_all R h r n (j + 1) (by omega) (by omega)
theorem trail_all (R : RunOk ws rs off) {s : D} {m b : Nat} (h : SOk ws rs s) (r : Rho ws rs off s m b) : ∀ (n j : Nat), j ≤ m → m < j + n →
    trailO ((List.range m).map (kvW ws rs off s)) n ((List.range j).map fun (i : Nat) => (iter ws rs off i s, D.int i)) ((List.range j).map fun i => didD ws rs off (iter ws rs off i s)) (iter ws rs off j s) = some ((List.range m).map fun (i : Nat) => (iter ws rs off i s, D.int i), (List.range m).map fun i => didD ws rs off (iter ws rs off i s), iter ws rs off m s)
  | 0, j, h1, h2 => by omega
  | n + 1, j, h1, h2 => by
    have hj := iter_ok R h j
    obtain ⟨k, a1, a2⟩ := ask_ok hj
    unfold trailO
    simp only [a1]
    by_cases hm : j = m
    · subst hm
      have : getK ((List.range j).map fun (i : Nat) => (iter ws rs off i s, D.int i)) k = some _ := row_some R (v := fun (i : Nat) => D.int i) h a2 r.lt r.rep.symm r.dist
      rw [this]
      rfl
    · have e1 : getK ((List.range j).map fun (i : Nat) => (iter ws rs off i s, D.int i)) k = none := row_none R (v := fun (i : Nat) => D.int i) h hj a2 fun i hi => r.dist i j hi (by omega)
      have e2 : getK ((List.range m).map (kvW ws rs off s)) k = some _ := row_some R (v := fun i => .tup [didD ws rs off (iter ws rs off i s), thenD ws rs off (iter ws rs off i s)]) h a2 (by omega) rfl r.dist
      rw [e1, if_neg (by simp), e2]
      simp only
      have hf := r.few
      rw [if_pos (by simp; omega)]
      have e3 : (List.range j).map (fun (i : Nat) => (iter ws rs off i s, D.int i)) ++ [(iter ws rs off j s, D.int (((List.range j).map fun (i : Nat) => (iter ws rs off i s, D.int i)).length : Nat))] = (List.range (j + 1)).map fun (i : Nat) => (iter ws rs off i s, D.int i) := by
        rw [range_snoc]; simp
      have e4 : (List.range j).map (fun i => didD ws rs off (iter ws rs off i s)) ++ [didD ws rs off (iter ws rs off j s)] = (List.range (j + 1)).map fun i => didD ws rs off (iter ws rs off i s) := range_snoc.symm
      rw [e3, e4]
      exact trail_all R h r n (j + 1) (by omega) (by omega)
theorem trailP_ok (R : RunOk ws rs off) {s : D} {m b : Nat} (h : SOk ws rs s) (r : Rho ws rs off s m b) : trailP ws rs s off = some ((List.range m).map fun i => iter ws rs off i s, (List.range m).map fun i => didD ws rs off (iter ws rs off i s), .int b) := by
  have hf := r.few
  have w := ways_all R h r 16000 0 (by omega) (by omega)
  have t := trail_all R h r 16000 0 (by omega) (by omega)
  simp only [List.range_zero, List.map_nil, iter] at w t
  obtain ⟨k, a1, a2⟩ := ask_ok (iter_ok R h m)
  unfold trailP
  simp only [waysAll, w]
  unfold alongO
  simp only [t, a1]
  have : getK ((List.range m).map fun (i : Nat) => (iter ws rs off i s, D.int i)) k = some _ := row_some R (v := fun (i : Nat) => D.int i) h a2 r.lt r.rep.symm r.dist
  rw [this]
  simp only [List.map_map]
  rfl
end
end U
set_option Elab.async false
set_option linter.all false
set_option maxRecDepth 100000
set_option maxHeartbeats 1000000
namespace U
open PySem
section
variable {ws rs off : List D}
theorem zip_all {f : D → D → Bool} {xs ys : List D} (h : ∀ (i : Nat) (x y : D), xs[i]? = some x → ys[i]? = some y → f x y = true) : (List.zipWith f xs ys).all id = true := List.all_eq_true.mpr fun b hb => by
  obtain ⟨i, hi⟩ := List.getElem?_of_mem hb
  rw [List.getElem?_zipWith] at hi
  cases hx : xs[i]? with
  | none => rw [hx] at hi; cases hi
  | some x =>
    cases hy : ys[i]? with
    | none => rw [hx, hy] at hi; cases hi
    | some y =>
      rw [hx, hy] at hi
      cases hi
      exact h i x y hx hy
theorem values_ok {vs : List D} (h : VOk ws vs) : valuesD ws (.tup vs) = true := by
  simp only [valuesD, Bool.and_eq_true, decide_eq_true_eq]
  refine ⟨h.1, zip_all fun i x y hx hy => ?_⟩
  obtain ⟨v, m, h1, h2, h3⟩ := h.2 i y hy
  rw [hx] at h1
  cases h1
  subst h2
  have a1 : (0 : Int) ≤ (v : Int) := by omega
  have a2 : (v : Int) ≤ (m : Int) - 1 := by omega
  simp only [withinD, wI, decide_eq_true a1, Bool.true_and]
  exact decide_eq_true a2
theorem left_ok {n : Nat} {ls : List D} (h : LOk n 2 ls) : leftD n (.tup ls) = true := by
  simp only [leftD, Bool.and_eq_true, decide_eq_true_eq]
  refine ⟨h.1, List.all_eq_true.mpr fun x hx => ?_⟩
  obtain ⟨v, rfl, hv⟩ := h.dig x hx
  simp only [withinD, Bool.and_eq_true, decide_eq_true_eq]
  omega
theorem ws_ints (R : RunOk ws rs off) : ws.all isI = true := List.all_eq_true.mpr fun w hw => by
  obtain ⟨m, rfl, _⟩ := R.w4 w hw
  rfl
theorem runO_all (R : RunOk ws rs off) (hr : risingD rs.length (.tup off) = true) {s : D} {m b : Nat} (h : SOk ws rs s) (r : Rho ws rs off s m b) :
    runO ws rs s (.tup off) = some ((List.range m).map fun i => iter ws rs off i s, (List.range m).map fun i => didD ws rs off (iter ws rs off i s), (b : Int)) := by
  have t := trailP_ok R h r
  have hf := r.few
  have hlt := r.lt
  unfold runO
  rw [if_pos]
  · simp only [show tupsD (.tup off) = off from rfl, t]
    rw [if_pos]
    refine ⟨by omega, by simp; omega, by simp; omega, by simp; omega, ?_, ?_⟩
    · refine List.all_eq_true.mpr fun d hd => ?_
      obtain ⟨i, _, rfl⟩ := List.mem_map.mp hd
      obtain ⟨dn, e, hi⟩ := (next_ok R (iter_ok R h i)).2.2
      rw [e]
      simp only [tupsD, hi, itemsD]
      rfl
    · refine List.all_eq_true.mpr fun d hd => ?_
      obtain ⟨i, _, rfl⟩ := List.mem_map.mp hd
      obtain ⟨k, _, hk⟩ := ask_ok (iter_ok R h i)
      rw [hk]
      rfl
  · obtain ⟨vs, ls, rfl, hv, hl⟩ := h
    have h3 : vs.length ≤ most := by rw [hv.1]; exact Nat.le_trans R.w3 (by decide)
    have h4 : ls.length ≤ most := by rw [hl.1]; exact Nat.le_trans R.n5 (by decide)
    have h5 : off.length ≤ most := Nat.le_trans R.offL (by decide)
    have h6 : rs.length ≤ 1000 := Nat.le_trans R.n5 (by decide)
    simp only [runOk, ws_ints R, hv.ints, hl.ints, R.offI, stateD, values_ok hv, left_ok hl, hr, Bool.and_true, Bool.true_and, Bool.and_eq_true, decide_eq_true_eq]
    exact ⟨⟨⟨h3, h4⟩, h5⟩, h6⟩
theorem iter_round {s : D} {b m : Nat} (hb : b < m) (e : iter ws rs off m s = iter ws rs off b s) (j : Nat) : iter ws rs off (b + j) s = iter ws rs off (b + j % (m - b)) s := by
  have hL : 0 < m - b := by omega
  have key : ∀ q t, iter ws rs off (b + ((m - b) * q + t)) s = iter ws rs off (b + t) s := by
    intro q
    induction q with
    | zero => intro t; simp
    | succ q ih =>
      intro t
      have e1 : b + ((m - b) * (q + 1) + t) = m + ((m - b) * q + t) := by rw [Nat.mul_succ]; omega
      rw [e1, iter_add m, e, ← iter_add b, ih t]
  have := key (j / (m - b)) (j % (m - b))
  rw [Nat.div_add_mod] at this
  exact this
theorem nAt_nat {b m k : Nat} (h : b < m) : nAt (b : Int) m (k : Int) = ((if k < b then k else b + (k - b) % (m - b) : Nat) : Int) := by
  unfold nAt
  by_cases hk : k < b
  · rw [if_pos (by omega), if_pos hk]
  · rw [if_neg (by omega), if_neg hk]
    have e1 : (k : Int) - (b : Int) = ((k - b : Nat) : Int) := by omega
    have e2 : (m : Int) - (b : Int) = ((m - b : Nat) : Int) := by omega
    rw [e1, e2]
    simp
theorem at_all {s : D} {m b : Nat} (r : Rho ws rs off s m b) (k : Nat) : L2.atI ((List.range m).map fun i => iter ws rs off i s) (nAt (b : Int) ((List.range m).map fun i => iter ws rs off i s).length (k : Int)) = some (iter ws rs off k s) := by
  have hlt := r.lt
  rw [List.length_map, List.length_range, nAt_nat hlt]
  have hlt2 : (if k < b then k else b + (k - b) % (m - b)) < m := by
    split
    · omega
    · have := Nat.mod_lt (k - b) (show 0 < m - b by omega)
      omega
  rw [atI_nat (range_map_get hlt2)]
  congr 1
  split
  · rfl
  · rename_i hk
    have := iter_round hlt r.rep (k - b)
    rw [show b + (k - b) = k by omega] at this
    exact this.symm
def cnt (P : Nat → Bool) (k : Nat) : Nat := ((List.range k).filter P).length
theorem range_split (b j : Nat) : List.range (b + j) = List.range b ++ (List.range j).map (b + ·) := by
  induction j with
  | zero => simp
  | succ j ih => rw [show b + (j + 1) = (b + j) + 1 by omega, List.range_succ, ih, List.range_succ, List.map_append, List.append_assoc]; rfl
theorem filter_map_len {P : Nat → Bool} {f : Nat → Nat} (l : List Nat) : ((l.map f).filter P).length = (l.filter fun i => P (f i)).length := by rw [List.filter_map, List.length_map]; rfl
theorem cnt_add {P : Nat → Bool} (b j : Nat) : cnt P (b + j) = cnt P b + cnt (fun i => P (b + i)) j := by
  unfold cnt
  rw [range_split, List.filter_append, List.length_append, filter_map_len]
theorem cnt_succ {P : Nat → Bool} (k : Nat) : cnt P (k + 1) = cnt P k + (if P k = true then 1 else 0) := by
  rw [cnt_add]
  congr 1
  unfold cnt
  simp only [List.range_succ, List.range_zero, List.nil_append, List.filter_cons, List.filter_nil, Nat.add_zero]
  split <;> rfl
theorem cnt_congr {P Q : Nat → Bool} {k : Nat} (h : ∀ i, i < k → P i = Q i) : cnt P k = cnt Q k := by
  unfold cnt
  rw [List.filter_congr fun i hi => h i (List.mem_range.mp hi)]
theorem cnt_mul {P : Nat → Bool} {L : Nat} (h : ∀ i, P (L + i) = P i) : ∀ (q t : Nat), cnt P (q * L + t) = q * cnt P L + cnt P t
  | 0, t => by simp
  | q + 1, t => by
    have e : (q + 1) * L + t = L + (q * L + t) := by rw [Nat.succ_mul]; omega
    rw [e, cnt_add, cnt_congr (Q := P) fun i _ => h i, cnt_mul h q t, Nat.succ_mul]
    omega
def didR (ws rs off : List D) (r : Int) (s : D) (i : Nat) : Bool := memI (.int r) (tupsD (didD ws rs off (iter ws rs off i s)))
theorem didR_add {r : Int} {s : D} (n i : Nat) : didR ws rs off r (iter ws rs off n s) i = didR ws rs off r s (n + i) := by
  unfold didR
  rw [iter_add n i]
theorem enum_range {g : Nat → D} : ∀ (m k : Nat), enumFrom k ((List.range m).map fun i => g (k + i)) = (List.range m).map fun i => .tup [.int ((k + i : Nat) : Int), g (k + i)]
  | 0, k => rfl
  | m + 1, k => by
    rw [List.range_succ_eq_map]
    simp only [List.map_cons, enumFrom, List.map_map]
    congr 1
    have := enum_range (g := g) m (k + 1)
    have e1 : ((fun i => g (k + i)) ∘ Nat.succ) = fun i => g (k + 1 + i) := by funext i; simp [Nat.succ_eq_add_one]; congr 1; omega
    have e2 : ((fun (i : Nat) => D.tup [.int ((k + i : Nat) : Int), g (k + i)]) ∘ Nat.succ) = fun i => D.tup [.int ((k + 1 + i : Nat) : Int), g (k + 1 + i)] := by
      funext i
      simp only [Function.comp_apply, Nat.succ_eq_add_one]
      rw [show k + (i + 1) = k + 1 + i by omega]
    rw [e1, e2]
    exact this
theorem found_all {r : Int} {s : D} {m : Nat} : foundL ((List.range m).map fun i => didD ws rs off (iter ws rs off i s)) r = ((List.range m).filter (didR ws rs off r s)).map fun (i : Nat) => D.int i := by
  unfold foundL
  have e := enum_range (g := fun i => didD ws rs off (iter ws rs off i s)) m 0
  simp only [Nat.zero_add] at e
  rw [e, List.filter_map, List.map_map]
  rfl
theorem below_nat {l : List Nat} {k : Int} : below (l.map fun (i : Nat) => D.int i) k = ((l.filter fun (i : Nat) => decide ((i : Int) < k)).length : Nat) := by
  unfold below
  rw [List.filter_map, List.length_map]
  rfl
theorem filter_comm' {P Q : Nat → Bool} (l : List Nat) : (l.filter P).filter Q = (l.filter Q).filter P := by rw [List.filter_filter, List.filter_filter]; congr 1; funext i; exact Bool.and_comm _ _
theorem range_below (m k : Nat) : (List.range m).filter (fun (i : Nat) => decide ((i : Int) < (k : Int))) = List.range (min m k) := by
  induction m with
  | zero => simp
  | succ m ih =>
    rw [List.range_succ, List.filter_append, ih]
    by_cases h : m < k
    · rw [show min m k = m by omega, show min (m + 1) k = m + 1 by omega, List.range_succ, List.filter_cons_of_pos (by simp; omega)]
      rfl
    · rw [show min m k = k by omega, show min (m + 1) k = k by omega, List.filter_cons_of_neg (by simp; omega)]
      simp
theorem soon_all {r : Int} {s : D} {m b : Nat} (h : b < m) : soonL ((List.range m).map fun i => didD ws rs off (iter ws rs off i s)) r b = ((List.range b).filter (didR ws rs off r s)).map fun (i : Nat) => D.int i := by
  unfold soonL
  rw [found_all, List.filter_map]
  congr 1
  have := filter_comm' (P := didR ws rs off r s) (Q := fun (i : Nat) => decide ((i : Int) < (b : Int))) (List.range m)
  rw [range_below, show min m b = b by omega] at this
  exact this
theorem round_all {r : Int} {s : D} {m b : Nat} (h : b < m) : roundL ((List.range m).map fun i => didD ws rs off (iter ws rs off i s)) r b = (((List.range (m - b)).map (b + ·)).filter (didR ws rs off r s)).map fun (i : Nat) => D.int i := by
  unfold roundL
  rw [soon_all h, found_all, List.length_map]
  have e : (List.range m).filter (didR ws rs off r s) = (List.range b).filter (didR ws rs off r s) ++ ((List.range (m - b)).map (b + ·)).filter (didR ws rs off r s) := by
    rw [← List.filter_append, ← range_split, show b + (m - b) = m by omega]
  rw [e, List.map_append, List.drop_left' (by simp)]
theorem times_all {r : Int} {s : D} {m b : Nat} (ρ : Rho ws rs off s m b) (k : Nat) :
    timesO ((List.range m).map fun i => iter ws rs off i s) ((List.range m).map fun i => didD ws rs off (iter ws rs off i s)) (b : Int) r (k : Int) = (cnt (didR ws rs off r s) k : Nat) := by
  have hlt := ρ.lt
  unfold timesO
  rw [soon_all hlt, round_all hlt, List.length_map, List.length_map, List.length_map, List.length_range]
  by_cases hk : k < b
  · rw [if_pos (by omega), below_nat]
    congr 1
    have := filter_comm' (P := didR ws rs off r s) (Q := fun (i : Nat) => decide ((i : Int) < (k : Int))) (List.range b)
    rw [range_below, show min b k = k by omega] at this
    rw [this]
    rfl
  · rw [if_neg (by omega), below_nat]
    have e1 : (k : Int) - (b : Int) = ((k - b : Nat) : Int) := by omega
    have e2 : (m : Int) - (b : Int) = ((m - b : Nat) : Int) := by omega
    have per : ∀ i, didR ws rs off r s (b + ((m - b) + i)) = didR ws rs off r s (b + i) := fun i => by
      unfold didR
      rw [show b + ((m - b) + i) = m + i by omega, iter_add m, ρ.rep, ← iter_add b]
    have hq := cnt_mul (P := fun i => didR ws rs off r s (b + i)) (L := m - b) per ((k - b) / (m - b)) ((k - b) % (m - b))
    rw [Nat.div_add_mod' (k - b) (m - b)] at hq
    have hs := cnt_add (P := didR ws rs off r s) b (k - b)
    rw [show b + (k - b) = k by omega, hq] at hs
    rw [hs, e1, e2, filter_map_len]
    have e3 : ((((List.range (m - b)).map (b + ·)).filter (didR ws rs off r s)).filter fun (i : Nat) => decide ((i : Int) < (b : Int) + ((k - b : Nat) : Int) % ((m - b : Nat) : Int))).length = cnt (fun i => didR ws rs off r s (b + i)) ((k - b) % (m - b)) := by
      rw [filter_comm', List.filter_map, filter_map_len]
      have e4 : (List.range (m - b)).filter ((fun (i : Nat) => decide ((i : Int) < (b : Int) + ((k - b : Nat) : Int) % ((m - b : Nat) : Int))) ∘ (b + ·)) = List.range ((k - b) % (m - b)) := by
        have h1 := range_below (m - b) ((k - b) % (m - b))
        have h2 := Nat.mod_lt (k - b) (show 0 < m - b by omega)
        rw [show min (m - b) ((k - b) % (m - b)) = (k - b) % (m - b) by omega] at h1
        rw [← h1]
        congr 1
        funext i
        simp only [Function.comp_apply]
        refine decide_eq_decide.mpr ?_
        have e5 : ((k - b : Nat) : Int) % ((m - b : Nat) : Int) = (((k - b) % (m - b) : Nat) : Int) := by simp
        rw [e5]
        omega
      rw [e4]
      rfl
    rw [e3]
    show (((List.range b).filter (didR ws rs off r s)).length : Int) + _ + _ = _
    have e6 : ((k - b : Nat) : Int) / ((m - b : Nat) : Int) = (((k - b) / (m - b) : Nat) : Int) := by simp
    rw [e6]
    simp only [cnt]
    omega
end
end U
set_option Elab.async false
set_option linter.all false
set_option maxRecDepth 100000
set_option maxHeartbeats 1000000
namespace U
open PySem
def Bag (st : Sto) (b : Nat) (c : Int) : Prop := ∃ g x c', st[b]? = some (lst3 g x c') ∧ CtOk x c' ∧ c' ≤ c
theorem take_step {st : Sto} {b : Nat} {c many : Int} (h : Bag st b c) (h0 : 0 < many) (h1 : many < 1000000000000000000000000000000000000000000000000000000000001) (hc : c + 1 < 1000000000) :
    ∃ (v : Nat) (st' : Sto), s_take [.ref b, .int many] st = .ok (.int (v : Int)) st' ∧ (v : Int) < many ∧ Bag st' b (c + 1) ∧ (∀ i, i ≠ b → st'[i]? = st[i]?) ∧ st'.length = st.length := by
  obtain ⟨g, x, c', hb, ok, hle⟩ := h
  have hr := take_range (g := g) (x := x) (c := c') h0
  obtain ⟨v, hv⟩ := Int.eq_ofNat_of_zero_le hr.1
  refine ⟨v, _, by rw [← hv]; exact take_of hb ok h0 h1, by omega, ?_, fun i hi => List.getElem?_set_ne (Ne.symm hi), by simp⟩
  obtain ⟨g', x', c'', e, ok', hle'⟩ := take_next (g := g) (many := many) ok (by omega)
  exact ⟨g', x', c'', by rw [get_set (List.getElem?_eq_some_iff.mp hb).1, e], ok', by omega⟩
theorem get0 {st ex : Sto} {o : Ob} {i : Nat} (h : st[i]? = some o) : (st ++ ex)[i]? = some o := by rw [List.getElem?_append_left (List.getElem?_eq_some_iff.mp h).1]; exact h
theorem Bag.app {st ex : Sto} {b : Nat} {c : Int} (h : Bag st b c) : Bag (st ++ ex) b c := by
  obtain ⟨g, x, c', hb, r⟩ := h
  exact ⟨g, x, c', get0 hb, r⟩
theorem runLc_J {xs : List D} {g : GM} {e : EM} {env : Ev} {k : Nat} (J : Nat → List D → Sto → Prop) (hk : ∀ i acc st, J i acc st → acc.length < most)
    (h : ∀ i x acc st, xs[i]? = some x → J i acc st → ∃ env1 st1 d st2, g x env st = some (env1, st1) ∧ e env1 st = .ok d st2 ∧ st2[k]? = some (.lst acc) ∧ J (i + 1) (acc ++ [d]) (st2.set k (.lst (acc ++ [d])))) :
    ∀ (n i : Nat) (acc : List D) (st : Sto), xs.length = i + n → J i acc st → ∃ acc' st', runLc (.fix xs) g tTrue e k env (n + 1) i st = .ok (.ref k) st' ∧ J xs.length acc' st'
  | 0, i, acc, st, hn, hJ => by
    have e : i = xs.length := by omega
    subst e
    refine ⟨acc, st, ?_, hJ⟩
    unfold runLc
    simp only [Src.at]
    rw [List.getElem?_eq_none (Nat.le_refl _)]
  | n + 1, i, acc, st, hn, hJ => by
    have hi : i < xs.length := by omega
    obtain ⟨env1, st1, d, st2, h1, h2, h3, h4⟩ := h i xs[i] acc st (List.getElem?_eq_getElem hi) hJ
    obtain ⟨acc', st', h5, h6⟩ := runLc_J J hk h n (i + 1) (acc ++ [d]) _ (by omega) h4
    refine ⟨acc', st', ?_, h6⟩
    unfold runLc
    simp only [Src.at]
    rw [List.getElem?_eq_getElem hi]
    simp only [h1, tTrue, R.bind, if_true, h2, h3]
    rw [if_pos (hk _ _ _ hJ)]
    exact h5
theorem startLc_J {xs : List D} {g : GM} {e : EM} {env : Ev} {st : Sto} (J : Nat → List D → Sto → Prop) (hk : ∀ i acc st, J i acc st → acc.length < most) (h0 : J 0 [] (st ++ [.lst []]))
    (h : ∀ i x acc s', xs[i]? = some x → J i acc s' → ∃ env1 st1 d st2, g x env s' = some (env1, st1) ∧ e env1 s' = .ok d st2 ∧ st2[st.length]? = some (.lst acc) ∧ J (i + 1) (acc ++ [d]) (st2.set st.length (.lst (acc ++ [d])))) :
    ∃ acc' st', startLc g tTrue e env (.fix xs) st = .ok (.ref st.length) st' ∧ J xs.length acc' st' :=
  runLc_J J hk h xs.length 0 [] _ (by omega) h0
theorem seq_to {a b : SM} {env env1 : Ev} {st st1 : Sto} {r : RS} (h1 : a env st = .nx env1 st1) (h2 : b env1 st1 = r) : sSeq a b env st = r := by unfold sSeq; rw [h1]; exact h2
theorem set_to {i : Nat} {g : EM} {b : SM} {env : Ev} {st st1 : Sto} {d : D} {r : RS} (h1 : g env st = .ok d st1) (h2 : b (env.set i (some d)) st1 = r) : sSeq (sSet i g) b env st = r := seq_to (by unfold sSet; rw [h1]; rfl) h2
theorem par_to {i j : Nat} {ga gb : EM} {b : SM} {env : Ev} {st s1 s2 : Sto} {x y : D} {r : RS} (h1 : ga env st = .ok x s1) (h2 : gb env s1 = .ok y s2) (h : b ((env.set i (some x)).set j (some y)) s2 = r) : sSeq (sPar i j ga gb) b env st = r := seq_to (by unfold sPar; rw [h1]; simp only [R.then]; rw [h2]) h
theorem par3_to {i j l : Nat} {ga gb gc : EM} {b : SM} {env : Ev} {st s1 s2 s3 : Sto} {x y z : D} {r : RS} (h1 : ga env st = .ok x s1) (h2 : gb env s1 = .ok y s2) (h3 : gc env s2 = .ok z s3) (h : b (((env.set i (some x)).set j (some y)).set l (some z)) s3 = r) : sSeq (sPar3 i j l ga gb gc) b env st = r := seq_to (by unfold sPar3; rw [h1]; simp only [R.then]; rw [h2]; simp only; rw [h3]) h
theorem if_to {t : TM} {a b : SM} {env : Ev} {st st1 : Sto} {r : RS} (h1 : t env st = .ok false st1) (h2 : b env st1 = r) : sSeq (sIf t a sSkip) b env st = r := seq_to (by unfold sIf; rw [h1]; rfl) h2
section
variable {P : Ev → Sto → Prop} {b : SM} {env env1 : Ev} {st st1 : Sto}
end
theorem addL {st : Sto} {i j : Nat} {xs ys : List D} (h1 : st[i]? = some (.lst xs)) (h2 : st[j]? = some (.lst ys)) (hl : (xs ++ ys).length ≤ most) : dAdd (.ref i) (.ref j) st = .ok (.ref st.length) (st ++ [.lst (xs ++ ys)]) := by
  unfold dAdd
  simp only [h1, h2]
  exact if_pos hl

theorem mkTup_4 {st : Sto} {a b c d : D} : mkTup [a, b, c, d] st = .ok (.tup [a, b, c, d]) st := rfl
theorem fInt_b {st : Sto} {b : Bool} : fInt [.bl b] st = .ok (.int (if b = true then 1 else 0)) st := rfl

theorem Bag.mono {st : Sto} {b : Nat} {c d : Int} (h : Bag st b c) (hd : c ≤ d) : Bag st b d := let ⟨g, x, c', h1, h2, h3⟩ := h; ⟨g, x, c', h1, h2, Int.le_trans h3 hd⟩
theorem Bag.lt {st : Sto} {b : Nat} {c : Int} (h : Bag st b c) : b < st.length := let ⟨_, _, _, h1, _⟩ := h; (List.getElem?_eq_some_iff.mp h1).1
structure Grw (S T : Sto) (B : Nat) : Prop where
  len : S.length ≤ T.length
  at_ : ∀ i, i < S.length → i ≠ B → T[i]? = S[i]?
theorem Grw.refl {S : Sto} {B : Nat} : Grw S S B := ⟨Nat.le_refl _, fun _ _ _ => rfl⟩
theorem Grw.trans {S T V : Sto} {B : Nat} (a : Grw S T B) (b : Grw T V B) : Grw S V B := ⟨Nat.le_trans a.len b.len, fun i hi hb => (b.at_ i (Nat.lt_of_lt_of_le hi a.len) hb).trans (a.at_ i hi hb)⟩
theorem Grw.app {S ex : Sto} {B : Nat} : Grw S (S ++ ex) B := ⟨by simp, fun i hi _ => List.getElem?_append_left hi⟩
theorem Grw.same {S T : Sto} {B : Nat} (h : ∀ i, i ≠ B → T[i]? = S[i]?) (hl : T.length = S.length) : Grw S T B := ⟨Nat.le_of_eq hl.symm, fun i _ hb => h i hb⟩
theorem Grw.set {S T : Sto} {B k : Nat} {o : Ob} (a : Grw S T B) (hk : S.length ≤ k) : Grw S (T.set k o) B := ⟨by simpa using a.len, fun i hi hb => by rw [List.getElem?_set_ne (by omega)]; exact a.at_ i hi hb⟩
theorem Bag.set {T : Sto} {B k : Nat} {c : Int} {o : Ob} (h : Bag T B c) (hk : k ≠ B) : Bag (T.set k o) B c := by
  obtain ⟨g, x, c', h1, r⟩ := h
  exact ⟨g, x, c', by rw [List.getElem?_set_ne hk]; exact h1, r⟩
theorem take_go {st : Sto} {b : Nat} {c many : Int} (h : Bag st b c) (h0 : 0 < many) (h1 : many < 1000000000000000000000000000000000000000000000000000000000001) (hc : c + 1 < 1000000000) :
    ∃ (v : Nat) (st' : Sto), s_take [.ref b, .int many] st = .ok (.int (v : Int)) st' ∧ (v : Int) < many ∧ Bag st' b (c + 1) ∧ Grw st st' b ∧ st'.length = st.length :=
  let ⟨v, st', h1, h2, h3, h4, h5⟩ := take_step h h0 h1 hc; ⟨v, st', h1, h2, h3, .same h4 h5, h5⟩
theorem within60 {k : Nat} (h : k < 10 ^ 60) : withinD 0 999999999999999999999999999999999999999999999999999999999999 (.int (k : Int)) = true := by
  have h1 : k < 1000000000000000000000000000000000000000000000000000000000000 := h
  have a1 : (0 : Int) ≤ (k : Int) := by omega
  have a2 : (k : Int) ≤ 999999999999999999999999999999999999999999999999999999999999 := by omega
  simp only [withinD, decide_eq_true a1, Bool.true_and]
  exact decide_eq_true a2
end U
set_option Elab.async false
set_option linter.all false
set_option maxRecDepth 100000
set_option maxHeartbeats 400000
namespace U
open PySem
section
variable {ws rs off : List D}
structure WayOk (ws rs off : List D) (kvs : List (D × D)) : Prop where
  ok : ∀ p ∈ kvs, SOk ws rs p.1 ∧ p.2 = .tup [didD ws rs off p.1, thenD ws rs off p.1]
  nd : (kvs.map (·.1)).Nodup
theorem WayOk.few (R : RunOk ws rs off) {kvs : List (D × D)} (W : WayOk ws rs off kvs) : kvs.length ≤ 15552 := by
  have := few_states R W.nd fun s hs => by obtain ⟨p, hp, rfl⟩ := List.mem_map.mp hs; exact (W.ok p hp).1
  rwa [List.length_map] at this
theorem WayOk.get {kvs : List (D × D)} (W : WayOk ws rs off kvs) {s : D} {k : NestedKey} (hs : s ∈ kvs.map (·.1)) (hk : keyD s = some k) : getK kvs k = some (.tup [didD ws rs off s, thenD ws rs off s]) := by
  obtain ⟨p, hp, rfl⟩ := List.mem_map.mp hs
  obtain ⟨i, hi⟩ := List.getElem?_of_mem hp
  rw [getK_some hi hk fun j q hj hq e => ?_, (W.ok p hp).2]
  have hqm := List.mem_of_getElem? hq
  have e2 : q.1 = p.1 := key_inj (W.ok q hqm).1 (W.ok p hp).1 (by rw [e, hk])
  have h1 : (kvs.map (·.1))[j]? = some p.1 := by rw [List.getElem?_map, hq, ← e2]; rfl
  have h2 : (kvs.map (·.1))[i]? = some p.1 := by rw [List.getElem?_map, hi]; rfl
  have hjl : j < (kvs.map (·.1)).length := (List.getElem?_eq_some_iff.mp h1).1
  have := (List.getElem?_inj hjl W.nd).mp (h1.trans h2.symm)
  omega
theorem WayOk.none {kvs : List (D × D)} (W : WayOk ws rs off kvs) {s : D} {k : NestedKey} (h : SOk ws rs s) (hs : s ∉ kvs.map (·.1)) (hk : keyD s = some k) : getK kvs k = none :=
  getK_none fun p hp e => hs (List.mem_map.mpr ⟨p, hp, key_inj (W.ok p hp).1 h (by rw [e, hk])⟩)
structure WaysD (ws rs off starts : List D) (kvs : List (D × D)) : Prop where
  way : WayOk ws rs off kvs
  closed : ∀ p ∈ kvs, thenD ws rs off p.1 ∈ kvs.map (·.1)
  start : ∀ s ∈ starts, s ∈ kvs.map (·.1)
  reach : ∀ s ∈ kvs.map (·.1), ∃ s0 ∈ starts, ∃ i, s = iter ws rs off i s0
theorem WaysD.iter {starts : List D} {kvs : List (D × D)} (G : WaysD ws rs off starts kvs) {s : D} (hs : s ∈ starts) : ∀ i, iter ws rs off i s ∈ kvs.map (·.1)
  | 0 => G.start s hs
  | i + 1 => by
    obtain ⟨p, hp, e⟩ := List.mem_map.mp (G.iter hs i)
    show thenD ws rs off (U.iter ws rs off i s) ∈ _
    rw [← e]
    exact G.closed p hp
end
end U
set_option Elab.async false
set_option linter.all false
set_option maxRecDepth 100000
set_option maxHeartbeats 400000
namespace U
open PySem

def WR0 {α : Type} (r : R α) (P : α → Sto → Prop) : Prop := match r with
  | .ok a st => P a st
  | _ => False
structure WR {α : Type} (r : R α) (P : α → Sto → Prop) : Prop where
  out : WR0 r P
def WS0 (r : RS) (N : Ev → Sto → Prop) (T : D → Sto → Prop) (C B : Ev → Sto → Prop) : Prop := match r with
  | .nx e s => N e s
  | .rt d s => T d s
  | .ct e s => C e s
  | .bk e s => B e s
  | _ => False
structure WS (r : RS) (N : Ev → Sto → Prop) (T : D → Sto → Prop) (C B : Ev → Sto → Prop) : Prop where
  out : WS0 r N T C B
def Cond (c : Bool) (A B : Prop) : Prop := if c = true then A else B
theorem cond_t {A B : Prop} (h : A) : Cond true A B := h
theorem cond_f {A B : Prop} (h : B) : Cond false A B := h
theorem cond_at {c : Bool} {A B : Prop} (hc : c = true) (h : A) : Cond c A B := by rw [hc]; exact h
theorem cond_af {c : Bool} {A B : Prop} (hc : c = false) (h : B) : Cond c A B := by rw [hc]; exact h
theorem cond_by {c : Bool} {A B : Prop} (h1 : c = true → A) (h2 : c = false → B) : Cond c A B := by
  cases c with
  | true => exact h1 rfl
  | false => exact h2 rfl
section
variable {α β : Type} {r : R α} {P : α → Sto → Prop} {PB : Bool → Sto → Prop} {PD : D → Sto → Prop} {PL : List D → Sto → Prop} {N C B : Ev → Sto → Prop} {T : D → Sto → Prop} {env env1 : Ev} {st st1 : Sto}
theorem wr_by {a : α} (h : r = .ok a st1) (k : P a st1) : WR r P := by rw [h]; exact ⟨k⟩
theorem wr_out (h : WR r P) : ∃ a s, r = .ok a s ∧ P a s := by
  cases r with
  | ok a s => exact ⟨a, s, rfl, h.out⟩
  | err => exact h.out.elim
  | fail => exact h.out.elim
theorem wr_bind {q : R β} {f : β → Sto → R α} (h : WR q fun x s => WR (f x s) P) : WR (q.bind f) P := by
  cases q with
  | ok a s => exact h.out
  | err => exact h.out.elim
  | fail => exact h.out.elim
theorem wr_imp {Q : α → Sto → Prop} (h : WR r P) (i : ∀ a s, P a s → Q a s) : WR r Q := by
  cases r with
  | ok a s => exact ⟨i a s h.out⟩
  | err => exact h.out.elim
  | fail => exact h.out.elim
theorem ws_then {q : R β} {f : β → Sto → RS} (h : WR q fun x s => WS (f x s) N T C B) : WS (q.then env f) N T C B := by
  cases q with
  | ok a s => exact h.out
  | err => exact h.out.elim
  | fail => exact h.out.elim
theorem wr_hush (h : WR r P) : WR r.hush P := by
  cases r with
  | ok a s => exact h
  | err => exact h.out.elim
  | fail => exact h.out.elim
theorem w_var {i : Nat} {d : D} (h : env[i]? = some (some d)) (k : PD d st) : WR (eVar i env st) PD := by unfold eVar; rw [h]; exact ⟨k⟩
theorem w_c {d : D} (k : PD d st) : WR (eC d env st) PD := ⟨k⟩
theorem w_un {f : D → Sto → R D} {a : EM} (k : WR (a env st) fun x s => WR (f x s) PD) : WR (eUn f a env st) PD := wr_bind k
theorem w_bin {f : D → D → Sto → R D} {a b : EM} (k : WR (a env st) fun x s => WR (b env s) fun y s => WR (f x y s) PD) : WR (eBin f a b env st) PD := wr_bind (wr_imp k fun _ _ h => wr_bind h)
theorem w_anil (k : PL [] st) : WR (aNil env st) PL := ⟨k⟩
theorem w_acons {a : EM} {as : AM} (k : WR (a env st) fun x s => WR (as env s) fun xs s => PL (x :: xs) s) : WR (aCons a as env st) PL := wr_bind (wr_imp k fun _ _ h => wr_bind (wr_imp h fun _ _ h => ⟨h⟩))
theorem w_aapp {a b : AM} (k : WR (a env st) fun x s => WR (b env s) fun xs s => PL (x ++ xs) s) : WR (aApp a b env st) PL := wr_bind (wr_imp k fun _ _ h => wr_bind (wr_imp h fun _ _ h => ⟨h⟩))
theorem w_fn {f : List D → Sto → R D} {as : AM} (k : WR (as env st) fun xs s => WR (f xs s) PD) : WR (eFn f as env st) PD := wr_bind k
theorem w_via {l : List Arg} {f : Fm} {ds es : List D} (h : pick l ds = some es) (k : WR (f es st) PD) : WR (via l f ds st) PD := by unfold via; rw [h]; exact k
theorem w_tof {a : EM} (k : WR (a env st) fun x s => WR (toB x s) PB) : WR (tOf a env st) PB := wr_bind k
theorem w_tob {c : Bool} (k : PB c st) : WR (toB (.bl c) st) PB := ⟨k⟩
theorem w_tand {a b : TM} (k : WR (a env st) fun c s => Cond c (WR (b env s) PB) (PB false s)) : WR (tAnd a b env st) PB := wr_bind (wr_imp k fun c _ h => by cases c; exact ⟨h⟩; exact h)
theorem w_tor {a b : TM} (k : WR (a env st) fun c s => Cond c (PB true s) (WR (b env s) PB)) : WR (tOr a b env st) PB := wr_bind (wr_imp k fun c _ h => by cases c; exact h; exact ⟨h⟩)
theorem w_tnot {a : TM} (k : WR (a env st) fun c s => PB (!c) s) : WR (tNot a env st) PB := wr_bind (wr_imp k fun _ _ h => ⟨h⟩)
theorem w_true (k : PB true st) : WR (tTrue env st) PB := ⟨k⟩
theorem w_eand {a b : EM} (k : WR (a env st) fun x s => ∃ c, x = .bl c ∧ Cond c (WR (b env s) PD) (PD (.bl false) s)) : WR (eAnd a b env st) PD := wr_bind (wr_imp k fun x _ ⟨c, e, h⟩ => by subst e; cases c; exact ⟨h⟩; exact h)
theorem w_eor {a b : EM} (k : WR (a env st) fun x s => ∃ c, x = .bl c ∧ Cond c (PD (.bl true) s) (WR (b env s) PD)) : WR (eOr a b env st) PD := wr_bind (wr_imp k fun x _ ⟨c, e, h⟩ => by subst e; cases c; exact h; exact ⟨h⟩)
theorem w_enot {a : EM} (k : WR (a env st) fun x s => ∃ c, x = .bl c ∧ PD (.bl (!c)) s) : WR (eNot a env st) PD := wr_bind (wr_imp k fun x _ ⟨c, e, h⟩ => by subst e; exact ⟨h⟩)
theorem w_exb {c : Bool} {A : Bool → Prop} (k : A c) : ∃ c', D.bl c = .bl c' ∧ A c' := ⟨c, rfl, k⟩
theorem w_if {t : TM} {a b : EM} (k : WR (t env st) fun c s => Cond c (WR (a env s) PD) (WR (b env s) PD)) : WR (eIf t a b env st) PD := wr_bind (wr_imp k fun c _ h => by cases c <;> exact h)
theorem w_slice {a : EM} {lo hi : oM} (k : WR (a env st) fun d s => WR (lo env s) fun l s => WR (hi env s) fun h s => WR (sliceD d l h s) PD) : WR (eSlice a lo hi env st) PD := wr_bind (wr_imp k fun _ _ h => wr_bind (wr_imp h fun _ _ h => wr_bind h))
theorem w_onone {PO : Option Int → Sto → Prop} (k : PO none st) : WR (oNone env st) PO := ⟨k⟩
theorem w_osome {a : EM} {PO : Option Int → Sto → Prop} (k : WR (a env st) fun d s => ∃ i, d = .int i ∧ PO (some i) s) : WR (oSome a env st) PO := wr_bind (wr_imp k fun x _ ⟨i, e, h⟩ => by subst e; exact ⟨h⟩)
theorem w_exi {i : Int} {A : Int → Prop} (k : A i) : ∃ i', D.int i = .int i' ∧ A i' := ⟨i, rfl, k⟩
theorem w_lc {src : IM} {vs : List Nat} {g : GM} {t : TM} {e : EM} (k : WR (src env st) fun s st => WR (startLc g t e (wipeE env vs) s st) PD) : WR (cLc src vs g t e env st) PD := wr_bind (wr_imp k fun _ _ h => wr_hush h)
theorem w_mtl {f : D → List D → Sto → R D} {a : EM} {as : AM} (k : WR (a env st) fun x s => isLst x s = true ∧ WR (as env s) fun xs s => WR (f x xs s) PD) : WR (eMtL f a as env st) PD := wr_bind (wr_imp k fun x s ⟨h, h2⟩ => by rw [if_pos h]; exact wr_bind h2)
variable {PS : Src → Sto → Prop}
theorem w_iseq {a : EM} (k : WR (a env st) fun x s => WR (seqSrc x s) PS) : WR (iSeq a env st) PS := wr_bind k
theorem w_irng {a : EM} (k : WR (a env st) fun x s => WR (rngSrc x s) PS) : WR (iRng a env st) PS := wr_bind k
theorem w_ienum {a : EM} (k : WR (a env st) fun x s => WR (enumSrc x s) PS) : WR (iEnum a env st) PS := wr_bind k
theorem w_ibin {f : D → D → Sto → R Src} {a b : EM} (k : WR (a env st) fun x s => WR (b env s) fun y s => WR (f x y s) PS) : WR (iBin f a b env st) PS := wr_bind (wr_imp k fun _ _ h => wr_bind h)
theorem w_sseq {xs : List D} (k : PS (.fix xs) st) : WR (seqSrc (.tup xs) st) PS := ⟨k⟩
theorem w_sdyn {n : Nat} {xs : List D} (h : st[n]? = some (.lst xs)) (k : PS (.dyn n) st) : WR (seqSrc (.ref n) st) PS := by unfold seqSrc lstOf; simp only [h]; exact ⟨k⟩
theorem w_senum {xs : List D} (k : PS (.fix (enumFrom 0 xs)) st) : WR (enumSrc (.tup xs) st) PS := ⟨k⟩
theorem w_szip {xs ys : List D} (k : PS (.fix (List.zipWith pairD xs ys)) st) : WR (zipSrc (.tup xs) (.tup ys) st) PS := ⟨k⟩
theorem w_rng {i : Int} {n : Nat} (hi : i = (n : Int)) (hn : n ≤ most) (k : PS (.fix (rngL 0 n)) st) : WR (rngSrc (.int i) st) PS := by subst hi; rw [rng_src hn]; exact ⟨k⟩
theorem w_skip (k : N env st) : WS (sSkip env st) N T C B := ⟨k⟩
theorem w_seq {a b : SM} (k : WS (a env st) (fun e s => WS (b e s) N T C B) T C B) : WS (sSeq a b env st) N T C B := by
  unfold sSeq
  cases h : a env st with
  | nx e s => rw [h] at k; exact k.out
  | rt d s => rw [h] at k; exact ⟨k.out⟩
  | ct e s => rw [h] at k; exact ⟨k.out⟩
  | bk e s => rw [h] at k; exact ⟨k.out⟩
  | err c fs e s => rw [h] at k; exact k.out.elim
  | fail => rw [h] at k; exact k.out.elim
theorem w_ret {a : EM} (k : WR (a env st) fun d s => T d s) : WS (sRet a env st) N T C B := ws_then (wr_imp k fun _ _ h => ⟨h⟩)
theorem w_sif {t : TM} {a b : SM} (k : WR (t env st) fun c s => Cond c (WS (a env s) N T C B) (WS (b env s) N T C B)) : WS (sIf t a b env st) N T C B := ws_then (wr_imp k fun c _ h => by cases c <;> exact h)
theorem w_set {i : Nat} {a : EM} (k : WR (a env st) fun d s => N (env.set i (some d)) s) : WS (sSet i a env st) N T C B := ws_then (wr_imp k fun _ _ h => ⟨h⟩)
theorem w_expr {a : EM} (k : WR (a env st) fun _ s => N env s) : WS (sExpr a env st) N T C B := ws_then (wr_imp k fun _ _ h => ⟨h⟩)
theorem w_asg {a : EM} {g : GM} (k : WR (a env st) fun d s => ∃ e1 s1, g d env s = some (e1, s1) ∧ N e1 s1) : WS (sAsg a g env st) N T C B := ws_then (wr_imp k fun d s ⟨e1, s1, h, k⟩ => by simp only [h]; exact ⟨k⟩)
theorem w_asg2 {a : EM} {i j : Nat} (k : WR (a env st) fun d s => ∃ x y, d = .tup [x, y] ∧ N ((env.set i (some x)).set j (some y)) s) : WS (sAsg a (gT 2 (gsCons (gN i) (gsCons (gN j) gsNil))) env st) N T C B := w_asg (wr_imp k fun d s ⟨x, y, e, k⟩ => by subst e; exact ⟨_, _, rfl, k⟩)
theorem w_asg3 {a : EM} {i j l : Nat} (k : WR (a env st) fun d s => ∃ x y z, d = .tup [x, y, z] ∧ N (((env.set i (some x)).set j (some y)).set l (some z)) s) : WS (sAsg a (gT 3 (gsCons (gN i) (gsCons (gN j) (gsCons (gN l) gsNil)))) env st) N T C B := w_asg (wr_imp k fun d s ⟨x, y, z, e, k⟩ => by subst e; exact ⟨_, _, rfl, k⟩)
theorem w_asg4 {a : EM} {i j l o : Nat} (k : WR (a env st) fun d s => ∃ x y z u, d = .tup [x, y, z, u] ∧ N ((((env.set i (some x)).set j (some y)).set l (some z)).set o (some u)) s) : WS (sAsg a (gT 4 (gsCons (gN i) (gsCons (gN j) (gsCons (gN l) (gsCons (gN o) gsNil))))) env st) N T C B := w_asg (wr_imp k fun d s ⟨x, y, z, u, e, k⟩ => by subst e; exact ⟨_, _, rfl, k⟩)
theorem w_ex2 {x y : D} {A : D → D → Prop} (k : A x y) : ∃ x' y', D.tup [x, y] = .tup [x', y'] ∧ A x' y' := ⟨x, y, rfl, k⟩
theorem w_ex3 {x y z : D} {A : D → D → D → Prop} (k : A x y z) : ∃ x' y' z', D.tup [x, y, z] = .tup [x', y', z'] ∧ A x' y' z' := ⟨x, y, z, rfl, k⟩
theorem w_ex4 {x y z u : D} {A : D → D → D → D → Prop} (k : A x y z u) : ∃ x' y' z' u', D.tup [x, y, z, u] = .tup [x', y', z', u'] ∧ A x' y' z' u' := ⟨x, y, z, u, rfl, k⟩
theorem w_par {i j : Nat} {a b : EM} (k : WR (a env st) fun x s => WR (b env s) fun y s => N ((env.set i (some x)).set j (some y)) s) : WS (sPar i j a b env st) N T C B := ws_then (wr_imp k fun _ _ h => ws_then (wr_imp h fun _ _ h => ⟨h⟩))
theorem w_par3 {i j l : Nat} {a b c : EM} (k : WR (a env st) fun x s => WR (b env s) fun y s => WR (c env s) fun z s => N (((env.set i (some x)).set j (some y)).set l (some z)) s) : WS (sPar3 i j l a b c env st) N T C B := ws_then (wr_imp k fun _ _ h => ws_then (wr_imp h fun _ _ h => ws_then (wr_imp h fun _ _ h => ⟨h⟩)))
theorem w_for {src : IM} {g : GM} {b : SM} (k : WR (src env st) fun s st => WS (startFor g b env s st) N T C B) : WS (sFor src g b env st) N T C B := ws_then k
theorem w_def {n slots : Nat} {b : SM} {ds : List D} (hl : ds.length = n) (k : WS (b (env0 n slots ds) st) (fun _ s => PD .non s) (fun d s => PD d s) (fun _ _ => False) (fun _ _ => False)) : WR (mkFn n slots b ds st) PD := by
  unfold mkFn
  rw [if_pos hl]
  revert k
  cases b (env0 n slots ds) st with
  | nx e s => exact fun k => ⟨k.out⟩
  | rt d s => exact fun k => ⟨k.out⟩
  | ct e s => exact fun k => k.out.elim
  | bk e s => exact fun k => k.out.elim
  | err c fs e s => exact fun k => k.out.elim
  | fail => exact fun k => k.out.elim
theorem ws_imp {r : RS} {N' C' B' : Ev → Sto → Prop} {T' : D → Sto → Prop} (h : WS r N T C B) (h1 : ∀ e s, N e s → N' e s) (h2 : ∀ e s, T e s → T' e s) (h3 : ∀ e s, C e s → C' e s) (h4 : ∀ e s, B e s → B' e s) : WS r N' T' C' B' := by
  cases r with
  | nx e s => exact ⟨h1 e s h.out⟩
  | rt d s => exact ⟨h2 d s h.out⟩
  | ct e s => exact ⟨h3 e s h.out⟩
  | bk e s => exact ⟨h4 e s h.out⟩
  | err c fs e s => exact h.out.elim
  | fail => exact h.out.elim
theorem runFor_W {s : Src} {g : GM} {body : SM} {xs : List D} (J : Nat → Ev → Sto → Prop) (hat : ∀ i env st, J i env st → s.at st = some xs)
    (h : ∀ i x env st, xs[i]? = some x → J i env st → ∃ env1 st1, g x env st = some (env1, st1) ∧ WS (body env1 st1) (J (i + 1)) T (J (i + 1)) N)
    (hN : ∀ env st, J xs.length env st → N env st) : ∀ (n i : Nat) (env : Ev) (st : Sto), xs.length = i + n → J i env st → WS (runFor s g body (n + 1) i env st) N T C B
  | 0, i, env, st, hn, hJ => by
    obtain rfl : i = xs.length := by omega
    unfold runFor
    rw [hat _ _ _ hJ]
    simp only
    rw [List.getElem?_eq_none (Nat.le_refl _)]
    exact ⟨hN _ _ hJ⟩
  | n + 1, i, env, st, hn, hJ => by
    have hi : i < xs.length := by omega
    obtain ⟨env1, st1, h1, h2⟩ := h i xs[i] env st (List.getElem?_eq_getElem hi) hJ
    unfold runFor
    rw [hat _ _ _ hJ]
    simp only
    rw [List.getElem?_eq_getElem hi]
    simp only [h1]
    cases hb : body env1 st1 with
    | nx e s =>
      rw [hb] at h2
      exact runFor_W J hat h hN n (i + 1) e s (by omega) h2.out
    | ct e s =>
      rw [hb] at h2
      exact runFor_W J hat h hN n (i + 1) e s (by omega) h2.out
    | bk e s => rw [hb] at h2; exact ⟨h2.out⟩
    | rt d s => rw [hb] at h2; exact ⟨h2.out⟩
    | err c fs e s => rw [hb] at h2; exact h2.out.elim
    | fail => rw [hb] at h2; exact h2.out.elim
theorem w_loop {s : Src} {g : GM} {body : SM} {xs : List D} (J : Nat → Ev → Sto → Prop) (hat : ∀ i env st, J i env st → s.at st = some xs) (h0 : J 0 env st)
    (h : ∀ i x env st, xs[i]? = some x → J i env st → ∃ env1 st1, g x env st = some (env1, st1) ∧ WS (body env1 st1) (J (i + 1)) T (J (i + 1)) N)
    (hN : ∀ env st, J xs.length env st → N env st) : WS (startFor g body env s st) N T C B := by
  unfold startFor
  rw [hat 0 env st h0]
  exact runFor_W J hat h hN xs.length 0 env st (by omega) h0
theorem w_loopF {g : GM} {body : SM} {xs : List D} (J : Nat → Ev → Sto → Prop) (h0 : J 0 env st)
    (h : ∀ i x env st, xs[i]? = some x → J i env st → ∃ env1 st1, g x env st = some (env1, st1) ∧ WS (body env1 st1) (J (i + 1)) T (J (i + 1)) N)
    (hN : ∀ env st, J xs.length env st → N env st) : WS (startFor g body env (.fix xs) st) N T C B := w_loop J (fun _ _ _ _ => rfl) h0 h hN
theorem w_addI {i j : Int} (k : PD (.int (i + j)) st) : WR (dAdd (.int i) (.int j) st) PD := ⟨k⟩
theorem w_subI {i j : Int} (k : PD (.int (i - j)) st) : WR (dSub (.int i) (.int j) st) PD := ⟨k⟩
theorem w_ltI {i j : Int} (k : PD (.bl (decide (i < j))) st) : WR (dLt (.int i) (.int j) st) PD := ⟨k⟩
theorem w_leI {i j : Int} (k : PD (.bl (decide (i ≤ j))) st) : WR (dLe (.int i) (.int j) st) PD := ⟨k⟩
theorem w_gtI {i j : Int} (k : PD (.bl (decide (j < i))) st) : WR (dGt (.int i) (.int j) st) PD := ⟨k⟩
theorem w_geI {i j : Int} (k : PD (.bl (decide (j ≤ i))) st) : WR (dGe (.int i) (.int j) st) PD := ⟨k⟩
theorem w_eqI {i j : Int} (k : PD (.bl (i == j)) st) : WR (dEq false (.int i) (.int j) st) PD := wr_by eqI k
theorem w_neI {i j : Int} (k : PD (.bl (!(i == j))) st) : WR (dEq true (.int i) (.int j) st) PD := wr_by eqI k
theorem w_negI {i : Int} (k : PD (.int (-i)) st) : WR (dNeg (.int i) st) PD := ⟨k⟩
theorem w_maxI {i j : Int} (k : PD (.int (iMax i j)) st) : WR (fI2 iMax [.int i, .int j] st) PD := ⟨k⟩
theorem w_minI {i j : Int} (k : PD (.int (iMin i j)) st) : WR (fI2 iMin [.int i, .int j] st) PD := ⟨k⟩
theorem w_lenT {xs : List D} (k : PD (.int (xs.length : Int)) st) : WR (fLen [.tup xs] st) PD := ⟨k⟩
theorem w_lenL {n : Nat} {xs : List D} (h : st[n]? = some (.lst xs)) (k : PD (.int (xs.length : Int)) st) : WR (fLen [.ref n] st) PD := by unfold fLen seqOf lstOf; simp only [h]; exact ⟨k⟩
theorem w_ix {x d : D} {xs : List D} {i : Int} (h : seqOf st x = some xs) (h2 : L2.atI xs i = some d) (k : PD d st) : WR (dIx x (.int i) st) PD := wr_by (ixS h h2) k
theorem w_mkTup {ds : List D} (h : ds.length ≤ most) (k : PD (.tup ds) st) : WR (mkTup ds st) PD := by unfold mkTup; rw [if_pos h]; exact ⟨k⟩
theorem w_mkLst {ds : List D} (h : ds.length ≤ most) (k : PD (.ref st.length) (st ++ [.lst ds])) : WR (mkLst ds st) PD := by unfold mkLst; rw [if_pos h]; exact ⟨k⟩
theorem w_tupL {n : Nat} {xs : List D} (h : st[n]? = some (.lst xs)) (k : PD (.tup xs) st) : WR (fTup [.ref n] st) PD := by unfold fTup seqOf lstOf; simp only [h]; exact ⟨k⟩
theorem w_slT {xs : List D} {lo hi : Option Int} (k : PD (.tup (cutD xs lo hi)) st) : WR (sliceD (.tup xs) lo hi st) PD := ⟨k⟩
theorem w_append {n : Nat} {xs : List D} {d : D} (h : st[n]? = some (.lst xs)) (hl : xs.length < most) (k : PD .non (st.set n (.lst (xs ++ [d])))) : WR (mAppend (.ref n) [d] st) PD := by
  unfold mAppend
  simp only [h]
  rw [if_pos hl]
  exact ⟨k⟩
theorem isLst_at {n : Nat} {xs : List D} (h : st[n]? = some (.lst xs)) : isLst (.ref n) st = true := by unfold isLst lstOf; simp only [h]; rfl
theorem seq_lst {n : Nat} {xs : List D} (h : st[n]? = some (.lst xs)) : seqOf st (.ref n) = some xs := lst_at h
theorem w_isi {Ty q : String} {d : D} (h : tyD st d = some q) (k : PD (.bl (isiT q Ty)) st) : WR (dIsi Ty d st) PD := by unfold dIsi; rw [h]; exact ⟨k⟩
theorem w_isi2 {S Ty q : String} {d : D} (h : tyD st d = some q) (k : PD (.bl (isiT q S || isiT q Ty)) st) : WR (dIsi2 S Ty d st) PD := by unfold dIsi2; rw [h]; exact ⟨k⟩
theorem w_eqB {a b : Bool} (k : PD (.bl (a == b)) st) : WR (dEq false (.bl a) (.bl b) st) PD := wr_by (show dEq false (.bl a) (.bl b) st = .ok (.bl (a == b)) st by cases a <;> cases b <;> rfl) k
theorem w_neB {a b : Bool} (k : PD (.bl (!(a == b))) st) : WR (dEq true (.bl a) (.bl b) st) PD := wr_by (show dEq true (.bl a) (.bl b) st = .ok (.bl (!(a == b))) st by cases a <;> cases b <;> rfl) k
theorem w_lcmap {s : Src} {g : GM} {e : EM} {xs : List D} {f : D → D} (h0 : s.at st = some xs) (hm : xs.length ≤ most)
    (h : ∀ x ∈ xs, ∀ acc, ∃ env1, g x env (st ++ [.lst acc]) = some (env1, st ++ [.lst acc]) ∧ e env1 (st ++ [.lst acc]) = .ok (f x) (st ++ [.lst acc])) (k : PD (.ref st.length) (st ++ [.lst (xs.map f)])) : WR (startLc g tTrue e env s st) PD := wr_by (startLc_map h0 hm h) k
end
structure Stg (B : Nat) (ps : List (Nat × Ob)) (T : Sto) (c : Int) : Prop where
  bag : Bag T B c
  pin : ∀ p ∈ ps, T[p.1]? = some p.2
  off : ∀ p ∈ ps, p.1 ≠ B
section
variable {B : Nat} {ps qs : List (Nat × Ob)} {T T' ex : Sto} {c c' : Int}
theorem Stg.at (H : Stg B ps T c) {i : Nat} {o : Ob} (h : (i, o) ∈ ps) : T[i]? = some o := H.pin (i, o) h
theorem Stg.grw (H : Stg B ps T c) (G : Grw T T' B) (b : Bag T' B c') : Stg B ps T' c' :=
  ⟨b, fun p hp => by have h := H.pin p hp; rw [G.at_ p.1 (List.getElem?_eq_some_iff.mp h).1 (H.off p hp)]; exact h, H.off⟩
theorem Stg.app (H : Stg B ps T c) : Stg B ps (T ++ ex) c := ⟨H.bag.app, fun p hp => get0 (H.pin p hp), H.off⟩
theorem Stg.mono (H : Stg B ps T c) (h : c ≤ c') : Stg B ps T c' := ⟨H.bag.mono h, H.pin, H.off⟩
theorem Stg.sub (H : Stg B ps T c) (h : ∀ p ∈ qs, p ∈ ps) : Stg B qs T c := ⟨H.bag, fun p hp => H.pin p (h p hp), fun p hp => H.off p (h p hp)⟩
theorem Stg.new (H : Stg B ps T c) (o : Ob) : Stg B ((T.length, o) :: ps) (T ++ [o]) c := by
  refine ⟨H.bag.app, fun p hp => ?_, fun p hp => ?_⟩
  · rcases List.mem_cons.mp hp with rfl | hp
    · exact get_end
    · exact get0 (H.pin p hp)
  · rcases List.mem_cons.mp hp with rfl | hp
    · exact Nat.ne_of_gt H.bag.lt
    · exact H.off p hp
theorem Stg.add (H : Stg B ps T c) {k : Nat} {o : Ob} (h : T[k]? = some o) (hB : k ≠ B) : Stg B ((k, o) :: ps) T c := by
  refine ⟨H.bag, fun p hp => ?_, fun p hp => ?_⟩
  · rcases List.mem_cons.mp hp with rfl | hp
    · exact h
    · exact H.pin p hp
  · rcases List.mem_cons.mp hp with rfl | hp
    · exact hB
    · exact H.off p hp
theorem Stg.tail {p : Nat × Ob} (H : Stg B (p :: ps) T c) : Stg B ps T c := H.sub fun q hq => List.mem_cons_of_mem _ hq
theorem Stg.set {k : Nat} {o o' : Ob} (H : Stg B ((k, o) :: ps) T c) (hk : ∀ p ∈ ps, p.1 ≠ k) : Stg B ((k, o') :: ps) (T.set k o') c := by
  have hkB : k ≠ B := H.off (k, o) List.mem_cons_self
  refine ⟨H.bag.set hkB, fun p hp => ?_, fun p hp => ?_⟩
  · rcases List.mem_cons.mp hp with rfl | hp
    · exact get_set (List.getElem?_eq_some_iff.mp (H.pin (k, o) List.mem_cons_self)).1
    · rw [List.getElem?_set_ne (fun e => hk p hp e.symm)]
      exact H.pin p (List.mem_cons_of_mem _ hp)
  · rcases List.mem_cons.mp hp with rfl | hp
    · exact hkB
    · exact H.off p (List.mem_cons_of_mem _ hp)
theorem Stg.lt (H : Stg B ps T c) {p : Nat × Ob} (hp : p ∈ ps) : p.1 < T.length := (List.getElem?_eq_some_iff.mp (H.pin p hp)).1
end
end U
set_option Elab.async false
set_option linter.all false
set_option maxRecDepth 100000
set_option maxHeartbeats 400000
namespace U
open PySem

def FewC (rs : List D) : Prop := ∀ cs a b c, D.tup [.tup cs, a, b, c] ∈ rs → cs.length ≤ most
section
variable {st : Sto}
theorem mapO_mono {α β : Type} {f g : α → Option β} : ∀ {xs : List α} {ys : List β}, (∀ x y, x ∈ xs → f x = some y → g x = some y) → mapO f xs = some ys → mapO g xs = some ys
  | [], ys, _, h => h
  | x :: xs, ys, hf, h => by
    unfold mapO at h ⊢
    cases e : f x with
    | none => rw [e] at h; cases h
    | some y =>
      rw [e] at h
      rw [hf x y List.mem_cons_self e]
      cases e2 : mapO f xs with
      | none => simp only [e2] at h; cases h
      | some zs =>
        simp only [e2] at h
        rw [mapO_mono (fun x y hx => hf x y (List.mem_cons_of_mem _ hx)) e2]
        exact h
theorem mapO_all {α β : Type} {f : α → Option β} {P : β → Prop} : ∀ {xs : List α} {ys : List β}, (∀ x y, x ∈ xs → f x = some y → P y) → mapO f xs = some ys → ∀ y ∈ ys, P y
  | [], ys, _, h => by unfold mapO at h; cases h; intro y hy; cases hy
  | x :: xs, ys, hf, h => by
    unfold mapO at h
    cases e : f x with
    | none => rw [e] at h; cases h
    | some y =>
      rw [e] at h
      cases e2 : mapO f xs with
      | none => simp only [e2] at h; cases h
      | some zs =>
        simp only [e2] at h
        cases h
        intro z hz
        rcases List.mem_cons.mp hz with rfl | hz
        · exact hf x z List.mem_cons_self e
        · exact mapO_all (fun x y hx => hf x y (List.mem_cons_of_mem _ hx)) e2 z hz
theorem toP_mono : ∀ (n : Nat) {d : D} {p : PyData}, toP n st d = some p → toP (n + 1) st d = some p := by
  intro n
  induction n with
  | zero =>
    intro d p h
    cases d <;> first | exact h | (simp only [toP] at h; cases h)
  | succ n ih =>
    intro d p h
    cases d with
    | tup xs =>
      simp only [toP] at h ⊢
      cases e : mapO (toP n st) xs with
      | none => rw [e] at h; cases h
      | some ys => rw [e] at h; rw [mapO_mono (fun x y _ => ih) e]; exact h
    | ref i =>
      simp only [toP] at h ⊢
      cases e0 : lstOf st i with
      | none => rw [e0] at h; cases h
      | some xs =>
        rw [e0] at h
        simp only at h ⊢
        cases e : mapO (toP n st) xs with
        | none => rw [e] at h; cases h
        | some ys => rw [e] at h; rw [mapO_mono (fun x y _ => ih) e]; exact h
    | non => exact h
    | bl b => exact h
    | int i => exact h
    | str x => exact h
theorem toP_le {n m : Nat} (h : n ≤ m) {d : D} {p : PyData} (e : toP n st d = some p) : toP m st d = some p := by
  induction h with
  | refl => exact e
  | step _ ih => exact toP_mono _ ih
theorem depthAll_le {n : Nat} : ∀ {ps : List PyData}, (∀ p ∈ ps, p.depth ≤ n) → PyData.depthAll ps ≤ n
  | [], _ => by simp [PyData.depthAll]
  | p :: ps, h => by
    have h1 := h p List.mem_cons_self
    have h2 := depthAll_le (ps := ps) fun q hq => h q (List.mem_cons_of_mem _ hq)
    simp only [PyData.depthAll]
    omega
theorem toP_depth : ∀ (n : Nat) {d : D} {p : PyData}, toP n st d = some p → p.depth ≤ n := by
  intro n
  induction n with
  | zero => intro d p h; cases d <;> simp only [toP] at h <;> cases h <;> simp [PyData.depth]
  | succ n ih =>
    intro d p h
    cases d with
    | tup xs =>
      simp only [toP] at h
      cases e : mapO (toP n st) xs with
      | none => rw [e] at h; cases h
      | some ys =>
        rw [e] at h; cases h
        have := depthAll_le (n := n) (mapO_all (fun x y _ => ih) e)
        simp only [PyData.depth]
        omega
    | ref i =>
      simp only [toP] at h
      cases e0 : lstOf st i with
      | none => rw [e0] at h; cases h
      | some xs =>
        rw [e0] at h
        simp only at h
        cases e : mapO (toP n st) xs with
        | none => rw [e] at h; cases h
        | some ys =>
          rw [e] at h; cases h
          have := depthAll_le (n := n) (mapO_all (fun x y _ => ih) e)
          simp only [PyData.depth]
          omega
    | non => simp only [toP] at h; cases h; simp [PyData.depth]
    | bl b => simp only [toP] at h; cases h; simp [PyData.depth]
    | int i => simp only [toP] at h; cases h; simp [PyData.depth]
    | str x => simp only [toP] at h; cases h; simp [PyData.depth]
theorem eqvAll_refl : ∀ {ps : List PyData}, (∀ p ∈ ps, PyData.eqv p p = true) → PyData.eqvAll ps ps = true
  | [], _ => by simp [PyData.eqvAll]
  | p :: ps, h => by simp [PyData.eqvAll, h p List.mem_cons_self, eqvAll_refl fun q hq => h q (List.mem_cons_of_mem _ hq)]
theorem toP_refl : ∀ (n : Nat) {d : D} {p : PyData}, toP n st d = some p → PyData.eqv p p = true := by
  intro n
  induction n with
  | zero => intro d p h; cases d <;> simp only [toP] at h <;> cases h <;> simp [PyData.eqv]
  | succ n ih =>
    intro d p h
    cases d with
    | tup xs =>
      simp only [toP] at h
      cases e : mapO (toP n st) xs with
      | none => rw [e] at h; cases h
      | some ys =>
        rw [e] at h; cases h
        simp only [PyData.eqv]
        exact eqvAll_refl (mapO_all (fun x y _ => ih) e)
    | ref i =>
      simp only [toP] at h
      cases e0 : lstOf st i with
      | none => rw [e0] at h; cases h
      | some xs =>
        rw [e0] at h
        simp only at h
        cases e : mapO (toP n st) xs with
        | none => rw [e] at h; cases h
        | some ys =>
          rw [e] at h; cases h
          simp only [PyData.eqv]
          exact eqvAll_refl (mapO_all (fun x y _ => ih) e)
    | non => simp only [toP] at h; cases h; simp [PyData.eqv]
    | bl b => simp only [toP] at h; cases h; simp [PyData.eqv]
    | int i => simp only [toP] at h; cases h; simp [PyData.eqv]
    | str x => simp only [toP] at h; cases h; simp [PyData.eqv]
theorem toS_of {n : Nat} {d : D} {p : PyData} (h : toP n st d = some p) (hn : n ≤ 60) (hc : p.canLay0 = true) : toS st d = some p := by
  unfold toS
  rw [toP_le hn h]
  simp only
  rw [if_pos]
  unfold SeqAt.shaped
  rw [hc, Bool.true_and]
  exact decide_eq_true (Nat.le_trans (toP_depth n h) (by omega))
theorem eq_val {n : Nat} {neg : Bool} {x y : D} {p q : PyData} (hx : toP n st x = some p) (hy : toP n st y = some q) (hn : n ≤ 60) (hp : p.canLay0 = true) (hq : q.canLay0 = true) : dEq neg x y st = .ok (.bl (if neg = true then !PyData.eqv p q else PyData.eqv p q)) st := by
  unfold dEq
  rw [toS_of hx hn hp, toS_of hy hn hq]
theorem eq_same {n : Nat} {neg : Bool} {x y : D} {p : PyData} (hx : toP n st x = some p) (hy : toP n st y = some p) (hn : n ≤ 60) (hp : p.canLay0 = true) : dEq neg x y st = .ok (.bl (!neg)) st := by
  rw [eq_val hx hy hn hp hp, toP_refl n hx]
  cases neg <;> rfl
variable {PD : D → Sto → Prop} {PS : Src → Sto → Prop} {env : Ev} {N C B : Ev → Sto → Prop} {T : D → Sto → Prop}
theorem w_isl {n : Nat} {xs : List D} {K : Prop} (h : st[n]? = some (.lst xs)) (k : K) : isLst (.ref n) st = true ∧ K := ⟨isLst_at h, k⟩
theorem w_slL {n : Nat} {xs : List D} {lo hi : Option Int} (h : st[n]? = some (.lst xs)) (k : PD (.ref st.length) (st ++ [.lst (cutD xs lo hi)])) : WR (sliceD (.ref n) lo hi st) PD := by
  unfold sliceD lstOf
  simp only [h]
  exact ⟨k⟩
theorem w_enumL {n : Nat} {xs : List D} (h : st[n]? = some (.lst xs)) (k : PS (.enumL n) st) : WR (enumSrc (.ref n) st) PS := by
  unfold enumSrc lstOf
  simp only [h]
  exact ⟨k⟩
theorem w_lcpure {s : Src} {g : GM} {t : TM} {e : EM} {xs : List D} {p : D → Bool} {f : D → D} (h0 : s.at st = some xs) (hm : xs.length ≤ most)
    (h : ∀ x ∈ xs, ∀ acc, ∃ env1, g x env (st ++ [.lst acc]) = some (env1, st ++ [.lst acc]) ∧ t env1 (st ++ [.lst acc]) = .ok (p x) (st ++ [.lst acc]) ∧ (p x = true → e env1 (st ++ [.lst acc]) = .ok (f x) (st ++ [.lst acc])))
    (k : PD (.ref st.length) (st ++ [.lst ((xs.filter p).map f)])) : WR (startLc g t e env s st) PD := wr_by (startLc_pure h0 hm h) k
theorem w_addL {i j : Nat} {xs ys : List D} (h1 : st[i]? = some (.lst xs)) (h2 : st[j]? = some (.lst ys)) (hl : (xs ++ ys).length ≤ most) (k : PD (.ref st.length) (st ++ [.lst (xs ++ ys)])) : WR (dAdd (.ref i) (.ref j) st) PD := wr_by (addL h1 h2 hl) k
end
end U
set_option Elab.async false
set_option linter.all false
set_option maxRecDepth 100000
set_option maxHeartbeats 400000
namespace U
open PySem

section
variable {env : Ev} {st : Sto} {PD : D → Sto → Prop}
theorem w_lc2 {src : IM} {vs : List Nat} {g : GM} {t : TM} {src1 : IM} {vs1 : List Nat} {g1 : GM} {t1 : TM} {e : EM} (k : WR (src env st) fun s st => WR (startLc2 g t src1 vs1 g1 t1 e (wipeE env vs) s st) PD) : WR (cLc2 src vs g t src1 vs1 g1 t1 e env st) PD := wr_bind (wr_imp k fun _ _ h => wr_hush h)
end
theorem wr_eq {α : Type} {r : R α} {a : α} {t : Sto} (h : WR r fun b s => b = a ∧ s = t) : r = .ok a t := by
  obtain ⟨b, s, e, rfl, rfl⟩ := wr_out h
  exact e
theorem w_addT {st : Sto} {xs ys : List D} {PD : D → Sto → Prop} (h : xs.length + ys.length ≤ most) (k : PD (.tup (xs ++ ys)) st) : WR (dAdd (.tup xs) (.tup ys) st) PD := by
  refine wr_by (st1 := st) ?_ k
  unfold dAdd
  simp only
  rw [if_pos h]
theorem cut_to {xs : List D} {n : Nat} : cutD xs none (some (n : Int)) = xs.take n := by
  unfold cutD
  have h1 : HT.sIx xs.length 0 none = 0 := rfl
  have h2 : HT.sIx xs.length xs.length (some (n : Int)) = min n xs.length := by
    unfold HT.sIx
    simp only
    split <;> omega
  rw [h1, h2, List.drop_zero, Nat.sub_zero]
  by_cases h : n ≤ xs.length
  · rw [Nat.min_eq_left h]
  · rw [Nat.min_eq_right (by omega), List.take_of_length_le (Nat.le_refl _), List.take_of_length_le (by omega)]
theorem cut_from {xs : List D} {b : Nat} : cutD xs (some (b : Int)) none = xs.drop b := by
  unfold cutD
  have h1 : HT.sIx xs.length 0 (some (b : Int)) = min b xs.length := by
    unfold HT.sIx
    simp only
    split <;> omega
  have h2 : HT.sIx xs.length xs.length none = xs.length := rfl
  rw [h1, h2]
  by_cases h : b ≤ xs.length
  · rw [Nat.min_eq_left h, List.take_of_length_le (by simp)]
  · rw [Nat.min_eq_right (by omega), Nat.sub_self, List.take_zero, List.drop_eq_nil_of_le (by omega)]
end U
set_option Elab.async false
set_option linter.all false
set_option maxRecDepth 100000
set_option maxHeartbeats 400000
namespace U
open PySem
theorem w_eqS {st : Sto} {x y : Str} {PD : D → Sto → Prop} (hx : SeqAt.shaped (.str x) = true) (hy : SeqAt.shaped (.str y) = true) (k : PD (.bl (x == y)) st) : WR (dEq false (.str x) (.str y) st) PD := wr_by (strEq x y hx hy) k
end U
set_option Elab.async false
set_option linter.all false
set_option maxRecDepth 100000
set_option maxHeartbeats 400000
namespace U
open PySem
section
variable {env : Ev} {st : Sto} {N C B : Ev → Sto → Prop} {T : D → Sto → Prop} {PD : D → Sto → Prop}
theorem w_aug {i : Nat} {x : Int} {g : EM} (h : env[i]? = some (some (.int x))) (k : WR (g env st) fun d s => ∃ b, d = .int b ∧ N (env.set i (some (.int (x + b)))) s) : WS (sAug i g env st) N T C B := by
  unfold sAug
  rw [h]
  exact ws_then (wr_imp k fun d s ⟨b, e, hn⟩ => by subst e; exact ⟨hn⟩)
end
section
variable {env : Ev} {st : Sto}
theorem w_thaw {i n : Nat} {xs : List D} {PD : D → Sto → Prop} (h1 : env[i]? = some (some (.ref n))) (h2 : st[n]? = some (.fzt xs)) (k : PD (.tup xs) st) : WR (eThaw (eVar i) env st) PD := by
  have e1 : eVar i env st = .ok (.ref n) st := by unfold eVar; rw [h1]
  refine wr_by (st1 := st) ?_ k
  unfold eThaw
  simp only [e1, R.bind, ft_at h2]
theorem w_idxZ {i n : Nat} {xs : List D} {gs : AM} {PD : D → Sto → Prop} (h1 : env[i]? = some (some (.ref n))) (h2 : st[n]? = some (.fzt xs)) (k : WR (gs env st) fun ys s => WR (mIdxZ (.ref n) ys s) PD) : WR (eIdxZ (eVar i) gs env st) PD := by
  have e1 : eVar i env st = .ok (.ref n) st := by unfold eVar; rw [h1]
  obtain ⟨ys, s, e, q⟩ := wr_out k
  obtain ⟨d, s2, e2, q2⟩ := wr_out q
  refine wr_by (st1 := s2) ?_ q2
  unfold eIdxZ
  simp only [e1, R.bind, ft_at h2, e, e2]
end
end U
set_option Elab.async false
set_option linter.all false
set_option maxRecDepth 100000
set_option maxHeartbeats 400000
namespace Hd
open PySem U
def s_is_within : Fm := obs 3 fun ds st => match ds with
  | [d, .int lo, .int hi] => if kn st d = true then some (.bl (withinD lo hi d)) else none
  | _ => none
theorem within_of {d : D} {st : Sto} {lo hi : Int} (h : kn st d = true) : s_is_within [d, .int lo, .int hi] st = .ok (.bl (withinD lo hi d)) st := obs_ok rfl (if_pos h)
def s_is_below : Fm := obs 2 fun ds st => match ds with
  | [d, .int n] => if kn st d = true then some (.bl (withinD 0 (n - 1) d)) else none
  | _ => none
theorem below_of {d : D} {st : Sto} {n : Int} (h : kn st d = true) : s_is_below [d, .int n] st = .ok (.bl (withinD 0 (n - 1) d)) st := obs_ok rfl (if_pos h)
def s_want_rule : Fm := obs 2 fun ds st => match ds with
  | [bk, d] => match bookD st bk with
    | some (_, rs) => if kn st d = true ∧ withinD 0 (rs.length - 1) d = true then some .non else none
    | none => none
  | _ => none
theorem want_rule_of {d bk : D} {st : Sto} {ws rs : List D} (hb : bookD st bk = some (ws, rs)) (h : kn st d = true) (ht : withinD 0 (rs.length - 1) d = true) : s_want_rule [bk, d] st = .ok .non st := by
  refine obs_ok rfl ?_
  show (match bookD st bk with | some (_, rs) => if kn st d = true ∧ withinD 0 (rs.length - 1) d = true then some D.non else none | none => none) = _
  rw [hb]
  exact if_pos ⟨h, ht⟩
def s_want_off : Fm := obs 2 fun ds st => match ds with
  | [bk, d] => match bookD st bk with
    | some (ws, rs) => if dk st d = true ∧ (tupsD d).length ≤ most ∧ risingD rs.length d = true then some .non else none
    | none => none
  | _ => none
theorem want_off_of {d bk : D} {st : Sto} {ws rs : List D} (hb : bookD st bk = some (ws, rs)) (h : dk st d = true) (hs : (tupsD d).length ≤ most) (ht : risingD rs.length d = true) : s_want_off [bk, d] st = .ok .non st := by
  refine obs_ok rfl ?_
  show (match bookD st bk with | some (ws, rs) => if dk st d = true ∧ (tupsD d).length ≤ most ∧ risingD rs.length d = true then some D.non else none | none => none) = _
  rw [hb]
  exact if_pos ⟨h, hs, ht⟩
def s_want_beats : Fm := obs 2 fun ds st => match ds with
  | [d, .int lo] => if kn st d = true ∧ withinD lo 999999999999999999999999999999999999999999999999999999999999 d = true then some .non else none
  | _ => none
theorem want_beats_of {d : D} {st : Sto} {lo : Int} (h : kn st d = true) (hw : withinD lo 999999999999999999999999999999999999999999999999999999999999 d = true) : s_want_beats [d, .int lo] st = .ok .non st := obs_ok rfl (if_pos ⟨h, hw⟩)
def s_Book_init : Fm := wr 3 fun ds st => match ds with
  | [.ref k, .tup ws, .tup rs] => match st[k]? with
    | some (.ins c []) => if c = "Book" ∧ dk st (.tup ws) = true ∧ dk st (.tup rs) = true ∧ wheelsD (.tup ws) = true ∧ rs.length ≤ 5 ∧ (rs.all fun r => ruleWords r && ruleD ws rs.length r) = true then some (.non, st.set k (bookO ws rs)) else none
    | _ => none
  | _ => none
theorem book_init_of {st : Sto} {k : Nat} {ws rs : List D} (hq : st[k]? = some (.ins "Book" [])) (kw : dk st (.tup ws) = true) (kr : dk st (.tup rs) = true) (hw : wheelsD (.tup ws) = true) (h5 : rs.length ≤ 5) (ha : (rs.all fun r => ruleWords r && ruleD ws rs.length r) = true) : s_Book_init [.ref k, .tup ws, .tup rs] st = .ok .non (st.set k (bookO ws rs)) := by
  refine wr_ok rfl ?_
  show (match st[k]? with | some (.ins c []) => if c = "Book" ∧ dk st (.tup ws) = true ∧ dk st (.tup rs) = true ∧ wheelsD (.tup ws) = true ∧ rs.length ≤ 5 ∧ (rs.all fun r => ruleWords r && ruleD ws rs.length r) = true then some (D.non, st.set k (bookO ws rs)) else none | _ => none) = _
  rw [hq]
  show (if ("Book" : Str) = ("Book" : Str) ∧ dk st (.tup ws) = true ∧ dk st (.tup rs) = true ∧ wheelsD (.tup ws) = true ∧ rs.length ≤ 5 ∧ (rs.all fun r => ruleWords r && ruleD ws rs.length r) = true then some (D.non, st.set k (bookO ws rs)) else none) = _
  rw [if_pos ⟨rfl, kw, kr, hw, h5, ha⟩]
theorem book_made {st : Sto} {ws rs : List D} (kw : dk st (.tup ws) = true) (kr : dk st (.tup rs) = true) (hw : wheelsD (.tup ws) = true) (h5 : rs.length ≤ 5) (ha : (rs.all fun r => ruleWords r && ruleD ws rs.length r) = true) : mkIns "Book" s_Book_init [.tup ws, .tup rs] st = .ok (.ref st.length) (st ++ [bookO ws rs]) := by
  unfold mkIns
  rw [book_init_of get_end (dk_app kw) (dk_app kr) hw h5 ha, set_end]
  rfl

def b_Book_len : SM := (sRet (eFn fLen (aCons (eUn (dFld "Book" "rules") (eVar 0)) aNil)))
def m_Book_len : Fm := mkFn 1 1 b_Book_len
def s_begun : Fm := obs 2 fun ds st => match ds with
  | [bk, .tup vs] => match bookD st bk with
    | some (ws, rs) => if vs.all isI = true ∧ ws.all isI = true ∧ vs.length ≤ most ∧ valuesD ws (.tup vs) = true ∧ 0 ≤ rs.length ∧ rs.length ≤ 1000 then some (.tup [.tup vs, .tup (List.replicate rs.length (.int 0))]) else none
    | none => none
  | _ => none
theorem begun_of {st : Sto} {bk : D} {ws rs vs : List D} (hb : bookD st bk = some (ws, rs)) (h : vs.all isI = true ∧ ws.all isI = true ∧ vs.length ≤ most ∧ valuesD ws (.tup vs) = true ∧ 0 ≤ rs.length ∧ rs.length ≤ 1000) : s_begun [bk, .tup vs] st = .ok (.tup [.tup vs, .tup (List.replicate rs.length (.int 0))]) st := by
  refine obs_ok rfl ?_
  simp only [hb]
  exact if_pos h
def s_own_order : Fm := obs 1 fun ds st => match ds with
  | [bk] => match bookD st bk with
    | some (_, rs) => if rs.length ≤ 1000 then some (.tup (ordO rs)) else none
    | none => none
  | _ => none
theorem own_of {st : Sto} {bk : D} {ws rs : List D} (hb : bookD st bk = some (ws, rs)) (h : rs.length ≤ 1000) : s_own_order [bk] st = .ok (.tup (ordO rs)) st := by
  refine obs_ok rfl ?_
  show (match bookD st bk with | some (_, rs) => if rs.length ≤ 1000 then some (D.tup (ordO rs)) else none | none => none) = _
  rw [hb]
  exact if_pos h
def s_step : Fm := obs 4 fun ds st => match ds with
  | [bk, .tup [.tup vs, .tup ls], .tup order, .tup off] => match bookD st bk with
    | some (ws, rs) => stepO ws rs vs ls order off
    | none => none
  | _ => none
theorem step_of {st : Sto} {bk d : D} {ws rs vs ls order off : List D} (hb : bookD st bk = some (ws, rs)) (h : stepO ws rs vs ls order off = some d) : s_step [bk, .tup [.tup vs, .tup ls], .tup order, .tup off] st = .ok d st := by
  refine obs_ok rfl ?_
  show (match bookD st bk with | some (ws, rs) => stepO ws rs vs ls order off | none => none) = _
  rw [hb]
  exact h
def s_state_at : Fm := obs 4 fun ds st => match ds with
  | [bk, s, .int k, off] => match bookD st bk with
    | some (ws, rs) => if withinD 0 999999999999999999999999999999999999999999999999999999999999 (.int k) = true then (match runO ws rs s off with
      | some (ss, _, b) => L2.atI ss (nAt b ss.length k)
      | none => none) else none
    | none => none
  | _ => none
theorem state_at_of {st : Sto} {bk s off d : D} {ws rs ss dns : List D} {k b : Int} (hb : bookD st bk = some (ws, rs)) (hk : withinD 0 999999999999999999999999999999999999999999999999999999999999 (.int k) = true) (hr : runO ws rs s off = some (ss, dns, b)) (h : L2.atI ss (nAt b ss.length k) = some d) : s_state_at [bk, s, .int k, off] st = .ok d st := by
  refine obs_ok rfl ?_
  simp only [hb, hr]
  rw [if_pos hk]
  exact h
section
variable {T : Sto} {bk : Nat} {ws rs off : List D} {s : D}
theorem told_at (R : RunOk ws rs off) (hr : risingD rs.length (.tup off) = true) (hb : bookD T (.ref bk) = some (ws, rs)) (h : SOk ws rs s) {k : Nat} (hk : k < 10 ^ 60) : s_state_at [.ref bk, s, .int (k : Int), .tup off] T = .ok (iter ws rs off k s) T := by
  obtain ⟨m, b, ρ⟩ := rho_ex R h
  exact state_at_of hb (within60 hk) (runO_all R hr h ρ) (at_all ρ k)
end

def s_round_of : Fm := obs 3 fun ds st => match ds with
  | [bk, s, off] => match bookD st bk with
    | some (ws, rs) => (match runO ws rs s off with
      | some (ss, _, b) => some (.tup [.int b, .int (ss.length - b)])
      | none => none)
    | none => none
  | _ => none
theorem round_of_of {st : Sto} {bk s off : D} {ws rs ss dns : List D} {b : Int} (hb : bookD st bk = some (ws, rs)) (hr : runO ws rs s off = some (ss, dns, b)) : s_round_of [bk, s, off] st = .ok (.tup [.int b, .int (ss.length - b)]) st := by
  refine obs_ok rfl ?_
  simp only [hb, hr]
section
variable {T : Sto} {bk : Nat} {ws rs off : List D} {s : D}
end

def s_times : Fm := obs 5 fun ds st => match ds with
  | [bk, s, .int r, .int k, off] => match bookD st bk with
    | some (ws, rs) => if withinD 0 (rs.length - 1) (.int r) = true ∧ withinD 0 999999999999999999999999999999999999999999999999999999999999 (.int k) = true then (match runO ws rs s off with
      | some (ss, dns, b) => some (.int (timesO ss dns b r k))
      | none => none) else none
    | none => none
  | _ => none
theorem times_of {st : Sto} {bk s off : D} {ws rs ss dns : List D} {r k b : Int} (hb : bookD st bk = some (ws, rs)) (hr0 : withinD 0 (rs.length - 1) (.int r) = true) (hk : withinD 0 999999999999999999999999999999999999999999999999999999999999 (.int k) = true) (hr : runO ws rs s off = some (ss, dns, b)) : s_times [bk, s, .int r, .int k, off] st = .ok (.int (timesO ss dns b r k)) st := by
  refine obs_ok rfl ?_
  simp only [hb, hr]
  rw [if_pos ⟨hr0, hk⟩]
section
variable {T : Sto} {bk : Nat} {ws rs off : List D} {s : D}
theorem told_times (R : RunOk ws rs off) (hr : risingD rs.length (.tup off) = true) (hb : bookD T (.ref bk) = some (ws, rs)) (h : SOk ws rs s) {k r : Nat} (hk : k < 10 ^ 60) (hrr : r < rs.length) : s_times [.ref bk, s, .int (r : Int), .int (k : Int), .tup off] T = .ok (.int (cnt (didR ws rs off r s) k : Nat)) T := by
  obtain ⟨m, b, ρ⟩ := rho_ex R h
  rw [times_of hb (by simp only [withinD, Bool.and_eq_true, decide_eq_true_eq]; omega) (within60 hk) (runO_all R hr h ρ), times_all ρ k]
end

def b_tally : SM := (sRet (eFn fTup (aCons (cLc (iSeq (eFn s_own_order (aCons (eVar 0) aNil))) [2] (gN 2) tTrue (eFn fLen (aCons (cLc (iSeq (eVar 1)) [3] (gN 3) (tOf (eBin (dIn false) (eVar 2) (eVar 3))) (eVar 3)) aNil))) aNil)))
def m_tally : Fm := mkFn 2 4 b_tally
def b_went_on : SM := (sSeq (sSet 4 (eFn s_own_order (aCons (eVar 0) aNil)))
    (sSeq (sSet 5 eDnew)
    (sSeq (sSet 6 (eFn mkLst aNil))
    (sSeq (sSet 7 (eVar 1))
    (sSeq (runWhile (tAnd (tOf (eBin (dInD true) (eVar 7) (eVar 5))) (tOf (eBin dLt (eFn fLen (aCons (eVar 6) aNil)) (eVar 2)))) (sSeq (sDPutM (eVar 5) (eVar 7) (eFn fLen (aCons (eVar 6) aNil)))
    (sSeq (sAsg (eFn s_step (aCons (eVar 0) (aCons (eVar 7) (aCons (eVar 4) (aCons (eVar 3) aNil))))) (gT 2 (gsCons (gN 14) (gsCons (gN 7) gsNil))))
    (sExpr (eMtL mAppend (eVar 6) (aCons (eVar 14) aNil))))) wfuel)
    (sSeq (sIf (tOf (eBin (dEq false) (eFn fLen (aCons (eVar 6) aNil)) (eVar 2))) (sRet (eFn mkTup (aCons (eVar 7) (aCons (eFn m_tally (aCons (eVar 0) (aCons (eVar 6) aNil))) aNil)))) sSkip)
    (sSeq (sSet 8 (eSlice (eVar 6) (oSome (eBin dGetD (eVar 5) (eVar 7))) oNone))
    (sSeq (sAsg (eFn fDivmod (aCons (eBin dSub (eVar 2) (eFn fLen (aCons (eVar 6) aNil))) (aCons (eFn fLen (aCons (eVar 8) aNil)) aNil))) (gT 2 (gsCons (gN 12) (gsCons (gN 13) gsNil))))
    (sSeq (sSet 9 (eFn m_tally (aCons (eVar 0) (aCons (eBin dAdd (eVar 6) (eSlice (eVar 8) oNone (oSome (eVar 13)))) aNil))))
    (sSeq (sSet 10 (eFn m_tally (aCons (eVar 0) (aCons (eVar 8) aNil))))
    (sSeq (sSet 11 (eFn fTup (aCons (cLc (iBin zipSrc (eVar 9) (eVar 10)) [15, 16] (gT 2 (gsCons (gN 15) (gsCons (gN 16) gsNil))) tTrue (eBin dAdd (eVar 15) (eBin dMul (eVar 12) (eVar 16)))) aNil)))
    (sRet (eFn mkTup (aCons (eBin dIx (eFn fListD (aCons (eVar 5) aNil)) (eBin dAdd (eBin dGetD (eVar 5) (eVar 7)) (eVar 13))) (aCons (eVar 11) aNil)))))))))))))))
def m_went_on : Fm := mkFn 4 17 b_went_on
def b_Watch_init : SM := (sSeq (sSet 4 (eFn s_begun (aCons (eVar 1) (aCons (eVar 2) aNil))))
    (sSeq (sExpr (eFn s_want_off (aCons (eVar 1) (aCons (eVar 3) aNil))))
    (sSeq (sFldM "Watch" "book" (eVar 0) (eVar 1))
    (sSeq (sFldM "Watch" "moment" (eVar 0) (eFn mkTup (aCons (eC (.int 0)) (aCons (eVar 4) (aCons (eVar 3) (aCons (eBin dMulT (eFn mkTup (aCons (eC (.int 0)) aNil)) (eFn fLen (aCons (eUn (dFld "Book" "rules") (eVar 1)) aNil))) aNil))))))
    (sFldM "Watch" "past" (eVar 0) (eFn mkTup aNil))))))
def m_Watch_init : Fm := mkFn 4 5 b_Watch_init
def b_Watch_enter : SM := (sSeq (sFldM "Watch" "past" (eVar 0) (eBin dAdd (eUn (dFld "Watch" "past") (eVar 0)) (eFn mkTup (aCons (eUn (dFld "Watch" "moment") (eVar 0)) aNil))))
    (sFldM "Watch" "moment" (eVar 0) (eVar 1)))
def m_Watch_enter : Fm := mkFn 2 2 b_Watch_enter
def b_Watch_go : SM := (sSeq (sExpr (eFn s_want_beats (aCons (eVar 1) (aCons (eC (.int 0)) aNil))))
    (sSeq (sAsg (eUn (dFld "Watch" "moment") (eVar 0)) (gT 4 (gsCons (gN 2) (gsCons (gN 3) (gsCons (gN 4) (gsCons (gN 5) gsNil))))))
    (sSeq (sAsg (eFn m_went_on (aCons (eUn (dFld "Watch" "book") (eVar 0)) (aCons (eVar 3) (aCons (eVar 1) (aCons (eVar 4) aNil))))) (gT 2 (gsCons (gN 6) (gsCons (gN 7) gsNil))))
    (sSeq (sExpr (eMeth "Watch" "enter" m_Watch_enter [] (eVar 0) (aCons (eFn mkTup (aCons (eBin dAdd (eVar 2) (eVar 1)) (aCons (eVar 6) (aCons (eVar 4) (aCons (eFn fTup (aCons (cLc (iBin zipSrc (eVar 5) (eVar 7)) [8, 9] (gT 2 (gsCons (gN 8) (gsCons (gN 9) gsNil))) tTrue (eBin dAdd (eVar 8) (eVar 9))) aNil)) aNil))))) aNil)))
    (sRet (eVar 7))))))
def m_Watch_go : Fm := mkFn 2 10 b_Watch_go
def b_Watch_state : SM := (sRet (eBin dIx (eUn (dFld "Watch" "moment") (eVar 0)) (eC (.int 1))))
def m_Watch_state : Fm := mkFn 1 1 b_Watch_state
def b_Watch_enter_state : SM := (sSeq (sAsg (eUn (dFld "Watch" "moment") (eVar 0)) (gT 4 (gsCons (gN 3) (gsCons (gN 4) (gsCons (gN 5) (gsCons (gN 6) gsNil))))))
    (sExpr (eMeth "Watch" "enter" m_Watch_enter [] (eVar 0) (aCons (eFn mkTup (aCons (eVar 3) (aCons (eFn mkTup (aCons (eVar 1) (aCons (eVar 2) aNil))) (aCons (eVar 5) (aCons (eVar 6) aNil))))) aNil))))
def m_Watch_enter_state : Fm := mkFn 3 7 b_Watch_enter_state
def b_replaced : SM := (sRet (eBin dAdd (eBin dAdd (eSlice (eVar 0) oNone (oSome (eVar 1))) (eFn mkTup (aCons (eVar 2) aNil))) (eSlice (eVar 0) (oSome (eBin dAdd (eVar 1) (eC (.int 1)))) oNone)))
def m_replaced : Fm := mkFn 3 3 b_replaced
def b_Watch_hush : SM := (sSeq (sExpr (eFn s_want_rule (aCons (eUn (dFld "Watch" "book") (eVar 0)) (aCons (eVar 1) aNil))))
    (sSeq (sIf (tNot (tOf (eFn s_is_within (aCons (eVar 2) (aCons (eC (.int 1)) (aCons (eC (.int 2)) aNil)))))) sNever sSkip)
    (sSeq (sAsg (eMeth "Watch" "state" m_Watch_state [] (eVar 0) aNil) (gT 2 (gsCons (gN 3) (gsCons (gN 4) gsNil))))
    (sExpr (eMeth "Watch" "enter_state" m_Watch_enter_state [] (eVar 0) (aCons (eVar 3) (aCons (eFn m_replaced (aCons (eVar 4) (aCons (eVar 1) (aCons (eFn (fI2 iMax) (aCons (eBin dIx (eVar 4) (eVar 1)) (aCons (eVar 2) aNil))) aNil)))) aNil)))))))
def m_Watch_hush : Fm := mkFn 3 5 b_Watch_hush
def b_Watch_wake : SM := (sSeq (sExpr (eFn s_want_rule (aCons (eUn (dFld "Watch" "book") (eVar 0)) (aCons (eVar 1) aNil))))
    (sSeq (sAsg (eMeth "Watch" "state" m_Watch_state [] (eVar 0) aNil) (gT 2 (gsCons (gN 2) (gsCons (gN 3) gsNil))))
    (sExpr (eMeth "Watch" "enter_state" m_Watch_enter_state [] (eVar 0) (aCons (eVar 2) (aCons (eFn m_replaced (aCons (eVar 3) (aCons (eVar 1) (aCons (eC (.int 0)) aNil)))) aNil))))))
def m_Watch_wake : Fm := mkFn 2 4 b_Watch_wake
def b_Watch_want_wheel : SM := (sIf (tNot (tOf (eFn s_is_below (aCons (eVar 1) (aCons (eFn fLen (aCons (eUn (dFld "Book" "wheels") (eUn (dFld "Watch" "book") (eVar 0))) aNil)) aNil))))) sNever sSkip)
def m_Watch_want_wheel : Fm := mkFn 2 2 b_Watch_want_wheel
def b_Watch_turn : SM := (sSeq (sExpr (eMeth "Watch" "want_wheel" m_Watch_want_wheel [] (eVar 0) (aCons (eVar 1) aNil)))
    (sSeq (sExpr (eFn s_want_beats (aCons (eVar 2) (aCons (eC (.int 0)) aNil))))
    (sSeq (sAsg (eMeth "Watch" "state" m_Watch_state [] (eVar 0) aNil) (gT 2 (gsCons (gN 3) (gsCons (gN 4) gsNil))))
    (sExpr (eMeth "Watch" "enter_state" m_Watch_enter_state [] (eVar 0) (aCons (eFn m_replaced (aCons (eVar 3) (aCons (eVar 1) (aCons (eBin dMod (eBin dAdd (eBin dIx (eVar 3) (eVar 1)) (eVar 2)) (eBin dIx (eUn (dFld "Book" "wheels") (eUn (dFld "Watch" "book") (eVar 0))) (eVar 1))) aNil)))) (aCons (eVar 4) aNil)))))))
def m_Watch_turn : Fm := mkFn 3 5 b_Watch_turn
def b_Watch_put : SM := (sSeq (sExpr (eMeth "Watch" "want_wheel" m_Watch_want_wheel [] (eVar 0) (aCons (eVar 1) aNil)))
    (sSeq (sIf (tNot (tOf (eFn s_is_below (aCons (eVar 2) (aCons (eBin dIx (eUn (dFld "Book" "wheels") (eUn (dFld "Watch" "book") (eVar 0))) (eVar 1)) aNil))))) sNever sSkip)
    (sSeq (sAsg (eMeth "Watch" "state" m_Watch_state [] (eVar 0) aNil) (gT 2 (gsCons (gN 3) (gsCons (gN 4) gsNil))))
    (sExpr (eMeth "Watch" "enter_state" m_Watch_enter_state [] (eVar 0) (aCons (eFn m_replaced (aCons (eVar 3) (aCons (eVar 1) (aCons (eVar 2) aNil)))) (aCons (eVar 4) aNil)))))))
def m_Watch_put : Fm := mkFn 3 5 b_Watch_put
def b_Watch_off : SM := (sRet (eBin dIx (eUn (dFld "Watch" "moment") (eVar 0)) (eC (.int 2))))
def m_Watch_off : Fm := mkFn 1 1 b_Watch_off
def b_Watch_enter_off : SM := (sSeq (sAsg (eUn (dFld "Watch" "moment") (eVar 0)) (gT 4 (gsCons (gN 2) (gsCons (gN 3) (gsCons (gN 4) (gsCons (gN 5) gsNil))))))
    (sExpr (eMeth "Watch" "enter" m_Watch_enter [] (eVar 0) (aCons (eFn mkTup (aCons (eVar 2) (aCons (eVar 3) (aCons (eVar 1) (aCons (eVar 5) aNil))))) aNil))))
def m_Watch_enter_off : Fm := mkFn 2 6 b_Watch_enter_off
def b_Watch_put_off : SM := (sSeq (sExpr (eFn s_want_rule (aCons (eUn (dFld "Watch" "book") (eVar 0)) (aCons (eVar 1) aNil))))
    (sExpr (eMeth "Watch" "enter_off" m_Watch_enter_off [] (eVar 0) (aCons (eFn fTup (aCons (eFn fSortSetT (aCons (eBin dAdd (eMeth "Watch" "off" m_Watch_off [] (eVar 0) aNil) (eFn mkTup (aCons (eVar 1) aNil))) aNil)) aNil)) aNil))))
def m_Watch_put_off : Fm := mkFn 2 2 b_Watch_put_off
def b_Watch_put_on : SM := (sSeq (sExpr (eFn s_want_rule (aCons (eUn (dFld "Watch" "book") (eVar 0)) (aCons (eVar 1) aNil))))
    (sExpr (eMeth "Watch" "enter_off" m_Watch_enter_off [] (eVar 0) (aCons (eFn fTup (aCons (cLc (iSeq (eMeth "Watch" "off" m_Watch_off [] (eVar 0) aNil)) [2] (gN 2) (tOf (eBin (dEq true) (eVar 2) (eVar 1))) (eVar 2)) aNil)) aNil))))
def m_Watch_put_on : Fm := mkFn 2 3 b_Watch_put_on
def b_Watch_now : SM := (sRet (eBin dIx (eUn (dFld "Watch" "moment") (eVar 0)) (eC (.int 0))))
def m_Watch_now : Fm := mkFn 1 1 b_Watch_now
def b_Watch_counts : SM := (sRet (eFn fList (aCons (eBin dIx (eUn (dFld "Watch" "moment") (eVar 0)) (eC (.int 3))) aNil)))
def m_Watch_counts : Fm := mkFn 1 1 b_Watch_counts
def s__law_bag : Fm := s_bag
def s__law_take : Fm := s_take
def b__law_wheels : SM := (sSeq (sPar 2 3 (eFn mkLst aNil) (eC (.int 1)))
    (sSeq (sFor (iRng (eBin dAdd (eC (.int 1)) (eFn s__law_take (aCons (eVar 0) (aCons (eC (.int 3)) aNil))))) (gN 1) (sSeq (sSet 4 (eBin dAdd (eC (.int 2)) (eFn s__law_take (aCons (eVar 0) (aCons (eC (.int 3)) aNil)))))
    (sIf (tOf (eBin dLe (eBin dMul (eVar 3) (eVar 4)) (eC (.int 24)))) (sSeq (sExpr (eMtL mAppend (eVar 2) (aCons (eVar 4) aNil)))
    (sSet 3 (eBin dMul (eVar 3) (eVar 4)))) sSkip)))
    (sRet (eFn fTup (aCons (eVar 2) aNil)))))
def m__law_wheels : Fm := mkFn 1 5 b__law_wheels
def b__law_condition : SM := (sSeq (sSet 3 (eBin dIx (eFn mkTup (aCons (eC (.str "is")) (aCons (eC (.str "is")) (aCons (eC (.str "not")) (aCons (eC (.str "below")) (aCons (eC (.str "hushed")) (aCons (eC (.str "awake")) aNil))))))) (eFn s__law_take (aCons (eVar 0) (aCons (eC (.int 6)) aNil)))))
    (sSeq (sIf (tOf (eBin (dIn false) (eVar 3) (eFn mkTup (aCons (eC (.str "hushed")) (aCons (eC (.str "awake")) aNil))))) (sRet (eFn mkTup (aCons (eVar 3) (aCons (eFn s__law_take (aCons (eVar 0) (aCons (eVar 2) aNil))) aNil)))) sSkip)
    (sSeq (sSet 4 (eFn s__law_take (aCons (eVar 0) (aCons (eFn fLen (aCons (eVar 1) aNil)) aNil))))
    (sRet (eFn mkTup (aCons (eVar 3) (aCons (eVar 4) (aCons (eFn s__law_take (aCons (eVar 0) (aCons (eBin dIx (eVar 1) (eVar 4)) aNil))) aNil))))))))
def m__law_condition : Fm := mkFn 3 5 b__law_condition
def b__law_change : SM := (sSeq (sSet 2 (eFn s__law_take (aCons (eVar 0) (aCons (eFn fLen (aCons (eVar 1) aNil)) aNil))))
    (sRet (eFn mkTup (aCons (eBin dIx (eFn mkTup (aCons (eC (.str "turn")) (aCons (eC (.str "turn")) (aCons (eC (.str "put")) aNil)))) (eFn s__law_take (aCons (eVar 0) (aCons (eC (.int 3)) aNil)))) (aCons (eVar 2) (aCons (eFn s__law_take (aCons (eVar 0) (aCons (eBin dIx (eVar 1) (eVar 2)) aNil))) aNil))))))
def m__law_change : Fm := mkFn 2 3 b__law_change
def b__law_rule : SM := (sSeq (sSet 3 (cLc (iRng (eBin dIx (eFn mkTup (aCons (eC (.int 1)) (aCons (eC (.int 1)) (aCons (eC (.int 0)) (aCons (eC (.int 2)) (aCons (eC (.int 3)) (aCons (eC (.int 4)) aNil))))))) (eFn s__law_take (aCons (eVar 0) (aCons (eC (.int 6)) aNil))))) [9] (gN 9) tTrue (eFn m__law_condition (aCons (eVar 0) (aCons (eVar 1) (aCons (eVar 2) aNil))))))
    (sSeq (sSet 4 (cLc (iRng (eBin dIx (eFn mkTup (aCons (eC (.int 1)) (aCons (eC (.int 1)) (aCons (eC (.int 2)) (aCons (eC (.int 0)) (aCons (eC (.int 3)) aNil)))))) (eFn s__law_take (aCons (eVar 0) (aCons (eC (.int 5)) aNil))))) [9] (gN 9) tTrue (eFn m__law_change (aCons (eVar 0) (aCons (eVar 1) aNil)))))
    (sSeq (sPar 6 7 (eFn mkLst aNil) (eFn mkLst aNil))
    (sSeq (sFor (iRng (eVar 2)) (gN 5) (sSeq (sSet 8 (eFn s__law_take (aCons (eVar 0) (aCons (eC (.int 5)) aNil))))
    (sSeq (sIf (tOf (eBin (dEq false) (eVar 8) (eC (.int 0)))) (sExpr (eMtL mAppend (eVar 6) (aCons (eFn mkTup (aCons (eVar 5) (aCons (eBin dAdd (eC (.int 1)) (eFn s__law_take (aCons (eVar 0) (aCons (eC (.int 3)) aNil)))) aNil))) aNil))) sSkip)
    (sIf (tOf (eBin (dEq false) (eVar 8) (eC (.int 1)))) (sExpr (eMtL mAppend (eVar 7) (aCons (eVar 5) aNil))) sSkip))))
    (sRet (eFn mkTup (aCons (eFn fTup (aCons (eVar 3) aNil)) (aCons (eFn fTup (aCons (eVar 4) aNil)) (aCons (eFn fTup (aCons (eVar 6) aNil)) (aCons (eFn fTup (aCons (eVar 7) aNil)) aNil))))))))))
def m__law_rule : Fm := mkFn 3 10 b__law_rule
def b__law_rules : SM := (sRet (eFn fTup (aCons (cLc (iRng (eVar 2)) [3] (gN 3) tTrue (eFn m__law_rule (aCons (eVar 0) (aCons (eVar 1) (aCons (eVar 2) aNil))))) aNil)))
def m__law_rules : Fm := mkFn 3 4 b__law_rules
def b__law_drawn : SM := (sSeq (sSet 1 (eFn m__law_wheels (aCons (eVar 0) aNil)))
    (sRet (eFn mkTup (aCons (eVar 1) (aCons (eFn m__law_rules (aCons (eVar 0) (aCons (eVar 1) (aCons (eBin dIx (eFn mkTup (aCons (eC (.int 3)) (aCons (eC (.int 5)) (aCons (eC (.int 2)) (aCons (eC (.int 4)) (aCons (eC (.int 1)) (aCons (eC (.int 0)) aNil))))))) (eFn s__law_take (aCons (eVar 0) (aCons (eC (.int 6)) aNil)))) aNil)))) aNil)))))
def m__law_drawn : Fm := mkFn 1 2 b__law_drawn
def b__law_so : SM := (sSeq (sIf (tOr (tOf (eBin (dEq false) (eBin dIx (eVar 0) (eC (.int 0))) (eC (.str "hushed")))) (tOf (eBin (dEq false) (eBin dIx (eVar 0) (eC (.int 0))) (eC (.str "awake"))))) (sRet (eBin (dEq false) (eBin dGt (eBin dIx (eVar 2) (eBin dIx (eVar 0) (eC (.int 1)))) (eC (.int 0))) (eBin (dEq false) (eBin dIx (eVar 0) (eC (.int 0))) (eC (.str "hushed"))))) sSkip)
    (sSeq (sIf (tOf (eBin (dEq false) (eBin dIx (eVar 0) (eC (.int 0))) (eC (.str "below")))) (sRet (eBin dLt (eBin dIx (eVar 1) (eBin dIx (eVar 0) (eC (.int 1)))) (eBin dIx (eVar 0) (eC (.int 2))))) sSkip)
    (sRet (eBin (dEq false) (eBin (dEq false) (eBin dIx (eVar 1) (eBin dIx (eVar 0) (eC (.int 1)))) (eBin dIx (eVar 0) (eC (.int 2)))) (eBin (dEq false) (eBin dIx (eVar 0) (eC (.int 0))) (eC (.str "is")))))))
def m__law_so : Fm := mkFn 3 3 b__law_so
def b__law_beat : SM := (sSeq (sAsg (eFn mkTup (aCons (eFn fList (aCons (eBin dIx (eVar 2) (eC (.int 0))) aNil)) (aCons (eFn fList (aCons (eBin dIx (eVar 2) (eC (.int 1))) aNil)) (aCons (eFn mkLst aNil) aNil)))) (gT 3 (gsCons (gN 7) (gsCons (gN 8) (gsCons (gN 9) gsNil)))))
    (sSeq (sFor (iSeq (eVar 3)) (gN 5) (sSeq (sAsg (eBin dIx (eVar 1) (eVar 5)) (gT 4 (gsCons (gN 12) (gsCons (gN 13) (gsCons (gN 14) (gsCons (gN 15) gsNil))))))
    (sSeq (sSet 10 (cLc (iSeq (eVar 12)) [22] (gN 22) (tOf (eFn m__law_so (aCons (eVar 22) (aCons (eVar 7) (aCons (eVar 8) aNil))))) (eVar 22)))
    (sSeq (sIf (tOr (tOf (eBin (dIn false) (eVar 5) (eVar 4))) (tOr (tOf (eBin dGt (eBin dIx (eVar 8) (eVar 5)) (eC (.int 0)))) (tOf (eBin dLt (eFn fLen (aCons (eVar 10) aNil)) (eFn fLen (aCons (eVar 12) aNil)))))) (fun env st => .ct env st) sSkip)
    (sSeq (sExpr (eMtL mAppend (eVar 9) (aCons (eVar 5) aNil)))
    (sSeq (sFor (iSeq (eVar 13)) (gT 3 (gsCons (gN 16) (gsCons (gN 17) (gsCons (gN 18) gsNil)))) (sSeq (sSet 19 (eBin dAdd (eBin dIx (eVar 7) (eVar 17)) (eVar 18)))
    (sAsg (eIf (tOf (eBin (dEq false) (eVar 16) (eC (.str "put")))) (eVar 18) (eBin dMod (eVar 19) (eBin dIx (eVar 0) (eVar 17)))) (gSet (eVar 7) (eVar 17)))))
    (sSeq (sFor (iSeq (eVar 14)) (gT 2 (gsCons (gN 11) (gsCons (gN 20) gsNil))) (sAsg (eFn (fI2 iMax) (aCons (eVar 20) (aCons (eBin dIx (eVar 8) (eVar 11)) aNil))) (gSet (eVar 8) (eVar 11))))
    (sFor (iSeq (eVar 15)) (gN 11) (sAsg (eC (.int 0)) (gSet (eVar 8) (eVar 11)))))))))))
    (sSeq (sSet 6 (cLc (iSeq (eVar 8)) [21] (gN 21) tTrue (eBin dSub (eVar 21) (eFn fInt (aCons (eBin dGt (eVar 21) (eC (.int 0))) aNil)))))
    (sRet (eFn mkTup (aCons (eFn fTup (aCons (eVar 9) aNil)) (aCons (eFn mkTup (aCons (eFn fTup (aCons (eVar 7) aNil)) (aCons (eFn fTup (aCons (eVar 6) aNil)) aNil))) aNil)))))))
def m__law_beat : Fm := mkFn 5 23 b__law_beat
def b__law_own : SM := (sRet (eFn fTRg (aCons (eFn fLen (aCons (eVar 0) aNil)) aNil)))
def m__law_own : Fm := mkFn 1 1 b__law_own
def b__law_track : SM := (sSeq (sPar3 4 5 6 (eFn mkLst aNil) (eFn mkLst aNil) eDnew)
    (sSeq (runWhile (tOf (eBin (dInD true) (eVar 2) (eVar 6))) (sSeq (sDPutM (eVar 6) (eVar 2) (eFn fLen (aCons (eVar 4) aNil)))
    (sSeq (sExpr (eMtL mAppend (eVar 4) (aCons (eVar 2) aNil)))
    (sSeq (sAsg (eFn m__law_beat (aCons (eVar 0) (aCons (eVar 1) (aCons (eVar 2) (aCons (eFn m__law_own (aCons (eVar 1) aNil)) (aCons (eVar 3) aNil)))))) (gT 2 (gsCons (gN 7) (gsCons (gN 2) gsNil))))
    (sExpr (eMtL mAppend (eVar 5) (aCons (eVar 7) aNil)))))) wfuel)
    (sRet (eFn mkTup (aCons (eVar 4) (aCons (eVar 5) (aCons (eBin dGetD (eVar 6) (eVar 2)) aNil)))))))
def m__law_track : Fm := mkFn 4 8 b__law_track
def b__law_off : SM := (sSeq (sIf (tOf (eBin (dEq false) (eFn s__law_take (aCons (eVar 0) (aCons (eC (.int 2)) aNil))) (eC (.int 0)))) (sRet (eFn mkTup aNil)) sSkip)
    (sRet (eFn fTup (aCons (cLc (iRng (eVar 1)) [2] (gN 2) (tOf (eBin (dEq false) (eFn s__law_take (aCons (eVar 0) (aCons (eC (.int 3)) aNil))) (eC (.int 0)))) (eVar 2)) aNil))))
def m__law_off : Fm := mkFn 2 3 b__law_off
def b__law_starts : SM := (sSeq (sSet 1 (eFn mkLst (aCons (eFn mkTup aNil) aNil)))
    (sSeq (sFor (iSeq (eVar 0)) (gN 2) (sSeq (sSet 3 (eFn mkLst aNil))
    (sSeq (sFor (iSeq (eVar 1)) (gN 4) (sSet 3 (eBin dAdd (eVar 3) (cLc (iRng (eVar 2)) [5] (gN 5) tTrue (eBin dAdd (eVar 4) (eFn mkTup (aCons (eVar 5) aNil)))))))
    (sSet 1 (eVar 3)))))
    (sRet (eVar 1))))
def m__law_starts : Fm := mkFn 1 6 b__law_starts
def b__law_hand : SM := (sSeq (sSet 3 (eFn s__law_take (aCons (eVar 0) (aCons (eFn fLen (aCons (eVar 1) aNil)) aNil))))
    (sSeq (sSet 4 (eFn mkLst (aCons (eFn mkTup (aCons (eC (.str "turn")) (aCons (eVar 3) (aCons (eBin dIx (eFn mkTup (aCons (eFn s__law_take (aCons (eVar 0) (aCons (eC (.int 9)) aNil))) (aCons (eBin dSub (eBin dSub (eBin dPow (eC (.int 10)) (eC (.int 60))) (eC (.int 1))) (eFn s__law_take (aCons (eVar 0) (aCons (eC (.int 9)) aNil)))) aNil))) (eFn fInt (aCons (eBin (dEq false) (eFn s__law_take (aCons (eVar 0) (aCons (eC (.int 4)) aNil))) (eC (.int 0))) aNil))) aNil)))) aNil)))
    (sSeq (sExpr (eMtL mAppend (eVar 4) (aCons (eFn mkTup (aCons (eC (.str "put")) (aCons (eVar 3) (aCons (eFn s__law_take (aCons (eVar 0) (aCons (eBin dIx (eVar 1) (eVar 3)) aNil))) aNil)))) aNil)))
    (sSeq (sIf (tOf (eBin dGt (eVar 2) (eC (.int 0)))) (sSeq (sSet 5 (eFn s__law_take (aCons (eVar 0) (aCons (eVar 2) aNil))))
    (sSet 4 (eBin dAdd (eVar 4) (eFn mkLst (aCons (eFn mkTup (aCons (eC (.str "hush")) (aCons (eVar 5) (aCons (eBin dAdd (eC (.int 1)) (eFn s__law_take (aCons (eVar 0) (aCons (eC (.int 2)) aNil)))) aNil)))) (aCons (eFn mkTup (aCons (eC (.str "wake")) (aCons (eVar 5) (aCons (eC (.int 0)) aNil)))) (aCons (eFn mkTup (aCons (eC (.str "off")) (aCons (eVar 5) (aCons (eC (.int 0)) aNil)))) (aCons (eFn mkTup (aCons (eC (.str "on")) (aCons (eVar 5) (aCons (eC (.int 0)) aNil)))) aNil)))))))) sSkip)
    (sRet (eBin dIx (eVar 4) (eFn s__law_take (aCons (eVar 0) (aCons (eFn fLen (aCons (eVar 4) aNil)) aNil)))))))))
def m__law_hand : Fm := mkFn 3 6 b__law_hand
def b__law_at_watch : SM := (sSeq (sAsg (eVar 1) (gT 3 (gsCons (gN 2) (gsCons (gN 3) (gsCons (gN 4) gsNil)))))
    (sSeq (sIf (tOf (eBin (dEq false) (eVar 2) (eC (.str "hush")))) (sRet (eMeth "Watch" "hush" m_Watch_hush [] (eVar 0) (aCons (eVar 3) (aCons (eVar 4) aNil)))) sSkip)
    (sSeq (sIf (tOf (eBin (dEq false) (eVar 2) (eC (.str "wake")))) (sRet (eMeth "Watch" "wake" m_Watch_wake [] (eVar 0) (aCons (eVar 3) aNil))) sSkip)
    (sSeq (sIf (tOf (eBin (dEq false) (eVar 2) (eC (.str "turn")))) (sRet (eMeth "Watch" "turn" m_Watch_turn [] (eVar 0) (aCons (eVar 3) (aCons (eVar 4) aNil)))) sSkip)
    (sSeq (sIf (tOf (eBin (dEq false) (eVar 2) (eC (.str "put")))) (sRet (eMeth "Watch" "put" m_Watch_put [] (eVar 0) (aCons (eVar 3) (aCons (eVar 4) aNil)))) sSkip)
    (sRet (eIf (tOf (eBin (dEq false) (eVar 2) (eC (.str "off")))) (eMeth "Watch" "put_off" m_Watch_put_off [] (eVar 0) (aCons (eVar 3) aNil)) (eMeth "Watch" "put_on" m_Watch_put_on [] (eVar 0) (aCons (eVar 3) aNil)))))))))
def m__law_at_watch : Fm := mkFn 2 5 b__law_at_watch
def b__law_far : SM := (sSeq (sSet 1 (eFn mkTup (aCons (eFn s__law_take (aCons (eVar 0) (aCons (eC (.int 5)) aNil))) (aCons (eFn s__law_take (aCons (eVar 0) (aCons (eC (.int 60)) aNil))) (aCons (eFn s__law_take (aCons (eVar 0) (aCons (eBin dPow (eC (.int 10)) (eC (.int 12))) aNil))) (aCons (eBin dAdd (eBin dPow (eC (.int 10)) (eC (.int 28))) (eFn s__law_take (aCons (eVar 0) (aCons (eBin dPow (eC (.int 10)) (eC (.int 28))) aNil)))) aNil))))))
    (sRet (eBin dIx (eVar 1) (eFn s__law_take (aCons (eVar 0) (aCons (eC (.int 4)) aNil))))))
def m__law_far : Fm := mkFn 1 2 b__law_far
def b__law_spot : SM := (sSeq (sAsg (eFn m__law_track (aCons (eVar 0) (aCons (eVar 1) (aCons (eBin dIx (eVar 2) (eC (.int 0))) (aCons (eBin dIx (eVar 2) (eC (.int 1))) aNil))))) (gT 3 (gsCons (gN 7) (gsCons (gN 8) (gsCons (gN 9) gsNil)))))
    (sSeq (sSet 4 (eBin dSub (eFn fLen (aCons (eVar 7) aNil)) (eVar 9)))
    (sSeq (sSet 5 (eFn mkLst aNil))
    (sSeq (sFor (iRng (eFn fLen (aCons (eVar 1) aNil))) (gN 6) (sSeq (sSet 10 (cLc (iSeq (eVar 8)) [12] (gN 12) tTrue (eFn fInt (aCons (eBin (dIn false) (eVar 6) (eVar 12)) aNil))))
    (sSeq (sSet 11 (eFn fSumL (aCons (eSlice (eVar 10) oNone (oSome (eVar 3))) aNil)))
    (sSeq (sIf (tOf (eBin dGt (eVar 3) (eFn fLen (aCons (eVar 7) aNil)))) (sSeq (sPar 13 14 (eBin dDiv (eBin dSub (eVar 3) (eVar 9)) (eVar 4)) (eBin dMod (eBin dSub (eVar 3) (eVar 9)) (eVar 4)))
    (sSeq (sSet 11 (eBin dAdd (eFn fSumL (aCons (eSlice (eVar 10) oNone (oSome (eVar 9))) aNil)) (eBin dMul (eVar 13) (eFn fSumL (aCons (eSlice (eVar 10) (oSome (eVar 9)) oNone) aNil)))))
    (sAug 11 (eFn fSumL (aCons (eSlice (eVar 10) (oSome (eVar 9)) (oSome (eBin dAdd (eVar 9) (eVar 14)))) aNil))))) sSkip)
    (sExpr (eMtL mAppend (eVar 5) (aCons (eVar 11) aNil)))))))
    (sRet (eFn mkTup (aCons (eBin dIx (eVar 7) (eIf (tOf (eBin dLt (eVar 3) (eVar 9))) (eVar 3) (eBin dAdd (eVar 9) (eBin dMod (eBin dSub (eVar 3) (eVar 9)) (eVar 4))))) (aCons (eFn fTup (aCons (eVar 5) aNil)) aNil))))))))
def m__law_spot : Fm := mkFn 4 15 b__law_spot
def b__law_like_one : SM := (sSeq (sAsg (eVar 4) (gT 2 (gsCons (gN 7) (gsCons (gN 8) gsNil))))
    (sSeq (sAsg (eFn mkTup (aCons (eMeth "Watch" "state" m_Watch_state [] (eVar 1) aNil) (aCons (eMeth "Watch" "off" m_Watch_off [] (eVar 1) aNil) aNil))) (gT 2 (gsCons (gN 9) (gsCons (gN 10) gsNil))))
    (sSeq (sPar 11 12 (eMeth "Watch" "go" m_Watch_go [] (eVar 1) (aCons (eVar 7) aNil)) (eMeth "Watch" "go" m_Watch_go [] (eVar 1) (aCons (eVar 8) aNil)))
    (sSeq (sSet 5 (eMeth "Watch" "go" m_Watch_go [] (eVar 2) (aCons (eBin dAdd (eVar 7) (eVar 8)) aNil)))
    (sSeq (sIf (tOf (eBin (dEq true) (eFn fTup (aCons (cLc (iBin zipSrc (eVar 11) (eVar 12)) [14, 15] (gT 2 (gsCons (gN 14) (gsCons (gN 15) gsNil))) tTrue (eBin dAdd (eVar 14) (eVar 15))) aNil)) (eVar 5))) (sRet (eC (.bl false))) sSkip)
    (sSeq (sIf (tOf (eBin (dEq true) (eFn mkLst (aCons (eMeth "Watch" "now" m_Watch_now [] (eVar 1) aNil) (aCons (eMeth "Watch" "state" m_Watch_state [] (eVar 1) aNil) (aCons (eMeth "Watch" "counts" m_Watch_counts [] (eVar 1) aNil) aNil)))) (eFn mkLst (aCons (eMeth "Watch" "now" m_Watch_now [] (eVar 2) aNil) (aCons (eMeth "Watch" "state" m_Watch_state [] (eVar 2) aNil) (aCons (eMeth "Watch" "counts" m_Watch_counts [] (eVar 2) aNil) aNil)))))) (sRet (eC (.bl false))) sSkip)
    (sSeq (sSet 6 (cLc (iRng (eFn (fLenI "Book" m_Book_len) (aCons (eVar 3) aNil))) [13] (gN 13) tTrue (eFn (via [.at 0, .at 1, .at 2, .at 3, .at 4] s_times) (aApp (aCons (eVar 3) (aCons (eVar 9) (aCons (eVar 13) (aCons (eBin dAdd (eVar 7) (eVar 8)) aNil)))) (aCons (eVar 10) aNil)))))
    (sRet (eAnd (eBin (dEq false) (eFn fList (aCons (eVar 5) aNil)) (eVar 6)) (eBin (dEq false) (eMeth "Watch" "state" m_Watch_state [] (eVar 1) aNil) (eFn (via [.at 0, .at 1, .at 2, .at 3] s_state_at) (aApp (aCons (eVar 3) (aCons (eVar 9) (aCons (eBin dAdd (eVar 7) (eVar 8)) aNil))) (aCons (eVar 10) aNil)))))))))))))
def m__law_like_one : Fm := mkFn 5 16 b__law_like_one
def b_law_1 : SM := (sSeq (sSet 12 (eFn m__law_hand (aCons (eVar 2) (aCons (eVar 5) (aCons (eFn fLen (aCons (eVar 6) aNil)) aNil)))))
    (sSeq (sExpr (eFn m__law_at_watch (aCons (eVar 10) (aCons (eVar 12) aNil))))
    (sSeq (sExpr (eFn m__law_at_watch (aCons (eVar 11) (aCons (eVar 12) aNil))))
    (sSeq (sSet 13 (eFn mkTup (aCons (eFn m__law_far (aCons (eVar 2) aNil)) (aCons (eFn m__law_far (aCons (eVar 2) aNil)) aNil))))
    (sSeq (sSet 14 (eFn m__law_spot (aCons (eVar 5) (aCons (eVar 6) (aCons (eFn mkTup (aCons (eMeth "Watch" "state" m_Watch_state [] (eVar 10) aNil) (aCons (eMeth "Watch" "off" m_Watch_off [] (eVar 10) aNil) aNil))) (aCons (eFn fSumT (aCons (eVar 13) aNil)) aNil))))))
    (sSeq (sSet 15 (eMeth "Watch" "counts" m_Watch_counts [] (eVar 10) aNil))
    (sSeq (sIf (tOr (tNot (tOf (eFn m__law_like_one (aCons (eVar 2) (aCons (eVar 10) (aCons (eVar 11) (aCons (eVar 7) (aCons (eVar 13) aNil)))))))) (tOf (eBin (dEq true) (eMeth "Watch" "state" m_Watch_state [] (eVar 10) aNil) (eBin dIx (eVar 14) (eC (.int 0)))))) (sRet (eC (.bl false))) sSkip)
    (sSeq (sIf (tOf (eBin (dEq true) (eMeth "Watch" "counts" m_Watch_counts [] (eVar 10) aNil) (cLc (iBin zipSrcM (eVar 15) (eBin dIx (eVar 14) (eC (.int 1)))) [20, 21] (gT 2 (gsCons (gN 20) (gsCons (gN 21) gsNil))) tTrue (eBin dAdd (eVar 20) (eVar 21))))) (sRet (eC (.bl false))) sSkip)
    (sSeq (sAsg (eFn (via [.at 0, .at 1, .at 2] s_round_of) (aApp (aCons (eVar 7) (aCons (eMeth "Watch" "state" m_Watch_state [] (eVar 10) aNil) aNil)) (aCons (eMeth "Watch" "off" m_Watch_off [] (eVar 10) aNil) aNil))) (gT 2 (gsCons (gN 16) (gsCons (gN 17) gsNil))))
    (sSeq (sPar 18 19 (eMeth "Watch" "go" m_Watch_go [] (eVar 10) (aCons (eVar 17) aNil)) (eMeth "Watch" "go" m_Watch_go [] (eVar 10) (aCons (eVar 17) aNil)))
    (sIf (tOr (tAnd (tOf (eBin (dEq false) (eVar 16) (eC (.int 0)))) (tOf (eBin (dEq true) (eVar 18) (eVar 19)))) (tOf (eBin (dIsN false) (eMeth "Watch" "go" m_Watch_go [] (eVar 11) (aCons (eBin dMul (eC (.int 2)) (eVar 17)) aNil)) (eC .non)))) (sRet (eC (.bl false))) sSkip)))))))))))
def b_law_2 : SM := (sSeq (sSet 2 (eFn s__law_bag (aCons (eVar 0) (aCons (eVar 1) aNil))))
    (sSeq (sAsg (eFn m__law_drawn (aCons (eVar 2) aNil)) (gT 2 (gsCons (gN 5) (gsCons (gN 6) gsNil))))
    (sSeq (sPar3 7 8 9 (eFn (mkIns "Book" s_Book_init) (aCons (eVar 5) (aCons (eVar 6) aNil))) (eFn m__law_starts (aCons (eVar 5) aNil)) (eFn m__law_off (aCons (eVar 2) (aCons (eFn fLen (aCons (eVar 6) aNil)) aNil))))
    (sSeq (sSet 3 (eBin dIx (eVar 8) (eFn s__law_take (aCons (eVar 2) (aCons (eFn fLen (aCons (eVar 8) aNil)) aNil)))))
    (sSeq (sPar 10 11 (eFn (mkIns "Watch" (via [.at 0, .at 1, .at 2, .at 3] m_Watch_init)) (aApp (aCons (eVar 7) (aCons (eVar 3) aNil)) (aCons (eVar 9) aNil))) (eFn (mkIns "Watch" (via [.at 0, .at 1, .at 2, .at 3] m_Watch_init)) (aApp (aCons (eVar 7) (aCons (eVar 3) aNil)) (aCons (eVar 9) aNil))))
    (sFor (iRng (eC (.int 6))) (gN 4) b_law_1))))))
end Hd
set_option Elab.async false
set_option linter.all false
set_option maxRecDepth 100000
set_option maxHeartbeats 4000000
namespace Hd
open PySem PySem.Spec PyProof.Rows L2 U
section
variable {P : Program} {w : World} {K : PySem.W.Frag} {mg : Str → Option Value} {base : Heap}
end
end Hd
set_option Elab.async false
set_option linter.all false
set_option maxRecDepth 100000
set_option maxHeartbeats 1000000
namespace Hd
open PySem U
local macro_rules | `(tactic| walk_at "ex1") => `(tactic| first | (with_reducible refine w_seq ?_) | (with_reducible refine w_set ?_) | (with_reducible refine w_ret ?_) | (with_reducible refine w_sif ?_) | (with_reducible refine w_asg2 ?_) | (with_reducible refine w_asg3 ?_) | (with_reducible refine w_asg4 ?_) | (with_reducible refine w_ex2 ?_) | (with_reducible refine w_ex3 ?_) | (with_reducible refine w_ex4 ?_) | (with_reducible refine w_par ?_) | (with_reducible refine w_par3 ?_) | (with_reducible refine w_expr ?_) | (with_reducible refine w_for ?_) | (with_reducible refine w_skip ?_) | (with_reducible refine w_fn ?_) | (with_reducible refine w_acons ?_) | (with_reducible refine w_anil ?_) | (with_reducible refine w_aapp ?_) | (with_reducible refine w_bin ?_) | (with_reducible refine w_un ?_) | (with_reducible refine w_c ?_) | (with_reducible refine w_tof ?_) | (with_reducible refine w_tob ?_) | (with_reducible refine w_tand ?_) | (with_reducible refine w_tor ?_) | (with_reducible refine w_tnot ?_) | (with_reducible refine w_eand ?_) | (with_reducible refine w_eor ?_) | (with_reducible refine w_enot ?_) | (with_reducible refine w_exb ?_) | (with_reducible refine w_exi ?_) | (with_reducible refine w_if ?_) | (with_reducible refine w_slice ?_) | (with_reducible refine w_onone ?_) | (with_reducible refine w_osome ?_) | (with_reducible refine w_lc ?_) | (with_reducible refine w_lc2 ?_) | (with_reducible refine w_mtl ?_) | (with_reducible refine w_iseq ?_) | (with_reducible refine w_irng ?_) | (with_reducible refine w_ienum ?_) | (with_reducible refine w_ibin ?_) | (with_reducible refine w_true ?_) | (with_reducible refine cond_t ?_) | (with_reducible refine cond_f ?_))
local macro_rules | `(tactic| walk_at "ex2") => `(tactic| first | (with_reducible refine w_addI ?_) | (with_reducible refine w_subI ?_) | (with_reducible refine w_ltI ?_) | (with_reducible refine w_leI ?_) | (with_reducible refine w_gtI ?_) | (with_reducible refine w_geI ?_) | (with_reducible refine w_eqI ?_) | (with_reducible refine w_neI ?_) | (with_reducible refine w_negI ?_) | (with_reducible refine w_maxI ?_) | (with_reducible refine w_minI ?_) | (with_reducible refine w_lenT ?_) | (with_reducible refine w_slT ?_) | (with_reducible refine w_sseq ?_) | (with_reducible refine w_senum ?_) | (with_reducible refine w_szip ?_) | (with_reducible refine w_eqB ?_) | (with_reducible refine w_neB ?_))
local macro_rules | `(tactic| walk_at "ex3") => `(tactic| first | ((with_reducible apply w_var); (focus exact rfl)) | ((with_reducible apply w_aug); (focus exact rfl)) | ((with_reducible apply w_thaw); (focus exact rfl); (focus with_reducible assumption)) | ((with_reducible apply w_idxZ); (focus exact rfl); (focus with_reducible assumption)) | ((with_reducible apply wr_by); (focus with_reducible assumption)) | ((with_reducible apply w_via); (focus exact rfl)) | ((with_reducible apply w_mkTup); (focus exact Nat.le_of_ble_eq_true rfl)) | ((with_reducible apply w_mkLst); (focus exact Nat.le_of_ble_eq_true rfl)) | ((with_reducible apply w_ix); (focus exact rfl); (focus exact rfl)) | ((with_reducible apply w_lenL); (focus with_reducible assumption)) | ((with_reducible apply w_lenL); (focus with_reducible exact get_end)) | ((with_reducible apply w_isl); (focus with_reducible assumption)) | ((with_reducible apply w_append); (focus with_reducible assumption); (focus with_reducible assumption)) | ((with_reducible apply w_slL); (focus with_reducible assumption)) | ((with_reducible apply w_enumL); (focus with_reducible assumption)) | ((with_reducible apply w_tupL); (focus with_reducible assumption)) | ((with_reducible apply w_sdyn); (focus with_reducible assumption)) | ((with_reducible apply w_isi); (focus exact rfl)) | ((with_reducible apply w_isi2); (focus exact rfl)) | ((with_reducible apply w_eqS); (focus decide +kernel); (focus decide +kernel)) | ((with_reducible apply cond_af); (focus exact rfl)) | ((with_reducible apply cond_at); (focus exact rfl)) | ((with_reducible apply cond_af); (focus decide +kernel)) | ((with_reducible apply cond_at); (focus decide +kernel)))
local macro_rules | `(tactic| walk_at "go") => `(tactic| repeat (first | walk_at "ex1" | walk_at "ex2" | walk_at "ex3"))
structure WhOk (ws : List D) : Prop where
  l1 : 1 ≤ ws.length
  l3 : ws.length ≤ 3
  w : ∀ w ∈ ws, ∃ m : Nat, w = .int m ∧ 2 ≤ m ∧ m ≤ 4
  pr : prodD ws ≤ 24
theorem prod_snoc : ∀ {xs : List D} {i : Int}, xs.all isI = true → prodD (xs ++ [.int i]) = prodD xs * i
  | [], i, _ => by simp [prodD]
  | x :: xs, i, h => by
    simp only [List.all_cons, Bool.and_eq_true] at h
    obtain ⟨j, rfl⟩ : ∃ j, x = .int j := ⟨_, isI_eq h.1⟩
    simp only [List.cons_append, prodD, prod_snoc h.2, Int.mul_assoc]
theorem app_run {T : Sto} {k : Nat} {env : Ev} {ga gb : EM} {xs : List D} {d : D} (ha : ga env T = .ok (.ref k) T) (hk : T[k]? = some (.lst xs)) (hb : gb env T = .ok d T) (hl : xs.length < most) : eMtL mAppend ga (aCons gb aNil) env T = .ok .non (T.set k (.lst (xs ++ [d]))) := by
  unfold eMtL
  rw [ha]
  simp only [R.bind, isLst, lstOf, hk, Option.isSome_some, if_true, aCons, hb, aNil, mAppend]
  rw [if_pos hl]
theorem app_run2 {T T1 : Sto} {k : Nat} {env : Ev} {ga gb : EM} {xs : List D} {d : D} (ha : ga env T = .ok (.ref k) T) (hk : T[k]? = some (.lst xs)) (hk1 : T1[k]? = some (.lst xs)) (hb : gb env T = .ok d T1) (hl : xs.length < most) : eMtL mAppend ga (aCons gb aNil) env T = .ok .non (T1.set k (.lst (xs ++ [d]))) := by
  unfold eMtL
  rw [ha]
  simp only [R.bind, isLst, lstOf, hk, Option.isSome_some, if_true, aCons, hb, aNil, mAppend, hk1]
  rw [if_pos hl]
theorem wheels_run {S : Sto} {B : Nat} {c : Int} (h : Bag S B c) (hc : c + 10 < 1000000000) : ∃ ws T, m__law_wheels [.ref B] S = .ok (.tup ws) T ∧ Grw S T B ∧ Bag T B (c + 10) ∧ WhOk ws := by
  have hB := h.lt
  obtain ⟨a, S1, t1, ha, B1, G1, L1⟩ := take_go (st := S ++ [.lst []]) (many := 3) h.app (by omega) (by omega) (by omega)
  have hr : iRng (eBin dAdd (eC (.int 1)) (eFn s__law_take (aCons (eVar 0) (aCons (eC (.int 3)) aNil)))) [some (.ref B), none, some (.ref S.length), some (.int 1), none] (S ++ [.lst []]) = .ok (.fix (rngL 0 (1 + a))) S1 := irng_of (by
    rw [ev_bin, ev_c, ev_bok, ev_fn, ev_acons, ev_var]
    show (((R.ok (D.ref B) (S ++ [.lst []])).bind _).bind _).bind _ = _
    rw [ev_bok, ev_acons, ev_c, ev_bok, ev_anil, ev_bok, ev_bok, ev_bok]
    show (s_take [.ref B, .int 3] (S ++ [.lst []])).bind _ = _
    rw [t1, ev_bok, ev_addI, show (1 : Int) + (a : Int) = ((1 + a : Nat) : Int) by omega]) (Nat.le_trans (show 1 + a ≤ 3 by omega) (by decide))
  have e1 : S1[S.length]? = some (.lst []) := by rw [G1.at_ _ (by simp) (by omega)]; exact get_end
  obtain ⟨env', T, f1, xs, x1, x4, g1, g2, g3, g4, g5, g6, g7, g8⟩ := startFor_J (s := .fix (rngL 0 (1 + a))) (g := gN 1) (xs := rngL 0 (1 + a)) (env := [some (.ref B), none, some (.ref S.length), some (.int 1), none]) (st := S1)
    (body := sSeq (sSet 4 (eBin dAdd (eC (.int 2)) (eFn s__law_take (aCons (eVar 0) (aCons (eC (.int 3)) aNil))))) (sIf (tOf (eBin dLe (eBin dMul (eVar 3) (eVar 4)) (eC (.int 24)))) (sSeq (sExpr (eMtL mAppend (eVar 2) (aCons (eVar 4) aNil))) (sSet 3 (eBin dMul (eVar 3) (eVar 4)))) sSkip))
    (fun i env T => ∃ xs x1 x4, env = [some (.ref B), x1, some (.ref S.length), some (.int (prodD xs)), x4] ∧ T[S.length]? = some (.lst xs) ∧ Grw S T B ∧ Bag T B (c + 1 + i) ∧ xs.length ≤ i ∧ (1 ≤ i → 1 ≤ xs.length) ∧ (∀ w ∈ xs, ∃ m : Nat, w = .int m ∧ 2 ≤ m ∧ m ≤ 4) ∧ (1 ≤ prodD xs ∧ prodD xs ≤ 24))
    (fun _ _ _ _ => rfl) ⟨[], none, none, rfl, e1, Grw.app.trans G1, by simpa using B1, by simp, by omega, fun _ h => by simp at h, by decide⟩ fun i x env T hx ⟨xs, x1, x4, he, g2, g3, g4, g5, g6, g7, g8⟩ => by
      obtain ⟨hi, rfl⟩ := rngL_get hx
      subst he
      obtain ⟨p, T1, t2, hp, B2, G2, L2⟩ := take_go (many := 3) g4 (by omega) (by omega) (by omega)
      have hTl : S.length < T.length := (List.getElem?_eq_some_iff.mp g2).1
      have g2' : T1[S.length]? = some (.lst xs) := by rw [G2.at_ _ hTl (by omega)]; exact g2
      have xi : xs.all isI = true := List.all_eq_true.mpr fun w hw => by obtain ⟨m, rfl, _⟩ := g7 w hw; rfl
      have hpp : (2 : Int) + (p : Int) = ((2 + p : Nat) : Int) := by omega
      have hm : ∀ s : Sto, dMul (.int (prodD xs)) (.int ((2 + p : Nat) : Int)) s = .ok (.int (prodD xs * ((2 + p : Nat) : Int))) s := fun s => mulI (by omega) (by omega)
      have set4 : ∀ b : SM, ∀ r : RS, b [some (.ref B), some (.int (i : Int)), some (.ref S.length), some (.int (prodD xs)), some (.int ((2 + p : Nat) : Int))] T1 = r → sSeq (sSet 4 (eBin dAdd (eC (.int 2)) (eFn s__law_take (aCons (eVar 0) (aCons (eC (.int 3)) aNil))))) b [some (.ref B), some (.int (i : Int)), some (.ref S.length), some (.int (prodD xs)), x4] T = r := fun b r hb => set_to (d := .int ((2 + p : Nat) : Int)) (st1 := T1) (by
        rw [ev_bin, ev_c, ev_bok, ev_fn, ev_acons, ev_var]
        show (((R.ok (D.ref B) T).bind _).bind _).bind _ = _
        rw [ev_bok, ev_acons, ev_c, ev_bok, ev_anil, ev_bok, ev_bok, ev_bok]
        show (s_take [.ref B, .int 3] T).bind _ = _
        rw [t2, ev_bok, ev_addI, hpp]) hb
      by_cases hq : prodD xs * ((2 + p : Nat) : Int) ≤ 24
      · refine ⟨_, _, [some (.ref B), some (.int (i : Int)), some (.ref S.length), some (.int (prodD (xs ++ [.int ((2 + p : Nat) : Int)]))), some (.int ((2 + p : Nat) : Int))], T1.set S.length (.lst (xs ++ [.int ((2 + p : Nat) : Int)])), rfl, set4 _ _ ?_, xs ++ [.int ((2 + p : Nat) : Int)], _, _, rfl, List.getElem?_set_self (by omega), (g3.trans G2).set (Nat.le_refl _), (B2.set (by omega)).mono (by omega), by simp; omega, by simp, ?_, ?_⟩
        · rw [ev_sif, ev_tof, ev_bin, ev_bin]
          simp only [ev_var, List.getElem?_cons_zero, List.getElem?_cons_succ, ev_bok, hm, ev_c, ev_leI, ev_tob, decide_eq_true hq, ev_tok, if_true]
          refine seq_to (env1 := [some (.ref B), some (.int (i : Int)), some (.ref S.length), some (.int (prodD xs)), some (.int ((2 + p : Nat) : Int))]) (st1 := T1.set S.length (.lst (xs ++ [.int ((2 + p : Nat) : Int)]))) ?_ ?_
          · rw [ev_expr, app_run (k := S.length) (d := .int ((2 + p : Nat) : Int)) rfl g2' rfl (Nat.lt_of_le_of_lt g5 (Nat.lt_of_lt_of_le hi (Nat.le_trans (show 1 + a ≤ 3 by omega) (by decide))))]
            rfl
          · rw [ev_set, ev_bin]
            simp only [ev_var, List.getElem?_cons_zero, List.getElem?_cons_succ, ev_bok, hm]
            rw [← prod_snoc xi]
            rfl
        · intro w hw
          rcases List.mem_append.mp hw with hw | hw
          · exact g7 w hw
          · simp only [List.mem_singleton] at hw
            exact ⟨2 + p, hw, by omega, by omega⟩
        · rw [prod_snoc xi]
          refine ⟨?_, hq⟩
          have : (1 : Int) * 1 ≤ prodD xs * ((2 + p : Nat) : Int) := Int.mul_le_mul g8.1 (by omega) (by omega) (by omega)
          omega
      · refine ⟨_, _, [some (.ref B), some (.int (i : Int)), some (.ref S.length), some (.int (prodD xs)), some (.int ((2 + p : Nat) : Int))], T1, rfl, set4 _ _ ?_, xs, _, _, rfl, g2', g3.trans G2, B2.mono (by omega), by omega, fun _ => ?_, g7, g8⟩
        · rw [ev_sif, ev_tof, ev_bin, ev_bin]
          simp only [ev_var, List.getElem?_cons_zero, List.getElem?_cons_succ, ev_bok, hm, ev_c, ev_leI, ev_tob, decide_eq_false hq, ev_tok]
          rfl
        · cases xs with
          | nil => simp only [prodD] at hq; omega
          | cons y ys => simp
  rw [rngL_length] at g4 g5 g6
  refine ⟨xs, T, ?_, g3, g4.mono (by omega), ⟨g6 (by omega), by omega, g7, g8.2⟩⟩
  have key : b__law_wheels [some (.ref B), none, none, none, none] S = .rt (.tup xs) T := by
    unfold b__law_wheels
    refine par_to (x := .ref S.length) (s1 := S ++ [.lst []]) (y := .int 1) (s2 := S ++ [.lst []]) rfl rfl (seq_to (env1 := env') (st1 := T) ?_ ?_)
    · rw [ev_for]
      show R.then _ (iRng _ [some (.ref B), none, some (.ref S.length), some (.int 1), none] (S ++ [.lst []])) _ = _
      rw [hr, ev_tok]
      exact f1
    · subst g1
      rw [ev_ret, ev_fn, ev_acons, ev_var]
      show ((((R.ok (D.ref S.length) T).bind _).bind _)).then _ _ = _
      rw [ev_bok, ev_anil, ev_bok, ev_bok]
      show (fTup [.ref S.length] T).then _ _ = _
      unfold fTup seqOf lstOf
      simp only [g2]
      rfl
  unfold m__law_wheels
  rw [ev_mkfn, if_pos (show [D.ref B].length = 1 from rfl)]
  show endFn (b__law_wheels [some (.ref B), none, none, none, none] S) = _
  rw [key]
  rfl

end Hd
set_option Elab.async false
set_option linter.all false
set_option maxRecDepth 100000
set_option maxHeartbeats 1000000
namespace Hd
open PySem U
local macro_rules | `(tactic| walk_at "ex1") => `(tactic| first | (with_reducible refine w_seq ?_) | (with_reducible refine w_set ?_) | (with_reducible refine w_ret ?_) | (with_reducible refine w_sif ?_) | (with_reducible refine w_asg2 ?_) | (with_reducible refine w_asg3 ?_) | (with_reducible refine w_asg4 ?_) | (with_reducible refine w_ex2 ?_) | (with_reducible refine w_ex3 ?_) | (with_reducible refine w_ex4 ?_) | (with_reducible refine w_par ?_) | (with_reducible refine w_par3 ?_) | (with_reducible refine w_expr ?_) | (with_reducible refine w_for ?_) | (with_reducible refine w_skip ?_) | (with_reducible refine w_fn ?_) | (with_reducible refine w_acons ?_) | (with_reducible refine w_anil ?_) | (with_reducible refine w_aapp ?_) | (with_reducible refine w_bin ?_) | (with_reducible refine w_un ?_) | (with_reducible refine w_c ?_) | (with_reducible refine w_tof ?_) | (with_reducible refine w_tob ?_) | (with_reducible refine w_tand ?_) | (with_reducible refine w_tor ?_) | (with_reducible refine w_tnot ?_) | (with_reducible refine w_eand ?_) | (with_reducible refine w_eor ?_) | (with_reducible refine w_enot ?_) | (with_reducible refine w_exb ?_) | (with_reducible refine w_exi ?_) | (with_reducible refine w_if ?_) | (with_reducible refine w_slice ?_) | (with_reducible refine w_onone ?_) | (with_reducible refine w_osome ?_) | (with_reducible refine w_lc ?_) | (with_reducible refine w_lc2 ?_) | (with_reducible refine w_mtl ?_) | (with_reducible refine w_iseq ?_) | (with_reducible refine w_irng ?_) | (with_reducible refine w_ienum ?_) | (with_reducible refine w_ibin ?_) | (with_reducible refine w_true ?_) | (with_reducible refine cond_t ?_) | (with_reducible refine cond_f ?_))
local macro_rules | `(tactic| walk_at "ex2") => `(tactic| first | (with_reducible refine w_addI ?_) | (with_reducible refine w_subI ?_) | (with_reducible refine w_ltI ?_) | (with_reducible refine w_leI ?_) | (with_reducible refine w_gtI ?_) | (with_reducible refine w_geI ?_) | (with_reducible refine w_eqI ?_) | (with_reducible refine w_neI ?_) | (with_reducible refine w_negI ?_) | (with_reducible refine w_maxI ?_) | (with_reducible refine w_minI ?_) | (with_reducible refine w_lenT ?_) | (with_reducible refine w_slT ?_) | (with_reducible refine w_sseq ?_) | (with_reducible refine w_senum ?_) | (with_reducible refine w_szip ?_) | (with_reducible refine w_eqB ?_) | (with_reducible refine w_neB ?_))
local macro_rules | `(tactic| walk_at "ex3") => `(tactic| first | ((with_reducible apply w_var); (focus exact rfl)) | ((with_reducible apply w_aug); (focus exact rfl)) | ((with_reducible apply w_thaw); (focus exact rfl); (focus with_reducible assumption)) | ((with_reducible apply w_idxZ); (focus exact rfl); (focus with_reducible assumption)) | ((with_reducible apply wr_by); (focus with_reducible assumption)) | ((with_reducible apply w_via); (focus exact rfl)) | ((with_reducible apply w_mkTup); (focus exact Nat.le_of_ble_eq_true rfl)) | ((with_reducible apply w_mkLst); (focus exact Nat.le_of_ble_eq_true rfl)) | ((with_reducible apply w_ix); (focus exact rfl); (focus exact rfl)) | ((with_reducible apply w_lenL); (focus with_reducible assumption)) | ((with_reducible apply w_lenL); (focus with_reducible exact get_end)) | ((with_reducible apply w_isl); (focus with_reducible assumption)) | ((with_reducible apply w_append); (focus with_reducible assumption); (focus with_reducible assumption)) | ((with_reducible apply w_slL); (focus with_reducible assumption)) | ((with_reducible apply w_enumL); (focus with_reducible assumption)) | ((with_reducible apply w_tupL); (focus with_reducible assumption)) | ((with_reducible apply w_sdyn); (focus with_reducible assumption)) | ((with_reducible apply w_isi); (focus exact rfl)) | ((with_reducible apply w_isi2); (focus exact rfl)) | ((with_reducible apply w_eqS); (focus decide +kernel); (focus decide +kernel)) | ((with_reducible apply cond_af); (focus exact rfl)) | ((with_reducible apply cond_at); (focus exact rfl)) | ((with_reducible apply cond_af); (focus decide +kernel)) | ((with_reducible apply cond_at); (focus decide +kernel)))
local macro_rules | `(tactic| walk_at "go") => `(tactic| repeat (first | walk_at "ex1" | walk_at "ex2" | walk_at "ex3"))
theorem take_ev {env : Ev} {T T1 : Sto} {B : Nat} {ga gb : EM} {many : Int} {v : Nat} (ha : ga env T = .ok (.ref B) T) (hb : gb env T = .ok (.int many) T) (ht : s_take [.ref B, .int many] T = .ok (.int (v : Int)) T1) : eFn s__law_take (aCons ga (aCons gb aNil)) env T = .ok (.int (v : Int)) T1 := by
  rw [ev_fn, ev_acons, ha, ev_bok, ev_acons, hb, ev_bok, ev_anil, ev_bok, ev_bok, ev_bok]
  exact ht
theorem inW {T : Sto} {w : Str} (h : w = "is" ∨ w = "not" ∨ w = "below" ∨ w = "hushed" ∨ w = "awake") : dIn false (.str w) (.tup [.str "hushed", .str "awake"]) T = .ok (.bl (decide (w = "hushed") || decide (w = "awake"))) T := by
  have key : ∀ w : Str, scalD (.str w) = true → wordIn ["hushed", "awake"] (.str w) = (decide (w = "hushed") || decide (w = "awake")) → dIn false (.str w) (.tup [.str "hushed", .str "awake"]) T = .ok (.bl (decide (w = "hushed") || decide (w = "awake"))) T := fun w h1 h2 => by
    have := in_words (st := T) (d := .str w) ["hushed", "awake"] h1 (by decide +kernel)
    rw [h2] at this
    exact this
  rcases h with rfl | rfl | rfl | rfl | rfl <;> exact key _ (by decide +kernel) (by decide +kernel)
theorem cond_run {S : Sto} {B n : Nat} {c : Int} {ws : List D} (h : Bag S B c) (hc : c + 3 < 1000000000) (hn : 0 < n) (hn5 : n ≤ 5) (W : WhOk ws) : ∃ d T, m__law_condition [.ref B, .tup ws, .int (n : Int)] S = .ok d T ∧ Grw S T B ∧ T.length = S.length ∧ Bag T B (c + 3) ∧ CondOk ws n d := by
  obtain ⟨v, S1, t1, hv, B1, G1, L1⟩ := take_go (many := 6) h (by omega) (by omega) (by omega)
  obtain ⟨w, hw, hww⟩ : ∃ w : Str, L2.atI [D.str "is", .str "is", .str "not", .str "below", .str "hushed", .str "awake"] (v : Int) = some (.str w) ∧ (w = "is" ∨ w = "not" ∨ w = "below" ∨ w = "hushed" ∨ w = "awake") := by
    have : v = 0 ∨ v = 1 ∨ v = 2 ∨ v = 3 ∨ v = 4 ∨ v = 5 := by omega
    rcases this with rfl | rfl | rfl | rfl | rfl | rfl
    · exact ⟨"is", rfl, .inl rfl⟩
    · exact ⟨"is", rfl, .inl rfl⟩
    · exact ⟨"not", rfl, .inr (.inl rfl)⟩
    · exact ⟨"below", rfl, .inr (.inr (.inl rfl))⟩
    · exact ⟨"hushed", rfl, .inr (.inr (.inr (.inl rfl)))⟩
    · exact ⟨"awake", rfl, .inr (.inr (.inr (.inr rfl)))⟩
  have first : ∀ (b : SM) (r : RS), b [some (.ref B), some (.tup ws), some (.int (n : Int)), some (.str w), none] S1 = r → sSeq (sSet 3 (eBin dIx (eFn mkTup (aCons (eC (.str "is")) (aCons (eC (.str "is")) (aCons (eC (.str "not")) (aCons (eC (.str "below")) (aCons (eC (.str "hushed")) (aCons (eC (.str "awake")) aNil))))))) (eFn s__law_take (aCons (eVar 0) (aCons (eC (.int 6)) aNil))))) b [some (.ref B), some (.tup ws), some (.int (n : Int)), none, none] S = r := fun b r hb => set_to (d := .str w) (st1 := S1) (by
    rw [ev_bin]
    show (R.ok (D.tup [D.str "is", .str "is", .str "not", .str "below", .str "hushed", .str "awake"]) S).bind _ = _
    rw [ev_bok, take_ev rfl rfl t1, ev_bok]
    exact ixS rfl hw) hb
  have hin := inW (T := S1) hww
  have fin : ∀ {d : D} {T : Sto}, b__law_condition [some (.ref B), some (.tup ws), some (.int (n : Int)), none, none] S = .rt d T → m__law_condition [.ref B, .tup ws, .int (n : Int)] S = .ok d T := fun {d T} hk => by
    unfold m__law_condition
    rw [ev_mkfn, if_pos (show [D.ref B, .tup ws, .int (n : Int)].length = 3 from rfl)]
    show endFn (b__law_condition [some (.ref B), some (.tup ws), some (.int (n : Int)), none, none] S) = _
    rw [hk]
    rfl
  by_cases hm : w = "hushed" ∨ w = "awake"
  · obtain ⟨q, S2, t2, hq, B2, G2, Q2⟩ := take_go (many := (n : Int)) B1 (by omega) (by omega) (by omega)
    refine ⟨.tup [.str w, .int (q : Int)], S2, fin ?_, G1.trans G2, by omega, B2.mono (by omega), .inr ⟨w, q, rfl, hm, by omega⟩⟩
    have hb : (decide (w = "hushed") || decide (w = "awake")) = true := by rcases hm with hm | hm <;> simp [hm]
    rw [hb] at hin
    unfold b__law_condition
    refine first _ _ ?_
    have hi : sIf (tOf (eBin (dIn false) (eVar 3) (eFn mkTup (aCons (eC (.str "hushed")) (aCons (eC (.str "awake")) aNil))))) (sRet (eFn mkTup (aCons (eVar 3) (aCons (eFn s__law_take (aCons (eVar 0) (aCons (eVar 2) aNil))) aNil)))) sSkip [some (.ref B), some (.tup ws), some (.int (n : Int)), some (.str w), none] S1 = .rt (.tup [.str w, .int (q : Int)]) S2 := by
      rw [ev_sif, ev_tof, ev_bin]
      show (((R.ok (D.str w) S1).bind fun x st => (R.ok (D.tup [D.str "hushed", .str "awake"]) st).bind fun y st => dIn false x y st).bind toB).then _ _ = _
      rw [ev_bok, ev_bok, hin, ev_bok, ev_tob, ev_tok]
      show sRet _ _ S1 = _
      rw [ev_ret, ev_fn, ev_acons]
      show ((((R.ok (D.str w) S1).bind _).bind _)).then _ _ = _
      rw [ev_bok, ev_acons, take_ev (many := (n : Int)) rfl rfl t2, ev_bok, ev_anil, ev_bok, ev_bok, ev_bok]
      rfl
    unfold sSeq
    rw [hi]
  · have hws : w = "is" ∨ w = "not" ∨ w = "below" := by
      rcases hww with h | h | h | h | h
      · exact .inl h
      · exact .inr (.inl h)
      · exact .inr (.inr h)
      · exact absurd (.inl h) hm
      · exact absurd (.inr h) hm
    have hl1 := W.l1
    have hl3 := W.l3
    obtain ⟨x, S2, t2, hx, B2, G2, Q2⟩ := take_go (many := (ws.length : Int)) B1 (by omega) (by omega) (by omega)
    have hxl : x < ws.length := by omega
    obtain ⟨m, hm1, hm2, hm3⟩ := W.w ws[x] (List.getElem_mem hxl)
    have hwx : ws[x]? = some (.int (m : Int)) := by rw [List.getElem?_eq_getElem hxl, hm1]
    obtain ⟨p, S3, t3, hp, B3, G3, L3⟩ := take_go (many := (m : Int)) B2 (by omega) (by omega) (by omega)
    refine ⟨.tup [.str w, .int (x : Int), .int (p : Int)], S3, fin ?_, (G1.trans G2).trans G3, by omega, B3.mono (by omega), .inl ⟨w, x, p, m, rfl, hws, hwx, by omega⟩⟩
    have hb : (decide (w = "hushed") || decide (w = "awake")) = false := by
      simp only [Bool.or_eq_false_iff, decide_eq_false_iff_not]
      exact ⟨fun h => hm (.inl h), fun h => hm (.inr h)⟩
    rw [hb] at hin
    unfold b__law_condition
    refine first _ _ (if_to (st1 := S1) ?_ (set_to (d := .int (x : Int)) (st1 := S2) (take_ev (many := (ws.length : Int)) rfl rfl t2) ?_))
    · rw [ev_tof, ev_bin]
      show ((R.ok (D.str w) S1).bind fun x st => (R.ok (D.tup [D.str "hushed", .str "awake"]) st).bind fun y st => dIn false x y st).bind toB = _
      rw [ev_bok, ev_bok, hin, ev_bok, ev_tob]
    · rw [ev_ret, ev_fn, ev_acons]
      show ((((R.ok (D.str w) S2).bind _).bind _)).then _ _ = _
      rw [ev_bok, ev_acons]
      show (((((R.ok (D.int (x : Int)) S2).bind _)).bind _).bind _).then _ _ = _
      rw [ev_bok, ev_acons, take_ev (many := (m : Int)) rfl (by show dIx (.tup ws) (.int (x : Int)) S2 = _; exact ixS rfl (atI_nat hwx)) t3, ev_bok, ev_anil, ev_bok, ev_bok, ev_bok, ev_bok]
      rfl
theorem chg_run {S : Sto} {B : Nat} {c : Int} {ws : List D} (h : Bag S B c) (hc : c + 3 < 1000000000) (W : WhOk ws) : ∃ d T, m__law_change [.ref B, .tup ws] S = .ok d T ∧ Grw S T B ∧ T.length = S.length ∧ Bag T B (c + 3) ∧ ChgOk ws d := by
  have hl1 := W.l1
  have hl3 := W.l3
  obtain ⟨x, S2, t2, hx, B2, G2, Q2⟩ := take_go (many := (ws.length : Int)) h (by omega) (by omega) (by omega)
  have hxl : x < ws.length := by omega
  obtain ⟨m, hm1, hm2, hm3⟩ := W.w ws[x] (List.getElem_mem hxl)
  have hwx : ws[x]? = some (.int (m : Int)) := by rw [List.getElem?_eq_getElem hxl, hm1]
  obtain ⟨v, S3, t3, hv, B3, G3, L3⟩ := take_go (many := 3) B2 (by omega) (by omega) (by omega)
  obtain ⟨p, S4, t4, hp, B4, G4, L4⟩ := take_go (many := (m : Int)) B3 (by omega) (by omega) (by omega)
  obtain ⟨w, hw, hww⟩ : ∃ w : Str, L2.atI [D.str "turn", .str "turn", .str "put"] (v : Int) = some (.str w) ∧ (w = "turn" ∨ w = "put") := by
    have : v = 0 ∨ v = 1 ∨ v = 2 := by omega
    rcases this with rfl | rfl | rfl
    · exact ⟨"turn", rfl, .inl rfl⟩
    · exact ⟨"turn", rfl, .inl rfl⟩
    · exact ⟨"put", rfl, .inr rfl⟩
  refine ⟨.tup [.str w, .int (x : Int), .int (p : Int)], S4, ?_, (G2.trans G3).trans G4, by omega, B4.mono (by omega), ⟨w, x, p, m, rfl, hww, hwx, by omega⟩⟩
  have key : b__law_change [some (.ref B), some (.tup ws), none] S = .rt (.tup [.str w, .int (x : Int), .int (p : Int)]) S4 := by
    unfold b__law_change
    refine set_to (d := .int (x : Int)) (st1 := S2) (take_ev (many := (ws.length : Int)) rfl rfl t2) ?_
    rw [ev_ret, ev_fn, ev_acons, ev_bin]
    show (((((R.ok (D.tup [D.str "turn", .str "turn", .str "put"]) S2).bind _).bind _)).bind _).then _ _ = _
    rw [ev_bok, take_ev rfl rfl t3, ev_bok, ixS (v := .tup [D.str "turn", .str "turn", .str "put"]) rfl hw, ev_bok, ev_acons]
    show (((((R.ok (D.int (x : Int)) S3).bind _)).bind _).bind _).then _ _ = _
    rw [ev_bok, ev_acons, take_ev (many := (m : Int)) rfl (by show dIx (.tup ws) (.int (x : Int)) S3 = _; exact ixS rfl (atI_nat hwx)) t4, ev_bok, ev_anil, ev_bok, ev_bok, ev_bok, ev_bok]
    rfl
  unfold m__law_change
  rw [ev_mkfn, if_pos (show [D.ref B, .tup ws].length = 2 from rfl)]
  show endFn (b__law_change [some (.ref B), some (.tup ws), none] S) = _
  rw [key]
  rfl

end Hd
set_option Elab.async false
set_option linter.all false
set_option maxRecDepth 100000
set_option maxHeartbeats 1000000
namespace Hd
open PySem U
local macro_rules | `(tactic| walk_at "ex1") => `(tactic| first | (with_reducible refine w_seq ?_) | (with_reducible refine w_set ?_) | (with_reducible refine w_ret ?_) | (with_reducible refine w_sif ?_) | (with_reducible refine w_asg2 ?_) | (with_reducible refine w_asg3 ?_) | (with_reducible refine w_asg4 ?_) | (with_reducible refine w_ex2 ?_) | (with_reducible refine w_ex3 ?_) | (with_reducible refine w_ex4 ?_) | (with_reducible refine w_par ?_) | (with_reducible refine w_par3 ?_) | (with_reducible refine w_expr ?_) | (with_reducible refine w_for ?_) | (with_reducible refine w_skip ?_) | (with_reducible refine w_fn ?_) | (with_reducible refine w_acons ?_) | (with_reducible refine w_anil ?_) | (with_reducible refine w_aapp ?_) | (with_reducible refine w_bin ?_) | (with_reducible refine w_un ?_) | (with_reducible refine w_c ?_) | (with_reducible refine w_tof ?_) | (with_reducible refine w_tob ?_) | (with_reducible refine w_tand ?_) | (with_reducible refine w_tor ?_) | (with_reducible refine w_tnot ?_) | (with_reducible refine w_eand ?_) | (with_reducible refine w_eor ?_) | (with_reducible refine w_enot ?_) | (with_reducible refine w_exb ?_) | (with_reducible refine w_exi ?_) | (with_reducible refine w_if ?_) | (with_reducible refine w_slice ?_) | (with_reducible refine w_onone ?_) | (with_reducible refine w_osome ?_) | (with_reducible refine w_lc ?_) | (with_reducible refine w_lc2 ?_) | (with_reducible refine w_mtl ?_) | (with_reducible refine w_iseq ?_) | (with_reducible refine w_irng ?_) | (with_reducible refine w_ienum ?_) | (with_reducible refine w_ibin ?_) | (with_reducible refine w_true ?_) | (with_reducible refine cond_t ?_) | (with_reducible refine cond_f ?_))
local macro_rules | `(tactic| walk_at "ex2") => `(tactic| first | (with_reducible refine w_addI ?_) | (with_reducible refine w_subI ?_) | (with_reducible refine w_ltI ?_) | (with_reducible refine w_leI ?_) | (with_reducible refine w_gtI ?_) | (with_reducible refine w_geI ?_) | (with_reducible refine w_eqI ?_) | (with_reducible refine w_neI ?_) | (with_reducible refine w_negI ?_) | (with_reducible refine w_maxI ?_) | (with_reducible refine w_minI ?_) | (with_reducible refine w_lenT ?_) | (with_reducible refine w_slT ?_) | (with_reducible refine w_sseq ?_) | (with_reducible refine w_senum ?_) | (with_reducible refine w_szip ?_) | (with_reducible refine w_eqB ?_) | (with_reducible refine w_neB ?_))
local macro_rules | `(tactic| walk_at "ex3") => `(tactic| first | ((with_reducible apply w_var); (focus exact rfl)) | ((with_reducible apply w_aug); (focus exact rfl)) | ((with_reducible apply w_thaw); (focus exact rfl); (focus with_reducible assumption)) | ((with_reducible apply w_idxZ); (focus exact rfl); (focus with_reducible assumption)) | ((with_reducible apply wr_by); (focus with_reducible assumption)) | ((with_reducible apply w_via); (focus exact rfl)) | ((with_reducible apply w_mkTup); (focus exact Nat.le_of_ble_eq_true rfl)) | ((with_reducible apply w_mkLst); (focus exact Nat.le_of_ble_eq_true rfl)) | ((with_reducible apply w_ix); (focus exact rfl); (focus exact rfl)) | ((with_reducible apply w_lenL); (focus with_reducible assumption)) | ((with_reducible apply w_lenL); (focus with_reducible exact get_end)) | ((with_reducible apply w_isl); (focus with_reducible assumption)) | ((with_reducible apply w_append); (focus with_reducible assumption); (focus with_reducible assumption)) | ((with_reducible apply w_slL); (focus with_reducible assumption)) | ((with_reducible apply w_enumL); (focus with_reducible assumption)) | ((with_reducible apply w_tupL); (focus with_reducible assumption)) | ((with_reducible apply w_sdyn); (focus with_reducible assumption)) | ((with_reducible apply w_isi); (focus exact rfl)) | ((with_reducible apply w_isi2); (focus exact rfl)) | ((with_reducible apply w_eqS); (focus decide +kernel); (focus decide +kernel)) | ((with_reducible apply cond_af); (focus exact rfl)) | ((with_reducible apply cond_at); (focus exact rfl)) | ((with_reducible apply cond_af); (focus decide +kernel)) | ((with_reducible apply cond_at); (focus decide +kernel)))
local macro_rules | `(tactic| walk_at "go") => `(tactic| repeat (first | walk_at "ex1" | walk_at "ex2" | walk_at "ex3"))
theorem lc_draw {S : Sto} {B v : Nat} {c : Int} {K : Nat} {xs : List D} {env : Ev} {e : EM} {P : Nat → D → Prop} (h : Bag S B c) (hl : xs.length < 1000)
    (he : ∀ (i : Nat) (x : D) (T : Sto), xs[i]? = some x → Grw S T B → Bag T B (c + K * i) → ∃ d T1, e (env.set v (some x)) T = .ok d T1 ∧ Grw T T1 B ∧ Bag T1 B (c + K * (i + 1)) ∧ P i d) :
    ∃ acc T, startLc (gN v) tTrue e env (.fix xs) S = .ok (.ref S.length) T ∧ S.length < T.length ∧ T[S.length]? = some (.lst acc) ∧ Grw S T B ∧ Bag T B (c + K * xs.length) ∧ acc.length = xs.length ∧ ∀ i d, acc[i]? = some d → P i d := by
  have hB := h.lt
  obtain ⟨acc, T, h1, h2, h3, h4, h5, h6, h7⟩ := startLc_J (xs := xs) (g := gN v) (e := e) (env := env) (st := S)
    (fun i acc T => S.length < T.length ∧ T[S.length]? = some (.lst acc) ∧ Grw S T B ∧ Bag T B (c + K * i) ∧ (acc.length = i ∧ i ≤ xs.length) ∧ ∀ j d, acc[j]? = some d → P j d)
    (fun i acc T hJ => Nat.lt_of_le_of_lt (by have := hJ.2.2.2.2.1; omega : acc.length ≤ 1000) (by decide)) ⟨by simp, get_end, .app, by simpa using h.app, ⟨rfl, by omega⟩, fun _ _ h => by simp at h⟩ fun i x acc T hx ⟨g1, g2, g3, g4, g5, g6⟩ => by
      obtain ⟨d, T1, e1, G, B1, hP⟩ := he i x T hx g3 g4
      have hi : i < xs.length := (List.getElem?_eq_some_iff.mp hx).1
      have gl := G.len
      refine ⟨env.set v (some x), T, d, T1, rfl, e1, by rw [G.at_ _ g1 (by omega)]; exact g2, by simp; omega, List.getElem?_set_self (by omega), (g3.trans G).set (Nat.le_refl _), B1.set (by omega), ⟨by simp [g5.1], by omega⟩, fun j d' hj => ?_⟩
      by_cases hj2 : j < acc.length
      · rw [List.getElem?_append_left hj2] at hj
        exact g6 j d' hj
      · have hjl : j < (acc ++ [d]).length := (List.getElem?_eq_some_iff.mp hj).1
        have : j = acc.length := by simp at hjl; omega
        subst this
        simp at hj
        subst hj
        rw [g5.1]
        exact hP
  exact ⟨acc, T, h1, h2, h3, h4, h5, h6.1, h7⟩
def hsW : Nat → List Nat → List D
  | _, [] => []
  | i, w :: l => if 1 ≤ w ∧ w ≤ 3 then .tup [.int (i : Nat), .int (w : Nat)] :: hsW (i + 1) l else hsW (i + 1) l
def wkW : Nat → List Nat → List D
  | _, [] => []
  | i, w :: l => if w = 4 then .int (i : Nat) :: wkW (i + 1) l else wkW (i + 1) l
theorem hsW_snoc : ∀ (i : Nat) (l : List Nat) (w : Nat), hsW i (l ++ [w]) = hsW i l ++ (if 1 ≤ w ∧ w ≤ 3 then [.tup [.int (i + l.length : Nat), .int (w : Nat)]] else [])
  | i, [], w => by
    simp only [List.nil_append, hsW, List.length_nil, Nat.add_zero]
  | i, v :: l, w => by
    simp only [List.cons_append, hsW, hsW_snoc (i + 1) l w, List.length_cons]
    rw [show i + 1 + l.length = i + (l.length + 1) by omega]
    split <;> rfl
theorem wkW_snoc : ∀ (i : Nat) (l : List Nat) (w : Nat), wkW i (l ++ [w]) = wkW i l ++ (if w = 4 then [.int (i + l.length : Nat)] else [])
  | i, [], w => by
    simp only [List.nil_append, wkW, List.length_nil, Nat.add_zero]
  | i, v :: l, w => by
    simp only [List.cons_append, wkW, wkW_snoc (i + 1) l w, List.length_cons]
    rw [show i + 1 + l.length = i + (l.length + 1) by omega]
    split <;> rfl
theorem hsW_len : ∀ (i : Nat) (l : List Nat), (hsW i l).length ≤ l.length
  | _, [] => Nat.le_refl _
  | i, w :: l => by
    have := hsW_len (i + 1) l
    simp only [hsW, List.length_cons]
    split
    · simp only [List.length_cons]; omega
    · omega
theorem wkW_len : ∀ (i : Nat) (l : List Nat), (wkW i l).length ≤ l.length
  | _, [] => Nat.le_refl _
  | i, w :: l => by
    have := wkW_len (i + 1) l
    simp only [wkW, List.length_cons]
    split
    · simp only [List.length_cons]; omega
    · omega
theorem hsW_ok : ∀ (i : Nat) (l : List Nat) (n : Nat), i + l.length ≤ n → ∀ c ∈ hsW i l, HshOk n c
  | _, [], _, _, c, h => by simp [hsW] at h
  | i, w :: l, n, hn, c, h => by
    simp only [List.length_cons] at hn
    simp only [hsW] at h
    split at h
    · rename_i hw
      rcases List.mem_cons.mp h with rfl | h
      · exact ⟨i, w, rfl, by omega, hw.1, hw.2⟩
      · exact hsW_ok (i + 1) l n (by omega) c h
    · exact hsW_ok (i + 1) l n (by omega) c h
theorem wkW_ok : ∀ (i : Nat) (l : List Nat) (n : Nat), i + l.length ≤ n → ∀ c ∈ wkW i l, WakOk n c
  | _, [], _, _, c, h => by simp [wkW] at h
  | i, w :: l, n, hn, c, h => by
    simp only [List.length_cons] at hn
    simp only [wkW] at h
    split at h
    · rcases List.mem_cons.mp h with rfl | h
      · exact ⟨i, rfl, by omega⟩
      · exact wkW_ok (i + 1) l n (by omega) c h
    · exact wkW_ok (i + 1) l n (by omega) c h
structure RuleDr (ws : List D) (n : Nat) (r : D) : Prop where
  ex : ∃ (cs chs : List D) (l : List Nat), r = .tup [.tup cs, .tup chs, .tup (hsW 0 l), .tup (wkW 0 l)] ∧ cs.length ≤ 4 ∧ chs.length ≤ 3 ∧ (∀ c ∈ cs, CondOk ws n c) ∧ (∀ c ∈ chs, ChgOk ws c) ∧ l.length = n ∧ ∀ w ∈ l, w ≤ 4
theorem RuleDr.ok {ws : List D} {n : Nat} {r : D} (h : RuleDr ws n r) : RuleOk ws n r := by
  obtain ⟨cs, chs, l, rfl, _, _, h1, h2, h3, _⟩ := h.ex
  exact ⟨cs, chs, _, _, rfl, h1, h2, hsW_ok 0 l n (by omega), wkW_ok 0 l n (by omega)⟩
def allW : Nat → List (List Nat)
  | 0 => [[]]
  | n + 1 => (allW n).flatMap fun l => (List.range 5).map fun w => w :: l
theorem allW_mem : ∀ {l : List Nat}, (∀ w ∈ l, w ≤ 4) → l ∈ allW l.length
  | [], _ => by simp [allW]
  | w :: l, h => by
    simp only [List.length_cons, allW, List.mem_flatMap, List.mem_map, List.mem_range]
    exact ⟨l, allW_mem fun x hx => h x (List.mem_cons_of_mem _ hx), w, by have := h w List.mem_cons_self; omega, rfl⟩
def hwOk (n : Nat) (l : List Nat) : Bool := hushesD n (.tup (hsW 0 l)) && wakesD n (.tup (wkW 0 l)) (hsW 0 l)
theorem hw_all : ∀ n < 6, (allW n).all (hwOk n) = true := by decide +kernel
theorem cond_D {ws : List D} {n : Nat} {c : D} (h : CondOk ws n c) : condD ws n c = true ∧ wordsD c = true := by
  rcases h with ⟨w, x, p, m, rfl, hw, hm, hp⟩ | ⟨w, q, rfl, hw, hq⟩
  · have hx : x < ws.length := (List.getElem?_eq_some_iff.mp hm).1
    have e : wI (ws.getD (wI (.int (x : Int))).toNat .non) = (m : Int) := by
      simp only [wI, Int.toNat_natCast, List.getD, hm, Option.getD_some]
    have b1 : withinD 0 ((ws.length : Int) - 1) (.int (x : Int)) = true := by simp only [withinD, Bool.and_eq_true, decide_eq_true_eq]; omega
    have b2 : withinD 0 ((m : Int) - 1) (.int (p : Int)) = true := by simp only [withinD, Bool.and_eq_true, decide_eq_true_eq]; omega
    have hwo : wordIn ["is", "not", "below"] (.str w) = true := by rcases hw with rfl | rfl | rfl <;> decide +kernel
    refine ⟨?_, ?_⟩
    · show ((wordIn ["is", "not", "below"] (.str w) && withinD 0 ((ws.length : Int) - 1) (.int (x : Int)) && withinD 0 (wI (ws.getD (wI (.int (x : Int))).toNat .non) - 1) (.int (p : Int))) || momentD n _) = true
      rw [e, b1, b2, hwo]
      rfl
    · show scalD (.str w) = true
      rcases hw with rfl | rfl | rfl <;> decide +kernel
  · have b1 : withinD 0 ((n : Int) - 1) (.int (q : Int)) = true := by simp only [withinD, Bool.and_eq_true, decide_eq_true_eq]; omega
    have hwo : wordIn ["hushed", "awake"] (.str w) = true := by rcases hw with rfl | rfl <;> decide +kernel
    refine ⟨?_, ?_⟩
    · show (spotD ws _ _ || (wordIn ["hushed", "awake"] (.str w) && withinD 0 ((n : Int) - 1) (.int (q : Int)))) = true
      rw [b1, hwo]
      simp
    · show scalD (.str w) = true
      rcases hw with rfl | rfl <;> decide +kernel
theorem chg_D {ws : List D} {c : D} (h : ChgOk ws c) : changeD ws c = true ∧ wordsD c = true := by
  obtain ⟨w, x, p, m, rfl, hw, hm, hp⟩ := h
  have hx : x < ws.length := (List.getElem?_eq_some_iff.mp hm).1
  have e : wI (ws.getD (wI (.int (x : Int))).toNat .non) = (m : Int) := by
    simp only [wI, Int.toNat_natCast, List.getD, hm, Option.getD_some]
  have b1 : withinD 0 ((ws.length : Int) - 1) (.int (x : Int)) = true := by simp only [withinD, Bool.and_eq_true, decide_eq_true_eq]; omega
  have b2 : withinD 0 ((m : Int) - 1) (.int (p : Int)) = true := by simp only [withinD, Bool.and_eq_true, decide_eq_true_eq]; omega
  have hwo : wordIn ["put", "turn"] (.str w) = true := by rcases hw with rfl | rfl <;> decide +kernel
  refine ⟨?_, ?_⟩
  · show (wordIn ["put", "turn"] (.str w) && withinD 0 ((ws.length : Int) - 1) (.int (x : Int)) && withinD 0 (wI (ws.getD (wI (.int (x : Int))).toNat .non) - 1) (.int (p : Int))) = true
    rw [e, b1, b2, hwo]
    rfl
  · show scalD (.str w) = true
    rcases hw with rfl | rfl <;> decide +kernel
theorem RuleDr.D {ws : List D} {n : Nat} {r : D} (h : RuleDr ws n r) (hn : n ≤ 5) : (ruleWords r && ruleD ws n r) = true := by
  obtain ⟨cs, chs, l, rfl, l4, l3, h1, h2, h3, h4⟩ := h.ex
  have hw := List.all_eq_true.mp (hw_all n (by omega)) l (by rw [← h3]; exact allW_mem h4)
  unfold hwOk at hw
  simp only [Bool.and_eq_true] at hw
  have a1 : cs.all (condD ws n) = true := List.all_eq_true.mpr fun c hc => (cond_D (h1 c hc)).1
  have a2 : chs.all (changeD ws) = true := List.all_eq_true.mpr fun c hc => (chg_D (h2 c hc)).1
  have a3 : cs.all wordsD = true := List.all_eq_true.mpr fun c hc => (cond_D (h1 c hc)).2
  have a4 : chs.all wordsD = true := List.all_eq_true.mpr fun c hc => (chg_D (h2 c hc)).2
  simp only [ruleWords, ruleD, tupsD, rowD, a1, a2, a3, a4, hw.1, hw.2, decide_eq_true l4, decide_eq_true l3, Bool.and_self]

end Hd
set_option Elab.async false
set_option linter.all false
set_option maxRecDepth 100000
set_option maxHeartbeats 1000000
namespace Hd
open PySem U
local macro_rules | `(tactic| walk_at "ex1") => `(tactic| first | (with_reducible refine w_seq ?_) | (with_reducible refine w_set ?_) | (with_reducible refine w_ret ?_) | (with_reducible refine w_sif ?_) | (with_reducible refine w_asg2 ?_) | (with_reducible refine w_asg3 ?_) | (with_reducible refine w_asg4 ?_) | (with_reducible refine w_ex2 ?_) | (with_reducible refine w_ex3 ?_) | (with_reducible refine w_ex4 ?_) | (with_reducible refine w_par ?_) | (with_reducible refine w_par3 ?_) | (with_reducible refine w_expr ?_) | (with_reducible refine w_for ?_) | (with_reducible refine w_skip ?_) | (with_reducible refine w_fn ?_) | (with_reducible refine w_acons ?_) | (with_reducible refine w_anil ?_) | (with_reducible refine w_aapp ?_) | (with_reducible refine w_bin ?_) | (with_reducible refine w_un ?_) | (with_reducible refine w_c ?_) | (with_reducible refine w_tof ?_) | (with_reducible refine w_tob ?_) | (with_reducible refine w_tand ?_) | (with_reducible refine w_tor ?_) | (with_reducible refine w_tnot ?_) | (with_reducible refine w_eand ?_) | (with_reducible refine w_eor ?_) | (with_reducible refine w_enot ?_) | (with_reducible refine w_exb ?_) | (with_reducible refine w_exi ?_) | (with_reducible refine w_if ?_) | (with_reducible refine w_slice ?_) | (with_reducible refine w_onone ?_) | (with_reducible refine w_osome ?_) | (with_reducible refine w_lc ?_) | (with_reducible refine w_lc2 ?_) | (with_reducible refine w_mtl ?_) | (with_reducible refine w_iseq ?_) | (with_reducible refine w_irng ?_) | (with_reducible refine w_ienum ?_) | (with_reducible refine w_ibin ?_) | (with_reducible refine w_true ?_) | (with_reducible refine cond_t ?_) | (with_reducible refine cond_f ?_))
local macro_rules | `(tactic| walk_at "ex2") => `(tactic| first | (with_reducible refine w_addI ?_) | (with_reducible refine w_subI ?_) | (with_reducible refine w_ltI ?_) | (with_reducible refine w_leI ?_) | (with_reducible refine w_gtI ?_) | (with_reducible refine w_geI ?_) | (with_reducible refine w_eqI ?_) | (with_reducible refine w_neI ?_) | (with_reducible refine w_negI ?_) | (with_reducible refine w_maxI ?_) | (with_reducible refine w_minI ?_) | (with_reducible refine w_lenT ?_) | (with_reducible refine w_slT ?_) | (with_reducible refine w_sseq ?_) | (with_reducible refine w_senum ?_) | (with_reducible refine w_szip ?_) | (with_reducible refine w_eqB ?_) | (with_reducible refine w_neB ?_))
local macro_rules | `(tactic| walk_at "ex3") => `(tactic| first | ((with_reducible apply w_var); (focus exact rfl)) | ((with_reducible apply w_aug); (focus exact rfl)) | ((with_reducible apply w_thaw); (focus exact rfl); (focus with_reducible assumption)) | ((with_reducible apply w_idxZ); (focus exact rfl); (focus with_reducible assumption)) | ((with_reducible apply wr_by); (focus with_reducible assumption)) | ((with_reducible apply w_via); (focus exact rfl)) | ((with_reducible apply w_mkTup); (focus exact Nat.le_of_ble_eq_true rfl)) | ((with_reducible apply w_mkLst); (focus exact Nat.le_of_ble_eq_true rfl)) | ((with_reducible apply w_ix); (focus exact rfl); (focus exact rfl)) | ((with_reducible apply w_lenL); (focus with_reducible assumption)) | ((with_reducible apply w_lenL); (focus with_reducible exact get_end)) | ((with_reducible apply w_isl); (focus with_reducible assumption)) | ((with_reducible apply w_append); (focus with_reducible assumption); (focus with_reducible assumption)) | ((with_reducible apply w_slL); (focus with_reducible assumption)) | ((with_reducible apply w_enumL); (focus with_reducible assumption)) | ((with_reducible apply w_tupL); (focus with_reducible assumption)) | ((with_reducible apply w_sdyn); (focus with_reducible assumption)) | ((with_reducible apply w_isi); (focus exact rfl)) | ((with_reducible apply w_isi2); (focus exact rfl)) | ((with_reducible apply w_eqS); (focus decide +kernel); (focus decide +kernel)) | ((with_reducible apply cond_af); (focus exact rfl)) | ((with_reducible apply cond_at); (focus exact rfl)) | ((with_reducible apply cond_af); (focus decide +kernel)) | ((with_reducible apply cond_at); (focus decide +kernel)))
local macro_rules | `(tactic| walk_at "go") => `(tactic| repeat (first | walk_at "ex1" | walk_at "ex2" | walk_at "ex3"))
theorem fTup_at {T : Sto} {k : Nat} {xs : List D} (h : T[k]? = some (.lst xs)) : fTup [.ref k] T = .ok (.tup xs) T := by
  unfold fTup seqOf lstOf
  simp only [h]
theorem rule_turn {T2 T : Sto} {B n i : Nat} {c : Int} {ws : List D} {l : List Nat} {a3 a4 : Nat} {x5 x8 : Option D} (hT2 : B < T2.length) (hn5 : n ≤ 5) (hi : i < n) (hl : l.length = i) (hl4 : ∀ w ∈ l, w ≤ 4) (hg : Grw T2 T B) (hlen : T2.length + 1 < T.length) (h6 : T[T2.length]? = some (.lst (hsW 0 l))) (h7 : T[T2.length + 1]? = some (.lst (wkW 0 l))) (hB : Bag T B c) (hc : c + 2 < 1000000000) :
    ∃ (w : Nat) (T1 : Sto) (y8 : Option D), sSeq (sSet 8 (eFn s__law_take (aCons (eVar 0) (aCons (eC (.int 5)) aNil)))) (sSeq (sIf (tOf (eBin (dEq false) (eVar 8) (eC (.int 0)))) (sExpr (eMtL mAppend (eVar 6) (aCons (eFn mkTup (aCons (eVar 5) (aCons (eBin dAdd (eC (.int 1)) (eFn s__law_take (aCons (eVar 0) (aCons (eC (.int 3)) aNil)))) aNil))) aNil))) sSkip) (sIf (tOf (eBin (dEq false) (eVar 8) (eC (.int 1)))) (sExpr (eMtL mAppend (eVar 7) (aCons (eVar 5) aNil))) sSkip))
      [some (.ref B), some (.tup ws), some (.int (n : Int)), some (.ref a3), some (.ref a4), some (.int (i : Int)), some (.ref T2.length), some (.ref (T2.length + 1)), x8, none] T = .nx [some (.ref B), some (.tup ws), some (.int (n : Int)), some (.ref a3), some (.ref a4), some (.int (i : Int)), some (.ref T2.length), some (.ref (T2.length + 1)), y8, none] T1 ∧ w ≤ 4 ∧ Grw T2 T1 B ∧ T2.length + 1 < T1.length ∧ T1[T2.length]? = some (.lst (hsW 0 (l ++ [w]))) ∧ T1[T2.length + 1]? = some (.lst (wkW 0 (l ++ [w]))) ∧ Bag T1 B (c + 2) := by
  obtain ⟨v, S1, t1, hv, B1, G1, Q1⟩ := take_go (many := 5) hB (by omega) (by omega) (by omega)
  have k6 : S1[T2.length]? = some (.lst (hsW 0 l)) := by rw [G1.at_ _ (by omega) (by omega)]; exact h6
  have k7 : S1[T2.length + 1]? = some (.lst (wkW 0 l)) := by rw [G1.at_ _ (by omega) (by omega)]; exact h7
  have lh : (hsW 0 l).length < most := Nat.lt_of_le_of_lt (Nat.le_trans (hsW_len 0 l) (show l.length ≤ 5 by omega)) (by decide)
  have lw : (wkW 0 l).length < most := Nat.lt_of_le_of_lt (Nat.le_trans (wkW_len 0 l) (show l.length ≤ 5 by omega)) (by decide)
  have il : (i : Nat) = 0 + l.length := by omega
  have tst : ∀ (k : Int) (T' : Sto), tOf (eBin (dEq false) (eVar 8) (eC (.int k))) [some (.ref B), some (.tup ws), some (.int (n : Int)), some (.ref a3), some (.ref a4), some (.int (i : Int)), some (.ref T2.length), some (.ref (T2.length + 1)), some (.int (v : Int)), none] T' = .ok ((v : Int) == k) T' := fun k T' => by
    rw [ev_tof, ev_bin]
    show (dEq false (.int (v : Int)) (.int k) T').bind toB = _
    rw [eqI, ev_bok]
    rfl
  by_cases h0 : v = 0
  · subst h0
    obtain ⟨b, S2, t2, hb, B2, G2, Q2⟩ := take_go (many := 3) B1 (by omega) (by omega) (by omega)
    have k6' : S2[T2.length]? = some (.lst (hsW 0 l)) := by rw [G2.at_ _ (by omega) (by omega)]; exact k6
    have k7' : S2[T2.length + 1]? = some (.lst (wkW 0 l)) := by rw [G2.at_ _ (by omega) (by omega)]; exact k7
    refine ⟨1 + b, S2.set T2.length (.lst (hsW 0 (l ++ [1 + b]))), some (.int ((0 : Nat) : Int)), ?_, by omega, ((hg.trans G1).trans G2).set (Nat.le_refl _), by simp; omega, List.getElem?_set_self (by omega), ?_, (B2.set (by omega)).mono (by omega)⟩
    · refine set_to (d := .int ((0 : Nat) : Int)) (st1 := S1) (take_ev rfl rfl t1) (seq_to (env1 := [some (.ref B), some (.tup ws), some (.int (n : Int)), some (.ref a3), some (.ref a4), some (.int (i : Int)), some (.ref T2.length), some (.ref (T2.length + 1)), some (.int ((0 : Nat) : Int)), none]) (st1 := S2.set T2.length (.lst (hsW 0 (l ++ [1 + b])))) ?_ ?_)
      · rw [ev_sif]
        show R.then _ (tOf _ [some (.ref B), some (.tup ws), some (.int (n : Int)), some (.ref a3), some (.ref a4), some (.int (i : Int)), some (.ref T2.length), some (.ref (T2.length + 1)), some (.int ((0 : Nat) : Int)), none] S1) _ = _
        rw [tst 0 S1, ev_tok]
        show sExpr _ [some (.ref B), some (.tup ws), some (.int (n : Int)), some (.ref a3), some (.ref a4), some (.int (i : Int)), some (.ref T2.length), some (.ref (T2.length + 1)), some (.int ((0 : Nat) : Int)), none] S1 = _
        rw [ev_expr, app_run2 (T1 := S2) (k := T2.length) (d := .tup [.int (i : Int), .int ((1 + b : Nat) : Int)]) rfl k6 k6' ?_ lh, hsW_snoc, if_pos (by omega), ← il]
        · rfl
        · rw [ev_fn, ev_acons]
          show (((R.ok (D.int (i : Int)) S1).bind _).bind mkTup) = _
          rw [ev_bok, ev_acons, ev_bin, ev_c, ev_bok, take_ev rfl rfl t2, ev_bok, ev_addI, ev_bok, ev_anil, ev_bok, ev_bok, ev_bok, show (1 : Int) + (b : Int) = ((1 + b : Nat) : Int) by omega]
          rfl
      · rw [ev_sif, tst 1]
        rfl
    · rw [List.getElem?_set_ne (by omega), k7', wkW_snoc, if_neg (by omega), List.append_nil]
  · have f0 : ((v : Int) == 0) = false := by rw [beq_eq_false_iff_ne]; omega
    by_cases h1 : v = 1
    · subst h1
      refine ⟨4, S1.set (T2.length + 1) (.lst (wkW 0 (l ++ [4]))), some (.int ((1 : Nat) : Int)), ?_, by omega, (hg.trans G1).set (by omega), by simp; omega, ?_, List.getElem?_set_self (by omega), (B1.set (by omega)).mono (by omega)⟩
      · refine set_to (d := .int ((1 : Nat) : Int)) (st1 := S1) (take_ev rfl rfl t1) (if_to (st1 := S1) (by have hz := tst 0 S1; rw [f0] at hz; exact hz) ?_)
        rw [ev_sif]
        show R.then _ (tOf _ [some (.ref B), some (.tup ws), some (.int (n : Int)), some (.ref a3), some (.ref a4), some (.int (i : Int)), some (.ref T2.length), some (.ref (T2.length + 1)), some (.int ((1 : Nat) : Int)), none] S1) _ = _
        rw [tst 1 S1, ev_tok]
        show sExpr _ [some (.ref B), some (.tup ws), some (.int (n : Int)), some (.ref a3), some (.ref a4), some (.int (i : Int)), some (.ref T2.length), some (.ref (T2.length + 1)), some (.int ((1 : Nat) : Int)), none] S1 = _
        rw [ev_expr, app_run (k := T2.length + 1) (d := .int (i : Int)) rfl k7 rfl lw, wkW_snoc, if_pos rfl, ← il]
        rfl
      · rw [List.getElem?_set_ne (by omega), k6, hsW_snoc, if_neg (by omega), List.append_nil]
    · have f1 : ((v : Int) == 1) = false := by rw [beq_eq_false_iff_ne]; omega
      refine ⟨0, S1, some (.int (v : Int)), ?_, by omega, hg.trans G1, by omega, ?_, ?_, B1.mono (by omega)⟩
      · refine set_to (d := .int (v : Int)) (st1 := S1) (take_ev rfl rfl t1) (if_to (st1 := S1) (by have hz := tst 0 S1; rw [f0] at hz; exact hz) ?_)
        rw [ev_sif]
        show R.then _ (tOf _ [some (.ref B), some (.tup ws), some (.int (n : Int)), some (.ref a3), some (.ref a4), some (.int (i : Int)), some (.ref T2.length), some (.ref (T2.length + 1)), some (.int (v : Int)), none] S1) _ = _
        rw [tst 1 S1, f1, ev_tok]
        rfl
      · rw [k6, hsW_snoc, if_neg (by omega), List.append_nil]
      · rw [k7, wkW_snoc, if_neg (by omega), List.append_nil]
theorem rule_run {S : Sto} {B n : Nat} {c : Int} {ws : List D} (h : Bag S B c) (hc : c + 40 < 1000000000) (hn : 0 < n) (hn5 : n ≤ 5) (W : WhOk ws) : ∃ d T, m__law_rule [.ref B, .tup ws, .int (n : Int)] S = .ok d T ∧ Grw S T B ∧ Bag T B (c + 40) ∧ RuleDr ws n d := by
  have hBl := h.lt
  -- the test
  obtain ⟨v, S1, t1, hv, B1, G1, Q1⟩ := take_go (many := 6) h (by omega) (by omega) (by omega)
  obtain ⟨k1, hk1, k14⟩ : ∃ k : Nat, L2.atI [D.int 1, .int 1, .int 0, .int 2, .int 3, .int 4] (v : Int) = some (.int (k : Int)) ∧ k ≤ 4 := by
    have : v = 0 ∨ v = 1 ∨ v = 2 ∨ v = 3 ∨ v = 4 ∨ v = 5 := by omega
    rcases this with rfl | rfl | rfl | rfl | rfl | rfl
    · exact ⟨1, rfl, by omega⟩
    · exact ⟨1, rfl, by omega⟩
    · exact ⟨0, rfl, by omega⟩
    · exact ⟨2, rfl, by omega⟩
    · exact ⟨3, rfl, by omega⟩
    · exact ⟨4, rfl, by omega⟩
  obtain ⟨cs, T1, l1, l2, l3, l4, l5, l6, l7⟩ := lc_draw (S := S1) (v := 9) (K := 3) (xs := rngL 0 k1) (env := [some (.ref B), some (.tup ws), some (.int (n : Int)), none, none, none, none, none, none, none]) (e := eFn m__law_condition (aCons (eVar 0) (aCons (eVar 1) (aCons (eVar 2) aNil)))) (P := fun _ d => CondOk ws n d) B1 (by rw [rngL_length]; omega) fun i x T hx hg hb => by
    obtain ⟨hi, rfl⟩ := rngL_get hx
    obtain ⟨d, T', e1, e2, e3, e4, e5⟩ := cond_run (n := n) hb (by omega) hn hn5 W
    exact ⟨d, T', e1, e2, e4.mono (by omega), e5⟩
  rw [rngL_length] at l5 l6
  -- the changes
  obtain ⟨v2, S2, t2, hv2, B2, G2, Q2⟩ := take_go (many := 5) l5 (by omega) (by omega) (by omega)
  obtain ⟨k2, hk2, k23⟩ : ∃ k : Nat, L2.atI [D.int 1, .int 1, .int 2, .int 0, .int 3] (v2 : Int) = some (.int (k : Int)) ∧ k ≤ 3 := by
    have : v2 = 0 ∨ v2 = 1 ∨ v2 = 2 ∨ v2 = 3 ∨ v2 = 4 := by omega
    rcases this with rfl | rfl | rfl | rfl | rfl
    · exact ⟨1, rfl, by omega⟩
    · exact ⟨1, rfl, by omega⟩
    · exact ⟨2, rfl, by omega⟩
    · exact ⟨0, rfl, by omega⟩
    · exact ⟨3, rfl, by omega⟩
  obtain ⟨chs, T2, m1, m2, m3, m4, m5, m6, m7⟩ := lc_draw (S := S2) (v := 9) (K := 3) (xs := rngL 0 k2) (env := [some (.ref B), some (.tup ws), some (.int (n : Int)), some (.ref S1.length), none, none, none, none, none, none]) (e := eFn m__law_change (aCons (eVar 0) (aCons (eVar 1) aNil))) (P := fun _ d => ChgOk ws d) B2 (by rw [rngL_length]; omega) fun i x T hx hg hb => by
    obtain ⟨hi, rfl⟩ := rngL_get hx
    obtain ⟨d, T', e1, e2, e3, e4, e5⟩ := chg_run hb (by omega) W
    exact ⟨d, T', e1, e2, e4.mono (by omega), e5⟩
  rw [rngL_length] at m5 m6
  have hBT2 : B < T2.length := m5.lt
  have a3 : T2[S1.length]? = some (.lst cs) := by rw [m4.at_ _ (by omega) (by omega), G2.at_ _ (by omega) (by omega)]; exact l3
  have a3l : S1.length < T2.length := (List.getElem?_eq_some_iff.mp a3).1
  -- hushes and wakes
  have hr3 : iRng (eVar 2) [some (.ref B), some (.tup ws), some (.int (n : Int)), some (.ref S1.length), some (.ref S2.length), none, some (.ref T2.length), some (.ref (T2.length + 1)), none, none] (T2 ++ [.lst []] ++ [.lst []]) = .ok (.fix (rngL 0 n)) (T2 ++ [.lst []] ++ [.lst []]) := irng_of rfl (Nat.le_trans hn5 (by decide))
  obtain ⟨env', T3, f1, l, x5, x8, he, hl, hl4, hg, hlen, h6, h7, hB3⟩ := startFor_J (s := .fix (rngL 0 n)) (g := gN 5) (xs := rngL 0 n) (env := [some (.ref B), some (.tup ws), some (.int (n : Int)), some (.ref S1.length), some (.ref S2.length), none, some (.ref T2.length), some (.ref (T2.length + 1)), none, none]) (st := T2 ++ [.lst []] ++ [.lst []])
    (body := sSeq (sSet 8 (eFn s__law_take (aCons (eVar 0) (aCons (eC (.int 5)) aNil)))) (sSeq (sIf (tOf (eBin (dEq false) (eVar 8) (eC (.int 0)))) (sExpr (eMtL mAppend (eVar 6) (aCons (eFn mkTup (aCons (eVar 5) (aCons (eBin dAdd (eC (.int 1)) (eFn s__law_take (aCons (eVar 0) (aCons (eC (.int 3)) aNil)))) aNil))) aNil))) sSkip) (sIf (tOf (eBin (dEq false) (eVar 8) (eC (.int 1)))) (sExpr (eMtL mAppend (eVar 7) (aCons (eVar 5) aNil))) sSkip)))
    (fun i env T => ∃ (l : List Nat) (x5 x8 : Option D), env = [some (.ref B), some (.tup ws), some (.int (n : Int)), some (.ref S1.length), some (.ref S2.length), x5, some (.ref T2.length), some (.ref (T2.length + 1)), x8, none] ∧ l.length = i ∧ (∀ w ∈ l, w ≤ 4) ∧ Grw T2 T B ∧ T2.length + 1 < T.length ∧ T[T2.length]? = some (.lst (hsW 0 l)) ∧ T[T2.length + 1]? = some (.lst (wkW 0 l)) ∧ Bag T B (c + 24 + 2 * i))
    (fun _ _ _ _ => rfl) ⟨[], none, none, rfl, rfl, fun _ h => by simp at h, Grw.app.trans Grw.app, by simp, by rw [List.append_assoc]; exact at_end0, by rw [List.append_assoc]; exact at_end1, ((m5.app).app).mono (by omega)⟩ fun i x env T hx ⟨l, x5, x8, he, hl, hl4, hg, hlen, h6, h7, hB3⟩ => by
      obtain ⟨hi, rfl⟩ := rngL_get hx
      subst he
      obtain ⟨w, T1, y8, e1, e2, e3, e4, e5, e6, e7⟩ := rule_turn (ws := ws) (a3 := S1.length) (a4 := S2.length) (x5 := x5) (x8 := x8) hBT2 hn5 hi hl hl4 hg hlen h6 h7 hB3 (by omega)
      exact ⟨_, _, _, _, rfl, e1, l ++ [w], _, _, rfl, by simp [hl], fun u hu => by rcases List.mem_append.mp hu with hu | hu; exact hl4 u hu; simp only [List.mem_singleton] at hu; omega, e3, e4, e5, e6, e7.mono (by omega)⟩
  rw [rngL_length] at hl hB3
  have b3 : T3[S1.length]? = some (.lst cs) := by rw [hg.at_ _ a3l (by omega)]; exact a3
  have b4 : T3[S2.length]? = some (.lst chs) := by rw [hg.at_ _ m2 (by have := B2.lt; omega)]; exact m3
  refine ⟨.tup [.tup cs, .tup chs, .tup (hsW 0 l), .tup (wkW 0 l)], T3, ?_, ((((G1.trans l4).trans G2).trans m4).trans hg), hB3.mono (by omega), ⟨cs, chs, l, rfl, by omega, by omega, fun c hc => ?_, fun c hc => ?_, hl, hl4⟩⟩
  · have key : b__law_rule [some (.ref B), some (.tup ws), some (.int (n : Int)), none, none, none, none, none, none, none] S = .rt (.tup [.tup cs, .tup chs, .tup (hsW 0 l), .tup (wkW 0 l)]) T3 := by
      unfold b__law_rule
      refine set_to (d := .ref S1.length) (st1 := T1) ?_ (set_to (d := .ref S2.length) (st1 := T2) ?_ (par_to (x := .ref T2.length) (s1 := T2 ++ [.lst []]) (y := .ref (T2.length + 1)) (s2 := T2 ++ [.lst []] ++ [.lst []]) rfl ?_ (seq_to (env1 := env') (st1 := T3) ?_ ?_)))
      · rw [ev_lc, irng_of (n := k1) (st1 := S1) (by
          rw [ev_bin]
          show (R.ok (D.tup [D.int 1, .int 1, .int 0, .int 2, .int 3, .int 4]) S).bind _ = _
          rw [ev_bok, take_ev rfl rfl t1, ev_bok]
          exact ixS rfl hk1) (Nat.le_trans k14 (by decide)), ev_bok]
        show (startLc _ _ _ [some (.ref B), some (.tup ws), some (.int (n : Int)), none, none, none, none, none, none, none] _ S1).hush = _
        rw [l1]
        rfl
      · show cLc _ _ _ _ _ [some (.ref B), some (.tup ws), some (.int (n : Int)), some (.ref S1.length), none, none, none, none, none, none] T1 = _
        rw [ev_lc, irng_of (n := k2) (st1 := S2) (by
          rw [ev_bin]
          show (R.ok (D.tup [D.int 1, .int 1, .int 2, .int 0, .int 3]) T1).bind _ = _
          rw [ev_bok, take_ev rfl rfl t2, ev_bok]
          exact ixS rfl hk2) (Nat.le_trans k23 (by decide)), ev_bok]
        show (startLc _ _ _ [some (.ref B), some (.tup ws), some (.int (n : Int)), some (.ref S1.length), none, none, none, none, none, none] _ S2).hush = _
        rw [m1]
        rfl
      · show R.ok (D.ref (T2 ++ [Ob.lst []]).length) (T2 ++ [Ob.lst []] ++ [Ob.lst []]) = _
        rw [List.length_append]
        rfl
      · simp only [List.set_cons_succ, List.set_cons_zero]
        rw [ev_for, hr3, ev_tok]
        exact f1
      · subst he
        have q1 := fTup_at b3
        have q2 := fTup_at b4
        have q3 := fTup_at h6
        have q4 := fTup_at h7
        simp only [ev_ret, ev_fn, ev_acons, ev_anil, ev_var, ev_bok, ev_tok, List.getElem?_cons_zero, List.getElem?_cons_succ, q1, q2, q3, q4, mkTup_4]
    unfold m__law_rule
    rw [ev_mkfn, if_pos (show [D.ref B, .tup ws, .int (n : Int)].length = 3 from rfl)]
    show endFn (b__law_rule [some (.ref B), some (.tup ws), some (.int (n : Int)), none, none, none, none, none, none, none] S) = _
    rw [key]
    rfl
  · obtain ⟨i, hi⟩ := List.getElem?_of_mem hc
    exact l7 i c hi
  · obtain ⟨i, hi⟩ := List.getElem?_of_mem hc
    exact m7 i c hi

end Hd
set_option Elab.async false
set_option linter.all false
set_option maxRecDepth 100000
set_option maxHeartbeats 1000000
namespace Hd
open PySem U
local macro_rules | `(tactic| walk_at "ex1") => `(tactic| first | (with_reducible refine w_seq ?_) | (with_reducible refine w_set ?_) | (with_reducible refine w_ret ?_) | (with_reducible refine w_sif ?_) | (with_reducible refine w_asg2 ?_) | (with_reducible refine w_asg3 ?_) | (with_reducible refine w_asg4 ?_) | (with_reducible refine w_ex2 ?_) | (with_reducible refine w_ex3 ?_) | (with_reducible refine w_ex4 ?_) | (with_reducible refine w_par ?_) | (with_reducible refine w_par3 ?_) | (with_reducible refine w_expr ?_) | (with_reducible refine w_for ?_) | (with_reducible refine w_skip ?_) | (with_reducible refine w_fn ?_) | (with_reducible refine w_acons ?_) | (with_reducible refine w_anil ?_) | (with_reducible refine w_aapp ?_) | (with_reducible refine w_bin ?_) | (with_reducible refine w_un ?_) | (with_reducible refine w_c ?_) | (with_reducible refine w_tof ?_) | (with_reducible refine w_tob ?_) | (with_reducible refine w_tand ?_) | (with_reducible refine w_tor ?_) | (with_reducible refine w_tnot ?_) | (with_reducible refine w_eand ?_) | (with_reducible refine w_eor ?_) | (with_reducible refine w_enot ?_) | (with_reducible refine w_exb ?_) | (with_reducible refine w_exi ?_) | (with_reducible refine w_if ?_) | (with_reducible refine w_slice ?_) | (with_reducible refine w_onone ?_) | (with_reducible refine w_osome ?_) | (with_reducible refine w_lc ?_) | (with_reducible refine w_lc2 ?_) | (with_reducible refine w_mtl ?_) | (with_reducible refine w_iseq ?_) | (with_reducible refine w_irng ?_) | (with_reducible refine w_ienum ?_) | (with_reducible refine w_ibin ?_) | (with_reducible refine w_true ?_) | (with_reducible refine cond_t ?_) | (with_reducible refine cond_f ?_))
local macro_rules | `(tactic| walk_at "ex2") => `(tactic| first | (with_reducible refine w_addI ?_) | (with_reducible refine w_subI ?_) | (with_reducible refine w_ltI ?_) | (with_reducible refine w_leI ?_) | (with_reducible refine w_gtI ?_) | (with_reducible refine w_geI ?_) | (with_reducible refine w_eqI ?_) | (with_reducible refine w_neI ?_) | (with_reducible refine w_negI ?_) | (with_reducible refine w_maxI ?_) | (with_reducible refine w_minI ?_) | (with_reducible refine w_lenT ?_) | (with_reducible refine w_slT ?_) | (with_reducible refine w_sseq ?_) | (with_reducible refine w_senum ?_) | (with_reducible refine w_szip ?_) | (with_reducible refine w_eqB ?_) | (with_reducible refine w_neB ?_))
local macro_rules | `(tactic| walk_at "ex3") => `(tactic| first | ((with_reducible apply w_var); (focus exact rfl)) | ((with_reducible apply w_aug); (focus exact rfl)) | ((with_reducible apply w_thaw); (focus exact rfl); (focus with_reducible assumption)) | ((with_reducible apply w_idxZ); (focus exact rfl); (focus with_reducible assumption)) | ((with_reducible apply wr_by); (focus with_reducible assumption)) | ((with_reducible apply w_via); (focus exact rfl)) | ((with_reducible apply w_mkTup); (focus exact Nat.le_of_ble_eq_true rfl)) | ((with_reducible apply w_mkLst); (focus exact Nat.le_of_ble_eq_true rfl)) | ((with_reducible apply w_ix); (focus exact rfl); (focus exact rfl)) | ((with_reducible apply w_lenL); (focus with_reducible assumption)) | ((with_reducible apply w_lenL); (focus with_reducible exact get_end)) | ((with_reducible apply w_isl); (focus with_reducible assumption)) | ((with_reducible apply w_append); (focus with_reducible assumption); (focus with_reducible assumption)) | ((with_reducible apply w_slL); (focus with_reducible assumption)) | ((with_reducible apply w_enumL); (focus with_reducible assumption)) | ((with_reducible apply w_tupL); (focus with_reducible assumption)) | ((with_reducible apply w_sdyn); (focus with_reducible assumption)) | ((with_reducible apply w_isi); (focus exact rfl)) | ((with_reducible apply w_isi2); (focus exact rfl)) | ((with_reducible apply w_eqS); (focus decide +kernel); (focus decide +kernel)) | ((with_reducible apply cond_af); (focus exact rfl)) | ((with_reducible apply cond_at); (focus exact rfl)) | ((with_reducible apply cond_af); (focus decide +kernel)) | ((with_reducible apply cond_at); (focus decide +kernel)))
local macro_rules | `(tactic| walk_at "go") => `(tactic| repeat (first | walk_at "ex1" | walk_at "ex2" | walk_at "ex3"))
theorem rules_run {S : Sto} {B n : Nat} {c : Int} {ws : List D} (h : Bag S B c) (hc : c + 200 < 1000000000) (hn5 : n ≤ 5) (W : WhOk ws) : ∃ rs T, m__law_rules [.ref B, .tup ws, .int (n : Int)] S = .ok (.tup rs) T ∧ Grw S T B ∧ Bag T B (c + 200) ∧ rs.length = n ∧ ∀ r ∈ rs, RuleDr ws n r := by
  obtain ⟨rs, T, l1, l2, l3, l4, l5, l6, l7⟩ := lc_draw (S := S) (v := 3) (K := 40) (xs := rngL 0 n) (env := [some (.ref B), some (.tup ws), some (.int (n : Int)), none]) (e := eFn m__law_rule (aCons (eVar 0) (aCons (eVar 1) (aCons (eVar 2) aNil)))) (P := fun _ d => RuleDr ws n d) h (by rw [rngL_length]; omega) fun i x T hx hg hb => by
    obtain ⟨hi, rfl⟩ := rngL_get hx
    obtain ⟨d, T', e1, e2, e4, e5⟩ := rule_run (n := n) hb (by omega) (by omega) hn5 W
    exact ⟨d, T', e1, e2, e4.mono (by omega), e5⟩
  rw [rngL_length] at l5 l6
  refine ⟨rs, T, ?_, l4, l5.mono (by omega), l6, fun r hr => by obtain ⟨i, hi⟩ := List.getElem?_of_mem hr; exact l7 i r hi⟩
  have key : b__law_rules [some (.ref B), some (.tup ws), some (.int (n : Int)), none] S = .rt (.tup rs) T := by
    unfold b__law_rules
    rw [ev_ret, ev_fn, ev_acons, ev_lc, irng_of (n := n) (st1 := S) rfl (Nat.le_trans hn5 (by decide)), ev_bok]
    show (((((startLc _ _ _ [some (.ref B), some (.tup ws), some (.int (n : Int)), none] _ S).hush).bind _).bind _)).then _ _ = _
    rw [l1, ev_hok, ev_bok, ev_anil, ev_bok, ev_bok, fTup_at l3, ev_tok]
  unfold m__law_rules
  rw [ev_mkfn, if_pos (show [D.ref B, .tup ws, .int (n : Int)].length = 3 from rfl)]
  show endFn (b__law_rules [some (.ref B), some (.tup ws), some (.int (n : Int)), none] S) = _
  rw [key]
  rfl
structure DrawOk (ws rs : List D) : Prop where
  wh : WhOk ws
  n5 : rs.length ≤ 5
  ru : ∀ r ∈ rs, RuleDr ws rs.length r
theorem runLc_T {xs : List D} {g : GM} {t : TM} {e : EM} {env : Ev} {k : Nat} (J : Nat → List D → Sto → Prop) (hk : ∀ i acc st, J i acc st → acc.length < most)
    (h : ∀ i x acc st, xs[i]? = some x → J i acc st → ∃ env1 st1 b st2, g x env st = some (env1, st1) ∧ t env1 st = .ok b st2 ∧ (b = false → J (i + 1) acc st2) ∧ (b = true → ∃ d st3, e env1 st2 = .ok d st3 ∧ st3[k]? = some (.lst acc) ∧ J (i + 1) (acc ++ [d]) (st3.set k (.lst (acc ++ [d]))))) :
    ∀ (n i : Nat) (acc : List D) (st : Sto), xs.length = i + n → J i acc st → ∃ acc' st', runLc (.fix xs) g t e k env (n + 1) i st = .ok (.ref k) st' ∧ J xs.length acc' st'
  | 0, i, acc, st, hn, hJ => by
    have e : i = xs.length := by omega
    subst e
    refine ⟨acc, st, ?_, hJ⟩
    unfold runLc
    simp only [Src.at]
    rw [List.getElem?_eq_none (Nat.le_refl _)]
  | n + 1, i, acc, st, hn, hJ => by
    have hi : i < xs.length := by omega
    obtain ⟨env1, st1, b, st2, h1, h2, h3, h4⟩ := h i xs[i] acc st (List.getElem?_eq_getElem hi) hJ
    cases b with
    | false =>
      obtain ⟨acc', st', h5, h6⟩ := runLc_T J hk h n (i + 1) acc st2 (by omega) (h3 rfl)
      refine ⟨acc', st', ?_, h6⟩
      unfold runLc
      simp only [Src.at]
      rw [List.getElem?_eq_getElem hi]
      simp only [h1, h2, R.bind]
      exact h5
    | true =>
      obtain ⟨d, st3, q1, q2, q3⟩ := h4 rfl
      obtain ⟨acc', st', h5, h6⟩ := runLc_T J hk h n (i + 1) (acc ++ [d]) _ (by omega) q3
      refine ⟨acc', st', ?_, h6⟩
      unfold runLc
      simp only [Src.at]
      rw [List.getElem?_eq_getElem hi]
      simp only [h1, h2, R.bind, if_true, q1, q2]
      rw [if_pos (hk _ _ _ hJ)]
      exact h5
theorem rising_ok {n : Nat} {l : List Nat} (h1 : l.Pairwise (· < ·)) (h2 : ∀ x ∈ l, x < n) : risingD n (.tup (l.map fun (x : Nat) => D.int x)) = true := by
  simp only [risingD, Bool.and_eq_true]
  refine ⟨List.all_eq_true.mpr fun d hd => ?_, zip_all fun i x y hx hy => ?_⟩
  · obtain ⟨x, hx, rfl⟩ := List.mem_map.mp hd
    have := h2 x hx
    have a1 : (0 : Int) ≤ (x : Int) := by omega
    have a2 : (x : Int) ≤ (n : Int) - 1 := by omega
    simp only [withinD, decide_eq_true a1, Bool.true_and]
    exact decide_eq_true a2
  · rw [List.getElem?_drop] at hy
    rw [List.getElem?_map] at hx hy
    obtain ⟨a, ha, rfl⟩ := Option.map_eq_some_iff.mp hx
    obtain ⟨b, hb, rfl⟩ := Option.map_eq_some_iff.mp hy
    have hi : i < l.length := (List.getElem?_eq_some_iff.mp ha).1
    have hj : 1 + i < l.length := (List.getElem?_eq_some_iff.mp hb).1
    have := List.pairwise_iff_getElem.mp h1 i (1 + i) hi hj (by omega)
    rw [(List.getElem?_eq_some_iff.mp ha).2, (List.getElem?_eq_some_iff.mp hb).2] at this
    simp only [wI]
    exact decide_eq_true (by omega)

end Hd
set_option Elab.async false
set_option linter.all false
set_option maxRecDepth 100000
set_option maxHeartbeats 1000000
namespace Hd
open PySem U
local macro_rules | `(tactic| walk_at "ex1") => `(tactic| first | (with_reducible refine w_seq ?_) | (with_reducible refine w_set ?_) | (with_reducible refine w_ret ?_) | (with_reducible refine w_sif ?_) | (with_reducible refine w_asg2 ?_) | (with_reducible refine w_asg3 ?_) | (with_reducible refine w_asg4 ?_) | (with_reducible refine w_ex2 ?_) | (with_reducible refine w_ex3 ?_) | (with_reducible refine w_ex4 ?_) | (with_reducible refine w_par ?_) | (with_reducible refine w_par3 ?_) | (with_reducible refine w_expr ?_) | (with_reducible refine w_for ?_) | (with_reducible refine w_skip ?_) | (with_reducible refine w_fn ?_) | (with_reducible refine w_acons ?_) | (with_reducible refine w_anil ?_) | (with_reducible refine w_aapp ?_) | (with_reducible refine w_bin ?_) | (with_reducible refine w_un ?_) | (with_reducible refine w_c ?_) | (with_reducible refine w_tof ?_) | (with_reducible refine w_tob ?_) | (with_reducible refine w_tand ?_) | (with_reducible refine w_tor ?_) | (with_reducible refine w_tnot ?_) | (with_reducible refine w_eand ?_) | (with_reducible refine w_eor ?_) | (with_reducible refine w_enot ?_) | (with_reducible refine w_exb ?_) | (with_reducible refine w_exi ?_) | (with_reducible refine w_if ?_) | (with_reducible refine w_slice ?_) | (with_reducible refine w_onone ?_) | (with_reducible refine w_osome ?_) | (with_reducible refine w_lc ?_) | (with_reducible refine w_lc2 ?_) | (with_reducible refine w_mtl ?_) | (with_reducible refine w_iseq ?_) | (with_reducible refine w_irng ?_) | (with_reducible refine w_ienum ?_) | (with_reducible refine w_ibin ?_) | (with_reducible refine w_true ?_) | (with_reducible refine cond_t ?_) | (with_reducible refine cond_f ?_))
local macro_rules | `(tactic| walk_at "ex2") => `(tactic| first | (with_reducible refine w_addI ?_) | (with_reducible refine w_subI ?_) | (with_reducible refine w_ltI ?_) | (with_reducible refine w_leI ?_) | (with_reducible refine w_gtI ?_) | (with_reducible refine w_geI ?_) | (with_reducible refine w_eqI ?_) | (with_reducible refine w_neI ?_) | (with_reducible refine w_negI ?_) | (with_reducible refine w_maxI ?_) | (with_reducible refine w_minI ?_) | (with_reducible refine w_lenT ?_) | (with_reducible refine w_slT ?_) | (with_reducible refine w_sseq ?_) | (with_reducible refine w_senum ?_) | (with_reducible refine w_szip ?_) | (with_reducible refine w_eqB ?_) | (with_reducible refine w_neB ?_))
local macro_rules | `(tactic| walk_at "ex3") => `(tactic| first | ((with_reducible apply w_var); (focus exact rfl)) | ((with_reducible apply w_aug); (focus exact rfl)) | ((with_reducible apply w_thaw); (focus exact rfl); (focus with_reducible assumption)) | ((with_reducible apply w_idxZ); (focus exact rfl); (focus with_reducible assumption)) | ((with_reducible apply wr_by); (focus with_reducible assumption)) | ((with_reducible apply w_via); (focus exact rfl)) | ((with_reducible apply w_mkTup); (focus exact Nat.le_of_ble_eq_true rfl)) | ((with_reducible apply w_mkLst); (focus exact Nat.le_of_ble_eq_true rfl)) | ((with_reducible apply w_ix); (focus exact rfl); (focus exact rfl)) | ((with_reducible apply w_lenL); (focus with_reducible assumption)) | ((with_reducible apply w_lenL); (focus with_reducible exact get_end)) | ((with_reducible apply w_isl); (focus with_reducible assumption)) | ((with_reducible apply w_append); (focus with_reducible assumption); (focus with_reducible assumption)) | ((with_reducible apply w_slL); (focus with_reducible assumption)) | ((with_reducible apply w_enumL); (focus with_reducible assumption)) | ((with_reducible apply w_tupL); (focus with_reducible assumption)) | ((with_reducible apply w_sdyn); (focus with_reducible assumption)) | ((with_reducible apply w_isi); (focus exact rfl)) | ((with_reducible apply w_isi2); (focus exact rfl)) | ((with_reducible apply w_eqS); (focus decide +kernel); (focus decide +kernel)) | ((with_reducible apply cond_af); (focus exact rfl)) | ((with_reducible apply cond_at); (focus exact rfl)) | ((with_reducible apply cond_af); (focus decide +kernel)) | ((with_reducible apply cond_at); (focus decide +kernel)))
local macro_rules | `(tactic| walk_at "go") => `(tactic| repeat (first | walk_at "ex1" | walk_at "ex2" | walk_at "ex3"))
theorem drawn_run_ok {ws rs : List D} {l : List Nat} (Dr : DrawOk ws rs) (h1 : l.Pairwise (· < ·)) (h2 : ∀ x ∈ l, x < rs.length) (h3 : l.length ≤ rs.length) : RunOk ws rs (l.map fun (x : Nat) => D.int x) where
  book := fun r hr => (Dr.ru r hr).ok
  n5 := Dr.n5
  w3 := Dr.wh.l3
  w4 := fun w hw => let ⟨m, e, _, h⟩ := Dr.wh.w w hw; ⟨m, e, h⟩
  offI := List.all_eq_true.mpr fun d hd => by obtain ⟨x, _, rfl⟩ := List.mem_map.mp hd; rfl
  offL := by rw [List.length_map]; exact Nat.le_trans h3 Dr.n5
theorem WhOk.D {ws : List D} (W : WhOk ws) : wheelsD (.tup ws) = true := by
  have h1 := W.l1
  have h3 := W.l3
  have hp := W.pr
  have ha : ws.all (withinD 2 4) = true := List.all_eq_true.mpr fun w hw => by
    obtain ⟨m, rfl, h2, h4⟩ := W.w w hw
    simp only [withinD, Bool.and_eq_true, decide_eq_true_eq]
    omega
  simp only [wheelsD, ha, decide_eq_true h1, decide_eq_true h3, decide_eq_true hp, Bool.and_self]
theorem cond_dk {ws : List D} {n : Nat} {c : D} {S : Sto} (h : CondOk ws n c) : dk S c = true := by
  rcases h with ⟨w, x, p, m, rfl, _⟩ | ⟨w, q, rfl, _⟩ <;> simp [dk, dks]
theorem chg_dk {ws : List D} {c : D} {S : Sto} (h : ChgOk ws c) : dk S c = true := by
  obtain ⟨w, x, p, m, rfl, _⟩ := h
  simp [dk, dks]
theorem rule_dk {ws : List D} {n : Nat} {r : D} {S : Sto} (h : RuleOk ws n r) : dk S r = true := by
  obtain ⟨cs, chs, hs, wk, rfl, h1, h2, h3, h4⟩ := h
  refine dk_of fun x hx => ?_
  have : x = .tup cs ∨ x = .tup chs ∨ x = .tup hs ∨ x = .tup wk := by simpa using hx
  rcases this with rfl | rfl | rfl | rfl
  · exact dk_of fun c hc => cond_dk (h1 c hc)
  · exact dk_of fun c hc => chg_dk (h2 c hc)
  · exact dk_of fun c hc => by obtain ⟨q, b, rfl, _⟩ := h3 c hc; simp [U.dk, dks]
  · exact dk_of fun c hc => by obtain ⟨q, rfl, _⟩ := h4 c hc; simp [U.dk]
theorem DrawOk.made {ws rs : List D} {S : Sto} (Dr : DrawOk ws rs) : mkIns "Book" s_Book_init [.tup ws, .tup rs] S = .ok (.ref S.length) (S ++ [bookO ws rs]) :=
  book_made (dk_of fun w hw => by obtain ⟨m, rfl, _⟩ := Dr.wh.w w hw; simp only [dk]) (dk_of fun r hr => rule_dk (Dr.ru r hr).ok) Dr.wh.D Dr.n5 (List.all_eq_true.mpr fun r hr => (Dr.ru r hr).D Dr.n5)

end Hd
set_option Elab.async false
set_option linter.all false
set_option maxRecDepth 100000
set_option maxHeartbeats 1000000
namespace Hd
open PySem U
local macro_rules | `(tactic| walk_at "ex1") => `(tactic| first | (with_reducible refine w_seq ?_) | (with_reducible refine w_set ?_) | (with_reducible refine w_ret ?_) | (with_reducible refine w_sif ?_) | (with_reducible refine w_asg2 ?_) | (with_reducible refine w_asg3 ?_) | (with_reducible refine w_asg4 ?_) | (with_reducible refine w_ex2 ?_) | (with_reducible refine w_ex3 ?_) | (with_reducible refine w_ex4 ?_) | (with_reducible refine w_par ?_) | (with_reducible refine w_par3 ?_) | (with_reducible refine w_expr ?_) | (with_reducible refine w_for ?_) | (with_reducible refine w_skip ?_) | (with_reducible refine w_fn ?_) | (with_reducible refine w_acons ?_) | (with_reducible refine w_anil ?_) | (with_reducible refine w_aapp ?_) | (with_reducible refine w_bin ?_) | (with_reducible refine w_un ?_) | (with_reducible refine w_c ?_) | (with_reducible refine w_tof ?_) | (with_reducible refine w_tob ?_) | (with_reducible refine w_tand ?_) | (with_reducible refine w_tor ?_) | (with_reducible refine w_tnot ?_) | (with_reducible refine w_eand ?_) | (with_reducible refine w_eor ?_) | (with_reducible refine w_enot ?_) | (with_reducible refine w_exb ?_) | (with_reducible refine w_exi ?_) | (with_reducible refine w_if ?_) | (with_reducible refine w_slice ?_) | (with_reducible refine w_onone ?_) | (with_reducible refine w_osome ?_) | (with_reducible refine w_lc ?_) | (with_reducible refine w_lc2 ?_) | (with_reducible refine w_mtl ?_) | (with_reducible refine w_iseq ?_) | (with_reducible refine w_irng ?_) | (with_reducible refine w_ienum ?_) | (with_reducible refine w_ibin ?_) | (with_reducible refine w_true ?_) | (with_reducible refine cond_t ?_) | (with_reducible refine cond_f ?_))
local macro_rules | `(tactic| walk_at "ex2") => `(tactic| first | (with_reducible refine w_addI ?_) | (with_reducible refine w_subI ?_) | (with_reducible refine w_ltI ?_) | (with_reducible refine w_leI ?_) | (with_reducible refine w_gtI ?_) | (with_reducible refine w_geI ?_) | (with_reducible refine w_eqI ?_) | (with_reducible refine w_neI ?_) | (with_reducible refine w_negI ?_) | (with_reducible refine w_maxI ?_) | (with_reducible refine w_minI ?_) | (with_reducible refine w_lenT ?_) | (with_reducible refine w_slT ?_) | (with_reducible refine w_sseq ?_) | (with_reducible refine w_senum ?_) | (with_reducible refine w_szip ?_) | (with_reducible refine w_eqB ?_) | (with_reducible refine w_neB ?_))
local macro_rules | `(tactic| walk_at "ex3") => `(tactic| first | ((with_reducible apply w_var); (focus exact rfl)) | ((with_reducible apply w_aug); (focus exact rfl)) | ((with_reducible apply w_thaw); (focus exact rfl); (focus with_reducible assumption)) | ((with_reducible apply w_idxZ); (focus exact rfl); (focus with_reducible assumption)) | ((with_reducible apply wr_by); (focus with_reducible assumption)) | ((with_reducible apply w_via); (focus exact rfl)) | ((with_reducible apply w_mkTup); (focus exact Nat.le_of_ble_eq_true rfl)) | ((with_reducible apply w_mkLst); (focus exact Nat.le_of_ble_eq_true rfl)) | ((with_reducible apply w_ix); (focus exact rfl); (focus exact rfl)) | ((with_reducible apply w_lenL); (focus with_reducible assumption)) | ((with_reducible apply w_lenL); (focus with_reducible exact get_end)) | ((with_reducible apply w_isl); (focus with_reducible assumption)) | ((with_reducible apply w_append); (focus with_reducible assumption); (focus with_reducible assumption)) | ((with_reducible apply w_slL); (focus with_reducible assumption)) | ((with_reducible apply w_enumL); (focus with_reducible assumption)) | ((with_reducible apply w_tupL); (focus with_reducible assumption)) | ((with_reducible apply w_sdyn); (focus with_reducible assumption)) | ((with_reducible apply w_isi); (focus exact rfl)) | ((with_reducible apply w_isi2); (focus exact rfl)) | ((with_reducible apply w_eqS); (focus decide +kernel); (focus decide +kernel)) | ((with_reducible apply cond_af); (focus exact rfl)) | ((with_reducible apply cond_at); (focus exact rfl)) | ((with_reducible apply cond_af); (focus decide +kernel)) | ((with_reducible apply cond_at); (focus decide +kernel)))
local macro_rules | `(tactic| walk_at "go") => `(tactic| repeat (first | walk_at "ex1" | walk_at "ex2" | walk_at "ex3"))
section
variable {T : Sto} {bk : Nat} {ws rs off : List D} {s : D}
theorem c4 {f : Fm} {env : Ev} {l : List U.Arg} {i j k m : Nat} {a b c d : D} (h1 : env[i]? = some (some a)) (h2 : env[j]? = some (some b)) (h3 : env[k]? = some (some c)) (h4 : env[m]? = some (some d)) : eFn (via l f) (aApp (aCons (eVar i) (aCons (eVar j) (aCons (eVar k) aNil))) (aCons (eVar m) aNil)) env T = via l f [a, b, c, d] T := by
  unfold eFn aApp aCons aNil eVar
  rw [h1, h2, h3, h4]
  rfl
theorem c5 {f : Fm} {env : Ev} {l : List U.Arg} {g : EM} {i j k m : Nat} {a b c d e : D} (h1 : env[i]? = some (some a)) (h2 : env[j]? = some (some b)) (h3 : env[k]? = some (some c)) (h4 : g env T = .ok d T) (h5 : env[m]? = some (some e)) : eFn (via l f) (aApp (aCons (eVar i) (aCons (eVar j) (aCons (eVar k) (aCons g aNil)))) (aCons (eVar m) aNil)) env T = via l f [a, b, c, d, e] T := by
  unfold eFn aApp aCons aNil eVar
  rw [h1, h2, h3, h5]
  simp only [R.bind, h4]
  rfl
theorem ev_at {env : Ev} {i : Nat} {d : D} (h : env[i]? = some (some d)) : eVar i env T = .ok d T := by unfold eVar; rw [h]
theorem ret_to {g : EM} {env : Ev} {d : D} {T1 : Sto} (h : g env T = .ok d T1) : sRet g env T = .rt d T1 := by unfold sRet; rw [h]; rfl
end

end Hd
set_option Elab.async false
set_option linter.all false
set_option maxRecDepth 100000
set_option maxHeartbeats 1000000
namespace Hd
open PySem U
local macro_rules | `(tactic| walk_at "ex1") => `(tactic| first | (with_reducible refine w_seq ?_) | (with_reducible refine w_set ?_) | (with_reducible refine w_ret ?_) | (with_reducible refine w_sif ?_) | (with_reducible refine w_asg2 ?_) | (with_reducible refine w_asg3 ?_) | (with_reducible refine w_asg4 ?_) | (with_reducible refine w_ex2 ?_) | (with_reducible refine w_ex3 ?_) | (with_reducible refine w_ex4 ?_) | (with_reducible refine w_par ?_) | (with_reducible refine w_par3 ?_) | (with_reducible refine w_expr ?_) | (with_reducible refine w_for ?_) | (with_reducible refine w_skip ?_) | (with_reducible refine w_fn ?_) | (with_reducible refine w_acons ?_) | (with_reducible refine w_anil ?_) | (with_reducible refine w_aapp ?_) | (with_reducible refine w_bin ?_) | (with_reducible refine w_un ?_) | (with_reducible refine w_c ?_) | (with_reducible refine w_tof ?_) | (with_reducible refine w_tob ?_) | (with_reducible refine w_tand ?_) | (with_reducible refine w_tor ?_) | (with_reducible refine w_tnot ?_) | (with_reducible refine w_eand ?_) | (with_reducible refine w_eor ?_) | (with_reducible refine w_enot ?_) | (with_reducible refine w_exb ?_) | (with_reducible refine w_exi ?_) | (with_reducible refine w_if ?_) | (with_reducible refine w_slice ?_) | (with_reducible refine w_onone ?_) | (with_reducible refine w_osome ?_) | (with_reducible refine w_lc ?_) | (with_reducible refine w_lc2 ?_) | (with_reducible refine w_mtl ?_) | (with_reducible refine w_iseq ?_) | (with_reducible refine w_irng ?_) | (with_reducible refine w_ienum ?_) | (with_reducible refine w_ibin ?_) | (with_reducible refine w_true ?_) | (with_reducible refine cond_t ?_) | (with_reducible refine cond_f ?_))
local macro_rules | `(tactic| walk_at "ex2") => `(tactic| first | (with_reducible refine w_addI ?_) | (with_reducible refine w_subI ?_) | (with_reducible refine w_ltI ?_) | (with_reducible refine w_leI ?_) | (with_reducible refine w_gtI ?_) | (with_reducible refine w_geI ?_) | (with_reducible refine w_eqI ?_) | (with_reducible refine w_neI ?_) | (with_reducible refine w_negI ?_) | (with_reducible refine w_maxI ?_) | (with_reducible refine w_minI ?_) | (with_reducible refine w_lenT ?_) | (with_reducible refine w_slT ?_) | (with_reducible refine w_sseq ?_) | (with_reducible refine w_senum ?_) | (with_reducible refine w_szip ?_) | (with_reducible refine w_eqB ?_) | (with_reducible refine w_neB ?_))
local macro_rules | `(tactic| walk_at "ex3") => `(tactic| first | ((with_reducible apply w_var); (focus exact rfl)) | ((with_reducible apply w_aug); (focus exact rfl)) | ((with_reducible apply w_thaw); (focus exact rfl); (focus with_reducible assumption)) | ((with_reducible apply w_idxZ); (focus exact rfl); (focus with_reducible assumption)) | ((with_reducible apply wr_by); (focus with_reducible assumption)) | ((with_reducible apply w_via); (focus exact rfl)) | ((with_reducible apply w_mkTup); (focus exact Nat.le_of_ble_eq_true rfl)) | ((with_reducible apply w_mkLst); (focus exact Nat.le_of_ble_eq_true rfl)) | ((with_reducible apply w_ix); (focus exact rfl); (focus exact rfl)) | ((with_reducible apply w_lenL); (focus with_reducible assumption)) | ((with_reducible apply w_lenL); (focus with_reducible exact get_end)) | ((with_reducible apply w_isl); (focus with_reducible assumption)) | ((with_reducible apply w_append); (focus with_reducible assumption); (focus with_reducible assumption)) | ((with_reducible apply w_slL); (focus with_reducible assumption)) | ((with_reducible apply w_enumL); (focus with_reducible assumption)) | ((with_reducible apply w_tupL); (focus with_reducible assumption)) | ((with_reducible apply w_sdyn); (focus with_reducible assumption)) | ((with_reducible apply w_isi); (focus exact rfl)) | ((with_reducible apply w_isi2); (focus exact rfl)) | ((with_reducible apply w_eqS); (focus decide +kernel); (focus decide +kernel)) | ((with_reducible apply cond_af); (focus exact rfl)) | ((with_reducible apply cond_at); (focus exact rfl)) | ((with_reducible apply cond_af); (focus decide +kernel)) | ((with_reducible apply cond_at); (focus decide +kernel)))
local macro_rules | `(tactic| walk_at "go") => `(tactic| repeat (first | walk_at "ex1" | walk_at "ex2" | walk_at "ex3"))
section
variable {B : Nat} {ps : List (Nat × Ob)} {T : Sto} {c : Int}
theorem take_s (H : Stg B ps T c) {many : Int} (h0 : 0 < many) (h1 : many < 1000000000000000000000000000000000000000000000000000000000001) (hc : c + 1 < 1000000000) : ∃ (v : Nat) (T' : Sto), s__law_take [.ref B, .int many] T = .ok (.int (v : Int)) T' ∧ (v : Int) < many ∧ Stg B ps T' (c + 1) := by
  obtain ⟨v, T', t, hv, b, G, _⟩ := take_go (many := many) H.bag h0 h1 hc
  exact ⟨v, T', t, hv, H.grw G b⟩
theorem bag_s {ob : Ob} {ns : List Int} {k : Nat} {st : Sto} (hob : ∀ s : Sto, s[0]? = some ob → lstOf s 0 = some (ns.map D.int)) (hn : ns.length ≤ 63) (hk : k < 100) (h0 : st[0]? = some ob) : ∃ T', s__law_bag [.ref 0, .int (k : Int)] st = .ok (.ref st.length) T' ∧ Stg st.length [(0, ob)] T' 0 := by
  have q1 : s__law_bag [.ref 0, .int (k : Int)] st = _ := bag_of (hob st h0) (by omega) (by omega)
  have hpos : 0 < st.length := (List.getElem?_eq_some_iff.mp h0).1
  refine ⟨_, q1, ⟨⟨_, _, _, get_end, ⟨(bagX_range _ _).1, (bagX_range _ _).2, by omega, by omega⟩, Int.le_refl _⟩, fun p hp => ?_, fun p hp => ?_⟩⟩
  · obtain rfl := List.mem_singleton.mp hp
    exact get0 h0
  · obtain rfl := List.mem_singleton.mp hp
    exact Nat.ne_of_lt hpos
structure OffOk (ws rs off : List D) : Prop where
  run : RunOk ws rs off
  rise : risingD rs.length (.tup off) = true
  ex : ∃ l : List Nat, off = l.map (fun (x : Nat) => D.int x) ∧ l.Pairwise (· < ·) ∧ (∀ x ∈ l, x < rs.length) ∧ l.length ≤ rs.length
theorem OffOk.of {ws rs : List D} (Dr : DrawOk ws rs) {l : List Nat} (p1 : l.Pairwise (· < ·)) (p2 : ∀ x ∈ l, x < rs.length) (p3 : l.length ≤ rs.length) : OffOk ws rs (l.map fun (x : Nat) => D.int x) := ⟨drawn_run_ok Dr p1 p2 p3, rising_ok p1 p2, l, rfl, p1, p2, p3⟩
theorem OffOk.nil {ws rs : List D} (Dr : DrawOk ws rs) : OffOk ws rs [] := OffOk.of (l := []) Dr List.Pairwise.nil (fun _ h => absurd h List.not_mem_nil) (Nat.zero_le _)
theorem book_s {ws rs : List D} (H : Stg B ps T c) (Dr : DrawOk ws rs) : ∃ T', mkIns "Book" s_Book_init [.tup ws, .tup rs] T = .ok (.ref T.length) T' ∧ Stg B ((T.length, bookO ws rs) :: ps) T' c := ⟨_, Dr.made, H.new _⟩
theorem DrawOk.few {ws rs : List D} (Dr : DrawOk ws rs) : FewC rs := fun cs a b c h => by
  obtain ⟨cs', chs, l, e, h4, _⟩ := (Dr.ru _ h).ex
  cases e
  exact Nat.le_trans h4 (by decide)
end
end Hd
set_option Elab.async false
set_option linter.all false
set_option maxRecDepth 100000
set_option maxHeartbeats 1000000
namespace Hd
open PySem U
local macro_rules | `(tactic| walk_at "ex1") => `(tactic| first | (with_reducible refine w_seq ?_) | (with_reducible refine w_set ?_) | (with_reducible refine w_ret ?_) | (with_reducible refine w_sif ?_) | (with_reducible refine w_asg2 ?_) | (with_reducible refine w_asg3 ?_) | (with_reducible refine w_asg4 ?_) | (with_reducible refine w_ex2 ?_) | (with_reducible refine w_ex3 ?_) | (with_reducible refine w_ex4 ?_) | (with_reducible refine w_par ?_) | (with_reducible refine w_par3 ?_) | (with_reducible refine w_expr ?_) | (with_reducible refine w_for ?_) | (with_reducible refine w_skip ?_) | (with_reducible refine w_fn ?_) | (with_reducible refine w_acons ?_) | (with_reducible refine w_anil ?_) | (with_reducible refine w_aapp ?_) | (with_reducible refine w_bin ?_) | (with_reducible refine w_un ?_) | (with_reducible refine w_c ?_) | (with_reducible refine w_tof ?_) | (with_reducible refine w_tob ?_) | (with_reducible refine w_tand ?_) | (with_reducible refine w_tor ?_) | (with_reducible refine w_tnot ?_) | (with_reducible refine w_eand ?_) | (with_reducible refine w_eor ?_) | (with_reducible refine w_enot ?_) | (with_reducible refine w_exb ?_) | (with_reducible refine w_exi ?_) | (with_reducible refine w_if ?_) | (with_reducible refine w_slice ?_) | (with_reducible refine w_onone ?_) | (with_reducible refine w_osome ?_) | (with_reducible refine w_lc ?_) | (with_reducible refine w_lc2 ?_) | (with_reducible refine w_mtl ?_) | (with_reducible refine w_iseq ?_) | (with_reducible refine w_irng ?_) | (with_reducible refine w_ienum ?_) | (with_reducible refine w_ibin ?_) | (with_reducible refine w_true ?_) | (with_reducible refine cond_t ?_) | (with_reducible refine cond_f ?_))
local macro_rules | `(tactic| walk_at "ex2") => `(tactic| first | (with_reducible refine w_addI ?_) | (with_reducible refine w_subI ?_) | (with_reducible refine w_ltI ?_) | (with_reducible refine w_leI ?_) | (with_reducible refine w_gtI ?_) | (with_reducible refine w_geI ?_) | (with_reducible refine w_eqI ?_) | (with_reducible refine w_neI ?_) | (with_reducible refine w_negI ?_) | (with_reducible refine w_maxI ?_) | (with_reducible refine w_minI ?_) | (with_reducible refine w_lenT ?_) | (with_reducible refine w_slT ?_) | (with_reducible refine w_sseq ?_) | (with_reducible refine w_senum ?_) | (with_reducible refine w_szip ?_) | (with_reducible refine w_eqB ?_) | (with_reducible refine w_neB ?_))
local macro_rules | `(tactic| walk_at "ex3") => `(tactic| first | ((with_reducible apply w_var); (focus exact rfl)) | ((with_reducible apply w_aug); (focus exact rfl)) | ((with_reducible apply w_thaw); (focus exact rfl); (focus with_reducible assumption)) | ((with_reducible apply w_idxZ); (focus exact rfl); (focus with_reducible assumption)) | ((with_reducible apply wr_by); (focus with_reducible assumption)) | ((with_reducible apply w_via); (focus exact rfl)) | ((with_reducible apply w_mkTup); (focus exact Nat.le_of_ble_eq_true rfl)) | ((with_reducible apply w_mkLst); (focus exact Nat.le_of_ble_eq_true rfl)) | ((with_reducible apply w_ix); (focus exact rfl); (focus exact rfl)) | ((with_reducible apply w_lenL); (focus with_reducible assumption)) | ((with_reducible apply w_lenL); (focus with_reducible exact get_end)) | ((with_reducible apply w_isl); (focus with_reducible assumption)) | ((with_reducible apply w_append); (focus with_reducible assumption); (focus with_reducible assumption)) | ((with_reducible apply w_slL); (focus with_reducible assumption)) | ((with_reducible apply w_enumL); (focus with_reducible assumption)) | ((with_reducible apply w_tupL); (focus with_reducible assumption)) | ((with_reducible apply w_sdyn); (focus with_reducible assumption)) | ((with_reducible apply w_isi); (focus exact rfl)) | ((with_reducible apply w_isi2); (focus exact rfl)) | ((with_reducible apply w_eqS); (focus decide +kernel); (focus decide +kernel)) | ((with_reducible apply cond_af); (focus exact rfl)) | ((with_reducible apply cond_at); (focus exact rfl)) | ((with_reducible apply cond_af); (focus decide +kernel)) | ((with_reducible apply cond_at); (focus decide +kernel)))
local macro_rules | `(tactic| walk_at "go") => `(tactic| repeat (first | walk_at "ex1" | walk_at "ex2" | walk_at "ex3"))
theorem drawn_run {S : Sto} {B : Nat} {c : Int} (h : Bag S B c) (hc : c + 220 < 1000000000) : ∃ ws rs T, m__law_drawn [.ref B] S = .ok (.tup [.tup ws, .tup rs]) T ∧ Grw S T B ∧ Bag T B (c + 220) ∧ DrawOk ws rs := by
  obtain ⟨ws, T1, e1, G1, B1, W⟩ := wheels_run h (by omega)
  obtain ⟨v, T2, t2, hv, B2, G2, Q2⟩ := take_go (many := 6) B1 (by omega) (by omega) (by omega)
  obtain ⟨n, hn, hn5⟩ : ∃ n : Nat, L2.atI [D.int 3, .int 5, .int 2, .int 4, .int 1, .int 0] (v : Int) = some (.int (n : Int)) ∧ n ≤ 5 := by
    have : v = 0 ∨ v = 1 ∨ v = 2 ∨ v = 3 ∨ v = 4 ∨ v = 5 := by omega
    rcases this with rfl | rfl | rfl | rfl | rfl | rfl
    · exact ⟨3, rfl, by omega⟩
    · exact ⟨5, rfl, by omega⟩
    · exact ⟨2, rfl, by omega⟩
    · exact ⟨4, rfl, by omega⟩
    · exact ⟨1, rfl, by omega⟩
    · exact ⟨0, rfl, by omega⟩
  obtain ⟨rs, T3, e3, G3, B3, hl, hr⟩ := rules_run (n := n) B2 (by omega) hn5 W
  refine ⟨ws, rs, T3, ?_, (G1.trans G2).trans G3, B3.mono (by omega), ⟨W, by omega, by rw [hl]; exact hr⟩⟩
  have key : b__law_drawn [some (.ref B), none] S = .rt (.tup [.tup ws, .tup rs]) T3 := by
    unfold b__law_drawn
    refine set_to (d := .tup ws) (st1 := T1) e1 ?_
    simp only [List.set_cons_succ, List.set_cons_zero]
    have hm : eBin dIx (eFn mkTup (aCons (eC (.int 3)) (aCons (eC (.int 5)) (aCons (eC (.int 2)) (aCons (eC (.int 4)) (aCons (eC (.int 1)) (aCons (eC (.int 0)) aNil))))))) (eFn s__law_take (aCons (eVar 0) (aCons (eC (.int 6)) aNil))) [some (.ref B), some (.tup ws)] T1 = .ok (.int (n : Int)) T2 := by
      rw [ev_bin]
      show (R.ok (D.tup [D.int 3, .int 5, .int 2, .int 4, .int 1, .int 0]) T1).bind _ = _
      rw [ev_bok, take_ev rfl rfl t2, ev_bok]
      exact ixS rfl hn
    have v0 : eVar 0 [some (.ref B), some (.tup ws)] T1 = .ok (.ref B) T1 := rfl
    have v1 : eVar 1 [some (.ref B), some (.tup ws)] T1 = .ok (.tup ws) T1 := rfl
    rw [ev_ret, ev_fn, ev_acons, v1, ev_bok, ev_acons, ev_fn, ev_acons, v0, ev_bok, ev_acons, v1, ev_bok, ev_acons, hm, ev_bok, ev_anil, ev_bok, ev_bok, ev_bok, ev_bok, e3, ev_bok, ev_anil, ev_bok, ev_bok, ev_bok, mkTup2, ev_tok]
  unfold m__law_drawn
  rw [ev_mkfn, if_pos (show [D.ref B].length = 1 from rfl)]
  show endFn (b__law_drawn [some (.ref B), none] S) = _
  rw [key]
  rfl
section
variable {B : Nat} {ps : List (Nat × Ob)} {T : Sto} {c : Int}
theorem drawn_s (H : Stg B ps T c) (hc : c + 220 < 1000000000) : ∃ ws rs T', m__law_drawn [.ref B] T = .ok (.tup [.tup ws, .tup rs]) T' ∧ Stg B ps T' (c + 220) ∧ DrawOk ws rs := by
  obtain ⟨ws, rs, T', d, G, b, Dr⟩ := drawn_run H.bag hc
  exact ⟨ws, rs, T', d, H.grw G b, Dr⟩
end

end Hd
set_option Elab.async false
set_option linter.all false
set_option maxRecDepth 100000
set_option maxHeartbeats 1000000
namespace Hd
open PySem U
local macro_rules | `(tactic| walk_at "ex1") => `(tactic| first | (with_reducible refine w_seq ?_) | (with_reducible refine w_set ?_) | (with_reducible refine w_ret ?_) | (with_reducible refine w_sif ?_) | (with_reducible refine w_asg2 ?_) | (with_reducible refine w_asg3 ?_) | (with_reducible refine w_asg4 ?_) | (with_reducible refine w_ex2 ?_) | (with_reducible refine w_ex3 ?_) | (with_reducible refine w_ex4 ?_) | (with_reducible refine w_par ?_) | (with_reducible refine w_par3 ?_) | (with_reducible refine w_expr ?_) | (with_reducible refine w_for ?_) | (with_reducible refine w_skip ?_) | (with_reducible refine w_fn ?_) | (with_reducible refine w_acons ?_) | (with_reducible refine w_anil ?_) | (with_reducible refine w_aapp ?_) | (with_reducible refine w_bin ?_) | (with_reducible refine w_un ?_) | (with_reducible refine w_c ?_) | (with_reducible refine w_tof ?_) | (with_reducible refine w_tob ?_) | (with_reducible refine w_tand ?_) | (with_reducible refine w_tor ?_) | (with_reducible refine w_tnot ?_) | (with_reducible refine w_eand ?_) | (with_reducible refine w_eor ?_) | (with_reducible refine w_enot ?_) | (with_reducible refine w_exb ?_) | (with_reducible refine w_exi ?_) | (with_reducible refine w_if ?_) | (with_reducible refine w_slice ?_) | (with_reducible refine w_onone ?_) | (with_reducible refine w_osome ?_) | (with_reducible refine w_lc ?_) | (with_reducible refine w_lc2 ?_) | (with_reducible refine w_mtl ?_) | (with_reducible refine w_iseq ?_) | (with_reducible refine w_irng ?_) | (with_reducible refine w_ienum ?_) | (with_reducible refine w_ibin ?_) | (with_reducible refine w_true ?_) | (with_reducible refine cond_t ?_) | (with_reducible refine cond_f ?_))
local macro_rules | `(tactic| walk_at "ex2") => `(tactic| first | (with_reducible refine w_addI ?_) | (with_reducible refine w_subI ?_) | (with_reducible refine w_ltI ?_) | (with_reducible refine w_leI ?_) | (with_reducible refine w_gtI ?_) | (with_reducible refine w_geI ?_) | (with_reducible refine w_eqI ?_) | (with_reducible refine w_neI ?_) | (with_reducible refine w_negI ?_) | (with_reducible refine w_maxI ?_) | (with_reducible refine w_minI ?_) | (with_reducible refine w_lenT ?_) | (with_reducible refine w_slT ?_) | (with_reducible refine w_sseq ?_) | (with_reducible refine w_senum ?_) | (with_reducible refine w_szip ?_) | (with_reducible refine w_eqB ?_) | (with_reducible refine w_neB ?_))
local macro_rules | `(tactic| walk_at "ex3") => `(tactic| first | ((with_reducible apply w_var); (focus exact rfl)) | ((with_reducible apply w_aug); (focus exact rfl)) | ((with_reducible apply w_thaw); (focus exact rfl); (focus with_reducible assumption)) | ((with_reducible apply w_idxZ); (focus exact rfl); (focus with_reducible assumption)) | ((with_reducible apply wr_by); (focus with_reducible assumption)) | ((with_reducible apply w_via); (focus exact rfl)) | ((with_reducible apply w_mkTup); (focus exact Nat.le_of_ble_eq_true rfl)) | ((with_reducible apply w_mkLst); (focus exact Nat.le_of_ble_eq_true rfl)) | ((with_reducible apply w_ix); (focus exact rfl); (focus exact rfl)) | ((with_reducible apply w_lenL); (focus with_reducible assumption)) | ((with_reducible apply w_lenL); (focus with_reducible exact get_end)) | ((with_reducible apply w_isl); (focus with_reducible assumption)) | ((with_reducible apply w_append); (focus with_reducible assumption); (focus with_reducible assumption)) | ((with_reducible apply w_slL); (focus with_reducible assumption)) | ((with_reducible apply w_enumL); (focus with_reducible assumption)) | ((with_reducible apply w_tupL); (focus with_reducible assumption)) | ((with_reducible apply w_sdyn); (focus with_reducible assumption)) | ((with_reducible apply w_isi); (focus exact rfl)) | ((with_reducible apply w_isi2); (focus exact rfl)) | ((with_reducible apply w_eqS); (focus decide +kernel); (focus decide +kernel)) | ((with_reducible apply cond_af); (focus exact rfl)) | ((with_reducible apply cond_at); (focus exact rfl)) | ((with_reducible apply cond_af); (focus decide +kernel)) | ((with_reducible apply cond_at); (focus decide +kernel)))
local macro_rules | `(tactic| walk_at "go") => `(tactic| repeat (first | walk_at "ex1" | walk_at "ex2" | walk_at "ex3"))
theorem off_run {S : Sto} {B n : Nat} {c : Int} (h : Bag S B c) (hc : c + 10 < 1000000000) (hn5 : n ≤ 5) : ∃ (l : List Nat) (T : Sto), m__law_off [.ref B, .int (n : Int)] S = .ok (.tup (l.map fun (x : Nat) => D.int x)) T ∧ Grw S T B ∧ Bag T B (c + 10) ∧ l.Pairwise (· < ·) ∧ (∀ x ∈ l, x < n) ∧ l.length ≤ n := by
  obtain ⟨v, S1, t1, hv, B1, G1, Q1⟩ := take_go (many := 2) h (by omega) (by omega) (by omega)
  have tst : ∀ (k : Int) (env : Ev) (T T' : Sto) (v : Nat) (m : Int), env[0]? = some (some (.ref B)) → s_take [.ref B, .int m] T = .ok (.int (v : Int)) T' → tOf (eBin (dEq false) (eFn s__law_take (aCons (eVar 0) (aCons (eC (.int m)) aNil))) (eC (.int k))) env T = .ok ((v : Int) == k) T' := fun k env T T' v m he ht => by
    rw [ev_tof, ev_bin, take_ev (many := m) (by unfold eVar; rw [he]) rfl ht, ev_bok, ev_c, ev_bok, eqI, ev_bok]
    rfl
  have fin : ∀ {d : D} {T : Sto}, b__law_off [some (.ref B), some (.int (n : Int)), none] S = .rt d T → m__law_off [.ref B, .int (n : Int)] S = .ok d T := fun {d T} hk => by
    unfold m__law_off
    rw [ev_mkfn, if_pos (show [D.ref B, .int (n : Int)].length = 2 from rfl)]
    show endFn (b__law_off [some (.ref B), some (.int (n : Int)), none] S) = _
    rw [hk]
    rfl
  have t0 := tst 0 [some (.ref B), some (.int (n : Int)), none] S S1 v 2 rfl t1
  by_cases h0 : v = 0
  · refine ⟨[], S1, fin ?_, G1, B1.mono (by omega), .nil, fun _ h => by simp at h, by simp⟩
    subst h0
    unfold b__law_off sSeq
    rw [ev_sif, t0]
    rfl
  · have f0 : ((v : Int) == 0) = false := by rw [beq_eq_false_iff_ne]; omega
    rw [f0] at t0
    obtain ⟨acc, T, r1, g1, g2, g3, g4, l, e1, e2, e3⟩ := runLc_T (xs := rngL 0 n) (g := gN 2) (t := tOf (eBin (dEq false) (eFn s__law_take (aCons (eVar 0) (aCons (eC (.int 3)) aNil))) (eC (.int 0)))) (e := eVar 2) (env := [some (.ref B), some (.int (n : Int)), none]) (k := S1.length)
      (fun i acc T => S1.length < T.length ∧ T[S1.length]? = some (.lst acc) ∧ Grw S1 T B ∧ (Bag T B (c + 1 + i) ∧ i ≤ n ∧ acc.length ≤ i) ∧ ∃ l : List Nat, acc = l.map (fun (x : Nat) => D.int x) ∧ l.Pairwise (· < ·) ∧ ∀ x ∈ l, x < i)
      (fun i acc T hJ => Nat.lt_of_le_of_lt (by have := hJ.2.2.2.1; omega : acc.length ≤ 5) (by decide)) (fun i x acc T hx ⟨g1, g2, g3, g4, l, e1, e2, e3⟩ => by
        obtain ⟨hi, rfl⟩ := rngL_get hx
        obtain ⟨w, T1, t3, hw, B3, G3, Q3⟩ := take_go (many := 3) g4.1 (by omega) (by omega) (by omega)
        have hBS : B < S1.length := B1.lt
        have k2 : T1[S1.length]? = some (.lst acc) := by rw [G3.at_ _ g1 (by omega)]; exact g2
        refine ⟨[some (.ref B), some (.int (n : Int)), some (.int (i : Int))], T, (w : Int) == 0, T1, rfl, tst 0 _ T T1 w 3 rfl t3, fun _ => ⟨by omega, k2, g3.trans G3, ⟨B3.mono (by omega), by omega, by omega⟩, l, e1, e2, fun x hx => by have := e3 x hx; omega⟩, fun _ => ⟨.int (i : Int), T1, rfl, k2, by simp; omega, List.getElem?_set_self (by omega), (g3.trans G3).set (Nat.le_refl _), ⟨(B3.set (by omega)).mono (by omega), by omega, by simp; omega⟩, l ++ [i], by rw [e1]; simp, ?_, fun x hx => ?_⟩⟩
        · rw [List.pairwise_append]
          exact ⟨e2, by simp, fun a ha b hb => by simp only [List.mem_singleton] at hb; rw [hb]; exact e3 a ha⟩
        · rcases List.mem_append.mp hx with hx | hx
          · have := e3 x hx; omega
          · simp only [List.mem_singleton] at hx; omega) n 0 [] (S1 ++ [.lst []]) (by rw [rngL_length]; omega) ⟨by simp, get_end, .app, ⟨by simpa using B1.app, by omega, by simp⟩, [], rfl, .nil, fun _ h => by simp at h⟩
    rw [rngL_length] at g4 e3
    refine ⟨l, T, fin ?_, G1.trans g3, g4.1.mono (by omega), e2, e3, by have := g4.2.2; rw [e1] at this; simpa using this⟩
    unfold b__law_off
    refine if_to (st1 := S1) t0 ?_
    rw [ev_ret, ev_fn, ev_acons, ev_lc, irng_of (n := n) (st1 := S1) rfl (Nat.le_trans hn5 (by decide)), ev_bok]
    have hst : startLc (gN 2) (tOf (eBin (dEq false) (eFn s__law_take (aCons (eVar 0) (aCons (eC (.int 3)) aNil))) (eC (.int 0)))) (eVar 2) [some (.ref B), some (.int (n : Int)), none] (.fix (rngL 0 n)) S1 = .ok (.ref S1.length) T := by
      unfold startLc
      simp only [Src.at, rngL_length]
      exact r1
    show (((((startLc _ _ _ [some (.ref B), some (.int (n : Int)), none] _ S1).hush).bind _).bind _)).then _ _ = _
    rw [hst, ev_hok, ev_bok, ev_anil, ev_bok, ev_bok, fTup_at g2, ev_tok, e1]
section
variable {B : Nat} {ps : List (Nat × Ob)} {T : Sto} {c : Int}
theorem off_s (H : Stg B ps T c) {ws rs : List D} (Dr : DrawOk ws rs) (hc : c + 10 < 1000000000) : ∃ off T', m__law_off [.ref B, .int (rs.length : Int)] T = .ok (.tup off) T' ∧ Stg B ps T' (c + 10) ∧ OffOk ws rs off := by
  obtain ⟨l, T', d, G, b, p1, p2, p3⟩ := off_run (n := rs.length) H.bag hc Dr.n5
  exact ⟨_, T', d, H.grw G b, OffOk.of Dr p1 p2 p3⟩
end

end Hd
set_option Elab.async false
set_option linter.all false
set_option maxRecDepth 100000
set_option maxHeartbeats 1000000
namespace Hd
open PySem U
local macro_rules | `(tactic| walk_at "ex1") => `(tactic| first | (with_reducible refine w_seq ?_) | (with_reducible refine w_set ?_) | (with_reducible refine w_ret ?_) | (with_reducible refine w_sif ?_) | (with_reducible refine w_asg2 ?_) | (with_reducible refine w_asg3 ?_) | (with_reducible refine w_asg4 ?_) | (with_reducible refine w_ex2 ?_) | (with_reducible refine w_ex3 ?_) | (with_reducible refine w_ex4 ?_) | (with_reducible refine w_par ?_) | (with_reducible refine w_par3 ?_) | (with_reducible refine w_expr ?_) | (with_reducible refine w_for ?_) | (with_reducible refine w_skip ?_) | (with_reducible refine w_fn ?_) | (with_reducible refine w_acons ?_) | (with_reducible refine w_anil ?_) | (with_reducible refine w_aapp ?_) | (with_reducible refine w_bin ?_) | (with_reducible refine w_un ?_) | (with_reducible refine w_c ?_) | (with_reducible refine w_tof ?_) | (with_reducible refine w_tob ?_) | (with_reducible refine w_tand ?_) | (with_reducible refine w_tor ?_) | (with_reducible refine w_tnot ?_) | (with_reducible refine w_eand ?_) | (with_reducible refine w_eor ?_) | (with_reducible refine w_enot ?_) | (with_reducible refine w_exb ?_) | (with_reducible refine w_exi ?_) | (with_reducible refine w_if ?_) | (with_reducible refine w_slice ?_) | (with_reducible refine w_onone ?_) | (with_reducible refine w_osome ?_) | (with_reducible refine w_lc ?_) | (with_reducible refine w_lc2 ?_) | (with_reducible refine w_mtl ?_) | (with_reducible refine w_iseq ?_) | (with_reducible refine w_irng ?_) | (with_reducible refine w_ienum ?_) | (with_reducible refine w_ibin ?_) | (with_reducible refine w_true ?_) | (with_reducible refine cond_t ?_) | (with_reducible refine cond_f ?_))
local macro_rules | `(tactic| walk_at "ex2") => `(tactic| first | (with_reducible refine w_addI ?_) | (with_reducible refine w_subI ?_) | (with_reducible refine w_ltI ?_) | (with_reducible refine w_leI ?_) | (with_reducible refine w_gtI ?_) | (with_reducible refine w_geI ?_) | (with_reducible refine w_eqI ?_) | (with_reducible refine w_neI ?_) | (with_reducible refine w_negI ?_) | (with_reducible refine w_maxI ?_) | (with_reducible refine w_minI ?_) | (with_reducible refine w_lenT ?_) | (with_reducible refine w_slT ?_) | (with_reducible refine w_sseq ?_) | (with_reducible refine w_senum ?_) | (with_reducible refine w_szip ?_) | (with_reducible refine w_eqB ?_) | (with_reducible refine w_neB ?_))
local macro_rules | `(tactic| walk_at "ex3") => `(tactic| first | ((with_reducible apply w_var); (focus exact rfl)) | ((with_reducible apply w_aug); (focus exact rfl)) | ((with_reducible apply w_thaw); (focus exact rfl); (focus with_reducible assumption)) | ((with_reducible apply w_idxZ); (focus exact rfl); (focus with_reducible assumption)) | ((with_reducible apply wr_by); (focus with_reducible assumption)) | ((with_reducible apply w_via); (focus exact rfl)) | ((with_reducible apply w_mkTup); (focus exact Nat.le_of_ble_eq_true rfl)) | ((with_reducible apply w_mkLst); (focus exact Nat.le_of_ble_eq_true rfl)) | ((with_reducible apply w_ix); (focus exact rfl); (focus exact rfl)) | ((with_reducible apply w_lenL); (focus with_reducible assumption)) | ((with_reducible apply w_lenL); (focus with_reducible exact get_end)) | ((with_reducible apply w_isl); (focus with_reducible assumption)) | ((with_reducible apply w_append); (focus with_reducible assumption); (focus with_reducible assumption)) | ((with_reducible apply w_slL); (focus with_reducible assumption)) | ((with_reducible apply w_enumL); (focus with_reducible assumption)) | ((with_reducible apply w_tupL); (focus with_reducible assumption)) | ((with_reducible apply w_sdyn); (focus with_reducible assumption)) | ((with_reducible apply w_isi); (focus exact rfl)) | ((with_reducible apply w_isi2); (focus exact rfl)) | ((with_reducible apply w_eqS); (focus decide +kernel); (focus decide +kernel)) | ((with_reducible apply cond_af); (focus exact rfl)) | ((with_reducible apply cond_at); (focus exact rfl)) | ((with_reducible apply cond_af); (focus decide +kernel)) | ((with_reducible apply cond_at); (focus decide +kernel)))
local macro_rules | `(tactic| walk_at "go") => `(tactic| repeat (first | walk_at "ex1" | walk_at "ex2" | walk_at "ex3"))
theorem eqB {T : Sto} {a b : Bool} : dEq false (.bl a) (.bl b) T = .ok (.bl (a == b)) T := by
  cases a <;> cases b <;> rfl
theorem so_run {T : Sto} {V H : D} {ws vs ls : List D} {n bd : Nat} {c : D} {b : Bool} (hV : seqOf T V = some vs) (hH : seqOf T H = some ls) (hl : LOk n bd ls) (hc : CondOk ws n c) (hb : soO c vs ls = some b) : m__law_so [c, V, H] T = .ok (.bl b) T := by
  have fin : b__law_so [some c, some V, some H] T = .rt (.bl b) T → m__law_so [c, V, H] T = .ok (.bl b) T := fun hk => by
    unfold m__law_so
    rw [ev_mkfn, if_pos (show [c, V, H].length = 3 from rfl)]
    show endFn (b__law_so [some c, some V, some H] T) = _
    rw [hk]
    rfl
  refine fin ?_
  rcases hc with ⟨w, x, p, m, rfl, hw, hm, hp⟩ | ⟨w, q, rfl, hw, hq⟩
  · unfold soO at hb
    simp only at hb
    split at hb
    · rename_i i hi
      have w0 : dIx (.tup [.str w, .int (x : Int), .int (p : Int)]) (.int 0) T = .ok (.str w) T := ixS rfl rfl
      have w1 : dIx (.tup [.str w, .int (x : Int), .int (p : Int)]) (.int 1) T = .ok (.int (x : Int)) T := ixS rfl rfl
      have w2 : dIx (.tup [.str w, .int (x : Int), .int (p : Int)]) (.int 2) T = .ok (.int (p : Int)) T := ixS rfl rfl
      have wv : dIx V (.int (x : Int)) T = .ok (.int i) T := ixS hV hi
      have c0 : ∀ k : Int, ∀ d : D, dIx (.tup [.str w, .int (x : Int), .int (p : Int)]) (.int k) T = .ok d T → eBin dIx (eVar 0) (eC (.int k)) [some (.tup [.str w, .int (x : Int), .int (p : Int)]), some V, some H] T = .ok d T := fun k d h => h
      have e0 := c0 0 _ w0
      have e1 := c0 1 _ w1
      have e2 := c0 2 _ w2
      have ev1 : eBin dIx (eVar 1) (eBin dIx (eVar 0) (eC (.int 1))) [some (.tup [.str w, .int (x : Int), .int (p : Int)]), some V, some H] T = .ok (.int i) T := by
        rw [ev_bin, ev_at (d := V) rfl, ev_bok, e1, ev_bok]
        exact wv
      have tw : ∀ u : Str, SeqAt.shaped (.str w) = true → SeqAt.shaped (.str u) = true → eBin (dEq false) (eBin dIx (eVar 0) (eC (.int 0))) (eC (.str u)) [some (.tup [.str w, .int (x : Int), .int (p : Int)]), some V, some H] T = .ok (.bl (w == u)) T := fun u h1 h2 => by
        rw [ev_bin, e0, ev_bok, ev_c, ev_bok, strEq w u h1 h2]
      have main : SeqAt.shaped (.str w) = true → (w == ("hushed" : Str)) = false → (w == ("awake" : Str)) = false → (if (w == ("below" : Str)) = true then decide (i < (p : Int)) else ((i == (p : Int)) == (w == ("is" : Str)))) = b → b__law_so [some (.tup [.str w, .int (x : Int), .int (p : Int)]), some V, some H] T = .rt (.bl b) T := fun hs n1 n2 he => by
        unfold b__law_so
        refine if_to (st1 := T) ?_ ?_
        · rw [ev_tor, ev_tof, tw "hushed" hs (by decide +kernel), n1, ev_bok, ev_tob, ev_bok]
          show tOf _ _ T = _
          rw [ev_tof, tw "awake" hs (by decide +kernel), n2, ev_bok, ev_tob]
        · by_cases hbe : (w == ("below" : Str)) = true
          · rw [if_pos hbe] at he
            unfold sSeq
            rw [ev_sif, ev_tof, tw "below" hs (by decide +kernel), hbe, ev_bok, ev_tob, ev_tok]
            show (match sRet _ _ T with | .nx env st => _ | r => r) = _
            rw [ret_to (d := .bl b) (T1 := T) (by rw [ev_bin, ev1, ev_bok, e2, ev_bok, ev_ltI, he])]
          · rw [if_neg hbe] at he
            rw [Bool.not_eq_true] at hbe
            refine if_to (st1 := T) (by rw [ev_tof, tw "below" hs (by decide +kernel), hbe, ev_bok, ev_tob]) (ret_to ?_)
            rw [ev_bin, ev_bin, ev1, ev_bok, e2, ev_bok, eqI, ev_bok, tw "is" hs (by decide +kernel), ev_bok]
            show dEq false (.bl (i == (p : Int))) _ T = _
            rw [eqB, he]
      rcases hw with rfl | rfl | rfl
      · rw [if_pos rfl] at hb
        refine main (by decide +kernel) (by decide +kernel) (by decide +kernel) ?_
        rw [if_neg (by decide +kernel), ← Option.some.inj hb, show (("is" : Str) == "is") = true by decide +kernel]
        simp
      · rw [if_neg (by decide +kernel), if_pos rfl] at hb
        refine main (by decide +kernel) (by decide +kernel) (by decide +kernel) ?_
        rw [if_neg (by decide +kernel), ← Option.some.inj hb, show (("not" : Str) == "is") = false by decide +kernel]
        simp
      · rw [if_neg (by decide +kernel), if_neg (by decide +kernel), if_pos rfl] at hb
        refine main (by decide +kernel) (by decide +kernel) (by decide +kernel) ?_
        rw [if_pos (by decide +kernel), ← Option.some.inj hb]
    · cases hb
  · obtain ⟨l, hl1, hl2⟩ := hl.2 q hq
    unfold soO at hb
    simp only [atI_nat hl1] at hb
    have w0 : dIx (.tup [.str w, .int (q : Int)]) (.int 0) T = .ok (.str w) T := ixS rfl rfl
    have w1 : dIx (.tup [.str w, .int (q : Int)]) (.int 1) T = .ok (.int (q : Int)) T := ixS rfl rfl
    have c0 : ∀ k : Int, ∀ d : D, dIx (.tup [.str w, .int (q : Int)]) (.int k) T = .ok d T → eBin dIx (eVar 0) (eC (.int k)) [some (.tup [.str w, .int (q : Int)]), some V, some H] T = .ok d T := fun k d h => h
    have e0 := c0 0 _ w0
    have e1 := c0 1 _ w1
    have tw : ∀ u : Str, SeqAt.shaped (.str w) = true → SeqAt.shaped (.str u) = true → eBin (dEq false) (eBin dIx (eVar 0) (eC (.int 0))) (eC (.str u)) [some (.tup [.str w, .int (q : Int)]), some V, some H] T = .ok (.bl (w == u)) T := fun u h1 h2 => by
      rw [ev_bin, e0, ev_bok, ev_c, ev_bok, strEq w u h1 h2]
    have ev2 : eBin dGt (eBin dIx (eVar 2) (eBin dIx (eVar 0) (eC (.int 1)))) (eC (.int 0)) [some (.tup [.str w, .int (q : Int)]), some V, some H] T = .ok (.bl (decide (0 < (l : Int)))) T := by
      rw [ev_bin, ev_bin, ev_at (d := H) rfl, ev_bok, e1, ev_bok, ixS hH (atI_nat hl1), ev_bok, ev_c, ev_bok, ev_gtI]
    have main : SeqAt.shaped (.str w) = true → ((w == ("hushed" : Str)) || (w == ("awake" : Str))) = true → (decide (0 < (l : Int)) == (w == ("hushed" : Str))) = b → b__law_so [some (.tup [.str w, .int (q : Int)]), some V, some H] T = .rt (.bl b) T := fun hs n1 he => by
      unfold b__law_so sSeq
      have ht : tOr (tOf (eBin (dEq false) (eBin dIx (eVar 0) (eC (.int 0))) (eC (.str "hushed")))) (tOf (eBin (dEq false) (eBin dIx (eVar 0) (eC (.int 0))) (eC (.str "awake")))) [some (.tup [.str w, .int (q : Int)]), some V, some H] T = .ok true T := by
        rw [ev_tor, ev_tof, tw "hushed" hs (by decide +kernel), ev_bok, ev_tob, ev_bok]
        cases hh : w == ("hushed" : Str) with
        | true => rfl
        | false =>
          rw [hh, Bool.false_or] at n1
          show tOf _ _ T = _
          rw [ev_tof, tw "awake" hs (by decide +kernel), n1, ev_bok, ev_tob]
      rw [ev_sif, ht, ev_tok]
      show (match sRet _ _ T with | .nx env st => _ | r => r) = _
      rw [ret_to (d := .bl b) (T1 := T) (by rw [ev_bin, ev2, ev_bok, tw "hushed" hs (by decide +kernel), ev_bok, eqB, he])]
    rcases hw with rfl | rfl
    · rw [if_pos rfl] at hb
      refine main (by decide +kernel) (by decide +kernel) ?_
      rw [← Option.some.inj hb, show (("hushed" : Str) == "hushed") = true by decide +kernel]
      simp
    · rw [if_neg (by decide +kernel), if_pos rfl] at hb
      refine main (by decide +kernel) (by decide +kernel) ?_
      rw [← Option.some.inj hb, show (("awake" : Str) == "hushed") = false by decide +kernel]
      by_cases h0 : (l : Int) = 0
      · simp [h0]
      · rw [decide_eq_true (show 0 < (l : Int) by omega), beq_eq_false_iff_ne.mpr h0]
        rfl

end Hd
set_option Elab.async false
set_option linter.all false
set_option maxRecDepth 100000
set_option maxHeartbeats 1000000
namespace Hd
open PySem U
local macro_rules | `(tactic| walk_at "ex1") => `(tactic| first | (with_reducible refine w_seq ?_) | (with_reducible refine w_set ?_) | (with_reducible refine w_ret ?_) | (with_reducible refine w_sif ?_) | (with_reducible refine w_asg2 ?_) | (with_reducible refine w_asg3 ?_) | (with_reducible refine w_asg4 ?_) | (with_reducible refine w_ex2 ?_) | (with_reducible refine w_ex3 ?_) | (with_reducible refine w_ex4 ?_) | (with_reducible refine w_par ?_) | (with_reducible refine w_par3 ?_) | (with_reducible refine w_expr ?_) | (with_reducible refine w_for ?_) | (with_reducible refine w_skip ?_) | (with_reducible refine w_fn ?_) | (with_reducible refine w_acons ?_) | (with_reducible refine w_anil ?_) | (with_reducible refine w_aapp ?_) | (with_reducible refine w_bin ?_) | (with_reducible refine w_un ?_) | (with_reducible refine w_c ?_) | (with_reducible refine w_tof ?_) | (with_reducible refine w_tob ?_) | (with_reducible refine w_tand ?_) | (with_reducible refine w_tor ?_) | (with_reducible refine w_tnot ?_) | (with_reducible refine w_eand ?_) | (with_reducible refine w_eor ?_) | (with_reducible refine w_enot ?_) | (with_reducible refine w_exb ?_) | (with_reducible refine w_exi ?_) | (with_reducible refine w_if ?_) | (with_reducible refine w_slice ?_) | (with_reducible refine w_onone ?_) | (with_reducible refine w_osome ?_) | (with_reducible refine w_lc ?_) | (with_reducible refine w_lc2 ?_) | (with_reducible refine w_mtl ?_) | (with_reducible refine w_iseq ?_) | (with_reducible refine w_irng ?_) | (with_reducible refine w_ienum ?_) | (with_reducible refine w_ibin ?_) | (with_reducible refine w_true ?_) | (with_reducible refine cond_t ?_) | (with_reducible refine cond_f ?_))
local macro_rules | `(tactic| walk_at "ex2") => `(tactic| first | (with_reducible refine w_addI ?_) | (with_reducible refine w_subI ?_) | (with_reducible refine w_ltI ?_) | (with_reducible refine w_leI ?_) | (with_reducible refine w_gtI ?_) | (with_reducible refine w_geI ?_) | (with_reducible refine w_eqI ?_) | (with_reducible refine w_neI ?_) | (with_reducible refine w_negI ?_) | (with_reducible refine w_maxI ?_) | (with_reducible refine w_minI ?_) | (with_reducible refine w_lenT ?_) | (with_reducible refine w_slT ?_) | (with_reducible refine w_sseq ?_) | (with_reducible refine w_senum ?_) | (with_reducible refine w_szip ?_) | (with_reducible refine w_eqB ?_) | (with_reducible refine w_neB ?_))
local macro_rules | `(tactic| walk_at "ex3") => `(tactic| first | ((with_reducible apply w_var); (focus exact rfl)) | ((with_reducible apply w_aug); (focus exact rfl)) | ((with_reducible apply w_thaw); (focus exact rfl); (focus with_reducible assumption)) | ((with_reducible apply w_idxZ); (focus exact rfl); (focus with_reducible assumption)) | ((with_reducible apply wr_by); (focus with_reducible assumption)) | ((with_reducible apply w_via); (focus exact rfl)) | ((with_reducible apply w_mkTup); (focus exact Nat.le_of_ble_eq_true rfl)) | ((with_reducible apply w_mkLst); (focus exact Nat.le_of_ble_eq_true rfl)) | ((with_reducible apply w_ix); (focus exact rfl); (focus exact rfl)) | ((with_reducible apply w_lenL); (focus with_reducible assumption)) | ((with_reducible apply w_lenL); (focus with_reducible exact get_end)) | ((with_reducible apply w_isl); (focus with_reducible assumption)) | ((with_reducible apply w_append); (focus with_reducible assumption); (focus with_reducible assumption)) | ((with_reducible apply w_slL); (focus with_reducible assumption)) | ((with_reducible apply w_enumL); (focus with_reducible assumption)) | ((with_reducible apply w_tupL); (focus with_reducible assumption)) | ((with_reducible apply w_sdyn); (focus with_reducible assumption)) | ((with_reducible apply w_isi); (focus exact rfl)) | ((with_reducible apply w_isi2); (focus exact rfl)) | ((with_reducible apply w_eqS); (focus decide +kernel); (focus decide +kernel)) | ((with_reducible apply cond_af); (focus exact rfl)) | ((with_reducible apply cond_at); (focus exact rfl)) | ((with_reducible apply cond_af); (focus decide +kernel)) | ((with_reducible apply cond_at); (focus decide +kernel)))
local macro_rules | `(tactic| walk_at "go") => `(tactic| repeat (first | walk_at "ex1" | walk_at "ex2" | walk_at "ex3"))
def EB (ws rs : List D) (s : D) (off : List D) (V : Nat) (a5 a6 a10 a11 a12 a13 a14 a15 a16 a17 a18 a19 a20 a21 a22 : Option D) : Ev := [some (.tup ws), some (.tup rs), some s, some (.tup (ordO rs)), some (.tup off), a5, a6, some (.ref V), some (.ref (V + 1)), some (.ref (V + 2)), a10, a11, a12, a13, a14, a15, a16, a17, a18, a19, a20, a21, a22]
theorem set_same {T : Sto} {k : Nat} {o : Ob} (h : T[k]? = some o) : T.set k o = T := by
  apply List.ext_getElem?
  intro i
  by_cases e : k = i
  · subst e
    rw [List.getElem?_set_self (List.getElem?_eq_some_iff.mp h).1, h]
  · rw [List.getElem?_set_ne e]
section
variable {ws rs off : List D} {s : D} {V : Nat} {T : Sto} {a5 a6 a10 a11 a12 a13 a14 a15 a16 a17 a18 a19 a20 a21 a22 : Option D}
theorem chg_loop {vs vs1 chs : List D} (hc : ∀ c ∈ chs, ChgOk ws c) (hf : foldO (chgO ws) vs chs = some vs1) (hV : T[V]? = some (.lst vs)) :
    ∃ b16 b17 b18 b19, startFor (gT 3 (gsCons (gN 16) (gsCons (gN 17) (gsCons (gN 18) gsNil)))) (sSeq (sSet 19 (eBin dAdd (eBin dIx (eVar 7) (eVar 17)) (eVar 18))) (sAsg (eIf (tOf (eBin (dEq false) (eVar 16) (eC (.str "put")))) (eVar 18) (eBin dMod (eVar 19) (eBin dIx (eVar 0) (eVar 17)))) (gSet (eVar 7) (eVar 17))))
      (EB ws rs s off V a5 a6 a10 a11 a12 a13 a14 a15 a16 a17 a18 a19 a20 a21 a22) (.fix chs) T = .nx (EB ws rs s off V a5 a6 a10 a11 a12 a13 a14 a15 b16 b17 b18 b19 a20 a21 a22) (T.set V (.lst vs1)) := by
  have hVl : V < T.length := (List.getElem?_eq_some_iff.mp hV).1
  obtain ⟨env', e1, b16, b17, b18, b19, he⟩ := for_foldO (F := chgO ws) (fun vs => T.set V (.lst vs)) (g := gT 3 (gsCons (gN 16) (gsCons (gN 17) (gsCons (gN 18) gsNil)))) (xs := chs)
    (body := sSeq (sSet 19 (eBin dAdd (eBin dIx (eVar 7) (eVar 17)) (eVar 18))) (sAsg (eIf (tOf (eBin (dEq false) (eVar 16) (eC (.str "put")))) (eVar 18) (eBin dMod (eVar 19) (eBin dIx (eVar 0) (eVar 17)))) (gSet (eVar 7) (eVar 17))))
    (fun env => ∃ b16 b17 b18 b19, env = EB ws rs s off V a5 a6 a10 a11 a12 a13 a14 a15 b16 b17 b18 b19 a20 a21 a22) (env := EB ws rs s off V a5 a6 a10 a11 a12 a13 a14 a15 a16 a17 a18 a19 a20 a21 a22) hf ⟨_, _, _, _, rfl⟩ fun a x b env hx hF ⟨c16, c17, c18, c19, he⟩ => by
      subst he
      obtain ⟨w, xx, p, m, rfl, hw, hm, hp⟩ := hc x hx
      have hTV : (T.set V (.lst a))[V]? = some (.lst a) := List.getElem?_set_self hVl
      unfold chgO at hF
      simp only at hF
      split at hF
      · rename_i j v n h1 h2 h3
        rw [atI_nat hm] at h3
        cases h3
        have h0 : (0 : Int) < (m : Int) := by omega
        rw [if_pos h0] at hF
        have hst : b = a.set j (.int (if w = "put" then (p : Int) else (v + (p : Int)) % (m : Int))) := by
          rcases hw with rfl | rfl
          · rw [if_pos rfl] at hF
            rw [if_neg (by decide +kernel)]
            exact (Option.some.inj hF).symm
          · rw [if_neg (by decide +kernel), if_pos rfl] at hF
            rw [if_pos rfl, ← Option.some.inj hF, Int.zero_add, Int.emod_eq_of_lt (by omega) (by omega)]
        refine ⟨EB ws rs s off V a5 a6 a10 a11 a12 a13 a14 a15 (some (.str w)) (some (.int (xx : Int))) (some (.int (p : Int))) c19 a20 a21 a22, EB ws rs s off V a5 a6 a10 a11 a12 a13 a14 a15 (some (.str w)) (some (.int (xx : Int))) (some (.int (p : Int))) (some (.int (v + (p : Int)))) a20 a21 a22, rfl, .inl ?_, _, _, _, _, rfl⟩
        refine set_to (d := .int (v + (p : Int))) (st1 := T.set V (.lst a)) ?_ ?_
        · rw [ev_bin, ev_bin, ev_at (d := .ref V) rfl, ev_bok, ev_at (d := .int (xx : Int)) rfl, ev_bok, ixS (lst_at hTV) h2, ev_bok, ev_at (d := .int (p : Int)) rfl, ev_bok, ev_addI]
        · show sAsg _ _ (EB ws rs s off V a5 a6 a10 a11 a12 a13 a14 a15 (some (.str w)) (some (.int (xx : Int))) (some (.int (p : Int))) (some (.int (v + (p : Int)))) a20 a21 a22) _ = _
          have hcond : tOf (eBin (dEq false) (eVar 16) (eC (.str "put"))) (EB ws rs s off V a5 a6 a10 a11 a12 a13 a14 a15 (some (.str w)) (some (.int (xx : Int))) (some (.int (p : Int))) (some (.int (v + (p : Int)))) a20 a21 a22) (T.set V (.lst a)) = .ok (decide (w = "put")) (T.set V (.lst a)) := by
            rw [ev_tof, ev_bin, ev_at (d := .str w) rfl, ev_bok, ev_c, ev_bok]
            rcases hw with rfl | rfl
            · rw [strEq "turn" "put" (by decide +kernel) (by decide +kernel), ev_bok, ev_tob, show (("turn" : Str) == "put") = decide (("turn" : Str) = "put") by decide +kernel]
            · rw [strEq "put" "put" (by decide +kernel) (by decide +kernel), ev_bok, ev_tob, show (("put" : Str) == "put") = decide (("put" : Str) = "put") by decide +kernel]
          have hval : eIf (tOf (eBin (dEq false) (eVar 16) (eC (.str "put")))) (eVar 18) (eBin dMod (eVar 19) (eBin dIx (eVar 0) (eVar 17))) (EB ws rs s off V a5 a6 a10 a11 a12 a13 a14 a15 (some (.str w)) (some (.int (xx : Int))) (some (.int (p : Int))) (some (.int (v + (p : Int)))) a20 a21 a22) (T.set V (.lst a)) = .ok (.int (if w = "put" then (p : Int) else (v + (p : Int)) % (m : Int))) (T.set V (.lst a)) := by
            rw [ev_if, hcond, ev_bok]
            by_cases hwp : w = "put"
            · rw [if_pos (decide_eq_true hwp), if_pos hwp, ev_at (d := .int (p : Int)) rfl]
            · rw [if_neg (by simp [hwp]), if_neg hwp, ev_bin, ev_at (d := .int (v + (p : Int))) rfl, ev_bok, ev_bin, ev_at (d := .tup ws) rfl, ev_bok, ev_at (d := .int (xx : Int)) rfl, ev_bok, ixS (v := .tup ws) rfl (atI_nat hm), ev_bok, modI h0]
          rw [ev_asg, hval, ev_tok, gset_at (n := V) (i := (xx : Int)) (ev_at rfl) (ev_at rfl) hTV h1, List.set_set, hst]
      · cases hF
  subst he
  rw [set_same hV] at e1
  exact ⟨b16, b17, b18, b19, e1⟩
theorem hsh_loop {n : Nat} {ls ls1 hs : List D} (hc : ∀ c ∈ hs, HshOk n c) (hf : foldO hshO ls hs = some ls1) (hH : T[V + 1]? = some (.lst ls)) :
    ∃ b11 b20, startFor (gT 2 (gsCons (gN 11) (gsCons (gN 20) gsNil))) (sAsg (eFn (fI2 iMax) (aCons (eVar 20) (aCons (eBin dIx (eVar 8) (eVar 11)) aNil))) (gSet (eVar 8) (eVar 11)))
      (EB ws rs s off V a5 a6 a10 a11 a12 a13 a14 a15 a16 a17 a18 a19 a20 a21 a22) (.fix hs) T = .nx (EB ws rs s off V a5 a6 a10 b11 a12 a13 a14 a15 a16 a17 a18 a19 b20 a21 a22) (T.set (V + 1) (.lst ls1)) := by
  have hVl : V + 1 < T.length := (List.getElem?_eq_some_iff.mp hH).1
  obtain ⟨env', e1, b11, b20, he⟩ := for_foldO (F := hshO) (fun ls => T.set (V + 1) (.lst ls)) (g := gT 2 (gsCons (gN 11) (gsCons (gN 20) gsNil))) (xs := hs)
    (body := sAsg (eFn (fI2 iMax) (aCons (eVar 20) (aCons (eBin dIx (eVar 8) (eVar 11)) aNil))) (gSet (eVar 8) (eVar 11)))
    (fun env => ∃ b11 b20, env = EB ws rs s off V a5 a6 a10 b11 a12 a13 a14 a15 a16 a17 a18 a19 b20 a21 a22) (env := EB ws rs s off V a5 a6 a10 a11 a12 a13 a14 a15 a16 a17 a18 a19 a20 a21 a22) hf ⟨_, _, rfl⟩ fun a x b env hx hF ⟨c11, c20, he⟩ => by
      subst he
      obtain ⟨q, bb, rfl, hq, _, _⟩ := hc x hx
      have hTV : (T.set (V + 1) (.lst a))[V + 1]? = some (.lst a) := List.getElem?_set_self hVl
      unfold hshO at hF
      simp only at hF
      split at hF
      · rename_i j l h1 h2
        cases hF
        refine ⟨EB ws rs s off V a5 a6 a10 (some (.int (q : Int))) a12 a13 a14 a15 a16 a17 a18 a19 (some (.int (bb : Int))) a21 a22, EB ws rs s off V a5 a6 a10 (some (.int (q : Int))) a12 a13 a14 a15 a16 a17 a18 a19 (some (.int (bb : Int))) a21 a22, rfl, .inl ?_, some (.int (q : Int)), some (.int (bb : Int)), rfl⟩
        have hm : iMax (bb : Int) l = iMax l (bb : Int) := by unfold iMax; split <;> split <;> omega
        rw [ev_asg, ev_fn, ev_acons, ev_at (d := .int (bb : Int)) rfl, ev_bok, ev_acons, ev_bin, ev_at (d := .ref (V + 1)) rfl, ev_bok, ev_at (d := .int (q : Int)) rfl, ev_bok, ixS (lst_at hTV) h2, ev_bok, ev_anil, ev_bok, ev_bok, ev_bok, maxI, hm, ev_tok, gset_at (n := V + 1) (i := (q : Int)) (ev_at rfl) (ev_at rfl) hTV h1, List.set_set]
      · cases hF
  subst he
  rw [set_same hH] at e1
  exact ⟨b11, b20, e1⟩
theorem wak_loop {n : Nat} {ls ls1 wk : List D} (hc : ∀ c ∈ wk, WakOk n c) (hf : foldO wakO ls wk = some ls1) (hH : T[V + 1]? = some (.lst ls)) :
    ∃ b11, startFor (gN 11) (sAsg (eC (.int 0)) (gSet (eVar 8) (eVar 11)))
      (EB ws rs s off V a5 a6 a10 a11 a12 a13 a14 a15 a16 a17 a18 a19 a20 a21 a22) (.fix wk) T = .nx (EB ws rs s off V a5 a6 a10 b11 a12 a13 a14 a15 a16 a17 a18 a19 a20 a21 a22) (T.set (V + 1) (.lst ls1)) := by
  have hVl : V + 1 < T.length := (List.getElem?_eq_some_iff.mp hH).1
  obtain ⟨env', e1, b11, he⟩ := for_foldO (F := wakO) (fun ls => T.set (V + 1) (.lst ls)) (g := gN 11) (xs := wk)
    (body := sAsg (eC (.int 0)) (gSet (eVar 8) (eVar 11)))
    (fun env => ∃ b11, env = EB ws rs s off V a5 a6 a10 b11 a12 a13 a14 a15 a16 a17 a18 a19 a20 a21 a22) (env := EB ws rs s off V a5 a6 a10 a11 a12 a13 a14 a15 a16 a17 a18 a19 a20 a21 a22) hf ⟨_, rfl⟩ fun a x b env hx hF ⟨c11, he⟩ => by
      subst he
      obtain ⟨q, rfl, hq⟩ := hc x hx
      have hTV : (T.set (V + 1) (.lst a))[V + 1]? = some (.lst a) := List.getElem?_set_self hVl
      unfold wakO at hF
      simp only at hF
      split at hF
      · rename_i j h1
        cases hF
        refine ⟨EB ws rs s off V a5 a6 a10 (some (.int (q : Int))) a12 a13 a14 a15 a16 a17 a18 a19 a20 a21 a22, EB ws rs s off V a5 a6 a10 (some (.int (q : Int))) a12 a13 a14 a15 a16 a17 a18 a19 a20 a21 a22, rfl, .inl ?_, some (.int (q : Int)), rfl⟩
        rw [ev_asg, ev_c, ev_tok, gset_at (n := V + 1) (i := (q : Int)) (ev_at rfl) (ev_at rfl) hTV h1, List.set_set]
      · cases hF
  subst he
  rw [set_same hH] at e1
  exact ⟨b11, e1⟩
end

end Hd
set_option Elab.async false
set_option linter.all false
set_option maxRecDepth 100000
set_option maxHeartbeats 1000000
namespace Hd
open PySem U
local macro_rules | `(tactic| walk_at "ex1") => `(tactic| first | (with_reducible refine w_seq ?_) | (with_reducible refine w_set ?_) | (with_reducible refine w_ret ?_) | (with_reducible refine w_sif ?_) | (with_reducible refine w_asg2 ?_) | (with_reducible refine w_asg3 ?_) | (with_reducible refine w_asg4 ?_) | (with_reducible refine w_ex2 ?_) | (with_reducible refine w_ex3 ?_) | (with_reducible refine w_ex4 ?_) | (with_reducible refine w_par ?_) | (with_reducible refine w_par3 ?_) | (with_reducible refine w_expr ?_) | (with_reducible refine w_for ?_) | (with_reducible refine w_skip ?_) | (with_reducible refine w_fn ?_) | (with_reducible refine w_acons ?_) | (with_reducible refine w_anil ?_) | (with_reducible refine w_aapp ?_) | (with_reducible refine w_bin ?_) | (with_reducible refine w_un ?_) | (with_reducible refine w_c ?_) | (with_reducible refine w_tof ?_) | (with_reducible refine w_tob ?_) | (with_reducible refine w_tand ?_) | (with_reducible refine w_tor ?_) | (with_reducible refine w_tnot ?_) | (with_reducible refine w_eand ?_) | (with_reducible refine w_eor ?_) | (with_reducible refine w_enot ?_) | (with_reducible refine w_exb ?_) | (with_reducible refine w_exi ?_) | (with_reducible refine w_if ?_) | (with_reducible refine w_slice ?_) | (with_reducible refine w_onone ?_) | (with_reducible refine w_osome ?_) | (with_reducible refine w_lc ?_) | (with_reducible refine w_lc2 ?_) | (with_reducible refine w_mtl ?_) | (with_reducible refine w_iseq ?_) | (with_reducible refine w_irng ?_) | (with_reducible refine w_ienum ?_) | (with_reducible refine w_ibin ?_) | (with_reducible refine w_true ?_) | (with_reducible refine cond_t ?_) | (with_reducible refine cond_f ?_))
local macro_rules | `(tactic| walk_at "ex2") => `(tactic| first | (with_reducible refine w_addI ?_) | (with_reducible refine w_subI ?_) | (with_reducible refine w_ltI ?_) | (with_reducible refine w_leI ?_) | (with_reducible refine w_gtI ?_) | (with_reducible refine w_geI ?_) | (with_reducible refine w_eqI ?_) | (with_reducible refine w_neI ?_) | (with_reducible refine w_negI ?_) | (with_reducible refine w_maxI ?_) | (with_reducible refine w_minI ?_) | (with_reducible refine w_lenT ?_) | (with_reducible refine w_slT ?_) | (with_reducible refine w_sseq ?_) | (with_reducible refine w_senum ?_) | (with_reducible refine w_szip ?_) | (with_reducible refine w_eqB ?_) | (with_reducible refine w_neB ?_))
local macro_rules | `(tactic| walk_at "ex3") => `(tactic| first | ((with_reducible apply w_var); (focus exact rfl)) | ((with_reducible apply w_aug); (focus exact rfl)) | ((with_reducible apply w_thaw); (focus exact rfl); (focus with_reducible assumption)) | ((with_reducible apply w_idxZ); (focus exact rfl); (focus with_reducible assumption)) | ((with_reducible apply wr_by); (focus with_reducible assumption)) | ((with_reducible apply w_via); (focus exact rfl)) | ((with_reducible apply w_mkTup); (focus exact Nat.le_of_ble_eq_true rfl)) | ((with_reducible apply w_mkLst); (focus exact Nat.le_of_ble_eq_true rfl)) | ((with_reducible apply w_ix); (focus exact rfl); (focus exact rfl)) | ((with_reducible apply w_lenL); (focus with_reducible assumption)) | ((with_reducible apply w_lenL); (focus with_reducible exact get_end)) | ((with_reducible apply w_isl); (focus with_reducible assumption)) | ((with_reducible apply w_append); (focus with_reducible assumption); (focus with_reducible assumption)) | ((with_reducible apply w_slL); (focus with_reducible assumption)) | ((with_reducible apply w_enumL); (focus with_reducible assumption)) | ((with_reducible apply w_tupL); (focus with_reducible assumption)) | ((with_reducible apply w_sdyn); (focus with_reducible assumption)) | ((with_reducible apply w_isi); (focus exact rfl)) | ((with_reducible apply w_isi2); (focus exact rfl)) | ((with_reducible apply w_eqS); (focus decide +kernel); (focus decide +kernel)) | ((with_reducible apply cond_af); (focus exact rfl)) | ((with_reducible apply cond_at); (focus exact rfl)) | ((with_reducible apply cond_af); (focus decide +kernel)) | ((with_reducible apply cond_at); (focus decide +kernel)))
local macro_rules | `(tactic| walk_at "go") => `(tactic| repeat (first | walk_at "ex1" | walk_at "ex2" | walk_at "ex3"))
def pS (vs ls : List D) (c : D) : Bool := soO c vs ls == some true
def jnk (rs : List D) (q : Mid) (x : D) : Ob := match x with
  | .int r => (match L2.atI rs r with
    | some (.tup [.tup cs, _, _, _]) => .lst (cs.filter (pS q.vs q.ls))
    | _ => .lst [])
  | _ => .lst []
def mkB (S : Sto) (a : Mid × List Ob) : Sto := S ++ .lst a.1.vs :: .lst a.1.ls :: .lst a.1.dn :: a.2
abbrev bdB : SM := (sSeq (sAsg (eBin dIx (eVar 1) (eVar 5)) (gT 4 (gsCons (gN 12) (gsCons (gN 13) (gsCons (gN 14) (gsCons (gN 15) gsNil))))))
    (sSeq (sSet 10 (cLc (iSeq (eVar 12)) [22] (gN 22) (tOf (eFn m__law_so (aCons (eVar 22) (aCons (eVar 7) (aCons (eVar 8) aNil))))) (eVar 22)))
    (sSeq (sIf (tOr (tOf (eBin (dIn false) (eVar 5) (eVar 4))) (tOr (tOf (eBin dGt (eBin dIx (eVar 8) (eVar 5)) (eC (.int 0)))) (tOf (eBin dLt (eFn fLen (aCons (eVar 10) aNil)) (eFn fLen (aCons (eVar 12) aNil)))))) (fun env st => .ct env st) sSkip)
    (sSeq (sExpr (eMtL mAppend (eVar 9) (aCons (eVar 5) aNil)))
    (sSeq (sFor (iSeq (eVar 13)) (gT 3 (gsCons (gN 16) (gsCons (gN 17) (gsCons (gN 18) gsNil)))) (sSeq (sSet 19 (eBin dAdd (eBin dIx (eVar 7) (eVar 17)) (eVar 18)))
    (sAsg (eIf (tOf (eBin (dEq false) (eVar 16) (eC (.str "put")))) (eVar 18) (eBin dMod (eVar 19) (eBin dIx (eVar 0) (eVar 17)))) (gSet (eVar 7) (eVar 17)))))
    (sSeq (sFor (iSeq (eVar 14)) (gT 2 (gsCons (gN 11) (gsCons (gN 20) gsNil))) (sAsg (eFn (fI2 iMax) (aCons (eVar 20) (aCons (eBin dIx (eVar 8) (eVar 11)) aNil))) (gSet (eVar 8) (eVar 11))))
    (sFor (iSeq (eVar 15)) (gN 11) (sAsg (eC (.int 0)) (gSet (eVar 8) (eVar 11))))))))))
theorem for_tup {env : Ev} {T : Sto} {i : Nat} {xs : List D} {g : GM} {b : SM} (h : env[i]? = some (some (.tup xs))) : sFor (iSeq (eVar i)) g b env T = startFor g b env (.fix xs) T := by rw [ev_for, ev_iseq, ev_at h, ev_bok, ev_sseq, ev_tok]
theorem turn {S : Sto} {ws rs off : List D} {s : D} {q q1 : Mid} {ex : List Ob} {r : Nat} {a6 a10 a11 a12 a13 a14 a15 a16 a17 a18 a19 a20 a21 a22 : Option D} (B : BookOk ws rs) (hcs : FewC rs) (hoff : off.all isI = true) (hr : r < rs.length) (hv : VOk ws q.vs) (hl : LOk rs.length 3 q.ls) (ha : askO ws rs off q (.int (r : Int)) = some q1) :
    ∃ env2, (bdB (EB ws rs s off S.length (some (.int (r : Int))) a6 a10 a11 a12 a13 a14 a15 a16 a17 a18 a19 a20 a21 a22) (mkB S (q, ex)) = .nx env2 (mkB S (q1, ex ++ [jnk rs q (.int (r : Int))])) ∨ bdB (EB ws rs s off S.length (some (.int (r : Int))) a6 a10 a11 a12 a13 a14 a15 a16 a17 a18 a19 a20 a21 a22) (mkB S (q, ex)) = .ct env2 (mkB S (q1, ex ++ [jnk rs q (.int (r : Int))]))) ∧
      ∃ b5 b10 b11 b12 b13 b14 b15 b16 b17 b18 b19 b20 b21 b22, env2 = EB ws rs s off S.length b5 a6 b10 b11 b12 b13 b14 b15 b16 b17 b18 b19 b20 b21 b22 := by
  obtain ⟨cs, chs, hs, wk, e, h1, h2, h3, h4⟩ := B rs[r] (List.getElem_mem hr)
  have hrr : rs[r]? = some (.tup [.tup cs, .tup chs, .tup hs, .tup wk]) := by rw [List.getElem?_eq_getElem hr, e]
  have hmost : cs.length ≤ most := hcs cs _ _ _ (e ▸ List.getElem_mem hr)
  have hj : jnk rs q (.int (r : Int)) = .lst (cs.filter (pS q.vs q.ls)) := by unfold jnk; simp only [atI_nat hrr]
  obtain ⟨l, hl1, hl2⟩ := hl.2 r hr
  have hT : mkB S (q, ex) ++ [.lst (cs.filter (pS q.vs q.ls))] = mkB S (q, ex ++ [jnk rs q (.int (r : Int))]) := by rw [hj]; simp [mkB]
  have x1 : sAsg (eBin dIx (eVar 1) (eVar 5)) (gT 4 (gsCons (gN 12) (gsCons (gN 13) (gsCons (gN 14) (gsCons (gN 15) gsNil))))) (EB ws rs s off S.length (some (.int (r : Int))) a6 a10 a11 a12 a13 a14 a15 a16 a17 a18 a19 a20 a21 a22) (mkB S (q, ex)) = .nx (EB ws rs s off S.length (some (.int (r : Int))) a6 a10 a11 (some (.tup cs)) (some (.tup chs)) (some (.tup hs)) (some (.tup wk)) a16 a17 a18 a19 a20 a21 a22) (mkB S (q, ex)) := by
    rw [ev_asg, ev_bin, ev_at (d := .tup rs) rfl, ev_bok, ev_at (d := .int (r : Int)) rfl, ev_bok, ixS (v := .tup rs) rfl (atI_nat hrr), ev_tok]
    rfl
  have x2 : cLc (iSeq (eVar 12)) [22] (gN 22) (tOf (eFn m__law_so (aCons (eVar 22) (aCons (eVar 7) (aCons (eVar 8) aNil))))) (eVar 22) (EB ws rs s off S.length (some (.int (r : Int))) a6 a10 a11 (some (.tup cs)) (some (.tup chs)) (some (.tup hs)) (some (.tup wk)) a16 a17 a18 a19 a20 a21 a22) (mkB S (q, ex)) = .ok (.ref (mkB S (q, ex)).length) (mkB S (q, ex ++ [jnk rs q (.int (r : Int))])) := by
    rw [ev_lc, ev_iseq, ev_at (d := .tup cs) rfl, ev_bok, ev_sseq, ev_bok, startLc_pure (xs := cs) (p := pS q.vs q.ls) (f := fun x => x) rfl hmost fun x hx acc => ?_]
    · rw [ev_hok, List.map_id', hT]
    · refine ⟨EB ws rs s off S.length (some (.int (r : Int))) a6 a10 a11 (some (.tup cs)) (some (.tup chs)) (some (.tup hs)) (some (.tup wk)) a16 a17 a18 a19 a20 a21 (some x), rfl, ?_, fun _ => ev_at rfl⟩
      obtain ⟨b, hb⟩ := Option.isSome_iff_exists.mp (so_ok hv hl (h1 x hx))
      have hp : pS q.vs q.ls x = b := by unfold pS; rw [hb]; cases b <;> rfl
      have s0 : seqOf (mkB S (q, ex) ++ [.lst acc]) (.ref S.length) = some q.vs := lst_at (by unfold mkB; rw [List.append_assoc]; exact at_end0)
      have s1 : seqOf (mkB S (q, ex) ++ [.lst acc]) (.ref (S.length + 1)) = some q.ls := lst_at (by unfold mkB; rw [List.append_assoc]; exact at_end1)
      rw [ev_tof, ev_fn, ev_acons, ev_at (d := x) rfl, ev_bok, ev_acons, ev_at (d := .ref S.length) rfl, ev_bok, ev_acons, ev_at (d := .ref (S.length + 1)) rfl, ev_bok, ev_anil, ev_bok, ev_bok, ev_bok, ev_bok, so_run s0 s1 hl (h1 x hx) hb, ev_bok, ev_tob, hp]
  have hlen : fLen [.ref (mkB S (q, ex)).length] (mkB S (q, ex ++ [jnk rs q (.int (r : Int))])) = .ok (.int (cs.filter (pS q.vs q.ls)).length) (mkB S (q, ex ++ [jnk rs q (.int (r : Int))])) := by
    rw [← hT]
    exact len_end (k := 0) rfl
  have x3 : tOr (tOf (eBin (dIn false) (eVar 5) (eVar 4))) (tOr (tOf (eBin dGt (eBin dIx (eVar 8) (eVar 5)) (eC (.int 0)))) (tOf (eBin dLt (eFn fLen (aCons (eVar 10) aNil)) (eFn fLen (aCons (eVar 12) aNil))))) (EB ws rs s off S.length (some (.int (r : Int))) a6 (some (.ref (mkB S (q, ex)).length)) a11 (some (.tup cs)) (some (.tup chs)) (some (.tup hs)) (some (.tup wk)) a16 a17 a18 a19 a20 a21 a22) (mkB S (q, ex ++ [jnk rs q (.int (r : Int))])) = .ok (memI (.int (r : Int)) off || (decide (0 < (l : Int)) || decide (((cs.filter (pS q.vs q.ls)).length : Int) < (cs.length : Int)))) (mkB S (q, ex ++ [jnk rs q (.int (r : Int))])) := by
    rw [ev_tor, ev_tof, ev_bin, ev_at (d := .int (r : Int)) rfl, ev_bok, ev_at (d := .tup off) rfl, ev_bok, in_ints hoff, ev_bok, ev_tob, ev_bok]
    cases memI (.int (r : Int)) off with
    | true => rfl
    | false =>
      rw [if_neg (by decide), Bool.false_or]
      rw [ev_tor, ev_tof, ev_bin, ev_bin, ev_at (d := .ref (S.length + 1)) rfl, ev_bok, ev_at (d := .int (r : Int)) rfl, ev_bok, ixS (lst_at (by unfold mkB; exact at_end1)) (atI_nat hl1), ev_bok, ev_c, ev_bok, ev_gtI, ev_bok, ev_tob, ev_bok]
      cases decide (0 < (l : Int)) with
      | true => rfl
      | false =>
        rw [if_neg (by decide), Bool.false_or]
        rw [ev_tof, ev_bin, ev_fn, ev_acons, ev_at (d := .ref (mkB S (q, ex)).length) rfl, ev_bok, ev_anil, ev_bok, ev_bok, hlen, ev_bok, ev_fn, ev_acons, ev_at (d := .tup cs) rfl, ev_bok, ev_anil, ev_bok, ev_bok, ev_lenT, ev_bok, ev_ltI, ev_bok, ev_tob]
  have hall : decide (((cs.filter (pS q.vs q.ls)).length : Int) < (cs.length : Int)) = !(cs.all (pS q.vs q.ls)) := by
    have hle := List.length_filter_le (pS q.vs q.ls) cs
    cases hA : cs.all (pS q.vs q.ls) with
    | true =>
      have := List.length_filter_eq_length_iff.mpr (List.all_eq_true.mp hA)
      simp [this]
    | false =>
      have hne : (cs.filter (pS q.vs q.ls)).length ≠ cs.length := fun hq => by
        rw [List.all_eq_true.mpr (List.length_filter_eq_length_iff.mp hq)] at hA
        cases hA
      exact decide_eq_true (by omega)
  have hrd : readyO rs (r : Int) q.vs q.ls = some (!decide (0 < (l : Int)) && cs.all (pS q.vs q.ls)) := by
    unfold readyO
    simp only [atI_nat hl1, atI_nat hrr]
    by_cases h0 : 0 < (l : Int)
    · rw [if_pos h0, decide_eq_true h0]; rfl
    · rw [if_neg h0, if_pos (List.all_eq_true.mpr fun c hc => so_ok hv hl (h1 c hc)), decide_eq_false h0]; rfl
  unfold askO at ha
  simp only [hrd] at ha
  rw [hall] at x3
  by_cases hgo : memI (.int (r : Int)) off = false ∧ (!decide (0 < (l : Int)) && cs.all (pS q.vs q.ls)) = true
  · rw [if_pos hgo] at ha
    have ht : (memI (.int (r : Int)) off || (decide (0 < (l : Int)) || !(cs.all (pS q.vs q.ls)))) = false := by
      obtain ⟨g1, g2⟩ := hgo
      rw [Bool.and_eq_true] at g2
      rw [g1, g2.2, Bool.not_eq_true'] at *
      rw [g2.1]
      rfl
    rw [ht] at x3
    obtain ⟨vs1, k1, k2⟩ := foldO_ok (F := chgO ws) (xs := chs) (VOk ws) hv fun a x hI hx => chg_ok hI (h2 x hx)
    obtain ⟨ls1, k3, k4⟩ := foldO_ok (F := hshO) (xs := hs) (LOk rs.length 3) hl fun a x hI hx => hsh_ok hI (h3 x hx)
    obtain ⟨ls2, k5, k6⟩ := foldO_ok (F := wakO) (xs := wk) (LOk rs.length 3) k4 fun a x hI hx => wak_ok hI (h4 x hx)
    have hd : doO ws rs (r : Int) q.vs q.ls = some (vs1, ls2) := by
      unfold doO
      simp only [atI_nat hrr, k1, k3, k5]
    simp only [hd] at ha
    split at ha
    · rename_i hn
      cases ha
      obtain ⟨c16, c17, c18, c19, y1⟩ := chg_loop (s := s) (rs := rs) (off := off) (V := S.length) (T := mkB S (⟨q.vs, q.ls, q.dn ++ [.int (r : Int)]⟩, ex ++ [jnk rs q (.int (r : Int))])) (a5 := some (.int (r : Int))) (a6 := a6) (a10 := some (.ref (mkB S (q, ex)).length)) (a11 := a11) (a12 := some (.tup cs)) (a13 := some (.tup chs)) (a14 := some (.tup hs)) (a15 := some (.tup wk)) (a16 := a16) (a17 := a17) (a18 := a18) (a19 := a19) (a20 := a20) (a21 := a21) (a22 := a22) h2 k1 (by unfold mkB; exact at_end0)
      rw [show (mkB S (⟨q.vs, q.ls, q.dn ++ [.int (r : Int)]⟩, ex ++ [jnk rs q (.int (r : Int))])).set S.length (.lst vs1) = mkB S (⟨vs1, q.ls, q.dn ++ [.int (r : Int)]⟩, ex ++ [jnk rs q (.int (r : Int))]) from set_end0] at y1
      obtain ⟨c11, c20, y2⟩ := hsh_loop (ws := ws) (s := s) (rs := rs) (off := off) (V := S.length) (T := mkB S (⟨vs1, q.ls, q.dn ++ [.int (r : Int)]⟩, ex ++ [jnk rs q (.int (r : Int))])) (a5 := some (.int (r : Int))) (a6 := a6) (a10 := some (.ref (mkB S (q, ex)).length)) (a11 := a11) (a12 := some (.tup cs)) (a13 := some (.tup chs)) (a14 := some (.tup hs)) (a15 := some (.tup wk)) (a16 := c16) (a17 := c17) (a18 := c18) (a19 := c19) (a20 := a20) (a21 := a21) (a22 := a22) h3 k3 (by unfold mkB; exact at_end1)
      rw [show (mkB S (⟨vs1, q.ls, q.dn ++ [.int (r : Int)]⟩, ex ++ [jnk rs q (.int (r : Int))])).set (S.length + 1) (.lst ls1) = mkB S (⟨vs1, ls1, q.dn ++ [.int (r : Int)]⟩, ex ++ [jnk rs q (.int (r : Int))]) from set_end1] at y2
      obtain ⟨d11, y3⟩ := wak_loop (ws := ws) (s := s) (rs := rs) (off := off) (V := S.length) (T := mkB S (⟨vs1, ls1, q.dn ++ [.int (r : Int)]⟩, ex ++ [jnk rs q (.int (r : Int))])) (a5 := some (.int (r : Int))) (a6 := a6) (a10 := some (.ref (mkB S (q, ex)).length)) (a11 := c11) (a12 := some (.tup cs)) (a13 := some (.tup chs)) (a14 := some (.tup hs)) (a15 := some (.tup wk)) (a16 := c16) (a17 := c17) (a18 := c18) (a19 := c19) (a20 := c20) (a21 := a21) (a22 := a22) h4 k5 (by unfold mkB; exact at_end1)
      rw [show (mkB S (⟨vs1, ls1, q.dn ++ [.int (r : Int)]⟩, ex ++ [jnk rs q (.int (r : Int))])).set (S.length + 1) (.lst ls2) = mkB S (⟨vs1, ls2, q.dn ++ [.int (r : Int)]⟩, ex ++ [jnk rs q (.int (r : Int))]) from set_end1] at y3
      refine ⟨EB ws rs s off S.length (some (.int (r : Int))) a6 (some (.ref (mkB S (q, ex)).length)) d11 (some (.tup cs)) (some (.tup chs)) (some (.tup hs)) (some (.tup wk)) c16 c17 c18 c19 c20 a21 a22, .inl (seq_to x1 (set_to x2 (if_to x3 ?_))), _, _, _, _, _, _, _, _, _, _, _, _, _, _, rfl⟩
      refine seq_to (env1 := EB ws rs s off S.length (some (.int (r : Int))) a6 (some (.ref (mkB S (q, ex)).length)) a11 (some (.tup cs)) (some (.tup chs)) (some (.tup hs)) (some (.tup wk)) a16 a17 a18 a19 a20 a21 a22) (st1 := mkB S (⟨q.vs, q.ls, q.dn ++ [.int (r : Int)]⟩, ex ++ [jnk rs q (.int (r : Int))])) ?_ (seq_to ((for_tup rfl).trans y1) (seq_to ((for_tup rfl).trans y2) ((for_tup rfl).trans y3)))
      · show sExpr _ (EB ws rs s off S.length (some (.int (r : Int))) a6 (some (.ref (mkB S (q, ex)).length)) a11 (some (.tup cs)) (some (.tup chs)) (some (.tup hs)) (some (.tup wk)) a16 a17 a18 a19 a20 a21 a22) _ = _
        rw [ev_expr, app_run (k := S.length + 2) (xs := q.dn) (d := .int (r : Int)) (ev_at rfl) (by unfold mkB; exact at_end2) (ev_at rfl) (Nat.lt_of_lt_of_le hn (by decide)), ev_tok]
        exact congrArg _ set_end2
    · cases ha
  · rw [if_neg hgo] at ha
    cases ha
    have ht : (memI (.int (r : Int)) off || (decide (0 < (l : Int)) || !(cs.all (pS q.vs q.ls)))) = true := by
      generalize memI (.int (r : Int)) off = u1 at hgo ⊢
      generalize decide (0 < (l : Int)) = u2 at hgo ⊢
      generalize cs.all (pS q.vs q.ls) = u3 at hgo ⊢
      cases u1 <;> cases u2 <;> cases u3 <;> simp_all
    rw [ht] at x3
    refine ⟨EB ws rs s off S.length (some (.int (r : Int))) a6 (some (.ref (mkB S (q, ex)).length)) a11 (some (.tup cs)) (some (.tup chs)) (some (.tup hs)) (some (.tup wk)) a16 a17 a18 a19 a20 a21 a22, .inr (seq_to x1 (set_to x2 ?_)), _, _, _, _, _, _, _, _, _, _, _, _, _, _, rfl⟩
    show sSeq _ _ (EB ws rs s off S.length (some (.int (r : Int))) a6 (some (.ref (mkB S (q, ex)).length)) a11 (some (.tup cs)) (some (.tup chs)) (some (.tup hs)) (some (.tup wk)) a16 a17 a18 a19 a20 a21 a22) _ = _
    rw [ev_seq, ev_sif, x3, ev_tok, if_pos rfl]

end Hd
set_option Elab.async false
set_option linter.all false
set_option maxRecDepth 100000
set_option maxHeartbeats 1000000
namespace Hd
open PySem U
local macro_rules | `(tactic| walk_at "ex1") => `(tactic| first | (with_reducible refine w_seq ?_) | (with_reducible refine w_set ?_) | (with_reducible refine w_ret ?_) | (with_reducible refine w_sif ?_) | (with_reducible refine w_asg2 ?_) | (with_reducible refine w_asg3 ?_) | (with_reducible refine w_asg4 ?_) | (with_reducible refine w_ex2 ?_) | (with_reducible refine w_ex3 ?_) | (with_reducible refine w_ex4 ?_) | (with_reducible refine w_par ?_) | (with_reducible refine w_par3 ?_) | (with_reducible refine w_expr ?_) | (with_reducible refine w_for ?_) | (with_reducible refine w_skip ?_) | (with_reducible refine w_fn ?_) | (with_reducible refine w_acons ?_) | (with_reducible refine w_anil ?_) | (with_reducible refine w_aapp ?_) | (with_reducible refine w_bin ?_) | (with_reducible refine w_un ?_) | (with_reducible refine w_c ?_) | (with_reducible refine w_tof ?_) | (with_reducible refine w_tob ?_) | (with_reducible refine w_tand ?_) | (with_reducible refine w_tor ?_) | (with_reducible refine w_tnot ?_) | (with_reducible refine w_eand ?_) | (with_reducible refine w_eor ?_) | (with_reducible refine w_enot ?_) | (with_reducible refine w_exb ?_) | (with_reducible refine w_exi ?_) | (with_reducible refine w_if ?_) | (with_reducible refine w_slice ?_) | (with_reducible refine w_onone ?_) | (with_reducible refine w_osome ?_) | (with_reducible refine w_lc ?_) | (with_reducible refine w_lc2 ?_) | (with_reducible refine w_mtl ?_) | (with_reducible refine w_iseq ?_) | (with_reducible refine w_irng ?_) | (with_reducible refine w_ienum ?_) | (with_reducible refine w_ibin ?_) | (with_reducible refine w_true ?_) | (with_reducible refine cond_t ?_) | (with_reducible refine cond_f ?_))
local macro_rules | `(tactic| walk_at "ex2") => `(tactic| first | (with_reducible refine w_addI ?_) | (with_reducible refine w_subI ?_) | (with_reducible refine w_ltI ?_) | (with_reducible refine w_leI ?_) | (with_reducible refine w_gtI ?_) | (with_reducible refine w_geI ?_) | (with_reducible refine w_eqI ?_) | (with_reducible refine w_neI ?_) | (with_reducible refine w_negI ?_) | (with_reducible refine w_maxI ?_) | (with_reducible refine w_minI ?_) | (with_reducible refine w_lenT ?_) | (with_reducible refine w_slT ?_) | (with_reducible refine w_sseq ?_) | (with_reducible refine w_senum ?_) | (with_reducible refine w_szip ?_) | (with_reducible refine w_eqB ?_) | (with_reducible refine w_neB ?_))
local macro_rules | `(tactic| walk_at "ex3") => `(tactic| first | ((with_reducible apply w_var); (focus exact rfl)) | ((with_reducible apply w_aug); (focus exact rfl)) | ((with_reducible apply w_thaw); (focus exact rfl); (focus with_reducible assumption)) | ((with_reducible apply w_idxZ); (focus exact rfl); (focus with_reducible assumption)) | ((with_reducible apply wr_by); (focus with_reducible assumption)) | ((with_reducible apply w_via); (focus exact rfl)) | ((with_reducible apply w_mkTup); (focus exact Nat.le_of_ble_eq_true rfl)) | ((with_reducible apply w_mkLst); (focus exact Nat.le_of_ble_eq_true rfl)) | ((with_reducible apply w_ix); (focus exact rfl); (focus exact rfl)) | ((with_reducible apply w_lenL); (focus with_reducible assumption)) | ((with_reducible apply w_lenL); (focus with_reducible exact get_end)) | ((with_reducible apply w_isl); (focus with_reducible assumption)) | ((with_reducible apply w_append); (focus with_reducible assumption); (focus with_reducible assumption)) | ((with_reducible apply w_slL); (focus with_reducible assumption)) | ((with_reducible apply w_enumL); (focus with_reducible assumption)) | ((with_reducible apply w_tupL); (focus with_reducible assumption)) | ((with_reducible apply w_sdyn); (focus with_reducible assumption)) | ((with_reducible apply w_isi); (focus exact rfl)) | ((with_reducible apply w_isi2); (focus exact rfl)) | ((with_reducible apply w_eqS); (focus decide +kernel); (focus decide +kernel)) | ((with_reducible apply cond_af); (focus exact rfl)) | ((with_reducible apply cond_at); (focus exact rfl)) | ((with_reducible apply cond_af); (focus decide +kernel)) | ((with_reducible apply cond_at); (focus decide +kernel)))
local macro_rules | `(tactic| walk_at "go") => `(tactic| repeat (first | walk_at "ex1" | walk_at "ex2" | walk_at "ex3"))
open Classical in
noncomputable def askX (ws rs off : List D) (a : Mid × List Ob) (x : D) : Option (Mid × List Ob) :=
  if VOk ws a.1.vs ∧ LOk rs.length 3 a.1.ls then (match askO ws rs off a.1 x with
    | some q => some (q, a.2 ++ [jnk rs a.1 x])
    | none => none) else none
theorem fold_askX {ws rs off : List D} (B : BookOk ws rs) : ∀ (xs : List D) (q : Mid) (ex : List Ob), (∀ x ∈ xs, ∃ q : Nat, x = .int q ∧ q < rs.length) → VOk ws q.vs → LOk rs.length 3 q.ls → q.dn.all isI = true → q.dn.length + xs.length ≤ 500 → ∃ q1 ex1, foldO (askX ws rs off) (q, ex) xs = some (q1, ex1) ∧ foldO (askO ws rs off) q xs = some q1 ∧ VOk ws q1.vs ∧ LOk rs.length 3 q1.ls ∧ q1.dn.all isI = true ∧ q1.dn.length ≤ 500
  | [], q, ex, _, h1, h2, h3, h4 => ⟨q, ex, rfl, rfl, h1, h2, h3, by simpa using h4⟩
  | x :: xs, q, ex, hx, h1, h2, h3, h4 => by
    obtain ⟨r, rfl, hr⟩ := hx x List.mem_cons_self
    obtain ⟨k, hk⟩ := ready_ok B h1 h2 hr
    simp only [List.length_cons] at h4
    by_cases hc : memI (.int (r : Int)) off = false ∧ k = true
    · obtain ⟨vs1, ls1, d1, d2, d3⟩ := do_ok B h1 h2 hr
      have e : askO ws rs off q (.int (r : Int)) = some ⟨vs1, ls1, q.dn ++ [.int (r : Int)]⟩ := by
        unfold askO
        simp only [hk, d1]
        rw [if_pos hc, if_pos (by omega)]
      obtain ⟨q1, ex1, g1, g2, g3⟩ := fold_askX (off := off) B xs ⟨vs1, ls1, q.dn ++ [.int (r : Int)]⟩ (ex ++ [jnk rs q (.int (r : Int))]) (fun y hy => hx y (List.mem_cons_of_mem _ hy)) d2 d3 (by rw [List.all_append, h3]; rfl) (by simp; omega)
      refine ⟨q1, ex1, ?_, by simp only [foldO, e]; exact g2, g3⟩
      have e2 : askX ws rs off (q, ex) (.int (r : Int)) = some (⟨vs1, ls1, q.dn ++ [.int (r : Int)]⟩, ex ++ [jnk rs q (.int (r : Int))]) := by
        unfold askX
        rw [if_pos ⟨h1, h2⟩, e]
      simp only [foldO, e2]
      exact g1
    · have e : askO ws rs off q (.int (r : Int)) = some q := by
        unfold askO
        simp only [hk]
        rw [if_neg hc]
      obtain ⟨q1, ex1, g1, g2, g3⟩ := fold_askX (off := off) B xs q (ex ++ [jnk rs q (.int (r : Int))]) (fun y hy => hx y (List.mem_cons_of_mem _ hy)) h1 h2 h3 (by omega)
      refine ⟨q1, ex1, ?_, by simp only [foldO, e]; exact g2, g3⟩
      have e2 : askX ws rs off (q, ex) (.int (r : Int)) = some (q, ex ++ [jnk rs q (.int (r : Int))]) := by
        unfold askX
        rw [if_pos ⟨h1, h2⟩, e]
      simp only [foldO, e2]
      exact g1
theorem lawbeat_run {S : Sto} {ws rs off : List D} {s : D} (Rk : RunOk ws rs off) (hcs : FewC rs) (h : SOk ws rs s) : ∃ ex, m__law_beat [.tup ws, .tup rs, s, .tup (ordO rs), .tup off] S = .ok (.tup [didD ws rs off s, thenD ws rs off s]) (S ++ ex) := by
  obtain ⟨hnx, -, -⟩ := next_ok Rk h
  obtain ⟨vs, ls, rfl, hv, hl⟩ := h
  have hlen : (ordO rs).length ≤ 5 := by unfold ordO; rw [rngL_length]; exact Rk.n5
  obtain ⟨q, ex, f1, f2, f3, f4, f5, f6⟩ := fold_askX (off := off) Rk.book (ordO rs) ⟨vs, ls, []⟩ [] (ord_get Rk.n5) hv (hl.mono (by omega)) rfl (by simp; omega)
  have hst : stepO ws rs vs ls (ordO rs) off = some (.tup [.tup q.dn, .tup [.tup q.vs, .tup (q.ls.map lessD)]]) := by
    unfold stepO
    rw [if_pos ⟨Rk.offI, Nat.le_trans Rk.offL (by decide)⟩, f2]
    simp only
    rw [if_pos ⟨f4.ints, f3.ints, f5, by rw [f4.1]; exact Nat.le_trans Rk.n5 (by decide)⟩]
  have hnx2 : nextO ws rs off (.tup [.tup vs, .tup ls]) = some (.tup [.tup q.dn, .tup [.tup q.vs, .tup (q.ls.map lessD)]]) := hst
  rw [hnx] at hnx2
  rw [Option.some.inj hnx2]
  refine ⟨.lst q.vs :: .lst q.ls :: .lst q.dn :: ex ++ [.lst (q.ls.map lessD)], ?_⟩
  unfold m__law_beat
  rw [ev_mkfn, if_pos (show [D.tup ws, .tup rs, .tup [.tup vs, .tup ls], .tup (ordO rs), .tup off].length = 5 from rfl)]
  have hb : b__law_beat ([some (.tup ws), some (.tup rs), some (.tup [.tup vs, .tup ls]), some (.tup (ordO rs)), some (.tup off)] ++ List.replicate 18 none) S = .rt (.tup [.tup q.dn, .tup [.tup q.vs, .tup (q.ls.map lessD)]]) (S ++ (.lst q.vs :: .lst q.ls :: .lst q.dn :: ex ++ [.lst (q.ls.map lessD)])) := by
    unfold b__law_beat
    obtain ⟨env1, e1, b5, b10, b11, b12, b13, b14, b15, b16, b17, b18, b19, b20, b21, b22, he⟩ := for_foldO (F := askX ws rs off) (mkB S) (g := gN 5) (body := bdB) (fun env => ∃ b5 b10 b11 b12 b13 b14 b15 b16 b17 b18 b19 b20 b21 b22, env = EB ws rs (.tup [.tup vs, .tup ls]) off S.length b5 none b10 b11 b12 b13 b14 b15 b16 b17 b18 b19 b20 b21 b22) (env := EB ws rs (.tup [.tup vs, .tup ls]) off S.length none none none none none none none none none none none none none none none) f1 ⟨_, _, _, _, _, _, _, _, _, _, _, _, _, _, rfl⟩ fun a x b env hx hF ⟨c5, c10, c11, c12, c13, c14, c15, c16, c17, c18, c19, c20, c21, c22, he⟩ => by
      subst he
      obtain ⟨r, rfl, hr⟩ := ord_get Rk.n5 x hx
      obtain ⟨qa, xa⟩ := a
      unfold askX at hF
      split at hF
      · rename_i hok
        split at hF
        · rename_i q2 hq2
          cases hF
          obtain ⟨env2, t1, t2⟩ := turn (s := .tup [.tup vs, .tup ls]) (S := S) (ex := xa) (a6 := none) (a10 := c10) (a11 := c11) (a12 := c12) (a13 := c13) (a14 := c14) (a15 := c15) (a16 := c16) (a17 := c17) (a18 := c18) (a19 := c19) (a20 := c20) (a21 := c21) (a22 := c22) Rk.book hcs Rk.offI hr hok.1 hok.2 hq2
          exact ⟨_, env2, rfl, t1, t2⟩
        · cases hF
      · cases hF
    refine seq_to (env1 := EB ws rs (.tup [.tup vs, .tup ls]) off S.length none none none none none none none none none none none none none none none) (st1 := mkB S (⟨vs, ls, []⟩, [])) ?_ (seq_to (env1 := env1) (st1 := mkB S (q, ex)) ((for_tup rfl).trans e1) ?_)
    · have v2 : ∀ T : Sto, eVar 2 ([some (.tup ws), some (.tup rs), some (.tup [.tup vs, .tup ls]), some (.tup (ordO rs)), some (.tup off)] ++ List.replicate 18 none) T = .ok (.tup [.tup vs, .tup ls]) T := fun _ => rfl
      have i0 : ∀ T : Sto, dIx (.tup [.tup vs, .tup ls]) (.int 0) T = .ok (.tup vs) T := fun T => ixS rfl rfl
      have i1 : ∀ T : Sto, dIx (.tup [.tup vs, .tup ls]) (.int 1) T = .ok (.tup ls) T := fun T => ixS rfl rfl
      rw [ev_asg, ev_fn, ev_acons, ev_fn, ev_acons, ev_bin, v2, ev_bok, ev_c, ev_bok, i0, ev_bok, ev_anil, ev_bok, ev_bok, fList_tup, ev_bok, ev_acons, ev_fn, ev_acons, ev_bin, v2, ev_bok, ev_c, ev_bok, i1, ev_bok, ev_anil, ev_bok, ev_bok, fList_tup, ev_bok, ev_acons, ev_fn, ev_anil, ev_bok, mkLst_nil, ev_bok, ev_anil, ev_bok, ev_bok, ev_bok, ev_bok]
      simp only [List.length_append, List.length_cons, List.length_nil, List.append_assoc, List.cons_append, List.nil_append]
      rfl
    · subst he
      have s1 : seqSrc (.ref (S.length + 1)) (mkB S (q, ex)) = .ok (.dyn (S.length + 1)) (mkB S (q, ex)) := by
        unfold seqSrc lstOf mkB
        simp only [at_end1]
      refine set_to (d := .ref (mkB S (q, ex)).length) (st1 := mkB S (q, ex) ++ [.lst (q.ls.map lessD)]) ?_ ?_
      · rw [ev_lc, ev_iseq, ev_at (d := .ref (S.length + 1)) rfl, ev_bok, s1, ev_bok, startLc_map (xs := q.ls) (f := lessD) (by unfold Src.at lstOf mkB; simp only [at_end1]) (by rw [f4.1]; exact Nat.le_trans Rk.n5 (by decide)) fun x hx acc => ?_, ev_hok]
        obtain ⟨i, hi⟩ := List.getElem?_of_mem hx
        obtain ⟨l, g1, g2⟩ := f4.2 i (by rw [← f4.1]; exact (List.getElem?_eq_some_iff.mp hi).1)
        rw [g1] at hi
        cases hi
        refine ⟨EB ws rs (.tup [.tup vs, .tup ls]) off S.length b5 none b10 b11 b12 b13 b14 b15 b16 b17 b18 b19 b20 (some (.int (l : Int))) b22, rfl, ?_⟩
        rw [ev_bin, ev_at (d := .int (l : Int)) rfl, ev_bok, ev_fn, ev_acons, ev_bin, ev_at (d := .int (l : Int)) rfl, ev_bok, ev_c, ev_bok, ev_gtI, ev_bok, ev_anil, ev_bok, ev_bok, fInt_b, ev_bok]
        show R.ok (D.int ((l : Int) - (if decide (0 < (l : Int)) = true then 1 else 0))) _ = _
        congr 2
        show ((l : Int) - (if decide (0 < (l : Int)) = true then 1 else 0)) = iMax 0 ((l : Int) - 1)
        unfold iMax
        by_cases h0 : 0 < (l : Int)
        · rw [if_pos (decide_eq_true h0)]
          split <;> omega
        · rw [if_neg (by simpa using h0)]
          split <;> omega
      · have t9 : fTup [.ref (S.length + 2)] (mkB S (q, ex) ++ [.lst (q.ls.map lessD)]) = .ok (.tup q.dn) (mkB S (q, ex) ++ [.lst (q.ls.map lessD)]) := by
          have hs : seqOf (mkB S (q, ex) ++ [.lst (q.ls.map lessD)]) (.ref (S.length + 2)) = some q.dn := lst_at (by unfold mkB; rw [List.append_assoc]; exact at_end2)
          unfold fTup
          simp only [hs]
        have t7 : fTup [.ref S.length] (mkB S (q, ex) ++ [.lst (q.ls.map lessD)]) = .ok (.tup q.vs) (mkB S (q, ex) ++ [.lst (q.ls.map lessD)]) := by
          have hs : seqOf (mkB S (q, ex) ++ [.lst (q.ls.map lessD)]) (.ref S.length) = some q.vs := lst_at (by unfold mkB; rw [List.append_assoc]; exact at_end0)
          unfold fTup
          simp only [hs]
        have t6 : fTup [.ref (mkB S (q, ex)).length] (mkB S (q, ex) ++ [.lst (q.ls.map lessD)]) = .ok (.tup (q.ls.map lessD)) (mkB S (q, ex) ++ [.lst (q.ls.map lessD)]) := fTup_end
        show sRet _ (EB ws rs (.tup [.tup vs, .tup ls]) off S.length b5 (some (.ref (mkB S (q, ex)).length)) b10 b11 b12 b13 b14 b15 b16 b17 b18 b19 b20 b21 b22) _ = _
        refine (ret_to (d := .tup [.tup q.dn, .tup [.tup q.vs, .tup (q.ls.map lessD)]]) (T1 := mkB S (q, ex) ++ [.lst (q.ls.map lessD)]) ?_).trans (by unfold mkB; rw [List.append_assoc])
        rw [ev_fn, ev_acons, ev_fn, ev_acons, ev_at (d := .ref (S.length + 2)) rfl, ev_bok, ev_anil, ev_bok, ev_bok, t9, ev_bok, ev_acons, ev_fn, ev_acons, ev_fn, ev_acons, ev_at (d := .ref S.length) rfl, ev_bok, ev_anil, ev_bok, ev_bok, t7, ev_bok, ev_acons, ev_fn, ev_acons, ev_at (d := .ref (mkB S (q, ex)).length) rfl, ev_bok, ev_anil, ev_bok, ev_bok, t6, ev_bok, ev_anil, ev_bok, ev_bok, ev_bok, mkTup2, ev_bok, ev_anil, ev_bok, ev_bok, ev_bok, mkTup2]
  exact (congrArg endFn hb).trans rfl

end Hd
set_option Elab.async false
set_option linter.all false
set_option maxRecDepth 100000
set_option maxHeartbeats 1000000
namespace Hd
open PySem U
local macro_rules | `(tactic| walk_at "ex1") => `(tactic| first | (with_reducible refine w_seq ?_) | (with_reducible refine w_set ?_) | (with_reducible refine w_ret ?_) | (with_reducible refine w_sif ?_) | (with_reducible refine w_asg2 ?_) | (with_reducible refine w_asg3 ?_) | (with_reducible refine w_asg4 ?_) | (with_reducible refine w_ex2 ?_) | (with_reducible refine w_ex3 ?_) | (with_reducible refine w_ex4 ?_) | (with_reducible refine w_par ?_) | (with_reducible refine w_par3 ?_) | (with_reducible refine w_expr ?_) | (with_reducible refine w_for ?_) | (with_reducible refine w_skip ?_) | (with_reducible refine w_fn ?_) | (with_reducible refine w_acons ?_) | (with_reducible refine w_anil ?_) | (with_reducible refine w_aapp ?_) | (with_reducible refine w_bin ?_) | (with_reducible refine w_un ?_) | (with_reducible refine w_c ?_) | (with_reducible refine w_tof ?_) | (with_reducible refine w_tob ?_) | (with_reducible refine w_tand ?_) | (with_reducible refine w_tor ?_) | (with_reducible refine w_tnot ?_) | (with_reducible refine w_eand ?_) | (with_reducible refine w_eor ?_) | (with_reducible refine w_enot ?_) | (with_reducible refine w_exb ?_) | (with_reducible refine w_exi ?_) | (with_reducible refine w_if ?_) | (with_reducible refine w_slice ?_) | (with_reducible refine w_onone ?_) | (with_reducible refine w_osome ?_) | (with_reducible refine w_lc ?_) | (with_reducible refine w_lc2 ?_) | (with_reducible refine w_mtl ?_) | (with_reducible refine w_iseq ?_) | (with_reducible refine w_irng ?_) | (with_reducible refine w_ienum ?_) | (with_reducible refine w_ibin ?_) | (with_reducible refine w_true ?_) | (with_reducible refine cond_t ?_) | (with_reducible refine cond_f ?_))
local macro_rules | `(tactic| walk_at "ex2") => `(tactic| first | (with_reducible refine w_addI ?_) | (with_reducible refine w_subI ?_) | (with_reducible refine w_ltI ?_) | (with_reducible refine w_leI ?_) | (with_reducible refine w_gtI ?_) | (with_reducible refine w_geI ?_) | (with_reducible refine w_eqI ?_) | (with_reducible refine w_neI ?_) | (with_reducible refine w_negI ?_) | (with_reducible refine w_maxI ?_) | (with_reducible refine w_minI ?_) | (with_reducible refine w_lenT ?_) | (with_reducible refine w_slT ?_) | (with_reducible refine w_sseq ?_) | (with_reducible refine w_senum ?_) | (with_reducible refine w_szip ?_) | (with_reducible refine w_eqB ?_) | (with_reducible refine w_neB ?_))
local macro_rules | `(tactic| walk_at "ex3") => `(tactic| first | ((with_reducible apply w_var); (focus exact rfl)) | ((with_reducible apply w_aug); (focus exact rfl)) | ((with_reducible apply w_thaw); (focus exact rfl); (focus with_reducible assumption)) | ((with_reducible apply w_idxZ); (focus exact rfl); (focus with_reducible assumption)) | ((with_reducible apply wr_by); (focus with_reducible assumption)) | ((with_reducible apply w_via); (focus exact rfl)) | ((with_reducible apply w_mkTup); (focus exact Nat.le_of_ble_eq_true rfl)) | ((with_reducible apply w_mkLst); (focus exact Nat.le_of_ble_eq_true rfl)) | ((with_reducible apply w_ix); (focus exact rfl); (focus exact rfl)) | ((with_reducible apply w_lenL); (focus with_reducible assumption)) | ((with_reducible apply w_lenL); (focus with_reducible exact get_end)) | ((with_reducible apply w_isl); (focus with_reducible assumption)) | ((with_reducible apply w_append); (focus with_reducible assumption); (focus with_reducible assumption)) | ((with_reducible apply w_slL); (focus with_reducible assumption)) | ((with_reducible apply w_enumL); (focus with_reducible assumption)) | ((with_reducible apply w_tupL); (focus with_reducible assumption)) | ((with_reducible apply w_sdyn); (focus with_reducible assumption)) | ((with_reducible apply w_isi); (focus exact rfl)) | ((with_reducible apply w_isi2); (focus exact rfl)) | ((with_reducible apply w_eqS); (focus decide +kernel); (focus decide +kernel)) | ((with_reducible apply cond_af); (focus exact rfl)) | ((with_reducible apply cond_at); (focus exact rfl)) | ((with_reducible apply cond_af); (focus decide +kernel)) | ((with_reducible apply cond_at); (focus decide +kernel)))
local macro_rules | `(tactic| walk_at "go") => `(tactic| repeat (first | walk_at "ex1" | walk_at "ex2" | walk_at "ex3"))
theorem own_run {T : Sto} {rs : List D} (h : rs.length ≤ 5) : m__law_own [.tup rs] T = .ok (.tup (ordO rs)) T := by
  unfold m__law_own
  rw [ev_mkfn, if_pos (show [D.tup rs].length = 1 from rfl)]
  have hb : b__law_own [some (.tup rs)] T = .rt (.tup (ordO rs)) T := by
    unfold b__law_own
    refine ret_to ?_
    rw [ev_fn, ev_acons, ev_fn, ev_acons, ev_at (d := .tup rs) rfl, ev_bok, ev_anil, ev_bok, ev_bok, ev_lenT, ev_bok, ev_anil, ev_bok, ev_bok]
    unfold fTRg
    simp only
    rw [if_pos ⟨by omega, by omega⟩, Int.toNat_natCast]
    rfl
  exact (congrArg endFn hb).trans rfl
theorem eqv_ints : ∀ (xs : List D), PyData.eqvAll (xs.map fun x => PyData.int (wI x)) (xs.map fun x => PyData.int (wI x)) = true
  | [] => by simp [PyData.eqvAll]
  | x :: xs => by
    have := eqv_ints xs
    simp [PyData.eqvAll, PyData.eqv, this]
theorem eqSS {T : Sto} {ws rs : List D} {s : D} (h : SOk ws rs s) : dEq true s s T = .ok (.bl false) T := by
  obtain ⟨vs, ls, rfl, hv, hl⟩ := h
  have h1 := shaped_ints vs
  have h2 := shaped_ints ls
  have hs : SeqAt.shaped (.tuple [.tuple (vs.map fun x => PyData.int (wI x)), .tuple (ls.map fun x => PyData.int (wI x))]) = true := by
    unfold SeqAt.shaped
    simp [PyData.canLay0, PyData.canLayAll0, h1.1, h2.1, PyData.depth, PyData.depthAll, h1.2, h2.2]
  have ht : toS T (.tup [.tup vs, .tup ls]) = some (.tuple [.tuple (vs.map fun x => PyData.int (wI x)), .tuple (ls.map fun x => PyData.int (wI x))]) := by
    unfold toS
    simp only [toP, mapO, mapO_ints hv.ints, mapO_ints hl.ints, Option.map_some]
    rw [if_pos hs]
  unfold dEq
  rw [ht]
  simp [PyData.eqv, PyData.eqvAll, eqv_ints]

end Hd
set_option Elab.async false
set_option linter.all false
set_option maxRecDepth 100000
set_option maxHeartbeats 1000000
namespace Hd
open PySem U
local macro_rules | `(tactic| walk_at "ex1") => `(tactic| first | (with_reducible refine w_seq ?_) | (with_reducible refine w_set ?_) | (with_reducible refine w_ret ?_) | (with_reducible refine w_sif ?_) | (with_reducible refine w_asg2 ?_) | (with_reducible refine w_asg3 ?_) | (with_reducible refine w_asg4 ?_) | (with_reducible refine w_ex2 ?_) | (with_reducible refine w_ex3 ?_) | (with_reducible refine w_ex4 ?_) | (with_reducible refine w_par ?_) | (with_reducible refine w_par3 ?_) | (with_reducible refine w_expr ?_) | (with_reducible refine w_for ?_) | (with_reducible refine w_skip ?_) | (with_reducible refine w_fn ?_) | (with_reducible refine w_acons ?_) | (with_reducible refine w_anil ?_) | (with_reducible refine w_aapp ?_) | (with_reducible refine w_bin ?_) | (with_reducible refine w_un ?_) | (with_reducible refine w_c ?_) | (with_reducible refine w_tof ?_) | (with_reducible refine w_tob ?_) | (with_reducible refine w_tand ?_) | (with_reducible refine w_tor ?_) | (with_reducible refine w_tnot ?_) | (with_reducible refine w_eand ?_) | (with_reducible refine w_eor ?_) | (with_reducible refine w_enot ?_) | (with_reducible refine w_exb ?_) | (with_reducible refine w_exi ?_) | (with_reducible refine w_if ?_) | (with_reducible refine w_slice ?_) | (with_reducible refine w_onone ?_) | (with_reducible refine w_osome ?_) | (with_reducible refine w_lc ?_) | (with_reducible refine w_lc2 ?_) | (with_reducible refine w_mtl ?_) | (with_reducible refine w_iseq ?_) | (with_reducible refine w_irng ?_) | (with_reducible refine w_ienum ?_) | (with_reducible refine w_ibin ?_) | (with_reducible refine w_true ?_) | (with_reducible refine cond_t ?_) | (with_reducible refine cond_f ?_))
local macro_rules | `(tactic| walk_at "ex2") => `(tactic| first | (with_reducible refine w_addI ?_) | (with_reducible refine w_subI ?_) | (with_reducible refine w_ltI ?_) | (with_reducible refine w_leI ?_) | (with_reducible refine w_gtI ?_) | (with_reducible refine w_geI ?_) | (with_reducible refine w_eqI ?_) | (with_reducible refine w_neI ?_) | (with_reducible refine w_negI ?_) | (with_reducible refine w_maxI ?_) | (with_reducible refine w_minI ?_) | (with_reducible refine w_lenT ?_) | (with_reducible refine w_slT ?_) | (with_reducible refine w_sseq ?_) | (with_reducible refine w_senum ?_) | (with_reducible refine w_szip ?_) | (with_reducible refine w_eqB ?_) | (with_reducible refine w_neB ?_))
local macro_rules | `(tactic| walk_at "ex3") => `(tactic| first | ((with_reducible apply w_var); (focus exact rfl)) | ((with_reducible apply w_aug); (focus exact rfl)) | ((with_reducible apply w_thaw); (focus exact rfl); (focus with_reducible assumption)) | ((with_reducible apply w_idxZ); (focus exact rfl); (focus with_reducible assumption)) | ((with_reducible apply wr_by); (focus with_reducible assumption)) | ((with_reducible apply w_via); (focus exact rfl)) | ((with_reducible apply w_mkTup); (focus exact Nat.le_of_ble_eq_true rfl)) | ((with_reducible apply w_mkLst); (focus exact Nat.le_of_ble_eq_true rfl)) | ((with_reducible apply w_ix); (focus exact rfl); (focus exact rfl)) | ((with_reducible apply w_lenL); (focus with_reducible assumption)) | ((with_reducible apply w_lenL); (focus with_reducible exact get_end)) | ((with_reducible apply w_isl); (focus with_reducible assumption)) | ((with_reducible apply w_append); (focus with_reducible assumption); (focus with_reducible assumption)) | ((with_reducible apply w_slL); (focus with_reducible assumption)) | ((with_reducible apply w_enumL); (focus with_reducible assumption)) | ((with_reducible apply w_tupL); (focus with_reducible assumption)) | ((with_reducible apply w_sdyn); (focus with_reducible assumption)) | ((with_reducible apply w_isi); (focus exact rfl)) | ((with_reducible apply w_isi2); (focus exact rfl)) | ((with_reducible apply w_eqS); (focus decide +kernel); (focus decide +kernel)) | ((with_reducible apply cond_af); (focus exact rfl)) | ((with_reducible apply cond_at); (focus exact rfl)) | ((with_reducible apply cond_af); (focus decide +kernel)) | ((with_reducible apply cond_at); (focus decide +kernel)))
local macro_rules | `(tactic| walk_at "go") => `(tactic| repeat (first | walk_at "ex1" | walk_at "ex2" | walk_at "ex3"))
def ssT (ws rs off : List D) (s : D) (j : Nat) : List D := (List.range j).map fun i => iter ws rs off i s
def ddT (ws rs off : List D) (s : D) (j : Nat) : List D := (List.range j).map fun i => didD ws rs off (iter ws rs off i s)
def kvT (ws rs off : List D) (s : D) (j : Nat) : List (D × D) := (List.range j).map fun i => (iter ws rs off i s, D.int (i : Int))
theorem ssT_succ {ws rs off : List D} {s : D} {j : Nat} : ssT ws rs off s (j + 1) = ssT ws rs off s j ++ [iter ws rs off j s] := by simp [ssT, List.range_succ]
theorem ddT_succ {ws rs off : List D} {s : D} {j : Nat} : ddT ws rs off s (j + 1) = ddT ws rs off s j ++ [didD ws rs off (iter ws rs off j s)] := by simp [ddT, List.range_succ]
theorem kvT_succ {ws rs off : List D} {s : D} {j : Nat} : kvT ws rs off s (j + 1) = kvT ws rs off s j ++ [(iter ws rs off j s, .int (j : Int))] := by simp [kvT, List.range_succ]
theorem ssT_at {ws rs off : List D} {s : D} {m i : Nat} (hi : i < m) : L2.atI (ssT ws rs off s m) (i : Int) = some (iter ws rs off i s) := atI_nat (by unfold ssT; rw [List.getElem?_map, List.getElem?_range hi]; rfl)
end Hd
set_option Elab.async false
set_option linter.all false
set_option maxRecDepth 100000
set_option maxHeartbeats 1000000
namespace Hd
open PySem U
local macro_rules | `(tactic| walk_at "ex1") => `(tactic| first | (with_reducible refine w_seq ?_) | (with_reducible refine w_set ?_) | (with_reducible refine w_ret ?_) | (with_reducible refine w_sif ?_) | (with_reducible refine w_asg2 ?_) | (with_reducible refine w_asg3 ?_) | (with_reducible refine w_asg4 ?_) | (with_reducible refine w_ex2 ?_) | (with_reducible refine w_ex3 ?_) | (with_reducible refine w_ex4 ?_) | (with_reducible refine w_par ?_) | (with_reducible refine w_par3 ?_) | (with_reducible refine w_expr ?_) | (with_reducible refine w_for ?_) | (with_reducible refine w_skip ?_) | (with_reducible refine w_fn ?_) | (with_reducible refine w_acons ?_) | (with_reducible refine w_anil ?_) | (with_reducible refine w_aapp ?_) | (with_reducible refine w_bin ?_) | (with_reducible refine w_un ?_) | (with_reducible refine w_c ?_) | (with_reducible refine w_tof ?_) | (with_reducible refine w_tob ?_) | (with_reducible refine w_tand ?_) | (with_reducible refine w_tor ?_) | (with_reducible refine w_tnot ?_) | (with_reducible refine w_eand ?_) | (with_reducible refine w_eor ?_) | (with_reducible refine w_enot ?_) | (with_reducible refine w_exb ?_) | (with_reducible refine w_exi ?_) | (with_reducible refine w_if ?_) | (with_reducible refine w_slice ?_) | (with_reducible refine w_onone ?_) | (with_reducible refine w_osome ?_) | (with_reducible refine w_lc ?_) | (with_reducible refine w_lc2 ?_) | (with_reducible refine w_mtl ?_) | (with_reducible refine w_iseq ?_) | (with_reducible refine w_irng ?_) | (with_reducible refine w_ienum ?_) | (with_reducible refine w_ibin ?_) | (with_reducible refine w_true ?_) | (with_reducible refine cond_t ?_) | (with_reducible refine cond_f ?_))
local macro_rules | `(tactic| walk_at "ex2") => `(tactic| first | (with_reducible refine w_addI ?_) | (with_reducible refine w_subI ?_) | (with_reducible refine w_ltI ?_) | (with_reducible refine w_leI ?_) | (with_reducible refine w_gtI ?_) | (with_reducible refine w_geI ?_) | (with_reducible refine w_eqI ?_) | (with_reducible refine w_neI ?_) | (with_reducible refine w_negI ?_) | (with_reducible refine w_maxI ?_) | (with_reducible refine w_minI ?_) | (with_reducible refine w_lenT ?_) | (with_reducible refine w_slT ?_) | (with_reducible refine w_sseq ?_) | (with_reducible refine w_senum ?_) | (with_reducible refine w_szip ?_) | (with_reducible refine w_eqB ?_) | (with_reducible refine w_neB ?_))
local macro_rules | `(tactic| walk_at "ex3") => `(tactic| first | ((with_reducible apply w_var); (focus exact rfl)) | ((with_reducible apply w_aug); (focus exact rfl)) | ((with_reducible apply w_thaw); (focus exact rfl); (focus with_reducible assumption)) | ((with_reducible apply w_idxZ); (focus exact rfl); (focus with_reducible assumption)) | ((with_reducible apply wr_by); (focus with_reducible assumption)) | ((with_reducible apply w_via); (focus exact rfl)) | ((with_reducible apply w_mkTup); (focus exact Nat.le_of_ble_eq_true rfl)) | ((with_reducible apply w_mkLst); (focus exact Nat.le_of_ble_eq_true rfl)) | ((with_reducible apply w_ix); (focus exact rfl); (focus exact rfl)) | ((with_reducible apply w_lenL); (focus with_reducible assumption)) | ((with_reducible apply w_lenL); (focus with_reducible exact get_end)) | ((with_reducible apply w_isl); (focus with_reducible assumption)) | ((with_reducible apply w_append); (focus with_reducible assumption); (focus with_reducible assumption)) | ((with_reducible apply w_slL); (focus with_reducible assumption)) | ((with_reducible apply w_enumL); (focus with_reducible assumption)) | ((with_reducible apply w_tupL); (focus with_reducible assumption)) | ((with_reducible apply w_sdyn); (focus with_reducible assumption)) | ((with_reducible apply w_isi); (focus exact rfl)) | ((with_reducible apply w_isi2); (focus exact rfl)) | ((with_reducible apply w_eqS); (focus decide +kernel); (focus decide +kernel)) | ((with_reducible apply cond_af); (focus exact rfl)) | ((with_reducible apply cond_at); (focus exact rfl)) | ((with_reducible apply cond_af); (focus decide +kernel)) | ((with_reducible apply cond_at); (focus decide +kernel)))
local macro_rules | `(tactic| walk_at "go") => `(tactic| repeat (first | walk_at "ex1" | walk_at "ex2" | walk_at "ex3"))
def mkT (S : Sto) (ws rs off : List D) (s : D) (j : Nat) (ex : List Ob) : Sto := S ++ .lst (ssT ws rs off s j) :: .lst (ddT ws rs off s j) :: .dct (kvT ws rs off s j) :: ex
def ET (S : Sto) (ws rs off : List D) (t : D) (x7 : Option D) : Ev := [some (.tup ws), some (.tup rs), some t, some (.tup off), some (.ref S.length), some (.ref (S.length + 1)), some (.ref (S.length + 2)), x7]
abbrev bdT : SM := (sSeq (sDPutM (eVar 6) (eVar 2) (eFn fLen (aCons (eVar 4) aNil)))
    (sSeq (sExpr (eMtL mAppend (eVar 4) (aCons (eVar 2) aNil)))
    (sSeq (sAsg (eFn m__law_beat (aCons (eVar 0) (aCons (eVar 1) (aCons (eVar 2) (aCons (eFn m__law_own (aCons (eVar 1) aNil)) (aCons (eVar 3) aNil)))))) (gT 2 (gsCons (gN 7) (gsCons (gN 2) gsNil))))
    (sExpr (eMtL mAppend (eVar 5) (aCons (eVar 7) aNil))))))
theorem track_body {S : Sto} {ws rs off : List D} {s : D} {m b j : Nat} {ex : List Ob} {x7 : Option D} (Rk : RunOk ws rs off) (hcs : FewC rs) (h : SOk ws rs s) (r : Rho ws rs off s m b) (hj : j < m) :
    ∃ ex2, bdT (ET S ws rs off (iter ws rs off j s) x7) (mkT S ws rs off s j ex) = .nx (ET S ws rs off (iter ws rs off (j + 1) s) (some (didD ws rs off (iter ws rs off j s)))) (mkT S ws rs off s (j + 1) ex2) := by
  have hf := r.few
  obtain ⟨k, hk, hkd⟩ := ask_ok (iter_ok Rk h j)
  have hno : getK (kvT ws rs off s j) k = none := row_none Rk h (iter_ok Rk h j) hkd fun i hi => r.dist i j hi hj
  obtain ⟨ex1, hb⟩ := lawbeat_run (S := S ++ .lst (ssT ws rs off s (j + 1)) :: .lst (ddT ws rs off s j) :: .dct (kvT ws rs off s (j + 1)) :: ex) Rk hcs (iter_ok Rk h j)
  have hlen : fLen [.ref S.length] (mkT S ws rs off s j ex) = .ok (.int (j : Int)) (mkT S ws rs off s j ex) := by
    have := len_end (st := S) (ex := .lst (ssT ws rs off s j) :: .lst (ddT ws rs off s j) :: .dct (kvT ws rs off s j) :: ex) (xs := ssT ws rs off s j) (k := 0) rfl
    rw [show (ssT ws rs off s j).length = j by simp [ssT]] at this
    exact this
  refine ⟨ex ++ ex1, ?_⟩
  refine seq_to (env1 := ET S ws rs off (iter ws rs off j s) x7) (st1 := S ++ .lst (ssT ws rs off s j) :: .lst (ddT ws rs off s j) :: .dct (kvT ws rs off s (j + 1)) :: ex) ?_ ?_
  · rw [ev_dput, ev_fn, ev_acons, ev_at (d := .ref S.length) rfl, ev_bok, ev_anil, ev_bok, ev_bok, hlen, ev_tok, ev_at (d := .ref (S.length + 2)) rfl, ev_tok, ev_at (d := iter ws rs off j s) rfl, ev_tok, putSt_ok (n := S.length + 2) (kvs := kvT ws rs off s j) (by unfold mkT; exact at_end2) hk (by simp only [kvT, List.length_map, List.length_range]; exact Nat.lt_of_lt_of_le (show j < 15552 by omega) (by decide)) (by rw [hno]; simp)]
    show RS.nx _ ((mkT S ws rs off s j ex).set (S.length + 2) _) = _
    unfold mkT
    rw [set_end2, ← kvT_succ]
  refine seq_to (env1 := ET S ws rs off (iter ws rs off j s) x7) (st1 := S ++ .lst (ssT ws rs off s (j + 1)) :: .lst (ddT ws rs off s j) :: .dct (kvT ws rs off s (j + 1)) :: ex) ?_ ?_
  · rw [ev_expr, app_run (k := S.length) (xs := ssT ws rs off s j) (d := iter ws rs off j s) (ev_at rfl) at_end0 (ev_at rfl) (by simp only [ssT, List.length_map, List.length_range]; exact Nat.lt_of_lt_of_le (show j < 15552 by omega) (by decide)), ev_tok, set_end0, ← ssT_succ]
  refine seq_to (env1 := ET S ws rs off (iter ws rs off (j + 1) s) (some (didD ws rs off (iter ws rs off j s)))) (st1 := (S ++ .lst (ssT ws rs off s (j + 1)) :: .lst (ddT ws rs off s j) :: .dct (kvT ws rs off s (j + 1)) :: ex) ++ ex1) ?_ ?_
  · rw [ev_asg, ev_fn, ev_acons, ev_at (d := .tup ws) rfl, ev_bok, ev_acons, ev_at (d := .tup rs) rfl, ev_bok, ev_acons, ev_at (d := iter ws rs off j s) rfl, ev_bok, ev_acons, ev_fn, ev_acons, ev_at (d := .tup rs) rfl, ev_bok, ev_anil, ev_bok, ev_bok, own_run Rk.n5, ev_bok, ev_acons, ev_at (d := .tup off) rfl, ev_bok, ev_anil, ev_bok, ev_bok, ev_bok, ev_bok, ev_bok, ev_bok, hb, ev_tok]
    rfl
  · rw [List.append_assoc]
    show sExpr _ (ET S ws rs off (iter ws rs off (j + 1) s) (some (didD ws rs off (iter ws rs off j s)))) (S ++ .lst (ssT ws rs off s (j + 1)) :: .lst (ddT ws rs off s j) :: (.dct (kvT ws rs off s (j + 1)) :: ex ++ ex1)) = _
    rw [ev_expr, app_run (k := S.length + 1) (xs := ddT ws rs off s j) (d := didD ws rs off (iter ws rs off j s)) (ev_at rfl) at_end1 (ev_at rfl) (by simp only [ddT, List.length_map, List.length_range]; exact Nat.lt_of_lt_of_le (show j < 15552 by omega) (by decide)), ev_tok]
    show RS.nx _ ((S ++ _ :: _ :: _).set (S.length + 1) _) = _
    rw [set_end1, ← ddT_succ]
    rfl
theorem track_while {S : Sto} {ws rs off : List D} {s : D} {m b : Nat} (Rk : RunOk ws rs off) (hcs : FewC rs) (h : SOk ws rs s) (r : Rho ws rs off s m b) : ∀ (d fuel j : Nat) (ex : List Ob) (x7 : Option D), j + d = m → d < fuel →
    ∃ ex2 y7, runWhile (tOf (eBin (dInD true) (eVar 2) (eVar 6))) bdT fuel (ET S ws rs off (iter ws rs off j s) x7) (mkT S ws rs off s j ex) = .nx (ET S ws rs off (iter ws rs off m s) y7) (mkT S ws rs off s m ex2)
  | d, 0, _, _, _, _, hf => by omega
  | 0, f + 1, j, ex, x7, hj, _ => by
    obtain rfl : j = m := by omega
    refine ⟨ex, x7, ?_⟩
    obtain ⟨k, hk, hkd⟩ := ask_ok (iter_ok Rk h j)
    have hso : getK (kvT ws rs off s j) k = some (.int (b : Int)) := row_some Rk h hkd r.lt r.rep.symm r.dist
    have hd : dctOf (mkT S ws rs off s j ex) (.ref (S.length + 2)) = some (kvT ws rs off s j) := dctOf_at' (by unfold mkT; exact at_end2)
    have hin : dInD true (iter ws rs off j s) (.ref (S.length + 2)) (mkT S ws rs off s j ex) = .ok (.bl false) (mkT S ws rs off s j ex) := by
      simp only [dInD, hd, hk, hso]
      rfl
    rw [ev_while, ev_tof, ev_bin, ev_at (d := iter ws rs off j s) rfl, ev_bok, ev_at (d := .ref (S.length + 2)) rfl, ev_bok, hin, ev_bok, ev_tob, ev_tok]
    rfl
  | d + 1, f + 1, j, ex, x7, hj, hf => by
    obtain ⟨ex1, e1⟩ := track_body (S := S) (ex := ex) (x7 := x7) Rk hcs h r (show j < m by omega)
    obtain ⟨ex2, y7, e2⟩ := track_while Rk hcs h r d f (j + 1) ex1 _ (by omega) (by omega)
    refine ⟨ex2, y7, ?_⟩
    obtain ⟨k, hk, hkd⟩ := ask_ok (iter_ok Rk h j)
    have hno : getK (kvT ws rs off s j) k = none := row_none Rk h (iter_ok Rk h j) hkd fun i hi => r.dist i j hi (by omega)
    have hd : dctOf (mkT S ws rs off s j ex) (.ref (S.length + 2)) = some (kvT ws rs off s j) := dctOf_at' (by unfold mkT; exact at_end2)
    have hin : dInD true (iter ws rs off j s) (.ref (S.length + 2)) (mkT S ws rs off s j ex) = .ok (.bl true) (mkT S ws rs off s j ex) := by
      simp only [dInD, hd, hk, hno]
      rfl
    rw [ev_while, ev_tof, ev_bin, ev_at (d := iter ws rs off j s) rfl, ev_bok, ev_at (d := .ref (S.length + 2)) rfl, ev_bok, hin, ev_bok, ev_tob, ev_tok, if_pos rfl, e1]
    exact e2
theorem track_run {S : Sto} {ws rs off : List D} {s : D} {m b : Nat} (Rk : RunOk ws rs off) (hcs : FewC rs) (h : SOk ws rs s) (r : Rho ws rs off s m b) : ∃ ex, m__law_track [.tup ws, .tup rs, s, .tup off] S = .ok (.tup [.ref S.length, .ref (S.length + 1), .int (b : Int)]) (mkT S ws rs off s m ex) := by
  have hf := r.few
  obtain ⟨ex, y7, e1⟩ := track_while (S := S) Rk hcs h r m wfuel 0 [] none (by omega) (Nat.lt_of_le_of_lt hf (by decide))
  refine ⟨ex, ?_⟩
  unfold m__law_track
  rw [ev_mkfn, if_pos (show [D.tup ws, .tup rs, s, .tup off].length = 4 from rfl)]
  have hb : b__law_track [some (.tup ws), some (.tup rs), some s, some (.tup off), none, none, none, none] S = .rt (.tup [.ref S.length, .ref (S.length + 1), .int (b : Int)]) (mkT S ws rs off s m ex) := by
    unfold b__law_track
    refine par3_to (x := .ref S.length) (y := .ref (S.length + 1)) (z := .ref (S.length + 2)) (s1 := S ++ [.lst []]) (s2 := S ++ [.lst [], .lst []]) (s3 := mkT S ws rs off s 0 []) ?_ ?_ ?_ ?_
    · rw [ev_fn, ev_anil, ev_bok, mkLst_nil]
    · rw [ev_fn, ev_anil, ev_bok, mkLst_nil]
      simp
    · rw [ev_dnew]
      simp [mkT, ssT, ddT, kvT]
    refine seq_to e1 (ret_to ?_)
    obtain ⟨k, hk, hkd⟩ := ask_ok (iter_ok Rk h m)
    have hso : getK (kvT ws rs off s m) k = some (.int (b : Int)) := row_some Rk h hkd r.lt r.rep.symm r.dist
    have hd : dctOf (mkT S ws rs off s m ex) (.ref (S.length + 2)) = some (kvT ws rs off s m) := dctOf_at' (by unfold mkT; exact at_end2)
    have hg : dGetD (.ref (S.length + 2)) (iter ws rs off m s) (mkT S ws rs off s m ex) = .ok (.int (b : Int)) (mkT S ws rs off s m ex) := by
      simp only [dGetD, hd, hk, hso]
    rw [ev_fn, ev_acons, ev_at (d := .ref S.length) rfl, ev_bok, ev_acons, ev_at (d := .ref (S.length + 1)) rfl, ev_bok, ev_acons, ev_bin, ev_at (d := .ref (S.length + 2)) rfl, ev_bok, ev_at (d := iter ws rs off m s) rfl, ev_bok, hg, ev_bok, ev_anil, ev_bok, ev_bok, ev_bok, ev_bok, mkTup3]
  exact (congrArg endFn hb).trans rfl

end Hd
set_option Elab.async false
set_option linter.all false
set_option maxRecDepth 100000
set_option maxHeartbeats 1000000
namespace Hd
open PySem U
local macro_rules | `(tactic| walk_at "ex1") => `(tactic| first | (with_reducible refine w_seq ?_) | (with_reducible refine w_set ?_) | (with_reducible refine w_ret ?_) | (with_reducible refine w_sif ?_) | (with_reducible refine w_asg2 ?_) | (with_reducible refine w_asg3 ?_) | (with_reducible refine w_asg4 ?_) | (with_reducible refine w_ex2 ?_) | (with_reducible refine w_ex3 ?_) | (with_reducible refine w_ex4 ?_) | (with_reducible refine w_par ?_) | (with_reducible refine w_par3 ?_) | (with_reducible refine w_expr ?_) | (with_reducible refine w_for ?_) | (with_reducible refine w_skip ?_) | (with_reducible refine w_fn ?_) | (with_reducible refine w_acons ?_) | (with_reducible refine w_anil ?_) | (with_reducible refine w_aapp ?_) | (with_reducible refine w_bin ?_) | (with_reducible refine w_un ?_) | (with_reducible refine w_c ?_) | (with_reducible refine w_tof ?_) | (with_reducible refine w_tob ?_) | (with_reducible refine w_tand ?_) | (with_reducible refine w_tor ?_) | (with_reducible refine w_tnot ?_) | (with_reducible refine w_eand ?_) | (with_reducible refine w_eor ?_) | (with_reducible refine w_enot ?_) | (with_reducible refine w_exb ?_) | (with_reducible refine w_exi ?_) | (with_reducible refine w_if ?_) | (with_reducible refine w_slice ?_) | (with_reducible refine w_onone ?_) | (with_reducible refine w_osome ?_) | (with_reducible refine w_lc ?_) | (with_reducible refine w_lc2 ?_) | (with_reducible refine w_mtl ?_) | (with_reducible refine w_iseq ?_) | (with_reducible refine w_irng ?_) | (with_reducible refine w_ienum ?_) | (with_reducible refine w_ibin ?_) | (with_reducible refine w_true ?_) | (with_reducible refine cond_t ?_) | (with_reducible refine cond_f ?_))
local macro_rules | `(tactic| walk_at "ex2") => `(tactic| first | (with_reducible refine w_addI ?_) | (with_reducible refine w_subI ?_) | (with_reducible refine w_ltI ?_) | (with_reducible refine w_leI ?_) | (with_reducible refine w_gtI ?_) | (with_reducible refine w_geI ?_) | (with_reducible refine w_eqI ?_) | (with_reducible refine w_neI ?_) | (with_reducible refine w_negI ?_) | (with_reducible refine w_maxI ?_) | (with_reducible refine w_minI ?_) | (with_reducible refine w_lenT ?_) | (with_reducible refine w_slT ?_) | (with_reducible refine w_sseq ?_) | (with_reducible refine w_senum ?_) | (with_reducible refine w_szip ?_) | (with_reducible refine w_eqB ?_) | (with_reducible refine w_neB ?_))
local macro_rules | `(tactic| walk_at "ex3") => `(tactic| first | ((with_reducible apply w_var); (focus exact rfl)) | ((with_reducible apply w_aug); (focus exact rfl)) | ((with_reducible apply w_thaw); (focus exact rfl); (focus with_reducible assumption)) | ((with_reducible apply w_idxZ); (focus exact rfl); (focus with_reducible assumption)) | ((with_reducible apply wr_by); (focus with_reducible assumption)) | ((with_reducible apply w_via); (focus exact rfl)) | ((with_reducible apply w_mkTup); (focus exact Nat.le_of_ble_eq_true rfl)) | ((with_reducible apply w_mkLst); (focus exact Nat.le_of_ble_eq_true rfl)) | ((with_reducible apply w_ix); (focus exact rfl); (focus exact rfl)) | ((with_reducible apply w_lenL); (focus with_reducible assumption)) | ((with_reducible apply w_lenL); (focus with_reducible exact get_end)) | ((with_reducible apply w_isl); (focus with_reducible assumption)) | ((with_reducible apply w_append); (focus with_reducible assumption); (focus with_reducible assumption)) | ((with_reducible apply w_slL); (focus with_reducible assumption)) | ((with_reducible apply w_enumL); (focus with_reducible assumption)) | ((with_reducible apply w_tupL); (focus with_reducible assumption)) | ((with_reducible apply w_sdyn); (focus with_reducible assumption)) | ((with_reducible apply w_isi); (focus exact rfl)) | ((with_reducible apply w_isi2); (focus exact rfl)) | ((with_reducible apply w_eqS); (focus decide +kernel); (focus decide +kernel)) | ((with_reducible apply cond_af); (focus exact rfl)) | ((with_reducible apply cond_at); (focus exact rfl)) | ((with_reducible apply cond_af); (focus decide +kernel)) | ((with_reducible apply cond_at); (focus decide +kernel)))
local macro_rules | `(tactic| walk_at "go") => `(tactic| repeat (first | walk_at "ex1" | walk_at "ex2" | walk_at "ex3"))
section
variable {ws rs off : List D} {s : D} {B bk : Nat} {T : Sto}
theorem told_rho (O : OffOk ws rs off) (hb : T[bk]? = some (bookO ws rs)) (h : SOk ws rs s) {m b : Nat} (ρ : Rho ws rs off s m b) : s_round_of [.ref bk, s, .tup off] T = .ok (.tup [.int (b : Int), .int ((m - b : Nat) : Int)]) T := by
  have h1 := ρ.lt
  rw [round_of_of (bookO_at hb) (runO_all O.run O.rise h ρ), List.length_map, List.length_range, show (m : Int) - (b : Int) = ((m - b : Nat) : Int) by omega]
end

end Hd
set_option Elab.async false
set_option linter.all false
set_option maxRecDepth 100000
set_option maxHeartbeats 1000000
namespace Hd
open PySem U
local macro_rules | `(tactic| walk_at "ex1") => `(tactic| first | (with_reducible refine w_seq ?_) | (with_reducible refine w_set ?_) | (with_reducible refine w_ret ?_) | (with_reducible refine w_sif ?_) | (with_reducible refine w_asg2 ?_) | (with_reducible refine w_asg3 ?_) | (with_reducible refine w_asg4 ?_) | (with_reducible refine w_ex2 ?_) | (with_reducible refine w_ex3 ?_) | (with_reducible refine w_ex4 ?_) | (with_reducible refine w_par ?_) | (with_reducible refine w_par3 ?_) | (with_reducible refine w_expr ?_) | (with_reducible refine w_for ?_) | (with_reducible refine w_skip ?_) | (with_reducible refine w_fn ?_) | (with_reducible refine w_acons ?_) | (with_reducible refine w_anil ?_) | (with_reducible refine w_aapp ?_) | (with_reducible refine w_bin ?_) | (with_reducible refine w_un ?_) | (with_reducible refine w_c ?_) | (with_reducible refine w_tof ?_) | (with_reducible refine w_tob ?_) | (with_reducible refine w_tand ?_) | (with_reducible refine w_tor ?_) | (with_reducible refine w_tnot ?_) | (with_reducible refine w_eand ?_) | (with_reducible refine w_eor ?_) | (with_reducible refine w_enot ?_) | (with_reducible refine w_exb ?_) | (with_reducible refine w_exi ?_) | (with_reducible refine w_if ?_) | (with_reducible refine w_slice ?_) | (with_reducible refine w_onone ?_) | (with_reducible refine w_osome ?_) | (with_reducible refine w_lc ?_) | (with_reducible refine w_lc2 ?_) | (with_reducible refine w_mtl ?_) | (with_reducible refine w_iseq ?_) | (with_reducible refine w_irng ?_) | (with_reducible refine w_ienum ?_) | (with_reducible refine w_ibin ?_) | (with_reducible refine w_true ?_) | (with_reducible refine cond_t ?_) | (with_reducible refine cond_f ?_))
local macro_rules | `(tactic| walk_at "ex2") => `(tactic| first | (with_reducible refine w_addI ?_) | (with_reducible refine w_subI ?_) | (with_reducible refine w_ltI ?_) | (with_reducible refine w_leI ?_) | (with_reducible refine w_gtI ?_) | (with_reducible refine w_geI ?_) | (with_reducible refine w_eqI ?_) | (with_reducible refine w_neI ?_) | (with_reducible refine w_negI ?_) | (with_reducible refine w_maxI ?_) | (with_reducible refine w_minI ?_) | (with_reducible refine w_lenT ?_) | (with_reducible refine w_slT ?_) | (with_reducible refine w_sseq ?_) | (with_reducible refine w_senum ?_) | (with_reducible refine w_szip ?_) | (with_reducible refine w_eqB ?_) | (with_reducible refine w_neB ?_))
local macro_rules | `(tactic| walk_at "ex3") => `(tactic| first | ((with_reducible apply w_var); (focus exact rfl)) | ((with_reducible apply w_aug); (focus exact rfl)) | ((with_reducible apply w_thaw); (focus exact rfl); (focus with_reducible assumption)) | ((with_reducible apply w_idxZ); (focus exact rfl); (focus with_reducible assumption)) | ((with_reducible apply wr_by); (focus with_reducible assumption)) | ((with_reducible apply w_via); (focus exact rfl)) | ((with_reducible apply w_mkTup); (focus exact Nat.le_of_ble_eq_true rfl)) | ((with_reducible apply w_mkLst); (focus exact Nat.le_of_ble_eq_true rfl)) | ((with_reducible apply w_ix); (focus exact rfl); (focus exact rfl)) | ((with_reducible apply w_lenL); (focus with_reducible assumption)) | ((with_reducible apply w_lenL); (focus with_reducible exact get_end)) | ((with_reducible apply w_isl); (focus with_reducible assumption)) | ((with_reducible apply w_append); (focus with_reducible assumption); (focus with_reducible assumption)) | ((with_reducible apply w_slL); (focus with_reducible assumption)) | ((with_reducible apply w_enumL); (focus with_reducible assumption)) | ((with_reducible apply w_tupL); (focus with_reducible assumption)) | ((with_reducible apply w_sdyn); (focus with_reducible assumption)) | ((with_reducible apply w_isi); (focus exact rfl)) | ((with_reducible apply w_isi2); (focus exact rfl)) | ((with_reducible apply w_eqS); (focus decide +kernel); (focus decide +kernel)) | ((with_reducible apply cond_af); (focus exact rfl)) | ((with_reducible apply cond_at); (focus exact rfl)) | ((with_reducible apply cond_af); (focus decide +kernel)) | ((with_reducible apply cond_at); (focus decide +kernel)))
local macro_rules | `(tactic| walk_at "go") => `(tactic| repeat (first | walk_at "ex1" | walk_at "ex2" | walk_at "ex3"))
def begF (found : List (List D)) (w : D) : List (List D) := found.flatMap fun v => (List.range (wI w).toNat).map fun (p : Nat) => v ++ [D.int (p : Int)]
def begL (ws : List D) : List (List D) := ws.foldl begF [[]]
def begD (ws : List D) : List D := (begL ws).map D.tup
def begS (n : Nat) (v : D) : D := .tup [v, .tup (List.replicate n (.int 0))]
theorem begL_snoc {ws : List D} {w : D} : begL (ws ++ [w]) = begF (begL ws) w := by unfold begL; rw [List.foldl_append]; rfl
theorem begL_ok : ∀ {ws : List D}, (∀ w ∈ ws, ∃ m : Nat, w = .int m) → ∀ v ∈ begL ws, VOk ws v := by
  intro ws hw
  have key : ∀ (n : Nat) (us : List D), us.length = n → (∀ w ∈ us, ∃ m : Nat, w = .int m) → ∀ v ∈ begL us, VOk us v := by
    intro n
    induction n with
    | zero =>
      intro us hu _ v hv
      obtain rfl := List.eq_nil_of_length_eq_zero hu
      simp only [begL, List.foldl_nil, List.mem_singleton] at hv
      subst hv
      exact ⟨rfl, fun i w h => by simp at h⟩
    | succ n ih =>
      intro us hu hw v hv
      obtain ⟨ts, t, rfl⟩ : ∃ ts t, us = ts ++ [t] := ⟨us.dropLast, us.getLast (by intro e; rw [e] at hu; cases hu), (List.dropLast_concat_getLast _).symm⟩
      rw [begL_snoc] at hv
      unfold begF at hv
      obtain ⟨u, hu1, hu2⟩ := List.mem_flatMap.mp hv
      obtain ⟨p, hp, rfl⟩ := List.mem_map.mp hu2
      obtain ⟨m, rfl⟩ := hw t (by simp)
      have hu3 := ih ts (by simpa using hu) (fun w h => hw w (List.mem_append_left _ h)) u hu1
      have hp2 : p < m := by have := List.mem_range.mp hp; simpa [wI] using this
      refine ⟨by simp [hu3.1], fun i w hi => ?_⟩
      by_cases h : i < ts.length
      · rw [List.getElem?_append_left h] at hi
        obtain ⟨v, m', h1, h2, h3⟩ := hu3.2 i w hi
        exact ⟨v, m', by rw [List.getElem?_append_left (by rw [hu3.1]; exact h)]; exact h1, h2, h3⟩
      · have hl := (List.getElem?_eq_some_iff.mp hi).1
        simp only [List.length_append, List.length_singleton] at hl
        have hii : i = ts.length := by omega
        subst hii
        rw [List.getElem?_append_right (Nat.le_refl _), Nat.sub_self] at hi
        simp only [List.getElem?_cons_zero, Option.some.injEq] at hi
        subst hi
        exact ⟨p, m, by rw [← hu3.1, List.getElem?_append_right (Nat.le_refl _), Nat.sub_self]; rfl, rfl, hp2⟩
  exact key ws.length ws rfl hw
theorem begF_len {w : D} : ∀ (found : List (List D)), (begF found w).length = found.length * (wI w).toNat
  | [] => by simp [begF]
  | v :: found => by
    have := begF_len (w := w) found
    unfold begF at this ⊢
    rw [List.flatMap_cons, List.length_append, this, List.length_map, List.length_range, List.length_cons, Nat.succ_mul, Nat.add_comm]
theorem begL_few {ws : List D} (hl : ws.length ≤ 3) (h4 : ∀ w ∈ ws, ∃ m : Nat, w = .int m ∧ m ≤ 4) : (begL ws).length ≤ 64 := by
  have key : ∀ (us : List D) (f : List (List D)), (∀ w ∈ us, ∃ m : Nat, w = .int m ∧ m ≤ 4) → (us.foldl begF f).length ≤ f.length * 4 ^ us.length := by
    intro us
    induction us with
    | nil => intro f _; simp
    | cons u us ih =>
      intro f h
      obtain ⟨m, rfl, hm⟩ := h u List.mem_cons_self
      have h1 := ih (begF f (.int m)) fun w hw => h w (List.mem_cons_of_mem _ hw)
      rw [begF_len] at h1
      have h2 : f.length * (wI (.int (m : Int))).toNat ≤ f.length * 4 := Nat.mul_le_mul_left _ (by simpa [wI] using hm)
      rw [List.foldl_cons, List.length_cons, Nat.pow_succ]
      calc _ ≤ _ := h1
        _ ≤ f.length * 4 * 4 ^ us.length := Nat.mul_le_mul_right _ h2
        _ = f.length * (4 ^ us.length * 4) := by rw [Nat.mul_assoc, Nat.mul_comm 4]
  have h1 := key ws [[]] h4
  have h2 : (4 : Nat) ^ ws.length ≤ 4 ^ 3 := Nat.pow_le_pow_right (by omega) hl
  have h3 : ([[]] : List (List D)).length * 4 ^ ws.length ≤ 64 := by simpa using h2
  exact Nat.le_trans h1 h3
section
variable {ws rs off : List D} {bk : Nat} {T : Sto}
end

end Hd
set_option Elab.async false
set_option linter.all false
set_option maxRecDepth 100000
set_option maxHeartbeats 1000000
namespace Hd
open PySem U
local macro_rules | `(tactic| walk_at "ex1") => `(tactic| first | (with_reducible refine w_seq ?_) | (with_reducible refine w_set ?_) | (with_reducible refine w_ret ?_) | (with_reducible refine w_sif ?_) | (with_reducible refine w_asg2 ?_) | (with_reducible refine w_asg3 ?_) | (with_reducible refine w_asg4 ?_) | (with_reducible refine w_ex2 ?_) | (with_reducible refine w_ex3 ?_) | (with_reducible refine w_ex4 ?_) | (with_reducible refine w_par ?_) | (with_reducible refine w_par3 ?_) | (with_reducible refine w_expr ?_) | (with_reducible refine w_for ?_) | (with_reducible refine w_skip ?_) | (with_reducible refine w_fn ?_) | (with_reducible refine w_acons ?_) | (with_reducible refine w_anil ?_) | (with_reducible refine w_aapp ?_) | (with_reducible refine w_bin ?_) | (with_reducible refine w_un ?_) | (with_reducible refine w_c ?_) | (with_reducible refine w_tof ?_) | (with_reducible refine w_tob ?_) | (with_reducible refine w_tand ?_) | (with_reducible refine w_tor ?_) | (with_reducible refine w_tnot ?_) | (with_reducible refine w_eand ?_) | (with_reducible refine w_eor ?_) | (with_reducible refine w_enot ?_) | (with_reducible refine w_exb ?_) | (with_reducible refine w_exi ?_) | (with_reducible refine w_if ?_) | (with_reducible refine w_slice ?_) | (with_reducible refine w_onone ?_) | (with_reducible refine w_osome ?_) | (with_reducible refine w_lc ?_) | (with_reducible refine w_lc2 ?_) | (with_reducible refine w_mtl ?_) | (with_reducible refine w_iseq ?_) | (with_reducible refine w_irng ?_) | (with_reducible refine w_ienum ?_) | (with_reducible refine w_ibin ?_) | (with_reducible refine w_true ?_) | (with_reducible refine cond_t ?_) | (with_reducible refine cond_f ?_))
local macro_rules | `(tactic| walk_at "ex2") => `(tactic| first | (with_reducible refine w_addI ?_) | (with_reducible refine w_subI ?_) | (with_reducible refine w_ltI ?_) | (with_reducible refine w_leI ?_) | (with_reducible refine w_gtI ?_) | (with_reducible refine w_geI ?_) | (with_reducible refine w_eqI ?_) | (with_reducible refine w_neI ?_) | (with_reducible refine w_negI ?_) | (with_reducible refine w_maxI ?_) | (with_reducible refine w_minI ?_) | (with_reducible refine w_lenT ?_) | (with_reducible refine w_slT ?_) | (with_reducible refine w_sseq ?_) | (with_reducible refine w_senum ?_) | (with_reducible refine w_szip ?_) | (with_reducible refine w_eqB ?_) | (with_reducible refine w_neB ?_))
local macro_rules | `(tactic| walk_at "ex3") => `(tactic| first | ((with_reducible apply w_var); (focus exact rfl)) | ((with_reducible apply w_aug); (focus exact rfl)) | ((with_reducible apply w_thaw); (focus exact rfl); (focus with_reducible assumption)) | ((with_reducible apply w_idxZ); (focus exact rfl); (focus with_reducible assumption)) | ((with_reducible apply wr_by); (focus with_reducible assumption)) | ((with_reducible apply w_via); (focus exact rfl)) | ((with_reducible apply w_mkTup); (focus exact Nat.le_of_ble_eq_true rfl)) | ((with_reducible apply w_mkLst); (focus exact Nat.le_of_ble_eq_true rfl)) | ((with_reducible apply w_ix); (focus exact rfl); (focus exact rfl)) | ((with_reducible apply w_lenL); (focus with_reducible assumption)) | ((with_reducible apply w_lenL); (focus with_reducible exact get_end)) | ((with_reducible apply w_isl); (focus with_reducible assumption)) | ((with_reducible apply w_append); (focus with_reducible assumption); (focus with_reducible assumption)) | ((with_reducible apply w_slL); (focus with_reducible assumption)) | ((with_reducible apply w_enumL); (focus with_reducible assumption)) | ((with_reducible apply w_tupL); (focus with_reducible assumption)) | ((with_reducible apply w_sdyn); (focus with_reducible assumption)) | ((with_reducible apply w_isi); (focus exact rfl)) | ((with_reducible apply w_isi2); (focus exact rfl)) | ((with_reducible apply w_eqS); (focus decide +kernel); (focus decide +kernel)) | ((with_reducible apply cond_af); (focus exact rfl)) | ((with_reducible apply cond_at); (focus exact rfl)) | ((with_reducible apply cond_af); (focus decide +kernel)) | ((with_reducible apply cond_at); (focus decide +kernel)))
local macro_rules | `(tactic| walk_at "go") => `(tactic| repeat (first | walk_at "ex1" | walk_at "ex2" | walk_at "ex3"))
section
variable {ws rs off : List D} {s : D} {bk : Nat} {T : Sto}
theorem begD_mem (Dr : DrawOk ws rs) {d : D} (h : d ∈ begD ws) : ∃ v, d = .tup v ∧ VOk ws v := by
  obtain ⟨v, hv, rfl⟩ := List.mem_map.mp h
  exact ⟨v, rfl, begL_ok (fun w hw => let ⟨m, e, _⟩ := Dr.wh.w w hw; ⟨m, e⟩) v hv⟩
theorem begS_ok (Dr : DrawOk ws rs) {d : D} (h : d ∈ begD ws) : SOk ws rs (begS rs.length d) := by
  obtain ⟨v, rfl, hv⟩ := begD_mem Dr h
  exact ⟨v, _, rfl, hv, by simp, fun i hi => ⟨0, by rw [List.getElem?_replicate, if_pos hi]; rfl, by omega⟩⟩
theorem begD_few (Dr : DrawOk ws rs) : (begD ws).length ≤ 64 := by
  unfold begD
  rw [List.length_map]
  exact begL_few Dr.wh.l3 fun w h => let ⟨m, e, _, h4⟩ := Dr.wh.w w h; ⟨m, e, h4⟩
end

end Hd
set_option Elab.async false
set_option linter.all false
set_option maxRecDepth 100000
set_option maxHeartbeats 1000000
namespace Hd
open PySem U
local macro_rules | `(tactic| walk_at "ex1") => `(tactic| first | (with_reducible refine w_seq ?_) | (with_reducible refine w_set ?_) | (with_reducible refine w_ret ?_) | (with_reducible refine w_sif ?_) | (with_reducible refine w_asg2 ?_) | (with_reducible refine w_asg3 ?_) | (with_reducible refine w_asg4 ?_) | (with_reducible refine w_ex2 ?_) | (with_reducible refine w_ex3 ?_) | (with_reducible refine w_ex4 ?_) | (with_reducible refine w_par ?_) | (with_reducible refine w_par3 ?_) | (with_reducible refine w_expr ?_) | (with_reducible refine w_for ?_) | (with_reducible refine w_skip ?_) | (with_reducible refine w_fn ?_) | (with_reducible refine w_acons ?_) | (with_reducible refine w_anil ?_) | (with_reducible refine w_aapp ?_) | (with_reducible refine w_bin ?_) | (with_reducible refine w_un ?_) | (with_reducible refine w_c ?_) | (with_reducible refine w_tof ?_) | (with_reducible refine w_tob ?_) | (with_reducible refine w_tand ?_) | (with_reducible refine w_tor ?_) | (with_reducible refine w_tnot ?_) | (with_reducible refine w_eand ?_) | (with_reducible refine w_eor ?_) | (with_reducible refine w_enot ?_) | (with_reducible refine w_exb ?_) | (with_reducible refine w_exi ?_) | (with_reducible refine w_if ?_) | (with_reducible refine w_slice ?_) | (with_reducible refine w_onone ?_) | (with_reducible refine w_osome ?_) | (with_reducible refine w_lc ?_) | (with_reducible refine w_lc2 ?_) | (with_reducible refine w_mtl ?_) | (with_reducible refine w_iseq ?_) | (with_reducible refine w_irng ?_) | (with_reducible refine w_ienum ?_) | (with_reducible refine w_ibin ?_) | (with_reducible refine w_true ?_) | (with_reducible refine cond_t ?_) | (with_reducible refine cond_f ?_))
local macro_rules | `(tactic| walk_at "ex2") => `(tactic| first | (with_reducible refine w_addI ?_) | (with_reducible refine w_subI ?_) | (with_reducible refine w_ltI ?_) | (with_reducible refine w_leI ?_) | (with_reducible refine w_gtI ?_) | (with_reducible refine w_geI ?_) | (with_reducible refine w_eqI ?_) | (with_reducible refine w_neI ?_) | (with_reducible refine w_negI ?_) | (with_reducible refine w_maxI ?_) | (with_reducible refine w_minI ?_) | (with_reducible refine w_lenT ?_) | (with_reducible refine w_slT ?_) | (with_reducible refine w_sseq ?_) | (with_reducible refine w_senum ?_) | (with_reducible refine w_szip ?_) | (with_reducible refine w_eqB ?_) | (with_reducible refine w_neB ?_))
local macro_rules | `(tactic| walk_at "ex3") => `(tactic| first | ((with_reducible apply w_var); (focus exact rfl)) | ((with_reducible apply w_aug); (focus exact rfl)) | ((with_reducible apply w_thaw); (focus exact rfl); (focus with_reducible assumption)) | ((with_reducible apply w_idxZ); (focus exact rfl); (focus with_reducible assumption)) | ((with_reducible apply wr_by); (focus with_reducible assumption)) | ((with_reducible apply w_via); (focus exact rfl)) | ((with_reducible apply w_mkTup); (focus exact Nat.le_of_ble_eq_true rfl)) | ((with_reducible apply w_mkLst); (focus exact Nat.le_of_ble_eq_true rfl)) | ((with_reducible apply w_ix); (focus exact rfl); (focus exact rfl)) | ((with_reducible apply w_lenL); (focus with_reducible assumption)) | ((with_reducible apply w_lenL); (focus with_reducible exact get_end)) | ((with_reducible apply w_isl); (focus with_reducible assumption)) | ((with_reducible apply w_append); (focus with_reducible assumption); (focus with_reducible assumption)) | ((with_reducible apply w_slL); (focus with_reducible assumption)) | ((with_reducible apply w_enumL); (focus with_reducible assumption)) | ((with_reducible apply w_tupL); (focus with_reducible assumption)) | ((with_reducible apply w_sdyn); (focus with_reducible assumption)) | ((with_reducible apply w_isi); (focus exact rfl)) | ((with_reducible apply w_isi2); (focus exact rfl)) | ((with_reducible apply w_eqS); (focus decide +kernel); (focus decide +kernel)) | ((with_reducible apply cond_af); (focus exact rfl)) | ((with_reducible apply cond_at); (focus exact rfl)) | ((with_reducible apply cond_af); (focus decide +kernel)) | ((with_reducible apply cond_at); (focus decide +kernel)))
local macro_rules | `(tactic| walk_at "go") => `(tactic| repeat (first | walk_at "ex1" | walk_at "ex2" | walk_at "ex3"))
section
variable {ws rs off : List D} {T : Sto}
theorem lstarts_run (Dr : DrawOk ws rs) : ∃ n ex, m__law_starts [.tup ws] T = .ok (.ref n) (T ++ ex) ∧ (T ++ ex)[n]? = some (.lst (begD ws)) ∧ T.length ≤ n := by
  have hw : ∀ w ∈ ws, ∃ m : Nat, w = .int m ∧ m ≤ 4 := fun w h => let ⟨m, e, _, h4⟩ := Dr.wh.w w h; ⟨m, e, h4⟩
  have key : WR (m__law_starts [.tup ws] T) (fun d t => ∃ n ex, d = .ref n ∧ t = T ++ ex ∧ t[n]? = some (.lst (begD ws)) ∧ T.length ≤ n) := by
    refine w_def rfl ?_
    show WS (b__law_starts [some (.tup ws), none, none, none, none, none] T) _ _ _ _
    unfold b__law_starts
    walk_at "go"
    refine w_loopF (fun i e t => ∃ y2 y3 y4 y5 n ex, e = [some (.tup ws), some (.ref n), y2, y3, y4, y5] ∧ t = T ++ ex ∧ t[n]? = some (.lst ((begL (ws.take i)).map D.tup)) ∧ T.length ≤ n) ⟨_, _, _, _, T.length, _, rfl, rfl, get_end, Nat.le_refl _⟩ (fun i x e t hx ⟨y2, y3, y4, y5, n, ex, he, ht, hn, hle⟩ => ?_) (fun e t ⟨y2, y3, y4, y5, n, ex, he, ht, hn, hle⟩ => ?_)
    · subst he
      obtain ⟨m, rfl, hm⟩ := hw x (List.mem_of_getElem? hx)
      have hsub : ∀ w ∈ ws.take i, ∃ m : Nat, w = .int m ∧ m ≤ 4 := fun w h => hw w (List.mem_of_mem_take h)
      have hfew : (begL (ws.take i)).length ≤ 64 := begL_few (by have := Dr.wh.l3; rw [List.length_take]; omega) hsub
      refine ⟨_, _, rfl, ?_⟩
      walk_at "go"
      have hn1 : (t ++ [Ob.lst []])[n]? = some (.lst ((begL (ws.take i)).map D.tup)) := get0 hn
      refine w_sdyn hn1 ?_
      refine w_loop (xs := (begL (ws.take i)).map D.tup) (fun j e u => ∃ z4 z5 k ex2, e = [some (.tup ws), some (.ref n), some (.int (m : Int)), some (.ref k), z4, z5] ∧ u = t ++ ex2 ∧ u[k]? = some (.lst ((begF ((begL (ws.take i)).take j) (.int (m : Int))).map D.tup)) ∧ T.length ≤ k)
        (fun _ _ u ⟨_, _, _, ex2, _, hu, _⟩ => by show lstOf u n = _; unfold lstOf; rw [hu, get0 hn]) ⟨_, _, t.length, _, rfl, rfl, get_end, by rw [ht]; simp⟩ (fun j y e u hy ⟨z4, z5, k, ex2, he, hu, hk, hkl⟩ => ?_) (fun e u ⟨z4, z5, k, ex2, he, hu, hk, hkl⟩ => ?_)
      · subst he
        obtain ⟨v, hv, rfl⟩ := List.mem_map.mp (List.mem_of_getElem? hy)
        have hyv : (begL (ws.take i))[j]? = some v := by
          rw [List.getElem?_map] at hy
          cases hq : (begL (ws.take i))[j]? with
          | none => rw [hq] at hy; cases hy
          | some v' => rw [hq] at hy; cases hy; rfl
        have hvl : v.length ≤ 3 := by
          have h1 := (begL_ok (fun w h => let ⟨m, e, _⟩ := hsub w h; ⟨m, e⟩) v hv).1
          rw [h1, List.length_take]
          have := Dr.wh.l3
          omega
        refine ⟨_, _, rfl, ?_⟩
        walk_at "go"
        refine w_rng (n := m) rfl (Nat.le_trans hm (by decide)) ?_
        refine w_lcmap (xs := rngL 0 m) (f := fun y => .tup (v ++ [y])) rfl (by rw [rngL_length]; exact Nat.le_trans hm (by decide)) (fun y hy acc => ⟨_, rfl, wr_eq ?_⟩) ?_
        · refine w_bin (w_var rfl (w_fn (w_acons (w_var rfl (w_anil (w_mkTup (Nat.le_of_ble_eq_true rfl) ?_))))))
          refine w_addT (Nat.le_trans (show v.length + 1 ≤ 4 by omega) (by decide)) ?_
          exact ⟨rfl, rfl⟩
        · have hlen : ((begF ((begL (ws.take i)).take j) (.int (m : Int))).map D.tup ++ (rngL 0 m).map fun y => D.tup (v ++ [y])).length ≤ most := by
            rw [List.length_append, List.length_map, List.length_map, begF_len, rngL_length]
            have h1 : ((begL (ws.take i)).take j).length ≤ 64 := by rw [List.length_take]; omega
            have h2 : ((begL (ws.take i)).take j).length * (wI (.int (m : Int))).toNat ≤ 64 * 4 := Nat.mul_le_mul h1 (by simpa [wI] using hm)
            exact Nat.le_trans (show _ ≤ 260 by omega) (by decide)
          refine w_addL (get0 hk) get_end hlen ?_
          refine ⟨_, _, (u ++ [Ob.lst ((rngL 0 m).map fun y => D.tup (v ++ [y]))]).length, _, rfl, by rw [hu, List.append_assoc, List.append_assoc], ?_, by rw [hu, ht]; simp⟩
          rw [get_end, List.take_succ, hyv]
          show some (Ob.lst _) = some (Ob.lst ((begF ((begL (ws.take i)).take j ++ [v]) (.int (m : Int))).map D.tup))
          congr 2
          unfold begF
          rw [List.flatMap_append, List.map_append]
          congr 1
          rw [rngL_map]
          simp [List.flatMap_cons, Function.comp_def, wI]
      · subst he
        have hfull : (begL (ws.take i)).take ((begL (ws.take i)).map D.tup).length = begL (ws.take i) := by rw [List.length_map, List.take_length]
        rw [hfull] at hk
        walk_at "go"
        refine ⟨_, _, _, _, k, ex ++ ex2, rfl, by rw [hu, ht, List.append_assoc], ?_, hkl⟩
        rw [hk, List.take_succ, hx]
        show some (Ob.lst _) = some (Ob.lst ((begL (ws.take i ++ [D.int (m : Int)])).map D.tup))
        rw [begL_snoc]
    · subst he
      rw [List.take_length] at hn
      walk_at "go"
      exact ⟨n, ex, rfl, ht, hn, hle⟩
  obtain ⟨d, t, e, n, ex, rfl, rfl, h1, h2⟩ := wr_out key
  exact ⟨n, ex, e, h1, h2⟩
end

end Hd
set_option Elab.async false
set_option linter.all false
set_option maxRecDepth 100000
set_option maxHeartbeats 1000000
namespace Hd
open PySem U
local macro_rules | `(tactic| walk_at "ex1") => `(tactic| first | (with_reducible refine w_seq ?_) | (with_reducible refine w_set ?_) | (with_reducible refine w_ret ?_) | (with_reducible refine w_sif ?_) | (with_reducible refine w_asg2 ?_) | (with_reducible refine w_asg3 ?_) | (with_reducible refine w_asg4 ?_) | (with_reducible refine w_ex2 ?_) | (with_reducible refine w_ex3 ?_) | (with_reducible refine w_ex4 ?_) | (with_reducible refine w_par ?_) | (with_reducible refine w_par3 ?_) | (with_reducible refine w_expr ?_) | (with_reducible refine w_for ?_) | (with_reducible refine w_skip ?_) | (with_reducible refine w_fn ?_) | (with_reducible refine w_acons ?_) | (with_reducible refine w_anil ?_) | (with_reducible refine w_aapp ?_) | (with_reducible refine w_bin ?_) | (with_reducible refine w_un ?_) | (with_reducible refine w_c ?_) | (with_reducible refine w_tof ?_) | (with_reducible refine w_tob ?_) | (with_reducible refine w_tand ?_) | (with_reducible refine w_tor ?_) | (with_reducible refine w_tnot ?_) | (with_reducible refine w_eand ?_) | (with_reducible refine w_eor ?_) | (with_reducible refine w_enot ?_) | (with_reducible refine w_exb ?_) | (with_reducible refine w_exi ?_) | (with_reducible refine w_if ?_) | (with_reducible refine w_slice ?_) | (with_reducible refine w_onone ?_) | (with_reducible refine w_osome ?_) | (with_reducible refine w_lc ?_) | (with_reducible refine w_lc2 ?_) | (with_reducible refine w_mtl ?_) | (with_reducible refine w_iseq ?_) | (with_reducible refine w_irng ?_) | (with_reducible refine w_ienum ?_) | (with_reducible refine w_ibin ?_) | (with_reducible refine w_true ?_) | (with_reducible refine cond_t ?_) | (with_reducible refine cond_f ?_))
local macro_rules | `(tactic| walk_at "ex2") => `(tactic| first | (with_reducible refine w_addI ?_) | (with_reducible refine w_subI ?_) | (with_reducible refine w_ltI ?_) | (with_reducible refine w_leI ?_) | (with_reducible refine w_gtI ?_) | (with_reducible refine w_geI ?_) | (with_reducible refine w_eqI ?_) | (with_reducible refine w_neI ?_) | (with_reducible refine w_negI ?_) | (with_reducible refine w_maxI ?_) | (with_reducible refine w_minI ?_) | (with_reducible refine w_lenT ?_) | (with_reducible refine w_slT ?_) | (with_reducible refine w_sseq ?_) | (with_reducible refine w_senum ?_) | (with_reducible refine w_szip ?_) | (with_reducible refine w_eqB ?_) | (with_reducible refine w_neB ?_))
local macro_rules | `(tactic| walk_at "ex3") => `(tactic| first | ((with_reducible apply w_var); (focus exact rfl)) | ((with_reducible apply w_aug); (focus exact rfl)) | ((with_reducible apply w_thaw); (focus exact rfl); (focus with_reducible assumption)) | ((with_reducible apply w_idxZ); (focus exact rfl); (focus with_reducible assumption)) | ((with_reducible apply wr_by); (focus with_reducible assumption)) | ((with_reducible apply w_via); (focus exact rfl)) | ((with_reducible apply w_mkTup); (focus exact Nat.le_of_ble_eq_true rfl)) | ((with_reducible apply w_mkLst); (focus exact Nat.le_of_ble_eq_true rfl)) | ((with_reducible apply w_ix); (focus exact rfl); (focus exact rfl)) | ((with_reducible apply w_lenL); (focus with_reducible assumption)) | ((with_reducible apply w_lenL); (focus with_reducible exact get_end)) | ((with_reducible apply w_isl); (focus with_reducible assumption)) | ((with_reducible apply w_append); (focus with_reducible assumption); (focus with_reducible assumption)) | ((with_reducible apply w_slL); (focus with_reducible assumption)) | ((with_reducible apply w_enumL); (focus with_reducible assumption)) | ((with_reducible apply w_tupL); (focus with_reducible assumption)) | ((with_reducible apply w_sdyn); (focus with_reducible assumption)) | ((with_reducible apply w_isi); (focus exact rfl)) | ((with_reducible apply w_isi2); (focus exact rfl)) | ((with_reducible apply w_eqS); (focus decide +kernel); (focus decide +kernel)) | ((with_reducible apply cond_af); (focus exact rfl)) | ((with_reducible apply cond_at); (focus exact rfl)) | ((with_reducible apply cond_af); (focus decide +kernel)) | ((with_reducible apply cond_at); (focus decide +kernel)))
local macro_rules | `(tactic| walk_at "go") => `(tactic| repeat (first | walk_at "ex1" | walk_at "ex2" | walk_at "ex3"))
theorem w_lcgrow {s : Src} {g : GM} {e : EM} {env : Ev} {st : Sto} {xs : List D} {PD : D → Sto → Prop} (P : Nat → D → Sto → Prop) (h0 : ∀ ex, s.at (st ++ ex) = some xs) (hm : xs.length ≤ 100000)
    (hP : ∀ i d t ex, P i d t → P i d (t ++ ex)) (hS : ∀ i d t o, st.length < t.length → P i d t → P i d (t.set st.length o))
    (h : ∀ i x acc ex, xs[i]? = some x → ∃ env1 st1 d ex2, g x env (st ++ [.lst acc] ++ ex) = some (env1, st1) ∧ e env1 (st ++ [.lst acc] ++ ex) = .ok d (st ++ [.lst acc] ++ ex ++ ex2) ∧ P i d (st ++ [.lst acc] ++ ex ++ ex2))
    (k : ∀ acc ex, acc.length = xs.length → (∀ i d, acc[i]? = some d → P i d (st ++ [.lst acc] ++ ex)) → PD (.ref st.length) (st ++ [.lst acc] ++ ex)) : WR (startLc g tTrue e env s st) PD := by
  have lay : ∀ (acc : List D) (ex : Sto) (d : D), (st ++ [Ob.lst acc] ++ ex).set st.length (.lst (acc ++ [d])) = st ++ [.lst (acc ++ [d])] ++ ex := fun acc ex d => by
    rw [List.append_assoc, List.append_assoc]
    exact set_end0
  have run : ∀ (n i : Nat) (acc : List D) (ex : Sto), xs.length = i + n → acc.length = i → (∀ j d, acc[j]? = some d → P j d (st ++ [.lst acc] ++ ex)) → ∃ acc' ex', runLc s g tTrue e st.length env (n + 1) i (st ++ [.lst acc] ++ ex) = .ok (.ref st.length) (st ++ [.lst acc'] ++ ex') ∧ acc'.length = xs.length ∧ ∀ j d, acc'[j]? = some d → P j d (st ++ [.lst acc'] ++ ex') := by
    intro n
    induction n with
    | zero =>
      intro i acc ex hn hl hacc
      refine ⟨acc, ex, ?_, by omega, hacc⟩
      unfold runLc
      rw [List.append_assoc, h0]
      simp only
      rw [List.getElem?_eq_none (by omega)]
    | succ n ih =>
      intro i acc ex hn hl hacc
      have hi : i < xs.length := by omega
      obtain ⟨env1, st1, d, ex2, g1, g2, g3⟩ := h i xs[i] acc ex (List.getElem?_eq_getElem hi)
      have hsl : st.length < (st ++ [Ob.lst acc] ++ ex ++ ex2).length := by simp
      obtain ⟨acc', ex', r1, r2, r3⟩ := ih (i + 1) (acc ++ [d]) (ex ++ ex2) (by omega) (by simp [hl]) (fun j d' hj => by
        rw [← lay acc (ex ++ ex2) d, ← List.append_assoc (st ++ [Ob.lst acc]) ex ex2]
        refine hS j d' _ _ hsl ?_
        by_cases hj2 : j < acc.length
        · rw [List.getElem?_append_left hj2] at hj
          exact hP j d' _ ex2 (hacc j d' hj)
        · have hjl : j < (acc ++ [d]).length := (List.getElem?_eq_some_iff.mp hj).1
          have : j = acc.length := by simp at hjl; omega
          subst this
          simp at hj
          subst hj
          rw [hl]
          exact g3)
      refine ⟨acc', ex', ?_, r2, r3⟩
      unfold runLc
      rw [show s.at (st ++ [Ob.lst acc] ++ ex) = some xs by rw [List.append_assoc]; exact h0 _]
      simp only
      rw [List.getElem?_eq_getElem hi]
      simp only [g1, tTrue, R.bind, if_true, g2]
      have e4 : (st ++ [Ob.lst acc] ++ ex ++ ex2)[st.length]? = some (.lst acc) := by rw [List.append_assoc, List.append_assoc]; exact at_end0
      rw [e4]
      simp only
      rw [if_pos (Nat.lt_of_le_of_lt (show acc.length ≤ 100000 by omega) (by decide)), List.append_assoc (st ++ [Ob.lst acc]) ex ex2, lay acc (ex ++ ex2) d]
      exact r1
  obtain ⟨acc, ex, r1, r2, r3⟩ := run xs.length 0 [] [] (by omega) rfl (fun j d hj => by simp at hj)
  refine wr_by ?_ (k acc ex r2 r3)
  unfold startLc
  rw [show s.at st = some xs by have := h0 []; rwa [List.append_nil] at this]
  simp only
  rw [List.append_nil] at r1
  exact r1

end Hd
set_option Elab.async false
set_option linter.all false
set_option maxRecDepth 100000
set_option maxHeartbeats 1000000
namespace Hd
open PySem U
local macro_rules | `(tactic| walk_at "ex1") => `(tactic| first | (with_reducible refine w_seq ?_) | (with_reducible refine w_set ?_) | (with_reducible refine w_ret ?_) | (with_reducible refine w_sif ?_) | (with_reducible refine w_asg2 ?_) | (with_reducible refine w_asg3 ?_) | (with_reducible refine w_asg4 ?_) | (with_reducible refine w_ex2 ?_) | (with_reducible refine w_ex3 ?_) | (with_reducible refine w_ex4 ?_) | (with_reducible refine w_par ?_) | (with_reducible refine w_par3 ?_) | (with_reducible refine w_expr ?_) | (with_reducible refine w_for ?_) | (with_reducible refine w_skip ?_) | (with_reducible refine w_fn ?_) | (with_reducible refine w_acons ?_) | (with_reducible refine w_anil ?_) | (with_reducible refine w_aapp ?_) | (with_reducible refine w_bin ?_) | (with_reducible refine w_un ?_) | (with_reducible refine w_c ?_) | (with_reducible refine w_tof ?_) | (with_reducible refine w_tob ?_) | (with_reducible refine w_tand ?_) | (with_reducible refine w_tor ?_) | (with_reducible refine w_tnot ?_) | (with_reducible refine w_eand ?_) | (with_reducible refine w_eor ?_) | (with_reducible refine w_enot ?_) | (with_reducible refine w_exb ?_) | (with_reducible refine w_exi ?_) | (with_reducible refine w_if ?_) | (with_reducible refine w_slice ?_) | (with_reducible refine w_onone ?_) | (with_reducible refine w_osome ?_) | (with_reducible refine w_lc ?_) | (with_reducible refine w_lc2 ?_) | (with_reducible refine w_mtl ?_) | (with_reducible refine w_iseq ?_) | (with_reducible refine w_irng ?_) | (with_reducible refine w_ienum ?_) | (with_reducible refine w_ibin ?_) | (with_reducible refine w_true ?_) | (with_reducible refine cond_t ?_) | (with_reducible refine cond_f ?_))
local macro_rules | `(tactic| walk_at "ex2") => `(tactic| first | (with_reducible refine w_addI ?_) | (with_reducible refine w_subI ?_) | (with_reducible refine w_ltI ?_) | (with_reducible refine w_leI ?_) | (with_reducible refine w_gtI ?_) | (with_reducible refine w_geI ?_) | (with_reducible refine w_eqI ?_) | (with_reducible refine w_neI ?_) | (with_reducible refine w_negI ?_) | (with_reducible refine w_maxI ?_) | (with_reducible refine w_minI ?_) | (with_reducible refine w_lenT ?_) | (with_reducible refine w_slT ?_) | (with_reducible refine w_sseq ?_) | (with_reducible refine w_senum ?_) | (with_reducible refine w_szip ?_) | (with_reducible refine w_eqB ?_) | (with_reducible refine w_neB ?_))
local macro_rules | `(tactic| walk_at "ex3") => `(tactic| first | ((with_reducible apply w_var); (focus exact rfl)) | ((with_reducible apply w_aug); (focus exact rfl)) | ((with_reducible apply w_thaw); (focus exact rfl); (focus with_reducible assumption)) | ((with_reducible apply w_idxZ); (focus exact rfl); (focus with_reducible assumption)) | ((with_reducible apply wr_by); (focus with_reducible assumption)) | ((with_reducible apply w_via); (focus exact rfl)) | ((with_reducible apply w_mkTup); (focus exact Nat.le_of_ble_eq_true rfl)) | ((with_reducible apply w_mkLst); (focus exact Nat.le_of_ble_eq_true rfl)) | ((with_reducible apply w_ix); (focus exact rfl); (focus exact rfl)) | ((with_reducible apply w_lenL); (focus with_reducible assumption)) | ((with_reducible apply w_lenL); (focus with_reducible exact get_end)) | ((with_reducible apply w_isl); (focus with_reducible assumption)) | ((with_reducible apply w_append); (focus with_reducible assumption); (focus with_reducible assumption)) | ((with_reducible apply w_slL); (focus with_reducible assumption)) | ((with_reducible apply w_enumL); (focus with_reducible assumption)) | ((with_reducible apply w_tupL); (focus with_reducible assumption)) | ((with_reducible apply w_sdyn); (focus with_reducible assumption)) | ((with_reducible apply w_isi); (focus exact rfl)) | ((with_reducible apply w_isi2); (focus exact rfl)) | ((with_reducible apply w_eqS); (focus decide +kernel); (focus decide +kernel)) | ((with_reducible apply cond_af); (focus exact rfl)) | ((with_reducible apply cond_at); (focus exact rfl)) | ((with_reducible apply cond_af); (focus decide +kernel)) | ((with_reducible apply cond_at); (focus decide +kernel)))
local macro_rules | `(tactic| walk_at "go") => `(tactic| repeat (first | walk_at "ex1" | walk_at "ex2" | walk_at "ex3"))
theorem w_while {t : TM} {body : SM} {f : Nat} {env : Ev} {st : Sto} {N C B : Ev → Sto → Prop} {T : D → Sto → Prop} (k : WR (t env st) fun c s => Cond c (WS (body env s) (fun e s => WS (runWhile t body f e s) N T C B) T (fun e s => WS (runWhile t body f e s) N T C B) N) (N env s)) : WS (runWhile t body (f + 1) env st) N T C B := by
  rw [ev_while]
  refine ws_then (wr_imp k fun c s h => ?_)
  cases c with
  | false => exact ⟨h⟩
  | true =>
    rw [if_pos rfl]
    have h' : WS (body env s) (fun e s => WS (runWhile t body f e s) N T C B) T (fun e s => WS (runWhile t body f e s) N T C B) N := h
    revert h'
    cases body env s with
    | nx e s2 => exact fun h => h.out
    | rt d s2 => exact fun h => ⟨h.out⟩
    | ct e s2 => exact fun h => h.out
    | bk e s2 => exact fun h => ⟨h.out⟩
    | err c fs e s2 => exact fun h => h.out.elim
    | fail => exact fun h => h.out.elim
theorem w_dput {ga gb gv : EM} {env : Ev} {st : Sto} {N C B : Ev → Sto → Prop} {T : D → Sto → Prop} (k : WR (gv env st) fun v s => WR (ga env s) fun d s => WR (gb env s) fun y s => ∃ s', putSt d y v s = some s' ∧ N env s') : WS (sDPutM ga gb gv env st) N T C B :=
  ws_then (wr_imp k fun _ _ h => ws_then (wr_imp h fun _ _ h => ws_then (wr_imp h fun _ _ ⟨s', e, h⟩ => by simp only [e]; exact ⟨h⟩)))
theorem w_dnew {env : Ev} {st : Sto} {PD : D → Sto → Prop} (k : PD (.ref st.length) (st ++ [.dct []])) : WR (eDnew env st) PD := ⟨k⟩
end Hd
set_option Elab.async false
set_option linter.all false
set_option maxRecDepth 100000
set_option maxHeartbeats 1000000
namespace Hd
open PySem U
local macro_rules | `(tactic| walk_at "ex1") => `(tactic| first | (with_reducible refine w_seq ?_) | (with_reducible refine w_set ?_) | (with_reducible refine w_ret ?_) | (with_reducible refine w_sif ?_) | (with_reducible refine w_asg2 ?_) | (with_reducible refine w_asg3 ?_) | (with_reducible refine w_asg4 ?_) | (with_reducible refine w_ex2 ?_) | (with_reducible refine w_ex3 ?_) | (with_reducible refine w_ex4 ?_) | (with_reducible refine w_par ?_) | (with_reducible refine w_par3 ?_) | (with_reducible refine w_expr ?_) | (with_reducible refine w_for ?_) | (with_reducible refine w_skip ?_) | (with_reducible refine w_fn ?_) | (with_reducible refine w_acons ?_) | (with_reducible refine w_anil ?_) | (with_reducible refine w_aapp ?_) | (with_reducible refine w_bin ?_) | (with_reducible refine w_un ?_) | (with_reducible refine w_c ?_) | (with_reducible refine w_tof ?_) | (with_reducible refine w_tob ?_) | (with_reducible refine w_tand ?_) | (with_reducible refine w_tor ?_) | (with_reducible refine w_tnot ?_) | (with_reducible refine w_eand ?_) | (with_reducible refine w_eor ?_) | (with_reducible refine w_enot ?_) | (with_reducible refine w_exb ?_) | (with_reducible refine w_exi ?_) | (with_reducible refine w_if ?_) | (with_reducible refine w_slice ?_) | (with_reducible refine w_onone ?_) | (with_reducible refine w_osome ?_) | (with_reducible refine w_lc ?_) | (with_reducible refine w_lc2 ?_) | (with_reducible refine w_mtl ?_) | (with_reducible refine w_iseq ?_) | (with_reducible refine w_irng ?_) | (with_reducible refine w_ienum ?_) | (with_reducible refine w_ibin ?_) | (with_reducible refine w_true ?_) | (with_reducible refine cond_t ?_) | (with_reducible refine cond_f ?_))
local macro_rules | `(tactic| walk_at "ex2") => `(tactic| first | (with_reducible refine w_addI ?_) | (with_reducible refine w_subI ?_) | (with_reducible refine w_ltI ?_) | (with_reducible refine w_leI ?_) | (with_reducible refine w_gtI ?_) | (with_reducible refine w_geI ?_) | (with_reducible refine w_eqI ?_) | (with_reducible refine w_neI ?_) | (with_reducible refine w_negI ?_) | (with_reducible refine w_maxI ?_) | (with_reducible refine w_minI ?_) | (with_reducible refine w_lenT ?_) | (with_reducible refine w_slT ?_) | (with_reducible refine w_sseq ?_) | (with_reducible refine w_senum ?_) | (with_reducible refine w_szip ?_) | (with_reducible refine w_eqB ?_) | (with_reducible refine w_neB ?_))
local macro_rules | `(tactic| walk_at "ex3") => `(tactic| first | ((with_reducible apply w_var); (focus exact rfl)) | ((with_reducible apply w_aug); (focus exact rfl)) | ((with_reducible apply w_thaw); (focus exact rfl); (focus with_reducible assumption)) | ((with_reducible apply w_idxZ); (focus exact rfl); (focus with_reducible assumption)) | ((with_reducible apply wr_by); (focus with_reducible assumption)) | ((with_reducible apply w_via); (focus exact rfl)) | ((with_reducible apply w_mkTup); (focus exact Nat.le_of_ble_eq_true rfl)) | ((with_reducible apply w_mkLst); (focus exact Nat.le_of_ble_eq_true rfl)) | ((with_reducible apply w_ix); (focus exact rfl); (focus exact rfl)) | ((with_reducible apply w_lenL); (focus with_reducible assumption)) | ((with_reducible apply w_lenL); (focus with_reducible exact get_end)) | ((with_reducible apply w_isl); (focus with_reducible assumption)) | ((with_reducible apply w_append); (focus with_reducible assumption); (focus with_reducible assumption)) | ((with_reducible apply w_slL); (focus with_reducible assumption)) | ((with_reducible apply w_enumL); (focus with_reducible assumption)) | ((with_reducible apply w_tupL); (focus with_reducible assumption)) | ((with_reducible apply w_sdyn); (focus with_reducible assumption)) | ((with_reducible apply w_isi); (focus exact rfl)) | ((with_reducible apply w_isi2); (focus exact rfl)) | ((with_reducible apply w_eqS); (focus decide +kernel); (focus decide +kernel)) | ((with_reducible apply cond_af); (focus exact rfl)) | ((with_reducible apply cond_at); (focus exact rfl)) | ((with_reducible apply cond_af); (focus decide +kernel)) | ((with_reducible apply cond_at); (focus decide +kernel)))
local macro_rules | `(tactic| walk_at "go") => `(tactic| repeat (first | walk_at "ex1" | walk_at "ex2" | walk_at "ex3"))
section
variable {c f : Str} {ga gv : EM} {env : Ev} {st : Sto} {N C B : Ev → Sto → Prop} {T : D → Sto → Prop} {PD : D → Sto → Prop} {n : Nat} {fs : List (Str × D)} {d : D}
theorem w_fldS (k : WR (gv env st) fun d s => WR (ga env s) fun x s2 => ∃ n fs, x = .ref n ∧ s2[n]? = some (.ins c fs) ∧ fs.length < 400 ∧ N env (s2.set n (.ins c (putD f d fs)))) : WS (sFldM c f ga gv env st) N T C B := by
  rw [ev_fld]
  refine ws_then (wr_imp k fun d s h => ws_then (wr_imp h fun x s2 ⟨n, fs, e, a, l, q⟩ => ?_))
  subst e
  rw [setFld_ok a l]
  exact ⟨q⟩
theorem fld_at (h : st[n]? = some (.ins c fs)) (hf : lookF f fs = some d) : dFld c f (.ref n) st = .ok d st := by
  unfold dFld
  simp only [h, if_true, hf]
theorem w_dfld (h : st[n]? = some (.ins c fs)) (hf : lookF f fs = some d) (k : PD d st) : WR (dFld c f (.ref n) st) PD := wr_by (fld_at h hf) k
theorem w_meth {m : Str} {fm : Fm} {dds : List D} {gs : AM} (k : WR (ga env st) fun x s => ∃ n fs, x = .ref n ∧ s[n]? = some (.ins c fs) ∧ (fs.map (·.1)).contains m = false ∧ WR (gs env s) fun ds s2 => WR (fm (.ref n :: (ds ++ dds)) s2) PD) : WR (eMeth c m fm dds ga gs env st) PD := by
  unfold eMeth
  refine wr_bind (wr_imp k fun x s ⟨n, fs, e, a, l, q⟩ => ?_)
  subst e
  simp only [a]
  rw [if_pos ⟨trivial, l⟩]
  exact wr_bind q
end

end Hd
set_option Elab.async false
set_option linter.all false
set_option maxRecDepth 100000
set_option maxHeartbeats 1000000
namespace Hd
open PySem U
local macro_rules | `(tactic| walk_at "ex1") => `(tactic| first | (with_reducible refine w_seq ?_) | (with_reducible refine w_set ?_) | (with_reducible refine w_ret ?_) | (with_reducible refine w_sif ?_) | (with_reducible refine w_asg2 ?_) | (with_reducible refine w_asg3 ?_) | (with_reducible refine w_asg4 ?_) | (with_reducible refine w_ex2 ?_) | (with_reducible refine w_ex3 ?_) | (with_reducible refine w_ex4 ?_) | (with_reducible refine w_par ?_) | (with_reducible refine w_par3 ?_) | (with_reducible refine w_expr ?_) | (with_reducible refine w_for ?_) | (with_reducible refine w_skip ?_) | (with_reducible refine w_fn ?_) | (with_reducible refine w_acons ?_) | (with_reducible refine w_anil ?_) | (with_reducible refine w_aapp ?_) | (with_reducible refine w_bin ?_) | (with_reducible refine w_un ?_) | (with_reducible refine w_c ?_) | (with_reducible refine w_tof ?_) | (with_reducible refine w_tob ?_) | (with_reducible refine w_tand ?_) | (with_reducible refine w_tor ?_) | (with_reducible refine w_tnot ?_) | (with_reducible refine w_eand ?_) | (with_reducible refine w_eor ?_) | (with_reducible refine w_enot ?_) | (with_reducible refine w_exb ?_) | (with_reducible refine w_exi ?_) | (with_reducible refine w_if ?_) | (with_reducible refine w_slice ?_) | (with_reducible refine w_onone ?_) | (with_reducible refine w_osome ?_) | (with_reducible refine w_lc ?_) | (with_reducible refine w_lc2 ?_) | (with_reducible refine w_mtl ?_) | (with_reducible refine w_iseq ?_) | (with_reducible refine w_irng ?_) | (with_reducible refine w_ienum ?_) | (with_reducible refine w_ibin ?_) | (with_reducible refine w_true ?_) | (with_reducible refine cond_t ?_) | (with_reducible refine cond_f ?_))
local macro_rules | `(tactic| walk_at "ex2") => `(tactic| first | (with_reducible refine w_addI ?_) | (with_reducible refine w_subI ?_) | (with_reducible refine w_ltI ?_) | (with_reducible refine w_leI ?_) | (with_reducible refine w_gtI ?_) | (with_reducible refine w_geI ?_) | (with_reducible refine w_eqI ?_) | (with_reducible refine w_neI ?_) | (with_reducible refine w_negI ?_) | (with_reducible refine w_maxI ?_) | (with_reducible refine w_minI ?_) | (with_reducible refine w_lenT ?_) | (with_reducible refine w_slT ?_) | (with_reducible refine w_sseq ?_) | (with_reducible refine w_senum ?_) | (with_reducible refine w_szip ?_) | (with_reducible refine w_eqB ?_) | (with_reducible refine w_neB ?_))
local macro_rules | `(tactic| walk_at "ex3") => `(tactic| first | ((with_reducible apply w_var); (focus exact rfl)) | ((with_reducible apply w_aug); (focus exact rfl)) | ((with_reducible apply w_thaw); (focus exact rfl); (focus with_reducible assumption)) | ((with_reducible apply w_idxZ); (focus exact rfl); (focus with_reducible assumption)) | ((with_reducible apply wr_by); (focus with_reducible assumption)) | ((with_reducible apply w_via); (focus exact rfl)) | ((with_reducible apply w_mkTup); (focus exact Nat.le_of_ble_eq_true rfl)) | ((with_reducible apply w_mkLst); (focus exact Nat.le_of_ble_eq_true rfl)) | ((with_reducible apply w_ix); (focus exact rfl); (focus exact rfl)) | ((with_reducible apply w_lenL); (focus with_reducible assumption)) | ((with_reducible apply w_lenL); (focus with_reducible exact get_end)) | ((with_reducible apply w_isl); (focus with_reducible assumption)) | ((with_reducible apply w_append); (focus with_reducible assumption); (focus with_reducible assumption)) | ((with_reducible apply w_slL); (focus with_reducible assumption)) | ((with_reducible apply w_enumL); (focus with_reducible assumption)) | ((with_reducible apply w_tupL); (focus with_reducible assumption)) | ((with_reducible apply w_sdyn); (focus with_reducible assumption)) | ((with_reducible apply w_isi); (focus exact rfl)) | ((with_reducible apply w_isi2); (focus exact rfl)) | ((with_reducible apply w_eqS); (focus decide +kernel); (focus decide +kernel)) | ((with_reducible apply cond_af); (focus exact rfl)) | ((with_reducible apply cond_at); (focus exact rfl)) | ((with_reducible apply cond_af); (focus decide +kernel)) | ((with_reducible apply cond_at); (focus decide +kernel)))
local macro_rules | `(tactic| walk_at "go") => `(tactic| repeat (first | walk_at "ex1" | walk_at "ex2" | walk_at "ex3"))
def watchO (bk : Nat) (mom past : D) : Ob := .ins "Watch" [("book", .ref bk), ("moment", mom), ("past", past)]
section
variable {T : Sto} {bk : Nat}
def tallyO (rs dones : List D) : List D := (ordO rs).map fun r => .int (((dones.filter fun d => memI r (tupsD d)).length : Nat) : Int)
theorem tally_run {ws rs dones : List D} {l : Nat} (hb : bookD T (.ref bk) = some (ws, rs)) (hn : rs.length ≤ 1000) (hl : T[l]? = some (.lst dones)) (hm : dones.length ≤ most) (hd : ∀ d ∈ dones, ∃ ys, d = .tup ys ∧ ys.all isI = true) :
    ∃ ex, m_tally [.ref bk, .ref l] T = .ok (.tup (tallyO rs dones)) (T ++ ex) := by
  have key : WR (m_tally [.ref bk, .ref l] T) (fun d T' => d = .tup (tallyO rs dones) ∧ ∃ ex, T' = T ++ ex) := by
    refine w_def rfl ?_
    unfold b_tally
    refine w_ret (w_fn (w_acons (w_lc (w_iseq (w_fn (w_acons (w_var rfl (w_anil (wr_by (own_of hb hn) (w_sseq ?_))))))))))
    refine w_lcgrow (fun i d t => ∀ r, (ordO rs)[i]? = some r → d = .int (((dones.filter fun d => memI r (tupsD d)).length : Nat) : Int)) (fun _ => rfl) (by unfold ordO; rw [rngL_length]; omega) (fun _ _ _ _ h => h) (fun _ _ _ _ _ h => h) (fun i x acc ex hx => ?_) (fun acc ex ha hp => ?_)
    · have hx2 : ∃ k : Nat, x = .int k := by
        obtain ⟨_, h⟩ := rngL_get hx
        exact ⟨i, h⟩
      obtain ⟨r, rfl⟩ := hx2
      have hl2 : (T ++ [Ob.lst acc] ++ ex)[l]? = some (.lst dones) := get0 (get0 hl)
      have inner : WR (eFn fLen (aCons (cLc (iSeq (eVar 1)) [3] (gN 3) (tOf (eBin (dIn false) (eVar 2) (eVar 3))) (eVar 3)) aNil) [some (.ref bk), some (.ref l), some (.int r), none] (T ++ [Ob.lst acc] ++ ex)) (fun d t => d = .int (((dones.filter fun d => memI (.int r) (tupsD d)).length : Nat) : Int) ∧ ∃ ex2, t = T ++ [Ob.lst acc] ++ ex ++ ex2) := by
        refine w_fn (w_acons (w_lc (w_iseq (w_var rfl (w_sdyn hl2 ?_)))))
        refine wr_by (startLc_pure (p := fun d => memI (.int r) (tupsD d)) (f := fun d => d) (lst_at hl2) hm fun z hz acc2 => ?_) ?_
        · obtain ⟨ys, rfl, hy⟩ := hd z hz
          exact ⟨_, rfl, by simp only [tOf, eBin, eVar, gN, wipeE, List.set_cons_succ, List.set_cons_zero, List.getElem?_cons_succ, List.getElem?_cons_zero, R.bind, in_ints hy]; rfl, fun _ => rfl⟩
        · rw [List.map_id']
          exact w_anil (w_lenL get_end ⟨rfl, _, rfl⟩)
      obtain ⟨d, t, e, rfl, ex2, rfl⟩ := wr_out inner
      exact ⟨_, _, _, ex2, rfl, e, fun r' hr' => by rw [hx] at hr'; cases hr'; rfl⟩
    · have ea : acc = tallyO rs dones := by
        refine List.ext_getElem? fun i => ?_
        unfold tallyO
        rw [List.getElem?_map]
        cases h1 : acc[i]? with
        | none =>
          have := List.getElem?_eq_none_iff.mp h1
          rw [List.getElem?_eq_none (by omega)]
          rfl
        | some d =>
          have hi := (List.getElem?_eq_some_iff.mp h1).1
          have hi2 : i < (ordO rs).length := by omega
          rw [hp i d h1 _ (List.getElem?_eq_getElem hi2), List.getElem?_eq_getElem hi2]
          rfl
      refine w_anil (w_tupL (get0 get_end) ⟨by rw [ea], _, by rw [List.append_assoc]⟩)
  obtain ⟨d, T', e, rfl, ex, rfl⟩ := wr_out key
  exact ⟨ex, e⟩
theorem flat_rep {x : D} : ∀ n : Nat, (List.replicate n [x]).flatten = List.replicate n x
  | 0 => rfl
  | n + 1 => by rw [List.replicate_succ, List.flatten_cons, flat_rep n, List.replicate_succ]; rfl
theorem init_run {ws rs vs off : List D} (hb : bookD T (.ref bk) = some (ws, rs)) (hv : vs.all isI = true ∧ ws.all isI = true ∧ vs.length ≤ most ∧ valuesD ws (.tup vs) = true) (hn : rs.length ≤ 1000) (ho : dk (T ++ [.ins "Watch" []]) (.tup off) = true) (hl : off.length ≤ most) (hr : risingD rs.length (.tup off) = true) :
    m_Watch_init [.ref T.length, .ref bk, .tup vs, .tup off] (T ++ [.ins "Watch" []]) = .ok .non (T ++ [watchO bk (.tup [.int 0, .tup [.tup vs, .tup (List.replicate rs.length (.int 0))], .tup off, .tup (List.replicate rs.length (.int 0))]) (.tup [])]) := by
  have hb2 : bookD (T ++ [.ins "Watch" []]) (.ref bk) = some (ws, rs) := bookD_app hb
  have q1 := begun_of (st := T ++ [.ins "Watch" []]) hb2 ⟨hv.1, hv.2.1, hv.2.2.1, hv.2.2.2, Nat.zero_le _, hn⟩
  have q2 := want_off_of (st := T ++ [.ins "Watch" []]) (d := .tup off) hb2 ho hl hr
  have key : WR (m_Watch_init [.ref T.length, .ref bk, .tup vs, .tup off] (T ++ [.ins "Watch" []])) (fun d T' => d = .non ∧ T' = T ++ [watchO bk (.tup [.int 0, .tup [.tup vs, .tup (List.replicate rs.length (.int 0))], .tup off, .tup (List.replicate rs.length (.int 0))]) (.tup [])]) := by
    refine w_def rfl ?_
    unfold b_Watch_init
    walk_at "go"
    refine w_fldS (w_var rfl (w_var rfl ⟨T.length, [], rfl, get_end, by decide, ?_⟩))
    rw [set_end0]
    have hb3 : bookD (T ++ [.ins "Watch" (putD "book" (.ref bk) [])]) (.ref bk) = some (ws, rs) := bookD_app hb
    refine w_seq (w_fldS ?_)
    have q3 := book_rules hb3
    walk_at "go"
    have q4 : dMulT (.tup [.int 0]) (.int (rs.length : Int)) (T ++ [.ins "Watch" (putD "book" (.ref bk) [])]) = .ok (.tup (List.replicate rs.length (.int 0))) (T ++ [.ins "Watch" (putD "book" (.ref bk) [])]) := by
      unfold dMulT
      simp only
      rw [if_pos ⟨by simp, by omega, by omega, by simp⟩, Int.toNat_natCast, flat_rep]
    refine wr_by q4 ?_
    walk_at "go"
    refine ⟨T.length, _, rfl, get_end, Nat.lt_of_le_of_lt (putD_len _ _ _) (by decide), ?_⟩
    rw [set_end0]
    refine w_fldS ?_
    walk_at "go"
    refine ⟨T.length, _, rfl, get_end, Nat.lt_of_le_of_lt (Nat.le_trans (putD_len _ _ _) (Nat.succ_le_succ (putD_len _ _ _))) (by decide), ?_⟩
    rw [set_end0]
    exact ⟨rfl, rfl⟩
  obtain ⟨d, T', e, rfl, rfl⟩ := wr_out key
  exact e
theorem enter_run {w : Nat} {mom mom' : D} {ps : List D} (hw : T[w]? = some (watchO bk mom (.tup ps))) (hl : ps.length ≤ 1000000) :
    m_Watch_enter [.ref w, mom'] T = .ok .non (T.set w (watchO bk mom' (.tup (ps ++ [mom])))) := by
  have hwl : w < T.length := (List.getElem?_eq_some_iff.mp hw).1
  have key : WR (m_Watch_enter [.ref w, mom'] T) (fun d T' => d = .non ∧ T' = T.set w (watchO bk mom' (.tup (ps ++ [mom])))) := by
    refine w_def rfl ?_
    unfold b_Watch_enter
    refine w_seq (w_fldS ?_)
    walk_at "go"
    refine w_dfld hw rfl ?_
    walk_at "go"
    refine w_dfld hw rfl ?_
    walk_at "go"
    refine w_addT (by unfold most; simp only [List.length_cons, List.length_nil]; omega) ?_
    walk_at "go"
    refine ⟨w, _, rfl, hw, (by decide : 3 < 400), ?_⟩
    refine w_fldS ?_
    walk_at "go"
    refine ⟨w, _, rfl, get_set hwl, Nat.lt_of_le_of_lt (putD_len _ _ _) (by decide : 3 + 1 < 400), ?_⟩
    rw [List.set_set]
    exact ⟨rfl, rfl⟩
  obtain ⟨d, T', e, rfl, rfl⟩ := wr_out key
  exact e
def addO (cs ds : List D) : List D := List.zipWith (fun c d => D.int (wI c + wI d)) cs ds
theorem go_run {w : Nat} {n b : Int} {s s' : D} {off cs ds ps : List D} {ex : Sto} (hw : T[w]? = some (watchO bk (.tup [.int n, s, .tup off, .tup cs]) (.tup ps))) (hl : ps.length ≤ 1000000)
    (hb : withinD 0 999999999999999999999999999999999999999999999999999999999999 (.int b) = true) (hwent : m_went_on [.ref bk, s, .int b, .tup off] T = .ok (.tup [s', .tup ds]) (T ++ ex)) (hc : cs.all isI = true) (hd : ds.all isI = true) (hcl : cs.length ≤ 1000) :
    ∃ ex', m_Watch_go [.ref w, .int b] T = .ok (.tup ds) ((T ++ ex').set w (watchO bk (.tup [.int (n + b), s', .tup off, .tup (addO cs ds)]) (.tup (ps ++ [.tup [.int n, s, .tup off, .tup cs]])))) := by
  have q1 : s_want_beats [.int b, .int 0] T = .ok .non T := want_beats_of rfl hb
  have key : WR (m_Watch_go [.ref w, .int b] T) (fun d T' => d = .tup ds ∧ ∃ ex', T' = (T ++ ex').set w (watchO bk (.tup [.int (n + b), s', .tup off, .tup (addO cs ds)]) (.tup (ps ++ [.tup [.int n, s, .tup off, .tup cs]])))) := by
    refine w_def rfl ?_
    unfold b_Watch_go
    walk_at "go"
    refine w_dfld hw rfl ?_
    walk_at "go"
    refine w_dfld hw rfl ?_
    walk_at "go"
    refine w_meth ?_
    walk_at "go"
    have hw2 := get0 (ex := ex) hw
    refine ⟨w, _, rfl, hw2, (by decide +kernel : (["book", "moment", "past"] : List Str).contains "enter" = false), ?_⟩
    walk_at "go"
    refine w_lcmap (f := fun p => .int (wI (fstD p) + wI (sndD p))) rfl (by rw [List.length_zipWith]; unfold most; omega) (fun p hp acc => ?_) ?_
    · obtain ⟨i, hi⟩ := List.getElem?_of_mem hp
      obtain ⟨x, y, h1, h2, rfl⟩ := zip_get hi
      obtain ⟨a, rfl⟩ : ∃ a, x = .int a := ⟨_, isI_eq (List.all_eq_true.mp hc x (List.mem_of_getElem? h1))⟩
      obtain ⟨b, rfl⟩ : ∃ b, y = .int b := ⟨_, isI_eq (List.all_eq_true.mp hd y (List.mem_of_getElem? h2))⟩
      exact ⟨_, rfl, rfl⟩
    walk_at "go"
    refine w_tupL get_end ?_
    walk_at "go"
    refine wr_by (enter_run (get0 hw2) hl) ?_
    walk_at "go"
    have ez : (List.zipWith pairD cs ds).map (fun p => D.int (wI (fstD p) + wI (sndD p))) = addO cs ds := by
      unfold addO
      rw [List.map_zipWith]
      rfl
    refine ⟨rfl, ex ++ [Ob.lst (addO cs ds)], ?_⟩
    rw [ez, ← List.append_assoc]
  obtain ⟨d, T', e, rfl, ex', rfl⟩ := wr_out key
  exact ⟨ex', e⟩
theorem notin_d {n : Nat} {kvs : List (D × D)} {p : D} {k : NestedKey} (hn : T[n]? = some (.dct kvs)) (hk : askK p = some k) : dInD true p (.ref n) T = .ok (.bl (!(getK kvs k).isSome)) T := by
  simp only [dInD, dctOf_at' hn, hk, if_true]
end

end Hd
set_option Elab.async false
set_option linter.all false
set_option maxRecDepth 100000
set_option maxHeartbeats 1000000
namespace Hd
open PySem U
local macro_rules | `(tactic| walk_at "ex1") => `(tactic| first | (with_reducible refine w_seq ?_) | (with_reducible refine w_set ?_) | (with_reducible refine w_ret ?_) | (with_reducible refine w_sif ?_) | (with_reducible refine w_asg2 ?_) | (with_reducible refine w_asg3 ?_) | (with_reducible refine w_asg4 ?_) | (with_reducible refine w_ex2 ?_) | (with_reducible refine w_ex3 ?_) | (with_reducible refine w_ex4 ?_) | (with_reducible refine w_par ?_) | (with_reducible refine w_par3 ?_) | (with_reducible refine w_expr ?_) | (with_reducible refine w_for ?_) | (with_reducible refine w_skip ?_) | (with_reducible refine w_fn ?_) | (with_reducible refine w_acons ?_) | (with_reducible refine w_anil ?_) | (with_reducible refine w_aapp ?_) | (with_reducible refine w_bin ?_) | (with_reducible refine w_un ?_) | (with_reducible refine w_c ?_) | (with_reducible refine w_tof ?_) | (with_reducible refine w_tob ?_) | (with_reducible refine w_tand ?_) | (with_reducible refine w_tor ?_) | (with_reducible refine w_tnot ?_) | (with_reducible refine w_eand ?_) | (with_reducible refine w_eor ?_) | (with_reducible refine w_enot ?_) | (with_reducible refine w_exb ?_) | (with_reducible refine w_exi ?_) | (with_reducible refine w_if ?_) | (with_reducible refine w_slice ?_) | (with_reducible refine w_onone ?_) | (with_reducible refine w_osome ?_) | (with_reducible refine w_lc ?_) | (with_reducible refine w_lc2 ?_) | (with_reducible refine w_mtl ?_) | (with_reducible refine w_iseq ?_) | (with_reducible refine w_irng ?_) | (with_reducible refine w_ienum ?_) | (with_reducible refine w_ibin ?_) | (with_reducible refine w_true ?_) | (with_reducible refine cond_t ?_) | (with_reducible refine cond_f ?_))
local macro_rules | `(tactic| walk_at "ex2") => `(tactic| first | (with_reducible refine w_addI ?_) | (with_reducible refine w_subI ?_) | (with_reducible refine w_ltI ?_) | (with_reducible refine w_leI ?_) | (with_reducible refine w_gtI ?_) | (with_reducible refine w_geI ?_) | (with_reducible refine w_eqI ?_) | (with_reducible refine w_neI ?_) | (with_reducible refine w_negI ?_) | (with_reducible refine w_maxI ?_) | (with_reducible refine w_minI ?_) | (with_reducible refine w_lenT ?_) | (with_reducible refine w_slT ?_) | (with_reducible refine w_sseq ?_) | (with_reducible refine w_senum ?_) | (with_reducible refine w_szip ?_) | (with_reducible refine w_eqB ?_) | (with_reducible refine w_neB ?_))
local macro_rules | `(tactic| walk_at "ex3") => `(tactic| first | ((with_reducible apply w_var); (focus exact rfl)) | ((with_reducible apply w_aug); (focus exact rfl)) | ((with_reducible apply w_thaw); (focus exact rfl); (focus with_reducible assumption)) | ((with_reducible apply w_idxZ); (focus exact rfl); (focus with_reducible assumption)) | ((with_reducible apply wr_by); (focus with_reducible assumption)) | ((with_reducible apply w_via); (focus exact rfl)) | ((with_reducible apply w_mkTup); (focus exact Nat.le_of_ble_eq_true rfl)) | ((with_reducible apply w_mkLst); (focus exact Nat.le_of_ble_eq_true rfl)) | ((with_reducible apply w_ix); (focus exact rfl); (focus exact rfl)) | ((with_reducible apply w_lenL); (focus with_reducible assumption)) | ((with_reducible apply w_lenL); (focus with_reducible exact get_end)) | ((with_reducible apply w_isl); (focus with_reducible assumption)) | ((with_reducible apply w_append); (focus with_reducible assumption); (focus with_reducible assumption)) | ((with_reducible apply w_slL); (focus with_reducible assumption)) | ((with_reducible apply w_enumL); (focus with_reducible assumption)) | ((with_reducible apply w_tupL); (focus with_reducible assumption)) | ((with_reducible apply w_sdyn); (focus with_reducible assumption)) | ((with_reducible apply w_isi); (focus exact rfl)) | ((with_reducible apply w_isi2); (focus exact rfl)) | ((with_reducible apply w_eqS); (focus decide +kernel); (focus decide +kernel)) | ((with_reducible apply cond_af); (focus exact rfl)) | ((with_reducible apply cond_at); (focus exact rfl)) | ((with_reducible apply cond_af); (focus decide +kernel)) | ((with_reducible apply cond_at); (focus decide +kernel)))
local macro_rules | `(tactic| walk_at "go") => `(tactic| repeat (first | walk_at "ex1" | walk_at "ex2" | walk_at "ex3"))
section
variable {T : Sto} {bk : Nat} {ws rs off : List D} {s : D}
def EG (bk : Nat) (rs off : List D) (s : D) (n : Nat) (L : Nat) (here : D) (x : Option D) : Ev := [some (.ref bk), some s, some (.int (n : Int)), some (.tup off), some (.tup (ordO rs)), some (.ref L), some (.ref (L + 1)), some here, none, none, none, none, none, none, x, none, none]
def stG (T : Sto) (ws rs off : List D) (s : D) (j : Nat) : Sto := T ++ [.dct (kvT ws rs off s j)] ++ [.lst (ddT ws rs off s j)]
theorem stG_d (j : Nat) : (stG T ws rs off s j)[T.length]? = some (.dct (kvT ws rs off s j)) := get0 get_end
theorem stG_l (j : Nat) : (stG T ws rs off s j)[T.length + 1]? = some (.lst (ddT ws rs off s j)) := by
  have : (T ++ [Ob.dct (kvT ws rs off s j)]).length = T.length + 1 := by simp
  rw [← this]
  exact get_end
theorem ddT_len {j : Nat} : (ddT ws rs off s j).length = j := by simp [ddT]
theorem kvT_len {j : Nat} : (kvT ws rs off s j).length = j := by simp [kvT]
theorem next_step (R : RunOk ws rs off) {st : Sto} (hb : bookD st (.ref bk) = some (ws, rs)) {t : D} (h : SOk ws rs t) : s_step [.ref bk, t, .tup (ordO rs), .tup off] st = .ok (.tup [didD ws rs off t, thenD ws rs off t]) st := by
  obtain ⟨h1, _, _⟩ := next_ok R h
  obtain ⟨vs, ls, rfl, _, _⟩ := h
  exact step_of hb h1
abbrev bdG : SM := (sSeq (sDPutM (eVar 5) (eVar 7) (eFn fLen (aCons (eVar 6) aNil)))
    (sSeq (sAsg (eFn s_step (aCons (eVar 0) (aCons (eVar 7) (aCons (eVar 4) (aCons (eVar 3) aNil))))) (gT 2 (gsCons (gN 14) (gsCons (gN 7) gsNil))))
    (sExpr (eMtL mAppend (eVar 6) (aCons (eVar 14) aNil)))))
abbrev tsG : TM := (tAnd (tOf (eBin (dInD true) (eVar 7) (eVar 5))) (tOf (eBin dLt (eFn fLen (aCons (eVar 6) aNil)) (eVar 2))))
theorem went_while (R : RunOk ws rs off) (hb : bookD T (.ref bk) = some (ws, rs)) (h : SOk ws rs s) {m b n : Nat} (ρ : Rho ws rs off s m b) {N C B : Ev → Sto → Prop} {TT : D → Sto → Prop} : ∀ (d fuel j : Nat) (x : Option D), j + d = min n m → d < fuel →
    (∀ y, N (EG bk rs off s n T.length (iter ws rs off (min n m) s) y) (stG T ws rs off s (min n m))) →
    WS (runWhile tsG bdG fuel (EG bk rs off s n T.length (iter ws rs off j s) x) (stG T ws rs off s j)) N TT C B
  | d, 0, _, _, _, hf, _ => by omega
  | 0, f + 1, j, x, hj, _, k => by
    obtain rfl : j = min n m := by omega
    have hfew := ρ.few
    obtain ⟨ky, hk, hkd⟩ := ask_ok (iter_ok R h (min n m))
    have key : n < m ∨ m ≤ n := Nat.lt_or_ge n m
    refine w_while ?_
    unfold EG
    walk_at "go"
    refine wr_by (notin_d (stG_d _) hk) ?_
    rcases key with hn | hn
    · have hno : getK (kvT ws rs off s (min n m)) ky = none := row_none R h (iter_ok R h _) hkd fun i hi => ρ.dist i _ hi (by omega)
      rw [hno]
      walk_at "go"
      refine w_lenL (stG_l _) ?_
      rw [ddT_len]
      refine w_var rfl (wr_by (ev_ltI) ?_)
      rw [decide_eq_false (by omega)]
      walk_at "go"
      exact k x
    · have hm : min n m = m := by omega
      have hso : getK (kvT ws rs off s (min n m)) ky = some (.int (b : Int)) := by
        rw [hm] at hkd ⊢
        exact row_some R h hkd ρ.lt ρ.rep.symm ρ.dist
      rw [hso]
      walk_at "go"
      exact k x
  | d + 1, f + 1, j, x, hj, hf, k => by
    have hfew := ρ.few
    obtain ⟨ky, hk, hkd⟩ := ask_ok (iter_ok R h j)
    have hno : getK (kvT ws rs off s j) ky = none := row_none R h (iter_ok R h _) hkd fun i hi => ρ.dist i _ hi (by omega)
    refine w_while ?_
    unfold EG
    walk_at "go"
    refine wr_by (notin_d (stG_d _) hk) ?_
    rw [hno]
    walk_at "go"
    refine w_lenL (stG_l _) ?_
    rw [ddT_len]
    refine w_var rfl (wr_by (ev_ltI) ?_)
    rw [decide_eq_true (by omega)]
    walk_at "go"
    refine w_dput ?_
    walk_at "go"
    refine w_lenL (stG_l _) ?_
    rw [ddT_len]
    walk_at "go"
    have n1 : (T ++ [Ob.dct (kvT ws rs off s j)]).length = (T ++ [Ob.dct (kvT ws rs off s (j + 1))]).length := by simp
    have p1 : putSt (.ref T.length) (iter ws rs off j s) (.int (j : Int)) (stG T ws rs off s j) = some (T ++ [.dct (kvT ws rs off s (j + 1))] ++ [.lst (ddT ws rs off s j)]) := by
      rw [putSt_ok (n := T.length) (kvs := kvT ws rs off s j) (stG_d _) hk (by rw [kvT_len]; exact Nat.lt_of_lt_of_le (show j < 15552 by omega) (by decide)) (by rw [hno]; simp)]
      unfold stG
      rw [List.append_assoc, List.append_assoc, List.set_append_right _ _ (Nat.le_refl _), Nat.sub_self, kvT_succ]
      rfl
    refine ⟨_, p1, ?_⟩
    have hb3 : bookD (T ++ [.dct (kvT ws rs off s (j + 1))] ++ [.lst (ddT ws rs off s j)]) (.ref bk) = some (ws, rs) := bookD_app (bookD_app hb)
    have q3 := next_step R hb3 (iter_ok R h j)
    walk_at "go"
    have g1 : (T ++ [.dct (kvT ws rs off s (j + 1))] ++ [.lst (ddT ws rs off s j)])[T.length + 1]? = some (.lst (ddT ws rs off s j)) := by
      have : (T ++ [Ob.dct (kvT ws rs off s (j + 1))]).length = T.length + 1 := by simp
      rw [← this]
      exact get_end
    refine ⟨isLst_at g1, ?_⟩
    walk_at "go"
    refine w_append (xs := ddT ws rs off s j) g1 (by rw [ddT_len]; exact Nat.lt_of_lt_of_le (show j < 15552 by omega) (by decide)) ?_
    have e1 : List.set (T ++ [Ob.dct (kvT ws rs off s (j + 1))] ++ [Ob.lst (ddT ws rs off s j)]) (T.length + 1) (.lst (ddT ws rs off s j ++ [didD ws rs off (iter ws rs off j s)])) = stG T ws rs off s (j + 1) := by
      have : (T ++ [Ob.dct (kvT ws rs off s (j + 1))]).length = T.length + 1 := by simp
      rw [← this, set_end0, ← ddT_succ]
      rfl
    rw [e1]
    exact went_while R hb h ρ d f (j + 1) (some (didD ws rs off (iter ws rs off j s))) (by omega) (by omega) k
def cntO (ws rs off : List D) (s : D) (n : Nat) : List D := (ordO rs).map fun r => .int ((cnt (didR ws rs off (wI r) s) n : Nat) : Int)
theorem tally_dd {j : Nat} : tallyO rs (ddT ws rs off s j) = cntO ws rs off s j := by
  unfold tallyO cntO
  refine List.map_congr_left fun r hr => ?_
  obtain ⟨i, hi⟩ := List.getElem?_of_mem hr
  obtain ⟨_, rfl⟩ := rngL_get (n := rs.length) hi
  unfold ddT cnt
  rw [List.filter_map, List.length_map]
  rfl
theorem ddT_add (a b : Nat) : ddT ws rs off s (a + b) = ddT ws rs off s a ++ ddT ws rs off (iter ws rs off a s) b := by
  unfold ddT
  rw [range_split, List.map_append, List.map_map]
  congr 1
  refine List.map_congr_left fun i _ => ?_
  show didD ws rs off (iter ws rs off (a + i) s) = _
  rw [iter_add]
theorem cntO_len {n : Nat} : (cntO ws rs off s n).length = rs.length := by unfold cntO ordO; rw [List.length_map, rngL_length]
theorem ddT_tup (R : RunOk ws rs off) (h : SOk ws rs s) {j : Nat} : ∀ d ∈ ddT ws rs off s j, ∃ ys, d = .tup ys ∧ ys.all isI = true := fun d hd => by
  obtain ⟨i, _, rfl⟩ := List.mem_map.mp hd
  exact (next_ok R (iter_ok R h i)).2.2
theorem cnt_round {m b q e : Nat} (ρ : Rho ws rs off s m b) (r : Int) : cnt (didR ws rs off r s) (m + (q * (m - b) + e)) = cnt (didR ws rs off r s) (m + e) + q * cnt (didR ws rs off r (iter ws rs off b s)) (m - b) := by
  have hlt := ρ.lt
  have e1 : ∀ i, didR ws rs off r (iter ws rs off b s) i = didR ws rs off r s (m + i) := fun i => by rw [← ρ.rep, didR_add]
  have per : ∀ i, didR ws rs off r s (m + ((m - b) + i)) = didR ws rs off r s (m + i) := fun i => by
    rw [← didR_add m, ρ.rep, didR_add, show b + ((m - b) + i) = m + i by omega]
  have h1 := cnt_add (P := didR ws rs off r s) m (q * (m - b) + e)
  have h2 := cnt_mul (P := fun i => didR ws rs off r s (m + i)) per q e
  have h3 := cnt_add (P := didR ws rs off r s) m e
  have h4 : cnt (didR ws rs off r (iter ws rs off b s)) (m - b) = cnt (fun i => didR ws rs off r s (m + i)) (m - b) := cnt_congr fun i _ => e1 i
  rw [h1, h2, h3, h4]
  omega
theorem iter_far {m b q e n : Nat} (ρ : Rho ws rs off s m b) (hn : n = m + (q * (m - b) + e)) (he : e < m - b) : iter ws rs off n s = iter ws rs off (b + e) s := by
  have hlt := ρ.lt
  have h1 := iter_round hlt ρ.rep (n - b)
  have h2 : n - b = e + (q + 1) * (m - b) := by rw [Nat.succ_mul]; omega
  rw [show b + (n - b) = n by omega, h2, Nat.add_mul_mod_self_right, Nat.mod_eq_of_lt he] at h1
  exact h1
theorem ddT_drop {m b : Nat} (h : b ≤ m) : (ddT ws rs off s m).drop b = ddT ws rs off (iter ws rs off b s) (m - b) := by
  have := ddT_add (ws := ws) (rs := rs) (off := off) (s := s) b (m - b)
  rw [show b + (m - b) = m by omega] at this
  rw [this, List.drop_left' ddT_len]
theorem ddT_take {m e : Nat} (h : e ≤ m) : (ddT ws rs off s m).take e = ddT ws rs off s e := by
  have := ddT_add (ws := ws) (rs := rs) (off := off) (s := s) e (m - e)
  rw [show e + (m - e) = m by omega] at this
  rw [this, List.take_left' ddT_len]
theorem zip_self {f g h : D → D} : ∀ L : List D, (List.zipWith pairD (L.map f) (L.map g)).map h = L.map fun r => h (pairD (f r) (g r))
  | [] => rfl
  | x :: L => by
    simp only [List.map_cons, List.zipWith_cons_cons, zip_self L]
theorem cnt_le {P : Nat → Bool} {k : Nat} : cnt P k ≤ k := by
  unfold cnt
  exact Nat.le_trans (List.length_filter_le _ _) (by rw [List.length_range]; exact Nat.le_refl _)
theorem cntO_get {n : Nat} : ∀ x ∈ cntO ws rs off s n, ∃ c : Nat, x = .int (c : Int) ∧ c ≤ n := fun x hx => by
  obtain ⟨r, _, rfl⟩ := List.mem_map.mp hx
  exact ⟨_, rfl, cnt_le⟩
theorem went_run (R : RunOk ws rs off) (hb : bookD T (.ref bk) = some (ws, rs)) (h : SOk ws rs s) (n : Nat) : ∃ ex, m_went_on [.ref bk, s, .int (n : Int), .tup off] T = .ok (.tup [iter ws rs off n s, .tup (cntO ws rs off s n)]) (T ++ ex) := by
  obtain ⟨m, b, ρ⟩ := rho_ex R h
  have hfew := ρ.few
  have hlt := ρ.lt
  have q1 : s_own_order [.ref bk] T = .ok (.tup (ordO rs)) T := own_of hb (Nat.le_trans R.n5 (by decide))
  have key : WR (m_went_on [.ref bk, s, .int (n : Int), .tup off] T) (fun d T' => d = .tup [iter ws rs off n s, .tup (cntO ws rs off s n)] ∧ ∃ ex, T' = T ++ ex) := by
    refine w_def rfl ?_
    unfold b_went_on
    walk_at "go"
    refine w_dnew ?_
    walk_at "go"
    have z0 : T ++ [Ob.dct []] ++ [Ob.lst []] = stG T ws rs off s 0 := rfl
    have z1 : (T ++ [Ob.dct []]).length = T.length + 1 := by simp
    rw [z0, z1]
    refine went_while R hb h ρ (min n m) wfuel 0 none (by omega) (Nat.lt_of_le_of_lt (Nat.le_trans (Nat.min_le_right _ _) hfew) (by decide)) fun y => ?_
    unfold EG
    walk_at "go"
    refine w_lenL (stG_l _) ?_
    rw [ddT_len]
    have hb2 : bookD (stG T ws rs off s (min n m)) (.ref bk) = some (ws, rs) := bookD_app (bookD_app hb)
    rcases Nat.lt_or_ge m n with hn | hn
    · have hm : min n m = m := by omega
      rw [hm]
      refine w_var rfl (wr_by eqN ?_)
      rw [decide_eq_false (by omega)]
      rw [hm] at hb2
      obtain ⟨ky, hk, hkd⟩ := ask_ok (iter_ok R h m)
      have hso : getK (kvT ws rs off s m) ky = some (.int (b : Int)) := row_some R h hkd ρ.lt ρ.rep.symm ρ.dist
      have gd : ∀ ex, dGetD (.ref T.length) (iter ws rs off m s) (stG T ws rs off s m ++ ex) = .ok (.int (b : Int)) (stG T ws rs off s m ++ ex) := fun ex => by
        simp only [dGetD, dctOf_at' (get0 (ex := ex) (stG_d (T := T) (ws := ws) (rs := rs) (off := off) (s := s) m)), hk, hso]
      obtain ⟨A, hA⟩ : ∃ A, A = ddT ws rs off (iter ws rs off b s) (m - b) := ⟨_, rfl⟩
      have hAl : A.length = m - b := by rw [hA, ddT_len]
      obtain ⟨q, hq⟩ : ∃ q, q = (n - m) / (m - b) := ⟨_, rfl⟩
      obtain ⟨e, he⟩ : ∃ e, e = (n - m) % (m - b) := ⟨_, rfl⟩
      have hel : e < m - b := by rw [he]; exact Nat.mod_lt _ (by omega)
      have hnq : n = m + (q * (m - b) + e) := by rw [hq, he, Nat.div_add_mod']; omega
      have dm : ∀ st, fDivmod [.int ((n : Int) - (m : Int)), .int ((A.length : Nat) : Int)] st = .ok (.tup [.int (q : Int), .int (e : Int)]) st := fun st => by
        unfold fDivmod
        simp only
        rw [if_pos (by omega), show (n : Int) - (m : Int) = ((n - m : Nat) : Int) by omega, hAl, hq, he]
        simp
      have bb : ∀ (ex : Sto), bookD (stG T ws rs off s m ++ ex) (.ref bk) = some (ws, rs) := fun ex => bookD_app hb2
      walk_at "go"
      refine wr_by (by simpa using gd []) ⟨_, rfl, ?_⟩
      walk_at "go"
      refine w_slL (stG_l _) ?_
      rw [cutN, ddT_drop (by omega), ← hA]
      walk_at "go"
      refine w_lenL (get0 (stG_l _)) ?_
      rw [ddT_len]
      walk_at "go"
      refine wr_by (dm _) ⟨_, _, rfl, ?_⟩
      walk_at "go"
      refine w_slL get_end ?_
      rw [cut_to]
      have z2 : ∀ ex : Sto, (stG T ws rs off s m ++ [Ob.lst A] ++ ex)[T.length + 1]? = some (.lst (ddT ws rs off s m)) := fun ex => get0 (get0 (stG_l _))
      have hA2 : ddT ws rs off s m ++ A.take e = ddT ws rs off s (m + e) := by rw [hA, ddT_take (by omega), ddT_add, ρ.rep]
      walk_at "go"
      refine w_addL (z2 _) get_end (by rw [hA2, ddT_len]; exact Nat.le_trans (show m + e ≤ 40000 by omega) (by decide)) ?_
      rw [hA2]
      obtain ⟨S2, hS2⟩ : ∃ S2, S2 = stG T ws rs off s m ++ [Ob.lst A] ++ [Ob.lst (A.take e)] := ⟨_, rfl⟩
      rw [← hS2]
      have bS : ∀ ex : Sto, bookD (S2 ++ ex) (.ref bk) = some (ws, rs) := fun ex => by rw [hS2, List.append_assoc, List.append_assoc]; exact bookD_app hb2
      have h2e : ∃ ex, S2 = stG T ws rs off s m ++ ex := ⟨_, by rw [hS2, List.append_assoc]⟩
      have aS : ∀ ex : Sto, (S2 ++ ex)[(stG T ws rs off s m).length]? = some (.lst A) := fun ex => by rw [hS2]; exact get0 (get0 get_end)
      obtain ⟨ex3, q3⟩ := tally_run (bS [Ob.lst (ddT ws rs off s (m + e))]) (Nat.le_trans R.n5 (by decide)) get_end (by rw [ddT_len]; exact Nat.le_trans (show m + e ≤ 40000 by omega) (by decide)) (ddT_tup R h)
      rw [tally_dd] at q3
      obtain ⟨ex4, q4⟩ := tally_run (l := (stG T ws rs off s m).length) (dones := A) (bS ([Ob.lst (ddT ws rs off s (m + e))] ++ ex3)) (Nat.le_trans R.n5 (by decide)) (aS _) (by rw [hAl]; exact Nat.le_trans (show m - b ≤ 40000 by omega) (by decide)) (by rw [hA]; exact ddT_tup R (iter_ok R h b))
      rw [hA, tally_dd] at q4
      rw [← List.append_assoc] at q4
      walk_at "go"
      have hcl : (cntO ws rs off s (m + e)).length ≤ 5 := by rw [cntO_len]; exact R.n5
      refine w_lcmap (f := fun p => .int (wI (fstD p) + (q : Int) * wI (sndD p))) rfl (by rw [List.length_zipWith]; exact Nat.le_trans (Nat.le_trans (Nat.min_le_left _ _) hcl) (by decide)) (fun p hp acc => ?_) ?_
      · obtain ⟨i, hi⟩ := List.getElem?_of_mem hp
        obtain ⟨x, y, h1, h2, rfl⟩ := zip_get hi
        obtain ⟨a, rfl, _⟩ := cntO_get x (List.mem_of_getElem? h1)
        obtain ⟨c, rfl, hc⟩ := cntO_get y (List.mem_of_getElem? h2)
        have hmul : ∀ st, dMul (.int (q : Int)) (.int (c : Int)) st = .ok (.int ((q : Int) * (c : Int))) st := fun st => by
          unfold dMul
          simp only
          rw [if_pos (.inr ⟨by omega, by omega⟩)]
        refine ⟨_, rfl, wr_eq ?_⟩
        refine w_bin (w_var rfl (w_bin (w_var rfl (w_var rfl (wr_by (hmul _) ?_)))))
        exact ⟨rfl, rfl⟩
      have hall : (List.zipWith pairD (cntO ws rs off s (m + e)) (cntO ws rs off (iter ws rs off b s) (m - b))).map (fun p => D.int (wI (fstD p) + (q : Int) * wI (sndD p))) = cntO ws rs off s n := by
        unfold cntO
        rw [zip_self]
        refine List.map_congr_left fun r _ => ?_
        show D.int (((cnt (didR ws rs off (wI r) s) (m + e) : Nat) : Int) + (q : Int) * ((cnt (didR ws rs off (wI r) (iter ws rs off b s)) (m - b) : Nat) : Int)) = _
        rw [hnq, cnt_round ρ]
        simp
      rw [hall]
      walk_at "go"
      refine w_tupL get_end ?_
      walk_at "go"
      obtain ⟨X, hX⟩ : ∃ X, S2 ++ [Ob.lst (ddT ws rs off s (m + e))] ++ ex3 ++ ex4 ++ [Ob.lst (cntO ws rs off s n)] = stG T ws rs off s m ++ X := by
        obtain ⟨ex0, h0⟩ := h2e
        exact ⟨_, by rw [h0]; simp only [List.append_assoc]; rfl⟩
      rw [hX]
      have hld : ∀ ex, fListD [.ref T.length] (stG T ws rs off s m ++ ex) = .ok (.ref (stG T ws rs off s m ++ ex).length) (stG T ws rs off s m ++ ex ++ [.lst (ssT ws rs off s m)]) := fun ex => by
        unfold fListD
        simp only [dctOf_at' (get0 (ex := ex) (stG_d (T := T) (ws := ws) (rs := rs) (off := off) (s := s) m))]
        unfold kvT ssT
        rw [List.map_map]
        rfl
      refine wr_by (hld _) ?_
      walk_at "go"
      rw [List.append_assoc]
      refine wr_by (gd _) ?_
      walk_at "go"
      have hx : L2.atI (ssT ws rs off s m) ((b : Int) + (e : Int)) = some (iter ws rs off n s) := by
        rw [iter_far ρ hnq hel]
        exact ssT_at (i := b + e) (by omega)
      rw [← List.append_assoc]
      refine w_ix (seq_lst get_end) hx ?_
      walk_at "go"
      exact ⟨rfl, _, by unfold stG; simp only [List.append_assoc]; rfl⟩
    · have hm : min n m = n := by omega
      rw [hm]
      rw [hm] at hb2
      refine w_var rfl (wr_by eqN ?_)
      rw [decide_eq_true (by omega)]
      obtain ⟨ex, q2⟩ := tally_run hb2 (Nat.le_trans R.n5 (by decide)) (stG_l (T := T) (ws := ws) (rs := rs) (off := off) (s := s) n) (by rw [ddT_len]; exact Nat.le_trans (show n ≤ 15552 by omega) (by decide)) (ddT_tup R h)
      rw [tally_dd] at q2
      walk_at "go"
      exact ⟨rfl, _, by unfold stG; rw [List.append_assoc, List.append_assoc]⟩
  obtain ⟨d, T', e, rfl, ex, rfl⟩ := wr_out key
  exact ⟨ex, e⟩
end

end Hd
set_option Elab.async false
set_option linter.all false
set_option maxRecDepth 100000
set_option maxHeartbeats 1000000
namespace Hd
open PySem U
local macro_rules | `(tactic| walk_at "ex1") => `(tactic| first | (with_reducible refine w_seq ?_) | (with_reducible refine w_set ?_) | (with_reducible refine w_ret ?_) | (with_reducible refine w_sif ?_) | (with_reducible refine w_asg2 ?_) | (with_reducible refine w_asg3 ?_) | (with_reducible refine w_asg4 ?_) | (with_reducible refine w_ex2 ?_) | (with_reducible refine w_ex3 ?_) | (with_reducible refine w_ex4 ?_) | (with_reducible refine w_par ?_) | (with_reducible refine w_par3 ?_) | (with_reducible refine w_expr ?_) | (with_reducible refine w_for ?_) | (with_reducible refine w_skip ?_) | (with_reducible refine w_fn ?_) | (with_reducible refine w_acons ?_) | (with_reducible refine w_anil ?_) | (with_reducible refine w_aapp ?_) | (with_reducible refine w_bin ?_) | (with_reducible refine w_un ?_) | (with_reducible refine w_c ?_) | (with_reducible refine w_tof ?_) | (with_reducible refine w_tob ?_) | (with_reducible refine w_tand ?_) | (with_reducible refine w_tor ?_) | (with_reducible refine w_tnot ?_) | (with_reducible refine w_eand ?_) | (with_reducible refine w_eor ?_) | (with_reducible refine w_enot ?_) | (with_reducible refine w_exb ?_) | (with_reducible refine w_exi ?_) | (with_reducible refine w_if ?_) | (with_reducible refine w_slice ?_) | (with_reducible refine w_onone ?_) | (with_reducible refine w_osome ?_) | (with_reducible refine w_lc ?_) | (with_reducible refine w_lc2 ?_) | (with_reducible refine w_mtl ?_) | (with_reducible refine w_iseq ?_) | (with_reducible refine w_irng ?_) | (with_reducible refine w_ienum ?_) | (with_reducible refine w_ibin ?_) | (with_reducible refine w_true ?_) | (with_reducible refine cond_t ?_) | (with_reducible refine cond_f ?_))
local macro_rules | `(tactic| walk_at "ex2") => `(tactic| first | (with_reducible refine w_addI ?_) | (with_reducible refine w_subI ?_) | (with_reducible refine w_ltI ?_) | (with_reducible refine w_leI ?_) | (with_reducible refine w_gtI ?_) | (with_reducible refine w_geI ?_) | (with_reducible refine w_eqI ?_) | (with_reducible refine w_neI ?_) | (with_reducible refine w_negI ?_) | (with_reducible refine w_maxI ?_) | (with_reducible refine w_minI ?_) | (with_reducible refine w_lenT ?_) | (with_reducible refine w_slT ?_) | (with_reducible refine w_sseq ?_) | (with_reducible refine w_senum ?_) | (with_reducible refine w_szip ?_) | (with_reducible refine w_eqB ?_) | (with_reducible refine w_neB ?_))
local macro_rules | `(tactic| walk_at "ex3") => `(tactic| first | ((with_reducible apply w_var); (focus exact rfl)) | ((with_reducible apply w_aug); (focus exact rfl)) | ((with_reducible apply w_thaw); (focus exact rfl); (focus with_reducible assumption)) | ((with_reducible apply w_idxZ); (focus exact rfl); (focus with_reducible assumption)) | ((with_reducible apply wr_by); (focus with_reducible assumption)) | ((with_reducible apply w_via); (focus exact rfl)) | ((with_reducible apply w_mkTup); (focus exact Nat.le_of_ble_eq_true rfl)) | ((with_reducible apply w_mkLst); (focus exact Nat.le_of_ble_eq_true rfl)) | ((with_reducible apply w_ix); (focus exact rfl); (focus exact rfl)) | ((with_reducible apply w_lenL); (focus with_reducible assumption)) | ((with_reducible apply w_lenL); (focus with_reducible exact get_end)) | ((with_reducible apply w_isl); (focus with_reducible assumption)) | ((with_reducible apply w_append); (focus with_reducible assumption); (focus with_reducible assumption)) | ((with_reducible apply w_slL); (focus with_reducible assumption)) | ((with_reducible apply w_enumL); (focus with_reducible assumption)) | ((with_reducible apply w_tupL); (focus with_reducible assumption)) | ((with_reducible apply w_sdyn); (focus with_reducible assumption)) | ((with_reducible apply w_isi); (focus exact rfl)) | ((with_reducible apply w_isi2); (focus exact rfl)) | ((with_reducible apply w_eqS); (focus decide +kernel); (focus decide +kernel)) | ((with_reducible apply cond_af); (focus exact rfl)) | ((with_reducible apply cond_at); (focus exact rfl)) | ((with_reducible apply cond_af); (focus decide +kernel)) | ((with_reducible apply cond_at); (focus decide +kernel)))
local macro_rules | `(tactic| walk_at "go") => `(tactic| repeat (first | walk_at "ex1" | walk_at "ex2" | walk_at "ex3"))
section
variable {T : Sto} {bk w : Nat} {ws rs : List D} {a s o c v l past : D} {ps : List D}
theorem no_meth {m : Str} {mom past : D} (h : (["book", "moment", "past"] : List Str).contains m = false) : (([("book", D.ref bk), ("moment", mom), ("past", past)] : List (Str × D)).map (·.1)).contains m = false := h
theorem wstate_run (hw : T[w]? = some (watchO bk (.tup [a, s, o, c]) past)) : m_Watch_state [.ref w] T = .ok s T := by
  have key : WR (m_Watch_state [.ref w] T) (fun d T' => d = s ∧ T' = T) := by
    refine w_def rfl ?_
    unfold b_Watch_state
    walk_at "go"
    refine w_dfld hw rfl ?_
    walk_at "go"
    exact ⟨rfl, rfl⟩
  obtain ⟨d, T', e, rfl, rfl⟩ := wr_out key
  exact e
theorem woff_run (hw : T[w]? = some (watchO bk (.tup [a, s, o, c]) past)) : m_Watch_off [.ref w] T = .ok o T := by
  have key : WR (m_Watch_off [.ref w] T) (fun d T' => d = o ∧ T' = T) := by
    refine w_def rfl ?_
    unfold b_Watch_off
    walk_at "go"
    refine w_dfld hw rfl ?_
    walk_at "go"
    exact ⟨rfl, rfl⟩
  obtain ⟨d, T', e, rfl, rfl⟩ := wr_out key
  exact e
theorem wnow_run (hw : T[w]? = some (watchO bk (.tup [a, s, o, c]) past)) : m_Watch_now [.ref w] T = .ok a T := by
  have key : WR (m_Watch_now [.ref w] T) (fun d T' => d = a ∧ T' = T) := by
    refine w_def rfl ?_
    unfold b_Watch_now
    walk_at "go"
    refine w_dfld hw rfl ?_
    walk_at "go"
    exact ⟨rfl, rfl⟩
  obtain ⟨d, T', e, rfl, rfl⟩ := wr_out key
  exact e
theorem wcounts_run {cs : List D} (hw : T[w]? = some (watchO bk (.tup [a, s, o, .tup cs]) past)) (hc : cs.length ≤ 1000) : m_Watch_counts [.ref w] T = .ok (.ref T.length) (T ++ [.lst cs]) := by
  have key : WR (m_Watch_counts [.ref w] T) (fun d T' => d = .ref T.length ∧ T' = T ++ [.lst cs]) := by
    refine w_def rfl ?_
    unfold b_Watch_counts
    walk_at "go"
    refine w_dfld hw rfl ?_
    walk_at "go"
    exact wr_by (show fList [.tup cs] T = .ok (.ref T.length) (T ++ [.lst cs]) from rfl) ⟨rfl, rfl⟩
  obtain ⟨d, T', e, rfl, rfl⟩ := wr_out key
  exact e
theorem enter_state_run (hw : T[w]? = some (watchO bk (.tup [a, s, o, c]) (.tup ps))) (hl : ps.length ≤ 1000000) : m_Watch_enter_state [.ref w, v, l] T = .ok .non (T.set w (watchO bk (.tup [a, .tup [v, l], o, c]) (.tup (ps ++ [.tup [a, s, o, c]])))) := by
  have key : WR (m_Watch_enter_state [.ref w, v, l] T) (fun d T' => d = .non ∧ T' = T.set w (watchO bk (.tup [a, .tup [v, l], o, c]) (.tup (ps ++ [.tup [a, s, o, c]])))) := by
    refine w_def rfl ?_
    unfold b_Watch_enter_state
    walk_at "go"
    refine w_dfld hw rfl ?_
    walk_at "go"
    refine w_meth ?_
    walk_at "go"
    refine ⟨w, _, rfl, hw, no_meth (by decide +kernel), ?_⟩
    walk_at "go"
    refine wr_by (enter_run hw hl) ?_
    walk_at "go"
    exact ⟨rfl, rfl⟩
  obtain ⟨d, T', e, rfl, rfl⟩ := wr_out key
  exact e
theorem enter_off_run (hw : T[w]? = some (watchO bk (.tup [a, s, o, c]) (.tup ps))) (hl : ps.length ≤ 1000000) : m_Watch_enter_off [.ref w, v] T = .ok .non (T.set w (watchO bk (.tup [a, s, v, c]) (.tup (ps ++ [.tup [a, s, o, c]])))) := by
  have key : WR (m_Watch_enter_off [.ref w, v] T) (fun d T' => d = .non ∧ T' = T.set w (watchO bk (.tup [a, s, v, c]) (.tup (ps ++ [.tup [a, s, o, c]])))) := by
    refine w_def rfl ?_
    unfold b_Watch_enter_off
    walk_at "go"
    refine w_dfld hw rfl ?_
    walk_at "go"
    refine w_meth ?_
    walk_at "go"
    refine ⟨w, _, rfl, hw, no_meth (by decide +kernel), ?_⟩
    walk_at "go"
    refine wr_by (enter_run hw hl) ?_
    walk_at "go"
    exact ⟨rfl, rfl⟩
  obtain ⟨d, T', e, rfl, rfl⟩ := wr_out key
  exact e
theorem replaced_run {row : List D} {i : Nat} {d : D} (hi : i < row.length) (hm : row.length ≤ 1000) : m_replaced [.tup row, .int (i : Int), d] T = .ok (.tup (row.set i d)) T := by
  have key : WR (m_replaced [.tup row, .int (i : Int), d] T) (fun x T' => x = .tup (row.set i d) ∧ T' = T) := by
    refine w_def rfl ?_
    unfold b_replaced
    walk_at "go"
    rw [cut_to]
    refine w_addT (by rw [List.length_take]; exact Nat.le_trans (show _ ≤ 1001 by simp only [List.length_singleton]; omega) (by decide)) ?_
    walk_at "go"
    rw [show (i : Int) + 1 = ((i + 1 : Nat) : Int) from rfl, cutN]
    refine w_addT (by simp only [List.length_append, List.length_take, List.length_drop, List.length_singleton]; exact Nat.le_trans (show _ ≤ 2001 by omega) (by decide)) ?_
    refine ⟨?_, rfl⟩
    rw [List.set_eq_take_append_cons_drop, if_pos hi, List.append_assoc]
    rfl
  obtain ⟨d, T', e, rfl, rfl⟩ := wr_out key
  exact e
theorem whush_run {vs ls : List D} {r b q : Nat} (hb : bookD T (.ref bk) = some (ws, rs)) (hr : r < rs.length) (hL : ls.length = rs.length) (h5 : rs.length ≤ 5) (hg : ls[r]? = some (.int (q : Int))) (b1 : 1 ≤ b) (b2 : b ≤ 2)
    (hw : T[w]? = some (watchO bk (.tup [a, .tup [.tup vs, .tup ls], o, c]) (.tup ps))) (hl : ps.length ≤ 1000000) :
    m_Watch_hush [.ref w, .int (r : Int), .int (b : Int)] T = .ok .non (T.set w (watchO bk (.tup [a, .tup [.tup vs, .tup (ls.set r (.int ((max q b : Nat) : Int)))], o, c]) (.tup (ps ++ [.tup [a, .tup [.tup vs, .tup ls], o, c]])))) := by
  have q1 : s_want_rule [.ref bk, .int (r : Int)] T = .ok .non T := want_rule_of hb rfl (by simp only [withinD, Bool.and_eq_true, decide_eq_true_eq]; omega)
  have q2 := wstate_run hw
  have q3 : m_replaced [.tup ls, .int (r : Int), .int (iMax (q : Int) (b : Int))] T = .ok (.tup (ls.set r (.int ((max q b : Nat) : Int)))) T := by
    have := replaced_run (T := T) (row := ls) (i := r) (d := .int (iMax (q : Int) (b : Int))) (by omega) (by omega)
    rw [this]
    have e : iMax (q : Int) (b : Int) = ((max q b : Nat) : Int) := by unfold iMax; split <;> omega
    rw [e]
  have q4 := enter_state_run (v := .tup vs) (l := .tup (ls.set r (.int ((max q b : Nat) : Int)))) hw hl
  have q5 : s_is_within [.int (b : Int), .int 1, .int 2] T = .ok (.bl true) T := by
    rw [within_of rfl]
    congr 2
    simp only [withinD, Bool.and_eq_true, decide_eq_true_eq]
    omega
  have key : WR (m_Watch_hush [.ref w, .int (r : Int), .int (b : Int)] T) (fun d T' => d = .non ∧ T' = T.set w (watchO bk (.tup [a, .tup [.tup vs, .tup (ls.set r (.int ((max q b : Nat) : Int)))], o, c]) (.tup (ps ++ [.tup [a, .tup [.tup vs, .tup ls], o, c]])))) := by
    refine w_def rfl ?_
    unfold b_Watch_hush
    walk_at "go"
    refine w_dfld hw rfl ?_
    walk_at "go"
    refine w_meth ?_
    walk_at "go"
    refine ⟨w, _, rfl, hw, no_meth (by decide +kernel), ?_⟩
    walk_at "go"
    refine wr_by q2 ?_
    walk_at "go"
    refine w_meth ?_
    walk_at "go"
    refine ⟨w, _, rfl, hw, no_meth (by decide +kernel), ?_⟩
    walk_at "go"
    refine w_ix (xs := ls) (i := (r : Int)) rfl (atI_nat hg) ?_
    walk_at "go"
    exact wr_by q4 ⟨rfl, rfl⟩
  obtain ⟨d, T', e, rfl, rfl⟩ := wr_out key
  exact e
theorem wwake_run {vs ls : List D} {r : Nat} (hb : bookD T (.ref bk) = some (ws, rs)) (hr : r < rs.length) (hL : ls.length = rs.length) (h5 : rs.length ≤ 5)
    (hw : T[w]? = some (watchO bk (.tup [a, .tup [.tup vs, .tup ls], o, c]) (.tup ps))) (hl : ps.length ≤ 1000000) :
    m_Watch_wake [.ref w, .int (r : Int)] T = .ok .non (T.set w (watchO bk (.tup [a, .tup [.tup vs, .tup (ls.set r (.int 0))], o, c]) (.tup (ps ++ [.tup [a, .tup [.tup vs, .tup ls], o, c]])))) := by
  have q1 : s_want_rule [.ref bk, .int (r : Int)] T = .ok .non T := want_rule_of hb rfl (by simp only [withinD, Bool.and_eq_true, decide_eq_true_eq]; omega)
  have q2 := wstate_run hw
  have q3 : m_replaced [.tup ls, .int (r : Int), .int 0] T = .ok (.tup (ls.set r (.int 0))) T := replaced_run (by omega) (by omega)
  have q4 := enter_state_run (v := .tup vs) (l := .tup (ls.set r (.int 0))) hw hl
  have key : WR (m_Watch_wake [.ref w, .int (r : Int)] T) (fun d T' => d = .non ∧ T' = (T.set w (watchO bk (.tup [a, .tup [.tup vs, .tup (ls.set r (.int 0))], o, c]) (.tup (ps ++ [.tup [a, .tup [.tup vs, .tup ls], o, c]]))))) := by
    refine w_def rfl ?_
    unfold b_Watch_wake
    walk_at "go"
    refine w_dfld hw rfl ?_
    walk_at "go"
    refine w_meth ?_
    walk_at "go"
    refine ⟨w, _, rfl, hw, no_meth (by decide +kernel), ?_⟩
    walk_at "go"
    refine wr_by q2 ?_
    walk_at "go"
    refine w_meth ?_
    walk_at "go"
    refine ⟨w, _, rfl, hw, no_meth (by decide +kernel), ?_⟩
    walk_at "go"
    exact wr_by q4 ⟨rfl, rfl⟩
  obtain ⟨d, T', e, rfl, rfl⟩ := wr_out key
  exact e
theorem wwheel_run {x : Nat} (hb : bookD T (.ref bk) = some (ws, rs)) (hx : x < ws.length) (h3 : ws.length ≤ 3) {mom past : D} (hw : T[w]? = some (watchO bk mom past)) : m_Watch_want_wheel [.ref w, .int (x : Int)] T = .ok .non T := by
  have q0 := book_wheels hb
  have q1 : s_is_below [.int (x : Int), .int (ws.length : Int)] T = .ok (.bl true) T := by
    rw [below_of rfl]
    congr 2
    simp only [withinD, Bool.and_eq_true, decide_eq_true_eq]
    omega
  have key : WR (m_Watch_want_wheel [.ref w, .int (x : Int)] T) (fun d T' => d = .non ∧ T' = T) := by
    refine w_def rfl ?_
    unfold b_Watch_want_wheel
    walk_at "go"
    refine w_dfld hw rfl ?_
    walk_at "go"
    exact ⟨rfl, rfl⟩
  obtain ⟨d, T', e, rfl, rfl⟩ := wr_out key
  exact e
theorem wturn_run {vs ls : List D} {x m v : Nat} {by' : Nat} (hb : bookD T (.ref bk) = some (ws, rs)) (h3 : ws.length ≤ 3) (hL : vs.length = ws.length) (hx : ws[x]? = some (.int (m : Int))) (hv : vs[x]? = some (.int (v : Int))) (hm : 0 < m ∧ m ≤ 4) (hby : by' < 10 ^ 60)
    (hw : T[w]? = some (watchO bk (.tup [a, .tup [.tup vs, .tup ls], o, c]) (.tup ps))) (hl : ps.length ≤ 1000000) :
    m_Watch_turn [.ref w, .int (x : Int), .int (by' : Int)] T = .ok .non (T.set w (watchO bk (.tup [a, .tup [.tup (vs.set x (.int (((v + by') % m : Nat) : Int))), .tup ls], o, c]) (.tup (ps ++ [.tup [a, .tup [.tup vs, .tup ls], o, c]])))) := by
  have hxl : x < ws.length := (List.getElem?_eq_some_iff.mp hx).1
  have q0 := book_wheels hb
  have q1 := wwheel_run hb hxl h3 hw
  have q2 := wstate_run hw
  have q6 : s_want_beats [.int (by' : Int), .int 0] T = .ok .non T := want_beats_of rfl (within60 hby)
  have q3 : m_replaced [.tup vs, .int (x : Int), .int (((v + by') % m : Nat) : Int)] T = .ok (.tup (vs.set x (.int (((v + by') % m : Nat) : Int)))) T := replaced_run (by omega) (by omega)
  have q4 := enter_state_run (v := .tup (vs.set x (.int (((v + by') % m : Nat) : Int)))) (l := .tup ls) hw hl
  have q7 : dMod (.int ((v : Int) + (by' : Int))) (.int (m : Int)) T = .ok (.int (((v + by') % m : Nat) : Int)) T := by
    show (if 0 < (m : Int) then R.ok (D.int (((v : Int) + (by' : Int)) % (m : Int))) T else .fail) = _
    rw [if_pos (by omega), mod_nat]
  have key : WR (m_Watch_turn [.ref w, .int (x : Int), .int (by' : Int)] T) (fun d T' => d = .non ∧ T' = (T.set w (watchO bk (.tup [a, .tup [.tup (vs.set x (.int (((v + by') % m : Nat) : Int))), .tup ls], o, c]) (.tup (ps ++ [.tup [a, .tup [.tup vs, .tup ls], o, c]]))))) := by
    refine w_def rfl ?_
    unfold b_Watch_turn
    walk_at "go"
    refine w_meth ?_
    walk_at "go"
    refine ⟨w, _, rfl, hw, no_meth (by decide +kernel), ?_⟩
    walk_at "go"
    refine wr_by q1 ?_
    walk_at "go"
    refine w_meth ?_
    walk_at "go"
    refine ⟨w, _, rfl, hw, no_meth (by decide +kernel), ?_⟩
    walk_at "go"
    refine wr_by q2 ?_
    walk_at "go"
    refine w_meth ?_
    walk_at "go"
    refine ⟨w, _, rfl, hw, no_meth (by decide +kernel), ?_⟩
    walk_at "go"
    refine w_ix (xs := vs) (i := (x : Int)) rfl (atI_nat hv) ?_
    walk_at "go"
    refine w_dfld hw rfl ?_
    walk_at "go"
    refine w_ix (xs := ws) (i := (x : Int)) rfl (atI_nat hx) ?_
    walk_at "go"
    exact wr_by q4 ⟨rfl, rfl⟩
  obtain ⟨d, T', e, rfl, rfl⟩ := wr_out key
  exact e
theorem wput_run {vs ls : List D} {x m p : Nat} (hb : bookD T (.ref bk) = some (ws, rs)) (h3 : ws.length ≤ 3) (hL : vs.length = ws.length) (hx : ws[x]? = some (.int (m : Int))) (hp : p < m)
    (hw : T[w]? = some (watchO bk (.tup [a, .tup [.tup vs, .tup ls], o, c]) (.tup ps))) (hl : ps.length ≤ 1000000) :
    m_Watch_put [.ref w, .int (x : Int), .int (p : Int)] T = .ok .non (T.set w (watchO bk (.tup [a, .tup [.tup (vs.set x (.int (p : Int))), .tup ls], o, c]) (.tup (ps ++ [.tup [a, .tup [.tup vs, .tup ls], o, c]])))) := by
  have hxl : x < ws.length := (List.getElem?_eq_some_iff.mp hx).1
  have q0 := book_wheels hb
  have q1 := wwheel_run hb hxl h3 hw
  have q2 := wstate_run hw
  have q3 : m_replaced [.tup vs, .int (x : Int), .int (p : Int)] T = .ok (.tup (vs.set x (.int (p : Int)))) T := replaced_run (by omega) (by omega)
  have q4 := enter_state_run (v := .tup (vs.set x (.int (p : Int)))) (l := .tup ls) hw hl
  have q5 : s_is_below [.int (p : Int), .int (m : Int)] T = .ok (.bl true) T := by
    rw [below_of rfl]
    congr 2
    simp only [withinD, Bool.and_eq_true, decide_eq_true_eq]
    omega
  have key : WR (m_Watch_put [.ref w, .int (x : Int), .int (p : Int)] T) (fun d T' => d = .non ∧ T' = (T.set w (watchO bk (.tup [a, .tup [.tup (vs.set x (.int (p : Int))), .tup ls], o, c]) (.tup (ps ++ [.tup [a, .tup [.tup vs, .tup ls], o, c]]))))) := by
    refine w_def rfl ?_
    unfold b_Watch_put
    walk_at "go"
    refine w_meth ?_
    walk_at "go"
    refine ⟨w, _, rfl, hw, no_meth (by decide +kernel), ?_⟩
    walk_at "go"
    refine wr_by q1 ?_
    walk_at "go"
    refine w_dfld hw rfl ?_
    walk_at "go"
    refine w_ix (xs := ws) (i := (x : Int)) rfl (atI_nat hx) ?_
    walk_at "go"
    refine w_meth ?_
    walk_at "go"
    refine ⟨w, _, rfl, hw, no_meth (by decide +kernel), ?_⟩
    walk_at "go"
    refine wr_by q2 ?_
    walk_at "go"
    refine w_meth ?_
    walk_at "go"
    refine ⟨w, _, rfl, hw, no_meth (by decide +kernel), ?_⟩
    walk_at "go"
    exact wr_by q4 ⟨rfl, rfl⟩
  obtain ⟨d, T', e, rfl, rfl⟩ := wr_out key
  exact e
def offP (off : List D) (r : Nat) : List D := (sortU ((off ++ [D.int (r : Int)]).map wI)).map D.int
theorem wput_off_run {off : List D} {r : Nat} (hb : bookD T (.ref bk) = some (ws, rs)) (hr : r < rs.length) (h5 : rs.length ≤ 5) (hi : off.all isI = true) (ho : off.length ≤ 5)
    (hw : T[w]? = some (watchO bk (.tup [a, s, .tup off, c]) (.tup ps))) (hl : ps.length ≤ 1000000) :
    ∃ ex, m_Watch_put_off [.ref w, .int (r : Int)] T = .ok .non ((T ++ ex).set w (watchO bk (.tup [a, s, .tup (offP off r), c]) (.tup (ps ++ [.tup [a, s, .tup off, c]])))) := by
  have q1 : s_want_rule [.ref bk, .int (r : Int)] T = .ok .non T := want_rule_of hb rfl (by simp only [withinD, Bool.and_eq_true, decide_eq_true_eq]; omega)
  have q2 := woff_run hw
  have q3 : fSortSetT [.tup (off ++ [.int (r : Int)])] T = .ok (.ref T.length) (T ++ [.lst (offP off r)]) := by
    unfold fSortSetT offP
    simp only
    rw [if_pos ⟨by rw [List.all_append, hi]; rfl, by rw [List.length_append, List.length_singleton]; omega⟩]
  have q4 := enter_off_run (v := .tup (offP off r)) (get0 (ex := [Ob.lst (offP off r)]) hw) hl
  have key : WR (m_Watch_put_off [.ref w, .int (r : Int)] T) (fun (d : D) (T' : Sto) => d = .non ∧ T' = ((T ++ [Ob.lst (offP off r)]).set w (watchO bk (.tup [a, s, .tup (offP off r), c]) (.tup (ps ++ [.tup [a, s, .tup off, c]]))))) := by
    refine w_def rfl ?_
    unfold b_Watch_put_off
    walk_at "go"
    refine w_dfld hw rfl ?_
    walk_at "go"
    refine w_meth ?_
    walk_at "go"
    refine ⟨w, _, rfl, hw, no_meth (by decide +kernel), ?_⟩
    walk_at "go"
    refine w_meth ?_
    walk_at "go"
    refine ⟨w, _, rfl, hw, no_meth (by decide +kernel), ?_⟩
    walk_at "go"
    refine wr_by q2 ?_
    walk_at "go"
    refine w_addT (by rw [List.length_singleton]; exact Nat.le_trans (show off.length + 1 ≤ 6 by omega) (by decide)) ?_
    walk_at "go"
    refine w_tupL get_end ?_
    walk_at "go"
    exact wr_by q4 ⟨rfl, rfl⟩
  obtain ⟨d, T', e, rfl, rfl⟩ := wr_out key
  exact ⟨_, e⟩
def offN (off : List D) (r : Nat) : List D := off.filter fun x => !(wI x == (r : Int))
theorem wput_on_run {off : List D} {r : Nat} (hb : bookD T (.ref bk) = some (ws, rs)) (hr : r < rs.length) (h5 : rs.length ≤ 5) (hi : off.all isI = true) (ho : off.length ≤ 5)
    (hw : T[w]? = some (watchO bk (.tup [a, s, .tup off, c]) (.tup ps))) (hl : ps.length ≤ 1000000) :
    ∃ ex, m_Watch_put_on [.ref w, .int (r : Int)] T = .ok .non ((T ++ ex).set w (watchO bk (.tup [a, s, .tup (offN off r), c]) (.tup (ps ++ [.tup [a, s, .tup off, c]])))) := by
  have q1 : s_want_rule [.ref bk, .int (r : Int)] T = .ok .non T := want_rule_of hb rfl (by simp only [withinD, Bool.and_eq_true, decide_eq_true_eq]; omega)
  have q2 := woff_run hw
  have q4 := enter_off_run (v := .tup (offN off r)) (get0 (ex := [Ob.lst (offN off r)]) hw) hl
  have key : WR (m_Watch_put_on [.ref w, .int (r : Int)] T) (fun (d : D) (T' : Sto) => d = .non ∧ T' = ((T ++ [Ob.lst (offN off r)]).set w (watchO bk (.tup [a, s, .tup (offN off r), c]) (.tup (ps ++ [.tup [a, s, .tup off, c]]))))) := by
    refine w_def rfl ?_
    unfold b_Watch_put_on
    walk_at "go"
    refine w_dfld hw rfl ?_
    walk_at "go"
    refine w_meth ?_
    walk_at "go"
    refine ⟨w, _, rfl, hw, no_meth (by decide +kernel), ?_⟩
    walk_at "go"
    refine w_meth ?_
    walk_at "go"
    refine ⟨w, _, rfl, hw, no_meth (by decide +kernel), ?_⟩
    walk_at "go"
    refine wr_by q2 ?_
    walk_at "go"
    refine w_lcpure (xs := off) (p := fun x => !(wI x == (r : Int))) (f := fun d => d) rfl (Nat.le_trans ho (by decide)) (fun x hx acc => ?_) ?_
    · obtain ⟨k, rfl⟩ : ∃ k, x = .int k := ⟨_, isI_eq (List.all_eq_true.mp hi x hx)⟩
      refine ⟨_, rfl, wr_eq ?_, fun _ => rfl⟩
      refine w_tof (w_bin (w_var rfl (w_var rfl (wr_by eqI ?_))))
      exact ⟨rfl, rfl⟩
    rw [List.map_id']
    walk_at "go"
    refine w_tupL get_end ?_
    walk_at "go"
    exact wr_by q4 ⟨rfl, rfl⟩
  obtain ⟨d, T', e, rfl, rfl⟩ := wr_out key
  exact ⟨_, e⟩
end

end Hd
set_option Elab.async false
set_option linter.all false
set_option maxRecDepth 100000
set_option maxHeartbeats 1000000
namespace Hd
open PySem U
local macro_rules | `(tactic| walk_at "ex1") => `(tactic| first | (with_reducible refine w_seq ?_) | (with_reducible refine w_set ?_) | (with_reducible refine w_ret ?_) | (with_reducible refine w_sif ?_) | (with_reducible refine w_asg2 ?_) | (with_reducible refine w_asg3 ?_) | (with_reducible refine w_asg4 ?_) | (with_reducible refine w_ex2 ?_) | (with_reducible refine w_ex3 ?_) | (with_reducible refine w_ex4 ?_) | (with_reducible refine w_par ?_) | (with_reducible refine w_par3 ?_) | (with_reducible refine w_expr ?_) | (with_reducible refine w_for ?_) | (with_reducible refine w_skip ?_) | (with_reducible refine w_fn ?_) | (with_reducible refine w_acons ?_) | (with_reducible refine w_anil ?_) | (with_reducible refine w_aapp ?_) | (with_reducible refine w_bin ?_) | (with_reducible refine w_un ?_) | (with_reducible refine w_c ?_) | (with_reducible refine w_tof ?_) | (with_reducible refine w_tob ?_) | (with_reducible refine w_tand ?_) | (with_reducible refine w_tor ?_) | (with_reducible refine w_tnot ?_) | (with_reducible refine w_eand ?_) | (with_reducible refine w_eor ?_) | (with_reducible refine w_enot ?_) | (with_reducible refine w_exb ?_) | (with_reducible refine w_exi ?_) | (with_reducible refine w_if ?_) | (with_reducible refine w_slice ?_) | (with_reducible refine w_onone ?_) | (with_reducible refine w_osome ?_) | (with_reducible refine w_lc ?_) | (with_reducible refine w_lc2 ?_) | (with_reducible refine w_mtl ?_) | (with_reducible refine w_iseq ?_) | (with_reducible refine w_irng ?_) | (with_reducible refine w_ienum ?_) | (with_reducible refine w_ibin ?_) | (with_reducible refine w_true ?_) | (with_reducible refine cond_t ?_) | (with_reducible refine cond_f ?_))
local macro_rules | `(tactic| walk_at "ex2") => `(tactic| first | (with_reducible refine w_addI ?_) | (with_reducible refine w_subI ?_) | (with_reducible refine w_ltI ?_) | (with_reducible refine w_leI ?_) | (with_reducible refine w_gtI ?_) | (with_reducible refine w_geI ?_) | (with_reducible refine w_eqI ?_) | (with_reducible refine w_neI ?_) | (with_reducible refine w_negI ?_) | (with_reducible refine w_maxI ?_) | (with_reducible refine w_minI ?_) | (with_reducible refine w_lenT ?_) | (with_reducible refine w_slT ?_) | (with_reducible refine w_sseq ?_) | (with_reducible refine w_senum ?_) | (with_reducible refine w_szip ?_) | (with_reducible refine w_eqB ?_) | (with_reducible refine w_neB ?_))
local macro_rules | `(tactic| walk_at "ex3") => `(tactic| first | ((with_reducible apply w_var); (focus exact rfl)) | ((with_reducible apply w_aug); (focus exact rfl)) | ((with_reducible apply w_thaw); (focus exact rfl); (focus with_reducible assumption)) | ((with_reducible apply w_idxZ); (focus exact rfl); (focus with_reducible assumption)) | ((with_reducible apply wr_by); (focus with_reducible assumption)) | ((with_reducible apply w_via); (focus exact rfl)) | ((with_reducible apply w_mkTup); (focus exact Nat.le_of_ble_eq_true rfl)) | ((with_reducible apply w_mkLst); (focus exact Nat.le_of_ble_eq_true rfl)) | ((with_reducible apply w_ix); (focus exact rfl); (focus exact rfl)) | ((with_reducible apply w_lenL); (focus with_reducible assumption)) | ((with_reducible apply w_lenL); (focus with_reducible exact get_end)) | ((with_reducible apply w_isl); (focus with_reducible assumption)) | ((with_reducible apply w_append); (focus with_reducible assumption); (focus with_reducible assumption)) | ((with_reducible apply w_slL); (focus with_reducible assumption)) | ((with_reducible apply w_enumL); (focus with_reducible assumption)) | ((with_reducible apply w_tupL); (focus with_reducible assumption)) | ((with_reducible apply w_sdyn); (focus with_reducible assumption)) | ((with_reducible apply w_isi); (focus exact rfl)) | ((with_reducible apply w_isi2); (focus exact rfl)) | ((with_reducible apply w_eqS); (focus decide +kernel); (focus decide +kernel)) | ((with_reducible apply cond_af); (focus exact rfl)) | ((with_reducible apply cond_at); (focus exact rfl)) | ((with_reducible apply cond_af); (focus decide +kernel)) | ((with_reducible apply cond_at); (focus decide +kernel)))
local macro_rules | `(tactic| walk_at "go") => `(tactic| repeat (first | walk_at "ex1" | walk_at "ex2" | walk_at "ex3"))
inductive Dd
  | turn (x b : Nat) | put (x p : Nat) | hush (r b : Nat) | wake (r : Nat) | poff (r : Nat) | pon (r : Nat)
def Dd.dat : Dd → D
  | .turn x b => .tup [.str "turn", .int (x : Int), .int (b : Int)]
  | .put x p => .tup [.str "put", .int (x : Int), .int (p : Int)]
  | .hush r b => .tup [.str "hush", .int (r : Int), .int (b : Int)]
  | .wake r => .tup [.str "wake", .int (r : Int), .int 0]
  | .poff r => .tup [.str "off", .int (r : Int), .int 0]
  | .pon r => .tup [.str "on", .int (r : Int), .int 0]
def Dd.ok (ws rs : List D) : Dd → Prop
  | .turn x b => x < ws.length ∧ b < 10 ^ 60
  | .put x p => ∃ m : Nat, ws[x]? = some (.int (m : Int)) ∧ p < m
  | .hush r b => r < rs.length ∧ 1 ≤ b ∧ b ≤ 2
  | .wake r => r < rs.length
  | .poff r => r < rs.length
  | .pon r => r < rs.length
theorem pow60 {T : Sto} : dPow (.int 10) (.int 60) T = .ok (.int 1000000000000000000000000000000000000000000000000000000000000) T := by rw [powI (by decide) (by decide) (by decide)]; rfl
theorem hand_s {B : Nat} {ps : List (Nat × Ob)} {T : Sto} {c : Int} {ws rs : List D} (H : Stg B ps T c) (Dr : DrawOk ws rs) (hc : c + 20 < 1000000000) : ∃ (d : Dd) (T' : Sto), m__law_hand [.ref B, .tup ws, .int (rs.length : Int)] T = .ok d.dat T' ∧ Stg B ps T' (c + 8) ∧ d.ok ws rs := by
  have n5 := Dr.n5
  have w3 := Dr.wh.l3
  have w1 := Dr.wh.l1
  obtain ⟨x, T1, t1, hx, H1⟩ := take_s H (many := (ws.length : Int)) (by omega) (by omega) (by omega)
  obtain ⟨a, T2, t2, ha, H2⟩ := take_s H1 (many := 9) (by omega) (by omega) (by omega)
  obtain ⟨e, T3, t3, he, H3⟩ := take_s H2 (many := 9) (by omega) (by omega) (by omega)
  obtain ⟨z, T4, t4, hz, H4⟩ := take_s H3 (many := 4) (by omega) (by omega) (by omega)
  have hxl : x < ws.length := by omega
  obtain ⟨M, eM, hM2, hM4⟩ := Dr.wh.w ws[x] (List.getElem_mem hxl)
  have hat : ws[x]? = some (.int (M : Int)) := by rw [List.getElem?_eq_getElem hxl, eM]
  have hi : ∀ S, dIx (.tup ws) (.int (x : Int)) S = .ok (.int (M : Int)) S := fun S => ixS rfl (atI_nat hat)
  have p60 := pow60 (T := T2)
  obtain ⟨j, b, f1, f2, hb⟩ : ∃ (j : Int) (b : Nat), fInt [.bl ((z : Int) == 0)] T4 = .ok (.int j) T4 ∧ L2.atI [D.int (a : Int), D.int (1000000000000000000000000000000000000000000000000000000000000 - 1 - (e : Int))] j = some (.int (b : Int)) ∧ b < 10 ^ 60 := by
    by_cases h0 : z = 0
    · subst h0
      refine ⟨1, 1000000000000000000000000000000000000000000000000000000000000 - 1 - e, rfl, ?_, by omega⟩
      rw [show (1000000000000000000000000000000000000000000000000000000000000 : Int) - 1 - (e : Int) = ((1000000000000000000000000000000000000000000000000000000000000 - 1 - e : Nat) : Int) by omega]
      exact atI_nat (i := 1) rfl
    · refine ⟨0, a, ?_, atI_nat (i := 0) rfl, by omega⟩
      rw [show ((z : Int) == 0) = false from beq_eq_false_iff_ne.mpr (by omega)]
      rfl
  obtain ⟨p, T5, t5, hp, H5⟩ := take_s (H4.new (.lst [.tup [.str "turn", .int (x : Int), .int (b : Int)]])) (many := (M : Int)) (by omega) (by omega) (by omega)
  have hi5 := hi (T4 ++ [.lst [.tup [.str "turn", .int (x : Int), .int (b : Int)]]])
  have g5 : T5[T4.length]? = some (.lst [.tup [.str "turn", .int (x : Int), .int (b : Int)]]) := H5.at List.mem_cons_self
  have key : WR (m__law_hand [.ref B, .tup ws, .int (rs.length : Int)] T) (fun d t => ∃ w : Dd, d = w.dat ∧ Stg B ps t (c + 8) ∧ w.ok ws rs) := by
    refine w_def rfl ?_
    show WS (b__law_hand [some (.ref B), some (.tup ws), some (.int (rs.length : Int)), none, none, none] T) _ _ _ _
    unfold b__law_hand
    walk_at "go"
    refine w_ix rfl f2 ?_
    walk_at "go"
    refine ⟨isLst_at (get_end), ?_⟩
    walk_at "go"
    refine w_append g5 (by show 1 < most; decide) ?_
    have H6 := H5.set (o' := .lst [.tup [.str "turn", .int (x : Int), .int (b : Int)], .tup [.str "put", .int (x : Int), .int (p : Int)]]) (fun q hq => Nat.ne_of_lt (H4.lt hq))
    have e6 : T5.set T4.length (.lst ([.tup [.str "turn", .int (x : Int), .int (b : Int)]] ++ [.tup [.str "put", .int (x : Int), .int (p : Int)]])) = T5.set T4.length (.lst [.tup [.str "turn", .int (x : Int), .int (b : Int)], .tup [.str "put", .int (x : Int), .int (p : Int)]]) := rfl
    rw [e6]
    obtain ⟨T6, hT6⟩ : ∃ T6, T6 = T5.set T4.length (.lst [.tup [.str "turn", .int (x : Int), .int (b : Int)], .tup [.str "put", .int (x : Int), .int (p : Int)]]) := ⟨_, rfl⟩
    rw [← hT6] at H6 ⊢
    have ok1 : (Dd.turn x b).ok ws rs := ⟨hxl, hb⟩
    have ok2 : (Dd.put x p).ok ws rs := ⟨M, hat, by omega⟩
    walk_at "go"
    refine cond_by (fun h0 => ?_) (fun h0 => ?_)
    · have hn : 0 < rs.length := by have := of_decide_eq_true h0; omega
      obtain ⟨r, T7, t7, hr, H7⟩ := take_s H6 (many := (rs.length : Int)) (by omega) (by omega) (by omega)
      obtain ⟨u, T8, t8, hu, H8⟩ := take_s H7 (many := 2) (by omega) (by omega) (by omega)
      have g8 : T8[T4.length]? = some (.lst [.tup [.str "turn", .int (x : Int), .int (b : Int)], .tup [.str "put", .int (x : Int), .int (p : Int)]]) := H8.at List.mem_cons_self
      obtain ⟨l4, hl4⟩ : ∃ l, l = [D.tup [.str "hush", .int (r : Int), .int (1 + (u : Int))], D.tup [.str "wake", .int (r : Int), .int 0], D.tup [.str "off", .int (r : Int), .int 0], D.tup [.str "on", .int (r : Int), .int 0]] := ⟨_, rfl⟩
      walk_at "go"
      rw [← hl4]
      refine w_addL (get0 g8) get_end (by rw [hl4]; show 6 ≤ most; decide) ?_
      walk_at "go"
      have H9 := ((H8.tail).app (ex := [Ob.lst l4])).new (Ob.lst ([.tup [.str "turn", .int (x : Int), .int (b : Int)], .tup [.str "put", .int (x : Int), .int (p : Int)]] ++ l4))
      obtain ⟨v, T9, t9, hv, H10⟩ := take_s H9 (many := 6) (by omega) (by omega) (by omega)
      have ok3 : ∀ w ∈ [Dd.turn x b, .put x p, .hush r (1 + u), .wake r, .poff r, .pon r], w.ok ws rs := fun w hw => by
        simp only [List.mem_cons, List.not_mem_nil, or_false] at hw
        rcases hw with rfl | rfl | rfl | rfl | rfl | rfl
        · exact ok1
        · exact ok2
        · exact ⟨by omega, by omega, by omega⟩
        · show r < rs.length; omega
        · show r < rs.length; omega
        · show r < rs.length; omega
      have eL : [D.tup [.str "turn", .int (x : Int), .int (b : Int)], .tup [.str "put", .int (x : Int), .int (p : Int)]] ++ l4 = [Dd.turn x b, .put x p, .hush r (1 + u), .wake r, .poff r, .pon r].map Dd.dat := by rw [hl4]; rfl
      have g9 := H10.at List.mem_cons_self
      rw [eL] at t9 g9 ⊢
      obtain ⟨w, hwi⟩ : ∃ w, [Dd.turn x b, .put x p, .hush r (1 + u), .wake r, .poff r, .pon r][v]? = some w := ⟨_, List.getElem?_eq_getElem (show v < 6 by omega)⟩
      refine wr_by t9 ?_
      refine w_ix (seq_lst g9) (atI_nat (by rw [List.getElem?_map, hwi]; rfl)) ?_
      exact ⟨w, rfl, H10.tail.mono (by omega), ok3 w (List.mem_of_getElem? hwi)⟩
    · have g6 : T6[T4.length]? = some (.lst [.tup [.str "turn", .int (x : Int), .int (b : Int)], .tup [.str "put", .int (x : Int), .int (p : Int)]]) := H6.at List.mem_cons_self
      walk_at "go"
      obtain ⟨v, T9, t9, hv, H10⟩ := take_s H6 (many := 2) (by omega) (by omega) (by omega)
      have t9' : s__law_take [.ref B, .int (([D.tup [.str "turn", .int (x : Int), .int (b : Int)], .tup [.str "put", .int (x : Int), .int (p : Int)]].length : Nat) : Int)] T6 = .ok (.int (v : Int)) T9 := t9
      refine wr_by t9' ?_
      have g9 : T9[T4.length]? = some (.lst ([Dd.turn x b, .put x p].map Dd.dat)) := H10.at List.mem_cons_self
      obtain ⟨w, hwi⟩ : ∃ w, [Dd.turn x b, .put x p][v]? = some w := ⟨_, List.getElem?_eq_getElem (show v < 2 by omega)⟩
      refine w_ix (seq_lst g9) (atI_nat (by rw [List.getElem?_map, hwi]; rfl)) ?_
      refine ⟨w, rfl, H10.tail.mono (by omega), ?_⟩
      have := List.mem_of_getElem? hwi
      simp only [List.mem_cons, List.not_mem_nil, or_false] at this
      rcases this with rfl | rfl
      · exact ok1
      · exact ok2
  obtain ⟨d, t, e, w, rfl, h, hw⟩ := wr_out key
  exact ⟨w, t, e, h, hw⟩

end Hd
set_option Elab.async false
set_option linter.all false
set_option maxRecDepth 100000
set_option maxHeartbeats 1000000
namespace Hd
open PySem U
local macro_rules | `(tactic| walk_at "ex1") => `(tactic| first | (with_reducible refine w_seq ?_) | (with_reducible refine w_set ?_) | (with_reducible refine w_ret ?_) | (with_reducible refine w_sif ?_) | (with_reducible refine w_asg2 ?_) | (with_reducible refine w_asg3 ?_) | (with_reducible refine w_asg4 ?_) | (with_reducible refine w_ex2 ?_) | (with_reducible refine w_ex3 ?_) | (with_reducible refine w_ex4 ?_) | (with_reducible refine w_par ?_) | (with_reducible refine w_par3 ?_) | (with_reducible refine w_expr ?_) | (with_reducible refine w_for ?_) | (with_reducible refine w_skip ?_) | (with_reducible refine w_fn ?_) | (with_reducible refine w_acons ?_) | (with_reducible refine w_anil ?_) | (with_reducible refine w_aapp ?_) | (with_reducible refine w_bin ?_) | (with_reducible refine w_un ?_) | (with_reducible refine w_c ?_) | (with_reducible refine w_tof ?_) | (with_reducible refine w_tob ?_) | (with_reducible refine w_tand ?_) | (with_reducible refine w_tor ?_) | (with_reducible refine w_tnot ?_) | (with_reducible refine w_eand ?_) | (with_reducible refine w_eor ?_) | (with_reducible refine w_enot ?_) | (with_reducible refine w_exb ?_) | (with_reducible refine w_exi ?_) | (with_reducible refine w_if ?_) | (with_reducible refine w_slice ?_) | (with_reducible refine w_onone ?_) | (with_reducible refine w_osome ?_) | (with_reducible refine w_lc ?_) | (with_reducible refine w_lc2 ?_) | (with_reducible refine w_mtl ?_) | (with_reducible refine w_iseq ?_) | (with_reducible refine w_irng ?_) | (with_reducible refine w_ienum ?_) | (with_reducible refine w_ibin ?_) | (with_reducible refine w_true ?_) | (with_reducible refine cond_t ?_) | (with_reducible refine cond_f ?_))
local macro_rules | `(tactic| walk_at "ex2") => `(tactic| first | (with_reducible refine w_addI ?_) | (with_reducible refine w_subI ?_) | (with_reducible refine w_ltI ?_) | (with_reducible refine w_leI ?_) | (with_reducible refine w_gtI ?_) | (with_reducible refine w_geI ?_) | (with_reducible refine w_eqI ?_) | (with_reducible refine w_neI ?_) | (with_reducible refine w_negI ?_) | (with_reducible refine w_maxI ?_) | (with_reducible refine w_minI ?_) | (with_reducible refine w_lenT ?_) | (with_reducible refine w_slT ?_) | (with_reducible refine w_sseq ?_) | (with_reducible refine w_senum ?_) | (with_reducible refine w_szip ?_) | (with_reducible refine w_eqB ?_) | (with_reducible refine w_neB ?_))
local macro_rules | `(tactic| walk_at "ex3") => `(tactic| first | ((with_reducible apply w_var); (focus exact rfl)) | ((with_reducible apply w_aug); (focus exact rfl)) | ((with_reducible apply w_thaw); (focus exact rfl); (focus with_reducible assumption)) | ((with_reducible apply w_idxZ); (focus exact rfl); (focus with_reducible assumption)) | ((with_reducible apply wr_by); (focus with_reducible assumption)) | ((with_reducible apply w_via); (focus exact rfl)) | ((with_reducible apply w_mkTup); (focus exact Nat.le_of_ble_eq_true rfl)) | ((with_reducible apply w_mkLst); (focus exact Nat.le_of_ble_eq_true rfl)) | ((with_reducible apply w_ix); (focus exact rfl); (focus exact rfl)) | ((with_reducible apply w_lenL); (focus with_reducible assumption)) | ((with_reducible apply w_lenL); (focus with_reducible exact get_end)) | ((with_reducible apply w_isl); (focus with_reducible assumption)) | ((with_reducible apply w_append); (focus with_reducible assumption); (focus with_reducible assumption)) | ((with_reducible apply w_slL); (focus with_reducible assumption)) | ((with_reducible apply w_enumL); (focus with_reducible assumption)) | ((with_reducible apply w_tupL); (focus with_reducible assumption)) | ((with_reducible apply w_sdyn); (focus with_reducible assumption)) | ((with_reducible apply w_isi); (focus exact rfl)) | ((with_reducible apply w_isi2); (focus exact rfl)) | ((with_reducible apply w_eqS); (focus decide +kernel); (focus decide +kernel)) | ((with_reducible apply cond_af); (focus exact rfl)) | ((with_reducible apply cond_at); (focus exact rfl)) | ((with_reducible apply cond_af); (focus decide +kernel)) | ((with_reducible apply cond_at); (focus decide +kernel)))
local macro_rules | `(tactic| walk_at "go") => `(tactic| repeat (first | walk_at "ex1" | walk_at "ex2" | walk_at "ex3"))
section
variable {T U : Sto} {bk w : Nat} {mom past a b : D}
theorem at_hush (hw : T[w]? = some (watchO bk mom past)) (q : m_Watch_hush [.ref w, a, b] T = .ok .non U) : m__law_at_watch [.ref w, .tup [.str "hush", a, b]] T = .ok .non U := by
  have key : WR (m__law_at_watch [.ref w, .tup [.str "hush", a, b]] T) (fun (y : D) (T' : Sto) => y = .non ∧ T' = U) := by
    refine w_def rfl ?_
    unfold b__law_at_watch
    walk_at "go"
    refine w_meth ?_
    walk_at "go"
    refine ⟨w, _, rfl, hw, no_meth (by decide +kernel), ?_⟩
    walk_at "go"
    exact wr_by q ⟨rfl, rfl⟩
  obtain ⟨y, T', e, rfl, rfl⟩ := wr_out key
  exact e
theorem at_wake (hw : T[w]? = some (watchO bk mom past)) (q : m_Watch_wake [.ref w, a] T = .ok .non U) : m__law_at_watch [.ref w, .tup [.str "wake", a, b]] T = .ok .non U := by
  have key : WR (m__law_at_watch [.ref w, .tup [.str "wake", a, b]] T) (fun (y : D) (T' : Sto) => y = .non ∧ T' = U) := by
    refine w_def rfl ?_
    unfold b__law_at_watch
    walk_at "go"
    refine w_meth ?_
    walk_at "go"
    refine ⟨w, _, rfl, hw, no_meth (by decide +kernel), ?_⟩
    walk_at "go"
    exact wr_by q ⟨rfl, rfl⟩
  obtain ⟨y, T', e, rfl, rfl⟩ := wr_out key
  exact e
theorem at_turn (hw : T[w]? = some (watchO bk mom past)) (q : m_Watch_turn [.ref w, a, b] T = .ok .non U) : m__law_at_watch [.ref w, .tup [.str "turn", a, b]] T = .ok .non U := by
  have key : WR (m__law_at_watch [.ref w, .tup [.str "turn", a, b]] T) (fun (y : D) (T' : Sto) => y = .non ∧ T' = U) := by
    refine w_def rfl ?_
    unfold b__law_at_watch
    walk_at "go"
    refine w_meth ?_
    walk_at "go"
    refine ⟨w, _, rfl, hw, no_meth (by decide +kernel), ?_⟩
    walk_at "go"
    exact wr_by q ⟨rfl, rfl⟩
  obtain ⟨y, T', e, rfl, rfl⟩ := wr_out key
  exact e
theorem at_put (hw : T[w]? = some (watchO bk mom past)) (q : m_Watch_put [.ref w, a, b] T = .ok .non U) : m__law_at_watch [.ref w, .tup [.str "put", a, b]] T = .ok .non U := by
  have key : WR (m__law_at_watch [.ref w, .tup [.str "put", a, b]] T) (fun (y : D) (T' : Sto) => y = .non ∧ T' = U) := by
    refine w_def rfl ?_
    unfold b__law_at_watch
    walk_at "go"
    refine w_meth ?_
    walk_at "go"
    refine ⟨w, _, rfl, hw, no_meth (by decide +kernel), ?_⟩
    walk_at "go"
    exact wr_by q ⟨rfl, rfl⟩
  obtain ⟨y, T', e, rfl, rfl⟩ := wr_out key
  exact e
theorem at_put_off (hw : T[w]? = some (watchO bk mom past)) (q : m_Watch_put_off [.ref w, a] T = .ok .non U) : m__law_at_watch [.ref w, .tup [.str "off", a, b]] T = .ok .non U := by
  have key : WR (m__law_at_watch [.ref w, .tup [.str "off", a, b]] T) (fun (y : D) (T' : Sto) => y = .non ∧ T' = U) := by
    refine w_def rfl ?_
    unfold b__law_at_watch
    walk_at "go"
    refine w_meth ?_
    walk_at "go"
    refine ⟨w, _, rfl, hw, no_meth (by decide +kernel), ?_⟩
    walk_at "go"
    exact wr_by q ⟨rfl, rfl⟩
  obtain ⟨y, T', e, rfl, rfl⟩ := wr_out key
  exact e
theorem at_put_on (hw : T[w]? = some (watchO bk mom past)) (q : m_Watch_put_on [.ref w, a] T = .ok .non U) : m__law_at_watch [.ref w, .tup [.str "on", a, b]] T = .ok .non U := by
  have key : WR (m__law_at_watch [.ref w, .tup [.str "on", a, b]] T) (fun (y : D) (T' : Sto) => y = .non ∧ T' = U) := by
    refine w_def rfl ?_
    unfold b__law_at_watch
    walk_at "go"
    refine w_meth ?_
    walk_at "go"
    refine ⟨w, _, rfl, hw, no_meth (by decide +kernel), ?_⟩
    walk_at "go"
    exact wr_by q ⟨rfl, rfl⟩
  obtain ⟨y, T', e, rfl, rfl⟩ := wr_out key
  exact e
end
section
variable {ws rs off : List D} {s : D}
theorem OffOk.put (Dr : DrawOk ws rs) (O : OffOk ws rs off) {r : Nat} (hr : r < rs.length) : OffOk ws rs (offP off r) := by
  obtain ⟨l, rfl, p1, p2, p3⟩ := O.ex
  obtain ⟨N, hN⟩ : ∃ N, N = sortU (((l.map fun (x : Nat) => D.int (x : Int)) ++ [D.int (r : Int)]).map wI) := ⟨_, rfl⟩
  have hm : ∀ k ∈ N, ∃ j : Nat, k = (j : Int) ∧ j < rs.length := fun k hk => by
    rw [hN, sortU_mem] at hk
    obtain ⟨d, hd, rfl⟩ := List.mem_map.mp hk
    rcases List.mem_append.mp hd with h | h
    · obtain ⟨j, hj, rfl⟩ := List.mem_map.mp h
      exact ⟨j, rfl, p2 j hj⟩
    · obtain rfl := List.mem_singleton.mp h
      exact ⟨r, rfl, hr⟩
  have hp : (N.map Int.toNat).Pairwise (· < ·) := by
    have h1 : N.Pairwise (· < ·) := by rw [hN]; exact sortU_rise _
    rw [List.pairwise_map]
    refine List.Pairwise.imp_of_mem (fun {a b} ha hb hab => ?_) h1
    obtain ⟨i, rfl, _⟩ := hm a ha
    obtain ⟨j, rfl, _⟩ := hm b hb
    simp only [Int.toNat_natCast]
    omega
  have hlt : ∀ x ∈ N.map Int.toNat, x < rs.length := fun x hx => by
    obtain ⟨k, hk, rfl⟩ := List.mem_map.mp hx
    obtain ⟨j, rfl, hj⟩ := hm k hk
    simpa using hj
  have e : offP (l.map fun (x : Nat) => D.int (x : Int)) r = (N.map Int.toNat).map fun (x : Nat) => D.int (x : Int) := by
    unfold offP
    rw [← hN, List.map_map]
    refine List.map_congr_left fun k hk => ?_
    obtain ⟨j, rfl, _⟩ := hm k hk
    simp
  rw [e]
  exact OffOk.of Dr hp hlt (nodup_lt _ _ (hp.imp fun h => Nat.ne_of_lt h) hlt)
theorem OffOk.out (Dr : DrawOk ws rs) (O : OffOk ws rs off) (r : Nat) : OffOk ws rs (offN off r) := by
  obtain ⟨l, rfl, p1, p2, p3⟩ := O.ex
  have e : offN (l.map fun (x : Nat) => D.int (x : Int)) r = (l.filter fun (x : Nat) => !((x : Int) == (r : Int))).map fun (x : Nat) => D.int (x : Int) := by
    unfold offN
    rw [List.filter_map]
    rfl
  rw [e]
  exact OffOk.of Dr (p1.filter _) (fun x hx => p2 x (List.mem_filter.mp hx).1) (Nat.le_trans (List.length_filter_le _ _) p3)
theorem at_watch_run {bk : Nat} (Dr : DrawOk ws rs) (h : SOk ws rs s) (O : OffOk ws rs off) {d : Dd} (hd : d.ok ws rs) : ∃ s' off', SOk ws rs s' ∧ OffOk ws rs off' ∧
    ∀ (T : Sto) (w : Nat) (n c : D) (ps : List D), bookD T (.ref bk) = some (ws, rs) → T[w]? = some (watchO bk (.tup [n, s, .tup off, c]) (.tup ps)) → ps.length ≤ 1000000 →
      ∃ ex, m__law_at_watch [.ref w, d.dat] T = .ok .non ((T ++ ex).set w (watchO bk (.tup [n, s', .tup off', c]) (.tup (ps ++ [.tup [n, s, .tup off, c]])))) := by
  have n5 := Dr.n5
  have w3 := Dr.wh.l3
  obtain ⟨vs, ls, rfl, hv, hl⟩ := h
  have hoL := O.run.offL
  have hoI := O.run.offI
  cases d with
  | turn x b =>
    obtain ⟨hx, hb⟩ := hd
    obtain ⟨M, eM, hM2, hM4⟩ := Dr.wh.w ws[x] (List.getElem_mem hx)
    have hat : ws[x]? = some (.int (M : Int)) := by rw [List.getElem?_eq_getElem hx, eM]
    obtain ⟨v, m', h1, h2, h3⟩ := hv.2 x _ hat
    refine ⟨_, off, ⟨vs.set x (.int (((v + b) % M : Nat) : Int)), ls, rfl, hv.set hat (Nat.mod_lt _ (by omega)), hl⟩, O, fun T w n c ps hbk hw hp => ⟨[], ?_⟩⟩
    rw [List.append_nil]
    exact at_turn hw (wturn_run (by' := b) hbk w3 hv.1 hat h1 ⟨by omega, by omega⟩ hb hw hp)
  | put x p =>
    obtain ⟨M, hat, hpM⟩ := hd
    refine ⟨_, off, ⟨vs.set x (.int (p : Int)), ls, rfl, hv.set hat hpM, hl⟩, O, fun T w n c ps hbk hw hp => ⟨[], ?_⟩⟩
    rw [List.append_nil]
    exact at_put hw (wput_run hbk w3 hv.1 hat hpM hw hp)
  | hush r b =>
    obtain ⟨hr, hb1, hb2⟩ := hd
    obtain ⟨q, h1, h2⟩ := hl.2 r hr
    refine ⟨_, off, ⟨vs, ls.set r (.int ((max q b : Nat) : Int)), rfl, hv, hl.set (by omega)⟩, O, fun T w n c ps hbk hw hp => ⟨[], ?_⟩⟩
    rw [List.append_nil]
    exact at_hush hw (whush_run hbk hr hl.1 n5 h1 hb1 hb2 hw hp)
  | wake r =>
    refine ⟨_, off, ⟨vs, ls.set r (.int ((0 : Nat) : Int)), rfl, hv, hl.set (by omega)⟩, O, fun T w n c ps hbk hw hp => ⟨[], ?_⟩⟩
    rw [List.append_nil]
    exact at_wake hw (wwake_run hbk hd hl.1 n5 hw hp)
  | poff r =>
    refine ⟨_, _, ⟨vs, ls, rfl, hv, hl⟩, O.put Dr (r := r) hd, fun T w n c ps hbk hw hp => ?_⟩
    obtain ⟨ex, q⟩ := wput_off_run hbk hd n5 hoI hoL hw hp
    exact ⟨ex, at_put_off hw q⟩
  | pon r =>
    refine ⟨_, _, ⟨vs, ls, rfl, hv, hl⟩, O.out Dr r, fun T w n c ps hbk hw hp => ?_⟩
    obtain ⟨ex, q⟩ := wput_on_run hbk hd n5 hoI hoL hw hp
    exact ⟨ex, at_put_on hw q⟩
end

end Hd
set_option Elab.async false
set_option linter.all false
set_option maxRecDepth 100000
set_option maxHeartbeats 1000000
namespace Hd
open PySem U
local macro_rules | `(tactic| walk_at "ex1") => `(tactic| first | (with_reducible refine w_seq ?_) | (with_reducible refine w_set ?_) | (with_reducible refine w_ret ?_) | (with_reducible refine w_sif ?_) | (with_reducible refine w_asg2 ?_) | (with_reducible refine w_asg3 ?_) | (with_reducible refine w_asg4 ?_) | (with_reducible refine w_ex2 ?_) | (with_reducible refine w_ex3 ?_) | (with_reducible refine w_ex4 ?_) | (with_reducible refine w_par ?_) | (with_reducible refine w_par3 ?_) | (with_reducible refine w_expr ?_) | (with_reducible refine w_for ?_) | (with_reducible refine w_skip ?_) | (with_reducible refine w_fn ?_) | (with_reducible refine w_acons ?_) | (with_reducible refine w_anil ?_) | (with_reducible refine w_aapp ?_) | (with_reducible refine w_bin ?_) | (with_reducible refine w_un ?_) | (with_reducible refine w_c ?_) | (with_reducible refine w_tof ?_) | (with_reducible refine w_tob ?_) | (with_reducible refine w_tand ?_) | (with_reducible refine w_tor ?_) | (with_reducible refine w_tnot ?_) | (with_reducible refine w_eand ?_) | (with_reducible refine w_eor ?_) | (with_reducible refine w_enot ?_) | (with_reducible refine w_exb ?_) | (with_reducible refine w_exi ?_) | (with_reducible refine w_if ?_) | (with_reducible refine w_slice ?_) | (with_reducible refine w_onone ?_) | (with_reducible refine w_osome ?_) | (with_reducible refine w_lc ?_) | (with_reducible refine w_lc2 ?_) | (with_reducible refine w_mtl ?_) | (with_reducible refine w_iseq ?_) | (with_reducible refine w_irng ?_) | (with_reducible refine w_ienum ?_) | (with_reducible refine w_ibin ?_) | (with_reducible refine w_true ?_) | (with_reducible refine cond_t ?_) | (with_reducible refine cond_f ?_))
local macro_rules | `(tactic| walk_at "ex2") => `(tactic| first | (with_reducible refine w_addI ?_) | (with_reducible refine w_subI ?_) | (with_reducible refine w_ltI ?_) | (with_reducible refine w_leI ?_) | (with_reducible refine w_gtI ?_) | (with_reducible refine w_geI ?_) | (with_reducible refine w_eqI ?_) | (with_reducible refine w_neI ?_) | (with_reducible refine w_negI ?_) | (with_reducible refine w_maxI ?_) | (with_reducible refine w_minI ?_) | (with_reducible refine w_lenT ?_) | (with_reducible refine w_slT ?_) | (with_reducible refine w_sseq ?_) | (with_reducible refine w_senum ?_) | (with_reducible refine w_szip ?_) | (with_reducible refine w_eqB ?_) | (with_reducible refine w_neB ?_))
local macro_rules | `(tactic| walk_at "ex3") => `(tactic| first | ((with_reducible apply w_var); (focus exact rfl)) | ((with_reducible apply w_aug); (focus exact rfl)) | ((with_reducible apply w_thaw); (focus exact rfl); (focus with_reducible assumption)) | ((with_reducible apply w_idxZ); (focus exact rfl); (focus with_reducible assumption)) | ((with_reducible apply wr_by); (focus with_reducible assumption)) | ((with_reducible apply w_via); (focus exact rfl)) | ((with_reducible apply w_mkTup); (focus exact Nat.le_of_ble_eq_true rfl)) | ((with_reducible apply w_mkLst); (focus exact Nat.le_of_ble_eq_true rfl)) | ((with_reducible apply w_ix); (focus exact rfl); (focus exact rfl)) | ((with_reducible apply w_lenL); (focus with_reducible assumption)) | ((with_reducible apply w_lenL); (focus with_reducible exact get_end)) | ((with_reducible apply w_isl); (focus with_reducible assumption)) | ((with_reducible apply w_append); (focus with_reducible assumption); (focus with_reducible assumption)) | ((with_reducible apply w_slL); (focus with_reducible assumption)) | ((with_reducible apply w_enumL); (focus with_reducible assumption)) | ((with_reducible apply w_tupL); (focus with_reducible assumption)) | ((with_reducible apply w_sdyn); (focus with_reducible assumption)) | ((with_reducible apply w_isi); (focus exact rfl)) | ((with_reducible apply w_isi2); (focus exact rfl)) | ((with_reducible apply w_eqS); (focus decide +kernel); (focus decide +kernel)) | ((with_reducible apply cond_af); (focus exact rfl)) | ((with_reducible apply cond_at); (focus exact rfl)) | ((with_reducible apply cond_af); (focus decide +kernel)) | ((with_reducible apply cond_at); (focus decide +kernel)))
local macro_rules | `(tactic| walk_at "go") => `(tactic| repeat (first | walk_at "ex1" | walk_at "ex2" | walk_at "ex3"))
theorem pow12 {T : Sto} : dPow (.int 10) (.int 12) T = .ok (.int 1000000000000) T := by rw [powI (by decide) (by decide) (by decide)]; rfl
theorem pow28 {T : Sto} : dPow (.int 10) (.int 28) T = .ok (.int 10000000000000000000000000000) T := by rw [powI (by decide) (by decide) (by decide)]; rfl
theorem far_s {B : Nat} {ps : List (Nat × Ob)} {T : Sto} {c : Int} (H : Stg B ps T c) (hc : c + 5 < 1000000000) : ∃ (v : Nat) (T' : Sto), m__law_far [.ref B] T = .ok (.int (v : Int)) T' ∧ Stg B ps T' (c + 5) ∧ v < 10 ^ 29 := by
  obtain ⟨a1, T1, t1, h1, H1⟩ := take_s H (many := 5) (by omega) (by omega) (by omega)
  obtain ⟨a2, T2, t2, h2, H2⟩ := take_s H1 (many := 60) (by omega) (by omega) (by omega)
  obtain ⟨a3, T3, t3, h3, H3⟩ := take_s H2 (many := 1000000000000) (by omega) (by omega) (by omega)
  obtain ⟨a4, T4, t4, h4, H4⟩ := take_s H3 (many := 10000000000000000000000000000) (by omega) (by omega) (by omega)
  obtain ⟨k, T5, t5, hk, H5⟩ := take_s H4 (many := 4) (by omega) (by omega) (by omega)
  have p12 := pow12 (T := T2)
  have p28 := pow28 (T := T3)
  obtain ⟨q, hq, hq59⟩ : ∃ q : Nat, L2.atI [D.int (a1 : Int), .int (a2 : Int), .int (a3 : Int), .int ((10000000000000000000000000000 : Int) + (a4 : Int))] (k : Int) = some (.int (q : Int)) ∧ q < 10 ^ 29 := by
    have : k = 0 ∨ k = 1 ∨ k = 2 ∨ k = 3 := by omega
    rcases this with rfl | rfl | rfl | rfl
    · exact ⟨a1, rfl, by omega⟩
    · exact ⟨a2, rfl, by omega⟩
    · exact ⟨a3, rfl, by omega⟩
    · exact ⟨10000000000000000000000000000 + a4, by show some (D.int ((10000000000000000000000000000 : Int) + (a4 : Int))) = _; congr 2, by omega⟩
  have key : WR (m__law_far [.ref B] T) (fun (d : D) (T' : Sto) => d = .int (q : Int) ∧ T' = T5) := by
    refine w_def rfl ?_
    show WS (b__law_far [some (.ref B), none] T) _ _ _ _
    unfold b__law_far
    walk_at "go"
    exact w_ix rfl hq ⟨rfl, rfl⟩
  obtain ⟨d, T', e, rfl, hT⟩ := wr_out key
  rw [hT] at e
  exact ⟨q, T5, e, H5.mono (by omega), hq59⟩

end Hd
set_option Elab.async false
set_option linter.all false
set_option maxRecDepth 100000
set_option maxHeartbeats 1000000
namespace Hd
open PySem U
local macro_rules | `(tactic| walk_at "ex1") => `(tactic| first | (with_reducible refine w_seq ?_) | (with_reducible refine w_set ?_) | (with_reducible refine w_ret ?_) | (with_reducible refine w_sif ?_) | (with_reducible refine w_asg2 ?_) | (with_reducible refine w_asg3 ?_) | (with_reducible refine w_asg4 ?_) | (with_reducible refine w_ex2 ?_) | (with_reducible refine w_ex3 ?_) | (with_reducible refine w_ex4 ?_) | (with_reducible refine w_par ?_) | (with_reducible refine w_par3 ?_) | (with_reducible refine w_expr ?_) | (with_reducible refine w_for ?_) | (with_reducible refine w_skip ?_) | (with_reducible refine w_fn ?_) | (with_reducible refine w_acons ?_) | (with_reducible refine w_anil ?_) | (with_reducible refine w_aapp ?_) | (with_reducible refine w_bin ?_) | (with_reducible refine w_un ?_) | (with_reducible refine w_c ?_) | (with_reducible refine w_tof ?_) | (with_reducible refine w_tob ?_) | (with_reducible refine w_tand ?_) | (with_reducible refine w_tor ?_) | (with_reducible refine w_tnot ?_) | (with_reducible refine w_eand ?_) | (with_reducible refine w_eor ?_) | (with_reducible refine w_enot ?_) | (with_reducible refine w_exb ?_) | (with_reducible refine w_exi ?_) | (with_reducible refine w_if ?_) | (with_reducible refine w_slice ?_) | (with_reducible refine w_onone ?_) | (with_reducible refine w_osome ?_) | (with_reducible refine w_lc ?_) | (with_reducible refine w_lc2 ?_) | (with_reducible refine w_mtl ?_) | (with_reducible refine w_iseq ?_) | (with_reducible refine w_irng ?_) | (with_reducible refine w_ienum ?_) | (with_reducible refine w_ibin ?_) | (with_reducible refine w_true ?_) | (with_reducible refine cond_t ?_) | (with_reducible refine cond_f ?_))
local macro_rules | `(tactic| walk_at "ex2") => `(tactic| first | (with_reducible refine w_addI ?_) | (with_reducible refine w_subI ?_) | (with_reducible refine w_ltI ?_) | (with_reducible refine w_leI ?_) | (with_reducible refine w_gtI ?_) | (with_reducible refine w_geI ?_) | (with_reducible refine w_eqI ?_) | (with_reducible refine w_neI ?_) | (with_reducible refine w_negI ?_) | (with_reducible refine w_maxI ?_) | (with_reducible refine w_minI ?_) | (with_reducible refine w_lenT ?_) | (with_reducible refine w_slT ?_) | (with_reducible refine w_sseq ?_) | (with_reducible refine w_senum ?_) | (with_reducible refine w_szip ?_) | (with_reducible refine w_eqB ?_) | (with_reducible refine w_neB ?_))
local macro_rules | `(tactic| walk_at "ex3") => `(tactic| first | ((with_reducible apply w_var); (focus exact rfl)) | ((with_reducible apply w_aug); (focus exact rfl)) | ((with_reducible apply w_thaw); (focus exact rfl); (focus with_reducible assumption)) | ((with_reducible apply w_idxZ); (focus exact rfl); (focus with_reducible assumption)) | ((with_reducible apply wr_by); (focus with_reducible assumption)) | ((with_reducible apply w_via); (focus exact rfl)) | ((with_reducible apply w_mkTup); (focus exact Nat.le_of_ble_eq_true rfl)) | ((with_reducible apply w_mkLst); (focus exact Nat.le_of_ble_eq_true rfl)) | ((with_reducible apply w_ix); (focus exact rfl); (focus exact rfl)) | ((with_reducible apply w_lenL); (focus with_reducible assumption)) | ((with_reducible apply w_lenL); (focus with_reducible exact get_end)) | ((with_reducible apply w_isl); (focus with_reducible assumption)) | ((with_reducible apply w_append); (focus with_reducible assumption); (focus with_reducible assumption)) | ((with_reducible apply w_slL); (focus with_reducible assumption)) | ((with_reducible apply w_enumL); (focus with_reducible assumption)) | ((with_reducible apply w_tupL); (focus with_reducible assumption)) | ((with_reducible apply w_sdyn); (focus with_reducible assumption)) | ((with_reducible apply w_isi); (focus exact rfl)) | ((with_reducible apply w_isi2); (focus exact rfl)) | ((with_reducible apply w_eqS); (focus decide +kernel); (focus decide +kernel)) | ((with_reducible apply cond_af); (focus exact rfl)) | ((with_reducible apply cond_at); (focus exact rfl)) | ((with_reducible apply cond_af); (focus decide +kernel)) | ((with_reducible apply cond_at); (focus decide +kernel)))
local macro_rules | `(tactic| walk_at "go") => `(tactic| repeat (first | walk_at "ex1" | walk_at "ex2" | walk_at "ex3"))
theorem cut_mid {xs : List D} {b e : Nat} (h : b + e ≤ xs.length) : cutD xs (some (b : Int)) (some ((b : Int) + (e : Int))) = (xs.drop b).take e := by
  unfold cutD
  have h1 : HT.sIx xs.length 0 (some (b : Int)) = b := by
    unfold HT.sIx
    simp only
    split <;> omega
  have h2 : HT.sIx xs.length xs.length (some ((b : Int) + (e : Int))) = b + e := by
    unfold HT.sIx
    simp only
    split <;> omega
  rw [h1, h2, Nat.add_sub_cancel_left]
section
variable {ws rs off : List D} {s : D}
def dd01 (P : Nat → Bool) (k : Nat) : List D := (List.range k).map fun j => D.int (if P j = true then 1 else 0)
theorem dd01_len {P : Nat → Bool} {k : Nat} : (dd01 P k).length = k := by simp [dd01]
theorem dd01_ints {P : Nat → Bool} {k : Nat} : (dd01 P k).all isI = true := List.all_eq_true.mpr fun x hx => by
  obtain ⟨j, _, rfl⟩ := List.mem_map.mp hx
  rfl
theorem dd01_sum {P : Nat → Bool} : ∀ k, ((dd01 P k).map wI).sum = ((cnt P k : Nat) : Int)
  | 0 => rfl
  | k + 1 => by
    have ih := dd01_sum (P := P) k
    unfold dd01 at ih ⊢
    rw [List.range_succ, List.map_append, List.map_append, List.sum_append, ih, cnt_succ]
    simp only [List.map_cons, List.map_nil, List.sum_cons, List.sum_nil, wI]
    split <;> simp
theorem dd01_add {P : Nat → Bool} (a b : Nat) : dd01 P (a + b) = dd01 P a ++ dd01 (fun i => P (a + i)) b := by
  unfold dd01
  rw [range_split, List.map_append, List.map_map]
  rfl
theorem dd01_take {P : Nat → Bool} {m e : Nat} (h : e ≤ m) : (dd01 P m).take e = dd01 P e := by
  have := dd01_add (P := P) e (m - e)
  rw [show e + (m - e) = m by omega] at this
  rw [this, List.take_left' dd01_len]
theorem dd01_drop {P : Nat → Bool} {m b : Nat} (h : b ≤ m) : (dd01 P m).drop b = dd01 (fun i => P (b + i)) (m - b) := by
  have := dd01_add (P := P) b (m - b)
  rw [show b + (m - b) = m by omega] at this
  rw [this, List.drop_left' dd01_len]
theorem sumL_at {T : Sto} {l k : Nat} {P : Nat → Bool} (h : T[l]? = some (.lst (dd01 P k))) : fSumL [.ref l] T = .ok (.int ((cnt P k : Nat) : Int)) T := by
  unfold fSumL lstOf
  simp only [h]
  rw [if_pos dd01_ints, dd01_sum]
theorem per_b {m b : Nat} (ρ : Rho ws rs off s m b) (r : Int) : ∀ i, didR ws rs off r s (b + ((m - b) + i)) = didR ws rs off r s (b + i) := fun i => by
  have hlt := ρ.lt
  unfold didR
  rw [show b + ((m - b) + i) = m + i by omega, iter_add m, ρ.rep, ← iter_add b]
theorem cnt_b {m b n : Nat} (ρ : Rho ws rs off s m b) (r : Int) (h : b ≤ n) : cnt (didR ws rs off r s) n = cnt (didR ws rs off r s) b + ((n - b) / (m - b)) * cnt (fun i => didR ws rs off r s (b + i)) (m - b) + cnt (fun i => didR ws rs off r s (b + i)) ((n - b) % (m - b)) := by
  have hq := cnt_mul (P := fun i => didR ws rs off r s (b + i)) (L := m - b) (per_b ρ r) ((n - b) / (m - b)) ((n - b) % (m - b))
  rw [Nat.div_add_mod' (n - b) (m - b)] at hq
  have hs := cnt_add (P := didR ws rs off r s) b (n - b)
  rw [show b + (n - b) = n by omega, hq] at hs
  rw [hs]
  omega
theorem spot_run {T : Sto} (Dr : DrawOk ws rs) (O : OffOk ws rs off) (h : SOk ws rs s) (n : Nat) : ∃ ex, m__law_spot [.tup ws, .tup rs, .tup [s, .tup off], .int (n : Int)] T = .ok (.tup [iter ws rs off n s, .tup (cntO ws rs off s n)]) (T ++ ex) := by
  have R := O.run
  have n5 := Dr.n5
  obtain ⟨m, b, ρ⟩ := rho_ex R h
  have hfew := ρ.few
  have hlt := ρ.lt
  obtain ⟨ex0, t0⟩ := track_run (S := T) R Dr.few h ρ
  obtain ⟨T1, hT1⟩ : ∃ T1, T1 = mkT T ws rs off s m ex0 := ⟨_, rfl⟩
  rw [← hT1] at t0
  have a0 : T1[T.length]? = some (.lst (ssT ws rs off s m)) := by rw [hT1]; exact at_end0
  have a1 : T1[T.length + 1]? = some (.lst (ddT ws rs off s m)) := by rw [hT1]; exact at_end1
  have x1 : ∃ ex, T1 = T ++ ex := ⟨_, by rw [hT1]; rfl⟩
  have hsl : (ssT ws rs off s m).length = m := by simp [ssT]
  have key : WR (m__law_spot [.tup ws, .tup rs, .tup [s, .tup off], .int (n : Int)] T) (fun (d : D) (T' : Sto) => d = .tup [iter ws rs off n s, .tup (cntO ws rs off s n)] ∧ ∃ ex, T' = T ++ ex) := by
    refine w_def rfl ?_
    show WS (b__law_spot [some (.tup ws), some (.tup rs), some (.tup [s, .tup off]), some (.int (n : Int)), none, none, none, none, none, none, none, none, none, none, none] T) _ _ _ _
    unfold b__law_spot
    walk_at "go"
    rw [hsl]
    have cl : (cntO ws rs off s n).length = rs.length := cntO_len
    refine w_rng (n := rs.length) rfl (Nat.le_trans n5 (by decide)) ?_
    refine w_loopF (fun i e t => ∃ y6 y10 y11 y12 y13 y14 ex, e = [some (.tup ws), some (.tup rs), some (.tup [s, .tup off]), some (.int (n : Int)), some (.int ((m : Int) - (b : Int))), some (.ref T1.length), y6, some (.ref T.length), some (.ref (T.length + 1)), some (.int (b : Int)), y10, y11, y12, y13, y14] ∧ t = T1 ++ .lst ((cntO ws rs off s n).take i) :: ex)
      ⟨_, _, _, _, _, _, [], rfl, rfl⟩ (fun i x e t hx ⟨y6, y10, y11, y12, y13, y14, ex, he, ht⟩ => ?_) (fun e t ⟨y6, y10, y11, y12, y13, y14, ex, he, ht⟩ => ?_)
    · subst he
      obtain ⟨hi, rfl⟩ := rngL_get hx
      refine ⟨_, _, rfl, ?_⟩
      have c1 : ∀ ex2, (t ++ ex2)[T.length + 1]? = some (.lst (ddT ws rs off s m)) := fun ex2 => by rw [ht]; exact get0 (get0 a1)
      have c0 : ∀ ex2, (t ++ ex2)[T.length]? = some (.lst (ssT ws rs off s m)) := fun ex2 => by rw [ht]; exact get0 (get0 a0)
      obtain ⟨P, hP⟩ : ∃ P, P = didR ws rs off (i : Int) s := ⟨_, rfl⟩
      walk_at "go"
      refine w_sdyn (by simpa using c1 []) ?_
      refine w_lcmap (xs := ddT ws rs off s m) (f := fun d => .int (if memI (.int (i : Int)) (tupsD d) = true then 1 else 0)) (lst_at (by simpa using c1 [])) (by rw [ddT_len]; exact Nat.le_trans hfew (by decide)) (fun d hd acc => ?_) ?_
      · obtain ⟨ys, rfl, hy⟩ := ddT_tup R h d hd
        refine ⟨_, rfl, wr_eq ?_⟩
        refine w_fn (w_acons (w_bin (w_var rfl (w_var rfl (wr_by (in_ints hy) (w_anil ?_))))))
        exact ⟨rfl, rfl⟩
      have e1 : (ddT ws rs off s m).map (fun d => D.int (if memI (.int (i : Int)) (tupsD d) = true then 1 else 0)) = dd01 P m := by
        unfold ddT dd01
        rw [List.map_map, hP]
        rfl
      rw [e1]
      walk_at "go"
      have cnti : (cntO ws rs off s n).take (i + 1) = (cntO ws rs off s n).take i ++ [.int ((cnt P n : Nat) : Int)] := by
        have : (cntO ws rs off s n)[i]? = some (.int ((cnt P n : Nat) : Int)) := by
          unfold cntO
          rw [List.getElem?_map, show (ordO rs)[i]? = some (.int (i : Int)) from hx, hP]
          rfl
        rw [List.take_succ, this]
        rfl
      have lt : ((cntO ws rs off s n).take i).length < most := Nat.lt_of_le_of_lt (show _ ≤ 5 by rw [List.length_take, cl]; omega) (by decide)
      have fin1 : ∀ X, (t ++ X)[T1.length]? = some (.lst ((cntO ws rs off s n).take i)) := fun X => by rw [ht]; exact get0 at_end0
      have fin2 : ∀ X, (t ++ X).set T1.length (.lst ((cntO ws rs off s n).take i ++ [.int ((cnt P n : Nat) : Int)])) = T1 ++ .lst ((cntO ws rs off s n).take (i + 1)) :: (ex ++ X) := fun X => by
        rw [ht, List.append_assoc, List.cons_append, set_end0, cnti]
      rcases Nat.lt_or_ge m n with hn | hn
      · refine w_slL get_end ?_
        rw [cut_to, List.take_of_length_le (by rw [dd01_len]; omega)]
        walk_at "go"
        refine wr_by (sumL_at get_end) ?_
        walk_at "go"
        obtain ⟨X1, hX1⟩ : ∃ X1 : Sto, t ++ [Ob.lst (dd01 P m)] ++ [Ob.lst (dd01 P m)] = t ++ X1 := ⟨_, List.append_assoc _ _ _⟩
        rw [hX1]
        have w10 : ∀ X2, (t ++ X1 ++ X2)[t.length]? = some (.lst (dd01 P m)) := fun X2 => by rw [← hX1]; exact get0 (get0 get_end)
        refine w_lenL (c0 _) ?_
        rw [hsl]
        refine w_gtI ?_
        rw [decide_eq_true (by omega)]
        have dq : ∀ S, dDiv (.int ((n : Int) - (b : Int))) (.int ((m : Int) - (b : Int))) S = .ok (.int (((n - b) / (m - b) : Nat) : Int)) S := fun S => by
          rw [divI (by omega) (by omega), show (n : Int) - (b : Int) = ((n - b : Nat) : Int) by omega, show (m : Int) - (b : Int) = ((m - b : Nat) : Int) by omega]
          simp
        have dr : ∀ S, dMod (.int ((n : Int) - (b : Int))) (.int ((m : Int) - (b : Int))) S = .ok (.int (((n - b) % (m - b) : Nat) : Int)) S := fun S => by
          show (if 0 < (m : Int) - (b : Int) then U.R.ok (D.int (((n : Int) - (b : Int)) % ((m : Int) - (b : Int)))) S else U.R.fail) = _
          rw [if_pos (by omega), show (n : Int) - (b : Int) = ((n - b : Nat) : Int) by omega, show (m : Int) - (b : Int) = ((m - b : Nat) : Int) by omega]
          simp
        have dq1 := dq (t ++ X1)
        have dr1 := dr (t ++ X1)
        have hel := Nat.mod_lt (n - b) (show 0 < m - b by omega)
        walk_at "go"
        refine w_slL (by simpa using w10 []) ?_
        rw [cut_to, dd01_take (by omega)]
        walk_at "go"
        refine wr_by (sumL_at get_end) ?_
        walk_at "go"
        refine w_slL (w10 _) ?_
        rw [cut_from, dd01_drop (by omega)]
        walk_at "go"
        refine wr_by (sumL_at get_end) ?_
        walk_at "go"
        have hcl : cnt (fun i => P (b + i)) (m - b) ≤ m - b := cnt_le
        have hmul : ∀ st, dMul (.int (((n - b) / (m - b) : Nat) : Int)) (.int ((cnt (fun i => P (b + i)) (m - b) : Nat) : Int)) st = .ok (.int ((((n - b) / (m - b) : Nat) : Int) * ((cnt (fun i => P (b + i)) (m - b) : Nat) : Int))) st := fun st => by
          unfold dMul
          simp only
          rw [if_pos (.inr ⟨by omega, by omega⟩)]
        refine wr_by (hmul _) ?_
        walk_at "go"
        refine w_slL (get0 (w10 _)) ?_
        rw [cut_mid (by rw [dd01_len]; omega), dd01_drop (by omega), dd01_take (by omega)]
        walk_at "go"
        refine wr_by (sumL_at get_end) ?_
        walk_at "go"
        have hval : ((cnt P b : Nat) : Int) + (((n - b) / (m - b) : Nat) : Int) * ((cnt (fun i => P (b + i)) (m - b) : Nat) : Int) + ((cnt (fun i => P (b + i)) ((n - b) % (m - b)) : Nat) : Int) = ((cnt P n : Nat) : Int) := by
          have := cnt_b ρ (i : Int) (show b ≤ n by omega)
          rw [← hP] at this
          rw [this]
          simp
        obtain ⟨X2, hX2⟩ : ∃ X2 : Sto, t ++ X1 ++ [Ob.lst (dd01 P b)] ++ [Ob.lst (dd01 (fun i => P (b + i)) (m - b))] ++ [Ob.lst (dd01 (fun i => P (b + i)) ((n - b) % (m - b)))] = t ++ X2 := ⟨_, by simp only [List.append_assoc]; rfl⟩
        rw [hX2, hval]
        refine ⟨isLst_at (fin1 _), ?_⟩
        walk_at "go"
        refine w_append (fin1 _) lt ?_
        rw [fin2]
        exact ⟨_, _, _, _, _, _, _, rfl, rfl⟩
      · refine w_slL get_end ?_
        rw [cut_to, dd01_take hn]
        walk_at "go"
        refine wr_by (sumL_at get_end) ?_
        walk_at "go"
        obtain ⟨X1, hX1⟩ : ∃ X1 : Sto, t ++ [Ob.lst (dd01 P m)] ++ [Ob.lst (dd01 P n)] = t ++ X1 := ⟨_, List.append_assoc _ _ _⟩
        rw [hX1]
        refine w_lenL (c0 _) ?_
        rw [hsl]
        refine w_gtI ?_
        rw [decide_eq_false (by omega)]
        walk_at "go"
        refine ⟨isLst_at (fin1 _), ?_⟩
        walk_at "go"
        refine w_append (fin1 _) lt ?_
        rw [fin2]
        exact ⟨_, _, _, _, _, _, _, rfl, rfl⟩
    · subst he
      rw [show (rngL 0 rs.length).length = rs.length from rngL_length, List.take_of_length_le (by rw [cl]; exact Nat.le_refl _)] at ht
      have hs0 : t[T.length]? = some (.lst (ssT ws rs off s m)) := by rw [ht]; exact get0 a0
      have hs5 : t[T1.length]? = some (.lst (cntO ws rs off s n)) := by rw [ht]; exact at_end0
      obtain ⟨ex1, hx1⟩ := x1
      have htx : ∃ ex, t = T ++ ex := ⟨_, by rw [ht, hx1, List.append_assoc]⟩
      walk_at "go"
      by_cases hn : n < b
      · rw [decide_eq_true (show (n : Int) < (b : Int) by omega)]
        walk_at "go"
        refine w_ix (seq_lst hs0) (ssT_at (i := n) (by omega)) ?_
        walk_at "go"
        exact ⟨rfl, htx⟩
      · rw [decide_eq_false (show ¬ (n : Int) < (b : Int) by omega)]
        have hel := Nat.mod_lt (n - b) (show 0 < m - b by omega)
        have dr1 : dMod (.int ((n : Int) - (b : Int))) (.int ((m : Int) - (b : Int))) t = .ok (.int (((n - b) % (m - b) : Nat) : Int)) t := by
          show (if 0 < (m : Int) - (b : Int) then U.R.ok (D.int (((n : Int) - (b : Int)) % ((m : Int) - (b : Int)))) t else U.R.fail) = _
          rw [if_pos (by omega), show (n : Int) - (b : Int) = ((n - b : Nat) : Int) by omega, show (m : Int) - (b : Int) = ((m - b : Nat) : Int) by omega]
          simp
        have hx : L2.atI (ssT ws rs off s m) ((b : Int) + (((n - b) % (m - b) : Nat) : Int)) = some (iter ws rs off n s) := by
          have h1 := iter_round hlt ρ.rep (n - b)
          rw [show b + (n - b) = n by omega] at h1
          rw [h1]
          exact ssT_at (i := b + (n - b) % (m - b)) (by omega)
        walk_at "go"
        refine w_ix (seq_lst hs0) hx ?_
        walk_at "go"
        exact ⟨rfl, htx⟩
  obtain ⟨d, T', e, rfl, ex, rfl⟩ := wr_out key
  exact ⟨ex, e⟩
end

end Hd
set_option Elab.async false
set_option linter.all false
set_option maxRecDepth 100000
set_option maxHeartbeats 1000000
namespace Hd
open PySem U
local macro_rules | `(tactic| walk_at "ex1") => `(tactic| first | (with_reducible refine w_seq ?_) | (with_reducible refine w_set ?_) | (with_reducible refine w_ret ?_) | (with_reducible refine w_sif ?_) | (with_reducible refine w_asg2 ?_) | (with_reducible refine w_asg3 ?_) | (with_reducible refine w_asg4 ?_) | (with_reducible refine w_ex2 ?_) | (with_reducible refine w_ex3 ?_) | (with_reducible refine w_ex4 ?_) | (with_reducible refine w_par ?_) | (with_reducible refine w_par3 ?_) | (with_reducible refine w_expr ?_) | (with_reducible refine w_for ?_) | (with_reducible refine w_skip ?_) | (with_reducible refine w_fn ?_) | (with_reducible refine w_acons ?_) | (with_reducible refine w_anil ?_) | (with_reducible refine w_aapp ?_) | (with_reducible refine w_bin ?_) | (with_reducible refine w_un ?_) | (with_reducible refine w_c ?_) | (with_reducible refine w_tof ?_) | (with_reducible refine w_tob ?_) | (with_reducible refine w_tand ?_) | (with_reducible refine w_tor ?_) | (with_reducible refine w_tnot ?_) | (with_reducible refine w_eand ?_) | (with_reducible refine w_eor ?_) | (with_reducible refine w_enot ?_) | (with_reducible refine w_exb ?_) | (with_reducible refine w_exi ?_) | (with_reducible refine w_if ?_) | (with_reducible refine w_slice ?_) | (with_reducible refine w_onone ?_) | (with_reducible refine w_osome ?_) | (with_reducible refine w_lc ?_) | (with_reducible refine w_lc2 ?_) | (with_reducible refine w_mtl ?_) | (with_reducible refine w_iseq ?_) | (with_reducible refine w_irng ?_) | (with_reducible refine w_ienum ?_) | (with_reducible refine w_ibin ?_) | (with_reducible refine w_true ?_) | (with_reducible refine cond_t ?_) | (with_reducible refine cond_f ?_))
local macro_rules | `(tactic| walk_at "ex2") => `(tactic| first | (with_reducible refine w_addI ?_) | (with_reducible refine w_subI ?_) | (with_reducible refine w_ltI ?_) | (with_reducible refine w_leI ?_) | (with_reducible refine w_gtI ?_) | (with_reducible refine w_geI ?_) | (with_reducible refine w_eqI ?_) | (with_reducible refine w_neI ?_) | (with_reducible refine w_negI ?_) | (with_reducible refine w_maxI ?_) | (with_reducible refine w_minI ?_) | (with_reducible refine w_lenT ?_) | (with_reducible refine w_slT ?_) | (with_reducible refine w_sseq ?_) | (with_reducible refine w_senum ?_) | (with_reducible refine w_szip ?_) | (with_reducible refine w_eqB ?_) | (with_reducible refine w_neB ?_))
local macro_rules | `(tactic| walk_at "ex3") => `(tactic| first | ((with_reducible apply w_var); (focus exact rfl)) | ((with_reducible apply w_aug); (focus exact rfl)) | ((with_reducible apply w_thaw); (focus exact rfl); (focus with_reducible assumption)) | ((with_reducible apply w_idxZ); (focus exact rfl); (focus with_reducible assumption)) | ((with_reducible apply wr_by); (focus with_reducible assumption)) | ((with_reducible apply w_via); (focus exact rfl)) | ((with_reducible apply w_mkTup); (focus exact Nat.le_of_ble_eq_true rfl)) | ((with_reducible apply w_mkLst); (focus exact Nat.le_of_ble_eq_true rfl)) | ((with_reducible apply w_ix); (focus exact rfl); (focus exact rfl)) | ((with_reducible apply w_lenL); (focus with_reducible assumption)) | ((with_reducible apply w_lenL); (focus with_reducible exact get_end)) | ((with_reducible apply w_isl); (focus with_reducible assumption)) | ((with_reducible apply w_append); (focus with_reducible assumption); (focus with_reducible assumption)) | ((with_reducible apply w_slL); (focus with_reducible assumption)) | ((with_reducible apply w_enumL); (focus with_reducible assumption)) | ((with_reducible apply w_tupL); (focus with_reducible assumption)) | ((with_reducible apply w_sdyn); (focus with_reducible assumption)) | ((with_reducible apply w_isi); (focus exact rfl)) | ((with_reducible apply w_isi2); (focus exact rfl)) | ((with_reducible apply w_eqS); (focus decide +kernel); (focus decide +kernel)) | ((with_reducible apply cond_af); (focus exact rfl)) | ((with_reducible apply cond_at); (focus exact rfl)) | ((with_reducible apply cond_af); (focus decide +kernel)) | ((with_reducible apply cond_at); (focus decide +kernel)))
local macro_rules | `(tactic| walk_at "go") => `(tactic| repeat (first | walk_at "ex1" | walk_at "ex2" | walk_at "ex3"))
section
variable {T U : Sto} {bk w : Nat} {ws rs off : List D} {s : D}
theorem lenB_run {b : Nat} (h : T[b]? = some (bookO ws rs)) : fLenI "Book" m_Book_len [.ref b] T = .ok (.int (rs.length : Int)) T ∨ 1000000000 ≤ rs.length := by
  by_cases hl : 1000000000 ≤ rs.length
  · exact .inr hl
  · refine .inl ?_
    have q1 := book_rules (bookO_at h)
    have e : m_Book_len [.ref b] T = .ok (.int (rs.length : Int)) T := by
      refine wr_eq (w_def rfl ?_)
      show WS (b_Book_len [some (.ref b)] T) _ _ _ _
      unfold b_Book_len
      walk_at "go"
      exact ⟨rfl, rfl⟩
    unfold fLenI bookO at *
    simp only [h, e]
    rw [if_pos trivial, if_pos ⟨by omega, by omega⟩]
theorem lenB (Dr : DrawOk ws rs) {b : Nat} (h : T[b]? = some (bookO ws rs)) : fLenI "Book" m_Book_len [.ref b] T = .ok (.int (rs.length : Int)) T := by
  have := Dr.n5
  rcases lenB_run h with e | e
  · exact e
  · omega
structure Upd (T U : Sto) (w : Nat) (X : Ob) : Prop where
  here : U[w]? = some X
  else' : ∀ i o, T[i]? = some o → i ≠ w → U[i]? = some o
theorem upd_of {T ex : Sto} {w : Nat} {X Y : Ob} (h : T[w]? = some Y) : Upd T ((T ++ ex).set w X) w X := by
  have hw : w < T.length := (List.getElem?_eq_some_iff.mp h).1
  refine ⟨get_set (by rw [List.length_append]; omega), fun i o hi hne => ?_⟩
  rw [List.getElem?_set_ne (Ne.symm hne)]
  exact get0 hi
theorem addO_add {cs : List D} (a b : Nat) (hc : cs.length = rs.length) : addO (addO cs (cntO ws rs off s a)) (cntO ws rs off (iter ws rs off a s) b) = addO cs (cntO ws rs off s (a + b)) := by
  unfold addO
  refine List.ext_getElem? fun i => ?_
  simp only [List.getElem?_zipWith]
  unfold cntO
  simp only [List.getElem?_map]
  cases h1 : cs[i]? with
  | none => simp
  | some x =>
    cases h2 : (ordO rs)[i]? with
    | none => simp
    | some r =>
      have h3 := cnt_add (P := didR ws rs off (wI r) s) a b
      have h4 : cnt (didR ws rs off (wI r) (iter ws rs off a s)) b = cnt (fun i => didR ws rs off (wI r) s (a + i)) b := cnt_congr fun i _ => didR_add a i
      show some (D.int ((wI x + ((cnt (didR ws rs off (wI r) s) a : Nat) : Int)) + ((cnt (didR ws rs off (wI r) (iter ws rs off a s)) b : Nat) : Int))) = some (D.int (wI x + ((cnt (didR ws rs off (wI r) s) (a + b) : Nat) : Int)))
      rw [h3, h4]
      congr 2
      omega
theorem cnt_both (a b : Nat) : addO (cntO ws rs off s a) (cntO ws rs off (iter ws rs off a s) b) = cntO ws rs off s (a + b) := by
  unfold addO cntO
  refine List.ext_getElem? fun i => ?_
  simp only [List.getElem?_zipWith, List.getElem?_map]
  cases h2 : (ordO rs)[i]? with
  | none => simp
  | some r =>
    show some (D.int (((cnt (didR ws rs off (wI r) s) a : Nat) : Int) + ((cnt (didR ws rs off (wI r) (iter ws rs off a s)) b : Nat) : Int))) = some (D.int ((cnt (didR ws rs off (wI r) s) (a + b) : Nat) : Int))
    have h3 := cnt_add (P := didR ws rs off (wI r) s) a b
    have h4 : cnt (didR ws rs off (wI r) (iter ws rs off a s)) b = cnt (fun i => didR ws rs off (wI r) s (a + i)) b := cnt_congr fun i _ => didR_add a i
    rw [h3, h4]
    rfl
theorem cntO_ints {n : Nat} : (cntO ws rs off s n).all isI = true := List.all_eq_true.mpr fun x hx => by
  obtain ⟨c, rfl, _⟩ := cntO_get x hx
  rfl
theorem addO_ints {cs ds : List D} : (addO cs ds).all isI = true := List.all_eq_true.mpr fun x hx => by
  obtain ⟨i, hi⟩ := List.getElem?_of_mem hx
  unfold addO at hi
  rw [List.getElem?_zipWith] at hi
  cases h1 : cs[i]? with
  | none => rw [h1] at hi; cases hi
  | some a =>
    cases h2 : ds[i]? with
    | none => rw [h1, h2] at hi; cases hi
    | some b => rw [h1, h2] at hi; cases hi; rfl
theorem addO_len {cs : List D} {n : Nat} (hc : cs.length = rs.length) : (addO cs (cntO ws rs off s n)).length = rs.length := by unfold addO; rw [List.length_zipWith, cntO_len, hc, Nat.min_self]
theorem go_far (R : RunOk ws rs off) (hb : T[bk]? = some (bookO ws rs)) (h : SOk ws rs s) {k : Nat} (hk : k < 10 ^ 60) {n : Int} {cs ps : List D} (hw : T[w]? = some (watchO bk (.tup [.int n, s, .tup off, .tup cs]) (.tup ps))) (hl : ps.length ≤ 1000000) (hc : cs.all isI = true) (hcl : cs.length = rs.length) :
    ∃ U, m_Watch_go [.ref w, .int (k : Int)] T = .ok (.tup (cntO ws rs off s k)) U ∧ Upd T U w (watchO bk (.tup [.int (n + k), iter ws rs off k s, .tup off, .tup (addO cs (cntO ws rs off s k))]) (.tup (ps ++ [.tup [.int n, s, .tup off, .tup cs]]))) := by
  obtain ⟨ex, q⟩ := went_run R (bookO_at hb) h k
  obtain ⟨ex', q'⟩ := go_run hw hl (within60 hk) q hc cntO_ints (by rw [hcl]; exact Nat.le_trans R.n5 (by decide))
  exact ⟨_, q', upd_of hw⟩
theorem st_toP (h : SOk ws rs s) : ∃ p, (∀ T, toP 2 T s = some p) ∧ p.canLay0 = true := by
  obtain ⟨vs, ls, rfl, hv, hl⟩ := h
  have h1 := shaped_ints vs
  have h2 := shaped_ints ls
  refine ⟨.tuple [.tuple (vs.map fun x => PyData.int (wI x)), .tuple (ls.map fun x => PyData.int (wI x))], fun T => ?_, ?_⟩
  · simp only [toP, mapO, mapO_ints hv.ints, mapO_ints hl.ints, Option.map_some]
  · simp [PyData.canLay0, PyData.canLayAll0, h1.1, h2.1]
theorem told_same (h : SOk ws rs s) {a b l1 l2 : Nat} {n : Int} {cs : List D} (hc : cs.all isI = true) (h1 : T[l1]? = some (.lst cs)) (h2 : T[l2]? = some (.lst cs)) (ha : T[a]? = some (.lst [.int n, s, .ref l1])) (hb : T[b]? = some (.lst [.int n, s, .ref l2])) : dEq true (.ref a) (.ref b) T = .ok (.bl false) T := by
  obtain ⟨p, hp, hlay⟩ := st_toP h
  have hi := mapO_ints (n := 1) (st := T) hc
  have hsh := shaped_ints cs
  have tt : ∀ (a l : Nat), T[l]? = some (.lst cs) → T[a]? = some (.lst [.int n, s, .ref l]) → toP 3 T (.ref a) = some (.list [.int n, p, .list (cs.map fun x => PyData.int (wI x))]) := fun a l hl ha => by
    have e1 : toP 2 T (.ref l) = some (.list (cs.map fun x => PyData.int (wI x))) := by
      show (match lstOf T l with | some xs => (mapO (toP 1 T) xs).map PyData.list | none => none) = _
      rw [show lstOf T l = some cs from lst_at hl]
      simp only [hi, Option.map_some]
    show (match lstOf T a with | some xs => (mapO (toP 2 T) xs).map PyData.list | none => none) = _
    rw [show lstOf T a = some _ from lst_at ha]
    simp only [mapO, hp, e1, Option.map_some]
    rfl
  have t1 := tt a l1 h1 ha
  have t2 := tt b l2 h2 hb
  refine eq_same t1 t2 (by decide) ?_
  simp [PyData.canLay0, PyData.canLayAll0, hlay, hsh.1]
end

end Hd
set_option Elab.async false
set_option linter.all false
set_option maxRecDepth 100000
set_option maxHeartbeats 1000000
namespace Hd
open PySem U
local macro_rules | `(tactic| walk_at "ex1") => `(tactic| first | (with_reducible refine w_seq ?_) | (with_reducible refine w_set ?_) | (with_reducible refine w_ret ?_) | (with_reducible refine w_sif ?_) | (with_reducible refine w_asg2 ?_) | (with_reducible refine w_asg3 ?_) | (with_reducible refine w_asg4 ?_) | (with_reducible refine w_ex2 ?_) | (with_reducible refine w_ex3 ?_) | (with_reducible refine w_ex4 ?_) | (with_reducible refine w_par ?_) | (with_reducible refine w_par3 ?_) | (with_reducible refine w_expr ?_) | (with_reducible refine w_for ?_) | (with_reducible refine w_skip ?_) | (with_reducible refine w_fn ?_) | (with_reducible refine w_acons ?_) | (with_reducible refine w_anil ?_) | (with_reducible refine w_aapp ?_) | (with_reducible refine w_bin ?_) | (with_reducible refine w_un ?_) | (with_reducible refine w_c ?_) | (with_reducible refine w_tof ?_) | (with_reducible refine w_tob ?_) | (with_reducible refine w_tand ?_) | (with_reducible refine w_tor ?_) | (with_reducible refine w_tnot ?_) | (with_reducible refine w_eand ?_) | (with_reducible refine w_eor ?_) | (with_reducible refine w_enot ?_) | (with_reducible refine w_exb ?_) | (with_reducible refine w_exi ?_) | (with_reducible refine w_if ?_) | (with_reducible refine w_slice ?_) | (with_reducible refine w_onone ?_) | (with_reducible refine w_osome ?_) | (with_reducible refine w_lc ?_) | (with_reducible refine w_lc2 ?_) | (with_reducible refine w_mtl ?_) | (with_reducible refine w_iseq ?_) | (with_reducible refine w_irng ?_) | (with_reducible refine w_ienum ?_) | (with_reducible refine w_ibin ?_) | (with_reducible refine w_true ?_) | (with_reducible refine cond_t ?_) | (with_reducible refine cond_f ?_))
local macro_rules | `(tactic| walk_at "ex2") => `(tactic| first | (with_reducible refine w_addI ?_) | (with_reducible refine w_subI ?_) | (with_reducible refine w_ltI ?_) | (with_reducible refine w_leI ?_) | (with_reducible refine w_gtI ?_) | (with_reducible refine w_geI ?_) | (with_reducible refine w_eqI ?_) | (with_reducible refine w_neI ?_) | (with_reducible refine w_negI ?_) | (with_reducible refine w_maxI ?_) | (with_reducible refine w_minI ?_) | (with_reducible refine w_lenT ?_) | (with_reducible refine w_slT ?_) | (with_reducible refine w_sseq ?_) | (with_reducible refine w_senum ?_) | (with_reducible refine w_szip ?_) | (with_reducible refine w_eqB ?_) | (with_reducible refine w_neB ?_))
local macro_rules | `(tactic| walk_at "ex3") => `(tactic| first | ((with_reducible apply w_var); (focus exact rfl)) | ((with_reducible apply w_aug); (focus exact rfl)) | ((with_reducible apply w_thaw); (focus exact rfl); (focus with_reducible assumption)) | ((with_reducible apply w_idxZ); (focus exact rfl); (focus with_reducible assumption)) | ((with_reducible apply wr_by); (focus with_reducible assumption)) | ((with_reducible apply w_via); (focus exact rfl)) | ((with_reducible apply w_mkTup); (focus exact Nat.le_of_ble_eq_true rfl)) | ((with_reducible apply w_mkLst); (focus exact Nat.le_of_ble_eq_true rfl)) | ((with_reducible apply w_ix); (focus exact rfl); (focus exact rfl)) | ((with_reducible apply w_lenL); (focus with_reducible assumption)) | ((with_reducible apply w_lenL); (focus with_reducible exact get_end)) | ((with_reducible apply w_isl); (focus with_reducible assumption)) | ((with_reducible apply w_append); (focus with_reducible assumption); (focus with_reducible assumption)) | ((with_reducible apply w_slL); (focus with_reducible assumption)) | ((with_reducible apply w_enumL); (focus with_reducible assumption)) | ((with_reducible apply w_tupL); (focus with_reducible assumption)) | ((with_reducible apply w_sdyn); (focus with_reducible assumption)) | ((with_reducible apply w_isi); (focus exact rfl)) | ((with_reducible apply w_isi2); (focus exact rfl)) | ((with_reducible apply w_eqS); (focus decide +kernel); (focus decide +kernel)) | ((with_reducible apply cond_af); (focus exact rfl)) | ((with_reducible apply cond_at); (focus exact rfl)) | ((with_reducible apply cond_af); (focus decide +kernel)) | ((with_reducible apply cond_at); (focus decide +kernel)))
local macro_rules | `(tactic| walk_at "go") => `(tactic| repeat (first | walk_at "ex1" | walk_at "ex2" | walk_at "ex3"))
section
variable {T : Sto} {bk w1 w2 B : Nat} {ws rs off : List D} {s : D}
theorem eq_ints {ds : List D} (h : ds.all isI = true) (T : Sto) : dEq true (.tup ds) (.tup ds) T = .ok (.bl false) T := by
  have h1 := shaped_ints ds
  have hi := mapO_ints (n := 1) (st := T) h
  refine eq_same (n := 2) (p := .tuple (ds.map fun x => PyData.int (wI x))) ?_ ?_ (by decide) (by simp [PyData.canLay0, h1.1])
  · show (mapO (toP 1 T) ds).map PyData.tuple = _
    rw [hi]
    rfl
  · show (mapO (toP 1 T) ds).map PyData.tuple = _
    rw [hi]
    rfl
theorem eq_lints {neg : Bool} {ds : List D} {a b : Nat} (h : ds.all isI = true) (ha : T[a]? = some (.lst ds)) (hb : T[b]? = some (.lst ds)) : dEq neg (.ref a) (.ref b) T = .ok (.bl (!neg)) T := by
  have h1 := shaped_ints ds
  have hi := mapO_ints (n := 1) (st := T) h
  refine eq_same (n := 2) (p := .list (ds.map fun x => PyData.int (wI x))) ?_ ?_ (by decide) (by simp [PyData.canLay0, h1.1])
  · show (match lstOf T a with | some xs => (mapO (toP 1 T) xs).map PyData.list | none => none) = _
    rw [show lstOf T a = some ds from lst_at ha]
    simp only [hi, Option.map_some]
  · show (match lstOf T b with | some xs => (mapO (toP 1 T) xs).map PyData.list | none => none) = _
    rw [show lstOf T b = some ds from lst_at hb]
    simp only [hi, Option.map_some]
theorem like_one_run (Dr : DrawOk ws rs) (O : OffOk ws rs off) (h : SOk ws rs s) (hb : T[bk]? = some (bookO ws rs)) {n : Int} {cs p1 p2 : List D} (hc : cs.all isI = true) (hcl : cs.length = rs.length) (l1 : p1.length ≤ 900000) (l2 : p2.length ≤ 900000)
    (g1 : T[w1]? = some (watchO bk (.tup [.int n, s, .tup off, .tup cs]) (.tup p1))) (g2 : T[w2]? = some (watchO bk (.tup [.int n, s, .tup off, .tup cs]) (.tup p2))) (ne : w1 ≠ w2) (b1 : bk ≠ w1) (b2 : bk ≠ w2) {a b : Nat} (ha : a < 10 ^ 29) (hb' : b < 10 ^ 29) :
    ∃ U q1 q2, m__law_like_one [.ref B, .ref w1, .ref w2, .ref bk, .tup [.int (a : Int), .int (b : Int)]] T = .ok (.bl true) U ∧ (∀ i o, T[i]? = some o → i ≠ w1 → i ≠ w2 → U[i]? = some o) ∧ q1.length ≤ p1.length + 2 ∧ q2.length ≤ p2.length + 2 ∧
      U[w1]? = some (watchO bk (.tup [.int (n + (a + b : Nat)), iter ws rs off (a + b) s, .tup off, .tup (addO cs (cntO ws rs off s (a + b)))]) (.tup q1)) ∧
      U[w2]? = some (watchO bk (.tup [.int (n + (a + b : Nat)), iter ws rs off (a + b) s, .tup off, .tup (addO cs (cntO ws rs off s (a + b)))]) (.tup q2)) := by
  have R := O.run
  have n5 := Dr.n5
  obtain ⟨U1, t1, u1⟩ := go_far R hb h (k := a) (by omega) g1 (by omega) hc hcl
  have hb1 := u1.else' _ _ hb b1
  obtain ⟨U2, t2, u2⟩ := go_far R hb1 (iter_ok R h a) (k := b) (by omega) u1.here (by simp only [List.length_append, List.length_singleton]; omega) addO_ints (addO_len hcl)
  have hb2 := u2.else' _ _ hb1 b1
  have g2' := u2.else' _ _ (u1.else' _ _ g2 ne.symm) ne.symm
  obtain ⟨U3, t3, u3⟩ := go_far R hb2 h (k := a + b) (by omega) g2' (by omega) hc hcl
  have hb3 := u3.else' _ _ hb2 b2
  have h1 := u3.else' _ _ u2.here ne
  have h2 := u3.here
  rw [addO_add a b hcl, ← iter_add, show n + (a : Int) + (b : Int) = n + ((a + b : Nat) : Int) by omega] at h1
  have s0 := wstate_run g1
  have o0 := woff_run g1
  have key : WR (m__law_like_one [.ref B, .ref w1, .ref w2, .ref bk, .tup [.int (a : Int), .int (b : Int)]] T) (fun (d : D) (T' : Sto) => d = .bl true ∧ ∃ ex, T' = U3 ++ ex) := by
    refine w_def rfl ?_
    unfold b__law_like_one
    walk_at "go"
    refine w_meth ?_
    walk_at "go"
    refine ⟨w1, _, rfl, g1, no_meth (by decide +kernel), ?_⟩
    walk_at "go"
    refine wr_by s0 ?_
    walk_at "go"
    refine w_meth ?_
    walk_at "go"
    refine ⟨w1, _, rfl, g1, no_meth (by decide +kernel), ?_⟩
    walk_at "go"
    refine wr_by o0 ?_
    walk_at "go"
    refine w_meth ?_
    walk_at "go"
    refine ⟨w1, _, rfl, g1, no_meth (by decide +kernel), ?_⟩
    walk_at "go"
    refine wr_by t1 ?_
    walk_at "go"
    refine w_meth ?_
    walk_at "go"
    refine ⟨w1, _, rfl, u1.here, no_meth (by decide +kernel), ?_⟩
    walk_at "go"
    refine wr_by t2 ?_
    walk_at "go"
    refine w_meth ?_
    walk_at "go"
    refine ⟨w2, _, rfl, g2', no_meth (by decide +kernel), ?_⟩
    walk_at "go"
    refine wr_by t3 ?_
    walk_at "go"
    have cl1 : (cntO ws rs off s a).length ≤ 5 := by rw [cntO_len]; exact n5
    refine w_lcmap (f := fun p => .int (wI (fstD p) + wI (sndD p))) rfl (by rw [List.length_zipWith]; exact Nat.le_trans (Nat.le_trans (Nat.min_le_left _ _) cl1) (by decide)) (fun p hp acc => ?_) ?_
    · obtain ⟨i, hi⟩ := List.getElem?_of_mem hp
      obtain ⟨x, y, h1, h2, rfl⟩ := zip_get hi
      obtain ⟨a, rfl, _⟩ := cntO_get x (List.mem_of_getElem? h1)
      obtain ⟨b, rfl, _⟩ := cntO_get y (List.mem_of_getElem? h2)
      exact ⟨_, rfl, rfl⟩
    have ez : (List.zipWith pairD (cntO ws rs off s a) (cntO ws rs off (iter ws rs off a s) b)).map (fun p => D.int (wI (fstD p) + wI (sndD p))) = cntO ws rs off s (a + b) := by
      rw [← cnt_both]
      unfold addO
      rw [List.map_zipWith]
      rfl
    rw [ez]
    walk_at "go"
    refine w_tupL get_end ?_
    walk_at "go"
    refine wr_by (eq_ints cntO_ints _) ?_
    walk_at "go"
    obtain ⟨V, hV⟩ : ∃ V, V = U3 ++ [Ob.lst (cntO ws rs off s (a + b))] := ⟨_, rfl⟩
    have hc3 : (addO cs (cntO ws rs off s (a + b))).length ≤ 1000 := by rw [addO_len hcl]; omega
    rw [← hV]
    have k1 := get0 (ex := [Ob.lst (cntO ws rs off s (a + b))]) h1
    have k2 := get0 (ex := [Ob.lst (cntO ws rs off s (a + b))]) h2
    rw [← hV] at k1 k2
    refine w_meth ?_
    walk_at "go"
    refine ⟨w1, _, rfl, k1, no_meth (by decide +kernel), ?_⟩
    walk_at "go"
    refine wr_by (wnow_run k1) ?_
    walk_at "go"
    refine w_meth ?_
    walk_at "go"
    refine ⟨w1, _, rfl, k1, no_meth (by decide +kernel), ?_⟩
    walk_at "go"
    refine wr_by (wstate_run k1) ?_
    walk_at "go"
    refine w_meth ?_
    walk_at "go"
    refine ⟨w1, _, rfl, k1, no_meth (by decide +kernel), ?_⟩
    walk_at "go"
    refine wr_by (wcounts_run k1 hc3) ?_
    walk_at "go"
    obtain ⟨V2, hV2⟩ : ∃ V2, V2 = V ++ [Ob.lst (addO cs (cntO ws rs off s (a + b)))] ++ [Ob.lst [.int (n + ((a + b : Nat) : Int)), iter ws rs off (a + b) s, .ref V.length]] := ⟨_, rfl⟩
    have m2 := get0 (ex := [Ob.lst [.int (n + ((a + b : Nat) : Int)), iter ws rs off (a + b) s, .ref V.length]]) (get0 (ex := [Ob.lst (addO cs (cntO ws rs off s (a + b)))]) k2)
    rw [← hV2] at m2 ⊢
    refine w_meth ?_
    walk_at "go"
    refine ⟨w2, _, rfl, m2, no_meth (by decide +kernel), ?_⟩
    walk_at "go"
    refine wr_by (wnow_run m2) ?_
    walk_at "go"
    refine w_meth ?_
    walk_at "go"
    refine ⟨w2, _, rfl, m2, no_meth (by decide +kernel), ?_⟩
    walk_at "go"
    refine wr_by (wstate_run m2) ?_
    walk_at "go"
    refine w_meth ?_
    walk_at "go"
    refine ⟨w2, _, rfl, m2, no_meth (by decide +kernel), ?_⟩
    walk_at "go"
    refine wr_by (wcounts_run m2 hc3) ?_
    walk_at "go"
    have hso := iter_ok R h (a + b)
    have r1 : V2[(V ++ [Ob.lst (addO cs (cntO ws rs off s (a + b)))]).length]? = some (.lst [.int (n + ((a + b : Nat) : Int)), iter ws rs off (a + b) s, .ref V.length]) := by rw [hV2]; exact get_end
    have r2 : V2[V.length]? = some (.lst (addO cs (cntO ws rs off s (a + b)))) := by rw [hV2]; exact get0 get_end
    refine wr_by (told_same hso addO_ints (get0 (get0 r2)) (get0 get_end) (get0 (get0 r1)) get_end) ?_
    walk_at "go"
    obtain ⟨V3, hV3, hx3⟩ : ∃ V3, V3 = V2 ++ [Ob.lst (addO cs (cntO ws rs off s (a + b)))] ++ [Ob.lst [.int (n + ((a + b : Nat) : Int)), iter ws rs off (a + b) s, .ref V2.length]] ∧ ∃ ex, V3 = U3 ++ ex := ⟨_, rfl, _, by rw [hV2, hV]; simp only [List.append_assoc]; rfl⟩
    rw [← hV3]
    obtain ⟨X3, hX3⟩ := hx3
    have b3 : ∀ X, (V3 ++ X)[bk]? = some (bookO ws rs) := fun X => by rw [hX3]; exact get0 (get0 hb3)
    have w3 := fun X Y => get0 (ex := Y) (get0 (ex := X) (get0 (ex := X3) h1))
    rw [← hX3] at w3
    refine wr_by (lenB Dr (by simpa using b3 [])) ?_
    walk_at "go"
    refine w_rng (n := rs.length) rfl (Nat.le_trans n5 (by decide)) ?_
    refine w_lcmap (xs := rngL 0 rs.length) (f := fun r => .int ((cnt (didR ws rs off (wI r) s) (a + b) : Nat) : Int)) rfl (by rw [rngL_length]; exact Nat.le_trans n5 (by decide)) (fun r hr acc => ?_) ?_
    · obtain ⟨i, hi⟩ := List.getElem?_of_mem hr
      obtain ⟨hlt, rfl⟩ := rngL_get hi
      have tt := told_times R O.rise (bookO_at (b3 [Ob.lst acc])) h (k := a + b) (by omega) hlt
      refine ⟨_, rfl, wr_eq ?_⟩
      walk_at "go"
      exact wr_by tt ⟨rfl, rfl⟩
    have e2 : (rngL 0 rs.length).map (fun r => D.int ((cnt (didR ws rs off (wI r) s) (a + b) : Nat) : Int)) = cntO ws rs off s (a + b) := rfl
    rw [e2]
    walk_at "go"
    refine wr_by (show fList [.tup (cntO ws rs off s (a + b))] (V3 ++ [Ob.lst (cntO ws rs off s (a + b))]) = .ok (.ref (V3 ++ [Ob.lst (cntO ws rs off s (a + b))]).length) (V3 ++ [Ob.lst (cntO ws rs off s (a + b))] ++ [Ob.lst (cntO ws rs off s (a + b))]) from rfl) ?_
    walk_at "go"
    refine wr_by (eq_lints cntO_ints get_end (get0 get_end)) ?_
    walk_at "go"
    have w3' := w3 [Ob.lst (cntO ws rs off s (a + b))] [Ob.lst (cntO ws rs off s (a + b))]
    refine w_meth ?_
    walk_at "go"
    refine ⟨w1, _, rfl, w3', no_meth (by decide +kernel), ?_⟩
    walk_at "go"
    refine wr_by (wstate_run w3') ?_
    have ta := told_at R O.rise (bookO_at (get0 (ex := [Ob.lst (cntO ws rs off s (a + b))]) (b3 [Ob.lst (cntO ws rs off s (a + b))]))) h (k := a + b) (by omega)
    walk_at "go"
    refine wr_by ta ?_
    walk_at "go"
    obtain ⟨p, hp, hlay⟩ := st_toP hso
    refine wr_by (eq_same (hp _) (hp _) (by decide) hlay) ?_
    exact ⟨rfl, _, by rw [hX3]; simp only [List.append_assoc]; rfl⟩
  obtain ⟨d, U, e, rfl, ex, rfl⟩ := wr_out key
  exact ⟨_, _, _, e, fun i o hi n1 n2 => get0 (u3.else' _ _ (u2.else' _ _ (u1.else' _ _ hi n1) n1) n2), by simp only [List.length_append, List.length_singleton]; omega, by simp only [List.length_append, List.length_singleton]; omega, get0 h1, get0 h2⟩
end

end Hd
set_option Elab.async false
set_option linter.all false
set_option maxRecDepth 100000
set_option maxHeartbeats 1000000
namespace Hd
open PySem U
local macro_rules | `(tactic| walk_at "ex1") => `(tactic| first | (with_reducible refine w_seq ?_) | (with_reducible refine w_set ?_) | (with_reducible refine w_ret ?_) | (with_reducible refine w_sif ?_) | (with_reducible refine w_asg2 ?_) | (with_reducible refine w_asg3 ?_) | (with_reducible refine w_asg4 ?_) | (with_reducible refine w_ex2 ?_) | (with_reducible refine w_ex3 ?_) | (with_reducible refine w_ex4 ?_) | (with_reducible refine w_par ?_) | (with_reducible refine w_par3 ?_) | (with_reducible refine w_expr ?_) | (with_reducible refine w_for ?_) | (with_reducible refine w_skip ?_) | (with_reducible refine w_fn ?_) | (with_reducible refine w_acons ?_) | (with_reducible refine w_anil ?_) | (with_reducible refine w_aapp ?_) | (with_reducible refine w_bin ?_) | (with_reducible refine w_un ?_) | (with_reducible refine w_c ?_) | (with_reducible refine w_tof ?_) | (with_reducible refine w_tob ?_) | (with_reducible refine w_tand ?_) | (with_reducible refine w_tor ?_) | (with_reducible refine w_tnot ?_) | (with_reducible refine w_eand ?_) | (with_reducible refine w_eor ?_) | (with_reducible refine w_enot ?_) | (with_reducible refine w_exb ?_) | (with_reducible refine w_exi ?_) | (with_reducible refine w_if ?_) | (with_reducible refine w_slice ?_) | (with_reducible refine w_onone ?_) | (with_reducible refine w_osome ?_) | (with_reducible refine w_lc ?_) | (with_reducible refine w_lc2 ?_) | (with_reducible refine w_mtl ?_) | (with_reducible refine w_iseq ?_) | (with_reducible refine w_irng ?_) | (with_reducible refine w_ienum ?_) | (with_reducible refine w_ibin ?_) | (with_reducible refine w_true ?_) | (with_reducible refine cond_t ?_) | (with_reducible refine cond_f ?_))
local macro_rules | `(tactic| walk_at "ex2") => `(tactic| first | (with_reducible refine w_addI ?_) | (with_reducible refine w_subI ?_) | (with_reducible refine w_ltI ?_) | (with_reducible refine w_leI ?_) | (with_reducible refine w_gtI ?_) | (with_reducible refine w_geI ?_) | (with_reducible refine w_eqI ?_) | (with_reducible refine w_neI ?_) | (with_reducible refine w_negI ?_) | (with_reducible refine w_maxI ?_) | (with_reducible refine w_minI ?_) | (with_reducible refine w_lenT ?_) | (with_reducible refine w_slT ?_) | (with_reducible refine w_sseq ?_) | (with_reducible refine w_senum ?_) | (with_reducible refine w_szip ?_) | (with_reducible refine w_eqB ?_) | (with_reducible refine w_neB ?_))
local macro_rules | `(tactic| walk_at "ex3") => `(tactic| first | ((with_reducible apply w_var); (focus exact rfl)) | ((with_reducible apply w_aug); (focus exact rfl)) | ((with_reducible apply w_thaw); (focus exact rfl); (focus with_reducible assumption)) | ((with_reducible apply w_idxZ); (focus exact rfl); (focus with_reducible assumption)) | ((with_reducible apply wr_by); (focus with_reducible assumption)) | ((with_reducible apply w_via); (focus exact rfl)) | ((with_reducible apply w_mkTup); (focus exact Nat.le_of_ble_eq_true rfl)) | ((with_reducible apply w_mkLst); (focus exact Nat.le_of_ble_eq_true rfl)) | ((with_reducible apply w_ix); (focus exact rfl); (focus exact rfl)) | ((with_reducible apply w_lenL); (focus with_reducible assumption)) | ((with_reducible apply w_lenL); (focus with_reducible exact get_end)) | ((with_reducible apply w_isl); (focus with_reducible assumption)) | ((with_reducible apply w_append); (focus with_reducible assumption); (focus with_reducible assumption)) | ((with_reducible apply w_slL); (focus with_reducible assumption)) | ((with_reducible apply w_enumL); (focus with_reducible assumption)) | ((with_reducible apply w_tupL); (focus with_reducible assumption)) | ((with_reducible apply w_sdyn); (focus with_reducible assumption)) | ((with_reducible apply w_isi); (focus exact rfl)) | ((with_reducible apply w_isi2); (focus exact rfl)) | ((with_reducible apply w_eqS); (focus decide +kernel); (focus decide +kernel)) | ((with_reducible apply cond_af); (focus exact rfl)) | ((with_reducible apply cond_at); (focus exact rfl)) | ((with_reducible apply cond_af); (focus decide +kernel)) | ((with_reducible apply cond_at); (focus decide +kernel)))
local macro_rules | `(tactic| walk_at "go") => `(tactic| repeat (first | walk_at "ex1" | walk_at "ex2" | walk_at "ex3"))
section
variable {T : Sto} {bk w1 w2 B : Nat} {ws rs off : List D} {s : D} {ob : Ob} {c : Int}
structure Twin (B bk w1 w2 : Nat) (ob : Ob) (ws rs : List D) (m : Nat) (T : Sto) (c : Int) (n : Int) (s : D) (off cs p1 p2 : List D) : Prop where
  st : Stg B [(w1, watchO bk (.tup [.int n, s, .tup off, .tup cs]) (.tup p1)), (w2, watchO bk (.tup [.int n, s, .tup off, .tup cs]) (.tup p2)), (bk, bookO ws rs), (0, ob)] T c
  ne : w1 ≠ w2
  b1 : bk ≠ w1
  b2 : bk ≠ w2
  z1 : 0 ≠ w1
  z2 : 0 ≠ w2
  ok : SOk ws rs s
  off : OffOk ws rs off
  ci : cs.all isI = true
  cl : cs.length = rs.length
  l1 : p1.length ≤ m
  l2 : p2.length ≤ m
theorem stg_upd {X1 X2 Y1 Y2 : Ob} {U : Sto} {ps : List (Nat × Ob)} (H : Stg B ((w1, X1) :: (w2, X2) :: ps) T c) (h1 : U[w1]? = some Y1) (h2 : U[w2]? = some Y2) (he : ∀ i o, T[i]? = some o → i ≠ w1 → i ≠ w2 → U[i]? = some o) (hp : ∀ p ∈ ps, p.1 ≠ w1 ∧ p.1 ≠ w2) : Stg B ((w1, Y1) :: (w2, Y2) :: ps) U c := by
  have n1 : w1 ≠ B := H.off (w1, X1) List.mem_cons_self
  have n2 : w2 ≠ B := H.off (w2, X2) (List.mem_cons_of_mem _ List.mem_cons_self)
  obtain ⟨g, x, c', hg, hx⟩ := H.bag
  refine ⟨⟨g, x, c', he _ _ hg n1.symm n2.symm, hx⟩, fun p hq => ?_, fun p hq => ?_⟩
  · rcases List.mem_cons.mp hq with rfl | hq
    · exact h1
    · rcases List.mem_cons.mp hq with rfl | hq
      · exact h2
      · exact he _ _ (H.pin p (List.mem_cons_of_mem _ (List.mem_cons_of_mem _ hq))) (hp p hq).1 (hp p hq).2
  · rcases List.mem_cons.mp hq with rfl | hq
    · exact n1
    · rcases List.mem_cons.mp hq with rfl | hq
      · exact n2
      · exact H.off p (List.mem_cons_of_mem _ (List.mem_cons_of_mem _ hq))
variable {n : Int} {cs p1 p2 : List D} {m : Nat}
theorem Twin.pin (W : Twin B bk w1 w2 ob ws rs m T c n s off cs p1 p2) : ∀ p ∈ [(bk, bookO ws rs), (0, ob)], p.1 ≠ w1 ∧ p.1 ≠ w2 := fun p hp => by
  simp only [List.mem_cons, List.not_mem_nil, or_false] at hp
  rcases hp with rfl | rfl
  · exact ⟨W.b1, W.b2⟩
  · exact ⟨W.z1, W.z2⟩
theorem Twin.g1 (W : Twin B bk w1 w2 ob ws rs m T c n s off cs p1 p2) : T[w1]? = some (watchO bk (.tup [.int n, s, .tup off, .tup cs]) (.tup p1)) := W.st.at List.mem_cons_self
theorem Twin.g2 (W : Twin B bk w1 w2 ob ws rs m T c n s off cs p1 p2) : T[w2]? = some (watchO bk (.tup [.int n, s, .tup off, .tup cs]) (.tup p2)) := W.st.at (List.mem_cons_of_mem _ List.mem_cons_self)
theorem Twin.bkg (W : Twin B bk w1 w2 ob ws rs m T c n s off cs p1 p2) : T[bk]? = some (bookO ws rs) := W.st.at (List.mem_cons_of_mem _ (List.mem_cons_of_mem _ List.mem_cons_self))
theorem Twin.drew {U : Sto} {c' : Int} (W : Twin B bk w1 w2 ob ws rs m T c n s off cs p1 p2) (H : Stg B [(w1, watchO bk (.tup [.int n, s, .tup off, .tup cs]) (.tup p1)), (w2, watchO bk (.tup [.int n, s, .tup off, .tup cs]) (.tup p2)), (bk, bookO ws rs), (0, ob)] U c') : Twin B bk w1 w2 ob ws rs m U c' n s off cs p1 p2 := ⟨H, W.ne, W.b1, W.b2, W.z1, W.z2, W.ok, W.off, W.ci, W.cl, W.l1, W.l2⟩
theorem Twin.deed (W : Twin B bk w1 w2 ob ws rs m T c n s off cs p1 p2) (Dr : DrawOk ws rs) (hm : m ≤ 1000000) {d : Dd} (hd : d.ok ws rs) : ∃ U V s' off' q1 q2, m__law_at_watch [.ref w1, d.dat] T = .ok .non U ∧ m__law_at_watch [.ref w2, d.dat] U = .ok .non V ∧ Twin B bk w1 w2 ob ws rs (m + 1) V c n s' off' cs q1 q2 := by
  obtain ⟨s', off', h1, h2, run⟩ := at_watch_run (bk := bk) Dr W.ok W.off hd
  obtain ⟨e1, t1⟩ := run T w1 (.int n) (.tup cs) p1 (bookO_at W.bkg) W.g1 (by have := W.l1; omega)
  have u1 := upd_of (ex := e1) (X := watchO bk (.tup [.int n, s', .tup off', .tup cs]) (.tup (p1 ++ [.tup [.int n, s, .tup off, .tup cs]]))) W.g1
  obtain ⟨e2, t2⟩ := run _ w2 (.int n) (.tup cs) p2 (bookO_at (u1.else' _ _ W.bkg W.b1)) (u1.else' _ _ W.g2 W.ne.symm) (by have := W.l2; omega)
  have u2 := upd_of (ex := e2) (X := watchO bk (.tup [.int n, s', .tup off', .tup cs]) (.tup (p2 ++ [.tup [.int n, s, .tup off, .tup cs]]))) (u1.else' _ _ W.g2 W.ne.symm)
  exact ⟨_, _, s', off', _, _, t1, t2, stg_upd W.st (u2.else' _ _ u1.here W.ne) u2.here (fun i o hi n1 n2 => u2.else' _ _ (u1.else' _ _ hi n1) n2) W.pin, W.ne, W.b1, W.b2, W.z1, W.z2, h1, h2, W.ci, W.cl, by have := W.l1; rw [List.length_append, List.length_singleton]; omega, by have := W.l2; rw [List.length_append, List.length_singleton]; omega⟩
theorem Twin.like (W : Twin B bk w1 w2 ob ws rs m T c n s off cs p1 p2) (Dr : DrawOk ws rs) (hm : m ≤ 900000) {a b : Nat} (ha : a < 10 ^ 29) (hb : b < 10 ^ 29) : ∃ U q1 q2, m__law_like_one [.ref B, .ref w1, .ref w2, .ref bk, .tup [.int (a : Int), .int (b : Int)]] T = .ok (.bl true) U ∧ Twin B bk w1 w2 ob ws rs (m + 2) U c (n + (a + b : Nat)) (iter ws rs off (a + b) s) off (addO cs (cntO ws rs off s (a + b))) q1 q2 ∧ ∀ i o, T[i]? = some o → i ≠ w1 → i ≠ w2 → U[i]? = some o := by
  obtain ⟨U, q1, q2, t, he, k1, k2, h1, h2⟩ := like_one_run (B := B) Dr W.off W.ok W.bkg W.ci W.cl (Nat.le_trans W.l1 hm) (Nat.le_trans W.l2 hm) W.g1 W.g2 W.ne W.b1 W.b2 ha hb
  exact ⟨U, q1, q2, t, ⟨stg_upd W.st h1 h2 he W.pin, W.ne, W.b1, W.b2, W.z1, W.z2, iter_ok W.off.run W.ok _, W.off, addO_ints, addO_len W.cl, by have := W.l1; omega, by have := W.l2; omega⟩, he⟩
theorem Twin.round (W : Twin B bk w1 w2 ob ws rs m T c n s off cs p1 p2) (hm : m ≤ 900000) {L : Nat} (hL : L ≤ 20000) : ∃ U1 U2 U3 q1 q2, m_Watch_go [.ref w1, .int (L : Int)] T = .ok (.tup (cntO ws rs off s L)) U1 ∧ m_Watch_go [.ref w1, .int (L : Int)] U1 = .ok (.tup (cntO ws rs off (iter ws rs off L s) L)) U2 ∧ (∃ X1 Y1 : D, U1[w1]? = some (watchO bk X1 Y1)) ∧ (∃ X2 Y2 : D, U2[w2]? = some (watchO bk X2 Y2)) ∧
    m_Watch_go [.ref w2, .int ((2 * L : Nat) : Int)] U2 = .ok (.tup (cntO ws rs off s (2 * L))) U3 ∧ Twin B bk w1 w2 ob ws rs (m + 2) U3 c (n + (2 * L : Nat)) (iter ws rs off (2 * L) s) off (addO cs (cntO ws rs off s (2 * L))) q1 q2 := by
  have R := W.off.run
  have l1 := W.l1
  have l2 := W.l2
  obtain ⟨U1, t1, u1⟩ := go_far R W.bkg W.ok (k := L) (by omega) W.g1 (by omega) W.ci W.cl
  have hb1 := u1.else' _ _ W.bkg W.b1
  obtain ⟨U2, t2, u2⟩ := go_far R hb1 (iter_ok R W.ok L) (k := L) (by omega) u1.here (by simp only [List.length_append, List.length_singleton]; omega) addO_ints (addO_len W.cl)
  have hb2 := u2.else' _ _ hb1 W.b1
  have g2' := u2.else' _ _ (u1.else' _ _ W.g2 W.ne.symm) W.ne.symm
  obtain ⟨U3, t3, u3⟩ := go_far R hb2 W.ok (k := 2 * L) (by omega) g2' (by omega) W.ci W.cl
  have h1 := u3.else' _ _ u2.here W.ne
  have h2 := u3.here
  rw [addO_add L L W.cl, ← iter_add, show n + (L : Int) + (L : Int) = n + ((2 * L : Nat) : Int) by omega, ← Nat.two_mul] at h1
  exact ⟨U1, U2, U3, _, _, t1, t2, ⟨_, _, u1.here⟩, ⟨_, _, g2'⟩, t3, stg_upd W.st h1 h2 (fun i o hi n1 n2 => u3.else' _ _ (u2.else' _ _ (u1.else' _ _ hi n1) n1) n2) W.pin, W.ne, W.b1, W.b2, W.z1, W.z2, iter_ok R W.ok _, W.off, addO_ints, addO_len W.cl, by simp only [List.length_append, List.length_singleton]; omega, by simp only [List.length_append, List.length_singleton]; omega⟩
end

end Hd
set_option Elab.async false
set_option linter.all false
set_option maxRecDepth 100000
set_option maxHeartbeats 1000000
namespace Hd
open PySem U
local macro_rules | `(tactic| walk_at "ex1") => `(tactic| first | (with_reducible refine w_seq ?_) | (with_reducible refine w_set ?_) | (with_reducible refine w_ret ?_) | (with_reducible refine w_sif ?_) | (with_reducible refine w_asg2 ?_) | (with_reducible refine w_asg3 ?_) | (with_reducible refine w_asg4 ?_) | (with_reducible refine w_ex2 ?_) | (with_reducible refine w_ex3 ?_) | (with_reducible refine w_ex4 ?_) | (with_reducible refine w_par ?_) | (with_reducible refine w_par3 ?_) | (with_reducible refine w_expr ?_) | (with_reducible refine w_for ?_) | (with_reducible refine w_skip ?_) | (with_reducible refine w_fn ?_) | (with_reducible refine w_acons ?_) | (with_reducible refine w_anil ?_) | (with_reducible refine w_aapp ?_) | (with_reducible refine w_bin ?_) | (with_reducible refine w_un ?_) | (with_reducible refine w_c ?_) | (with_reducible refine w_tof ?_) | (with_reducible refine w_tob ?_) | (with_reducible refine w_tand ?_) | (with_reducible refine w_tor ?_) | (with_reducible refine w_tnot ?_) | (with_reducible refine w_eand ?_) | (with_reducible refine w_eor ?_) | (with_reducible refine w_enot ?_) | (with_reducible refine w_exb ?_) | (with_reducible refine w_exi ?_) | (with_reducible refine w_if ?_) | (with_reducible refine w_slice ?_) | (with_reducible refine w_onone ?_) | (with_reducible refine w_osome ?_) | (with_reducible refine w_lc ?_) | (with_reducible refine w_lc2 ?_) | (with_reducible refine w_mtl ?_) | (with_reducible refine w_iseq ?_) | (with_reducible refine w_irng ?_) | (with_reducible refine w_ienum ?_) | (with_reducible refine w_ibin ?_) | (with_reducible refine w_true ?_) | (with_reducible refine cond_t ?_) | (with_reducible refine cond_f ?_))
local macro_rules | `(tactic| walk_at "ex2") => `(tactic| first | (with_reducible refine w_addI ?_) | (with_reducible refine w_subI ?_) | (with_reducible refine w_ltI ?_) | (with_reducible refine w_leI ?_) | (with_reducible refine w_gtI ?_) | (with_reducible refine w_geI ?_) | (with_reducible refine w_eqI ?_) | (with_reducible refine w_neI ?_) | (with_reducible refine w_negI ?_) | (with_reducible refine w_maxI ?_) | (with_reducible refine w_minI ?_) | (with_reducible refine w_lenT ?_) | (with_reducible refine w_slT ?_) | (with_reducible refine w_sseq ?_) | (with_reducible refine w_senum ?_) | (with_reducible refine w_szip ?_) | (with_reducible refine w_eqB ?_) | (with_reducible refine w_neB ?_))
local macro_rules | `(tactic| walk_at "ex3") => `(tactic| first | ((with_reducible apply w_var); (focus exact rfl)) | ((with_reducible apply w_aug); (focus exact rfl)) | ((with_reducible apply w_thaw); (focus exact rfl); (focus with_reducible assumption)) | ((with_reducible apply w_idxZ); (focus exact rfl); (focus with_reducible assumption)) | ((with_reducible apply wr_by); (focus with_reducible assumption)) | ((with_reducible apply w_via); (focus exact rfl)) | ((with_reducible apply w_mkTup); (focus exact Nat.le_of_ble_eq_true rfl)) | ((with_reducible apply w_mkLst); (focus exact Nat.le_of_ble_eq_true rfl)) | ((with_reducible apply w_ix); (focus exact rfl); (focus exact rfl)) | ((with_reducible apply w_lenL); (focus with_reducible assumption)) | ((with_reducible apply w_lenL); (focus with_reducible exact get_end)) | ((with_reducible apply w_isl); (focus with_reducible assumption)) | ((with_reducible apply w_append); (focus with_reducible assumption); (focus with_reducible assumption)) | ((with_reducible apply w_slL); (focus with_reducible assumption)) | ((with_reducible apply w_enumL); (focus with_reducible assumption)) | ((with_reducible apply w_tupL); (focus with_reducible assumption)) | ((with_reducible apply w_sdyn); (focus with_reducible assumption)) | ((with_reducible apply w_isi); (focus exact rfl)) | ((with_reducible apply w_isi2); (focus exact rfl)) | ((with_reducible apply w_eqS); (focus decide +kernel); (focus decide +kernel)) | ((with_reducible apply cond_af); (focus exact rfl)) | ((with_reducible apply cond_at); (focus exact rfl)) | ((with_reducible apply cond_af); (focus decide +kernel)) | ((with_reducible apply cond_at); (focus decide +kernel)))
local macro_rules | `(tactic| walk_at "go") => `(tactic| repeat (first | walk_at "ex1" | walk_at "ex2" | walk_at "ex3"))
section
variable {T : Sto} {bk w1 w2 B k : Nat} {ws rs off : List D} {s : D} {ob : Ob} {c : Int} {n : Int} {cs p1 p2 : List D} {m : Nat}
def EW (k B : Nat) (ws rs : List D) (bk w1 w2 : Nat) (x3 x4 x8 x9 x12 x13 x14 x15 x16 x17 x18 x19 x20 x21 : Option D) : Ev := [some (.ref 0), some (.int (k : Int)), some (.ref B), x3, x4, some (.tup ws), some (.tup rs), some (.ref bk), x8, x9, some (.ref w1), some (.ref w2), x12, x13, x14, x15, x16, x17, x18, x19, x20, x21]
theorem sum2 (a b : Nat) (T : Sto) : fSumT [.tup [.int (a : Int), .int (b : Int)]] T = .ok (.int ((a + b : Nat) : Int)) T := by
  unfold fSumT
  simp [isI, wI]
theorem one_turn {x3 x4 x8 x9 x12 x13 x14 x15 x16 x17 x18 x19 x20 x21 : Option D} (W : Twin B bk w1 w2 ob ws rs m T c n s off cs p1 p2) (Dr : DrawOk ws rs) (hm : m ≤ 800000) (hc : c + 40 < 1000000000) :
    WS (b_law_1 (EW k B ws rs bk w1 w2 x3 x4 x8 x9 x12 x13 x14 x15 x16 x17 x18 x19 x20 x21) T) (fun e t => (∃ y12 y13 y14 y15 y16 y17 y18 y19 y20 y21, e = EW k B ws rs bk w1 w2 x3 x4 x8 x9 y12 y13 y14 y15 y16 y17 y18 y19 y20 y21) ∧ ∃ n s off cs p1 p2, Twin B bk w1 w2 ob ws rs (m + 5) t (c + 20) n s off cs p1 p2) (fun _ _ => False) (fun _ _ => False) (fun _ _ => False) := by
  obtain ⟨d, T1, q1, H1, hd⟩ := hand_s W.st Dr (by omega)
  have W1 := W.drew H1
  obtain ⟨U1, V1, s1, off1, p3, p4, q2, q3, W2⟩ := W1.deed Dr (by omega) hd
  obtain ⟨a, T2, q4, H2, ha⟩ := far_s W2.st (by omega)
  obtain ⟨b, T3, q5, H3, hb⟩ := far_s H2 (by omega)
  have W3 := W2.drew H3
  obtain ⟨ex4, q6⟩ := spot_run (T := T3) Dr W3.off W3.ok (a + b)
  have W4 := W3.drew (W3.st.app (ex := ex4))
  have W5 := W4.drew (W4.st.app (ex := [.lst cs]))
  obtain ⟨U, p5, p6, q7, W6, he⟩ := W5.like Dr (by omega) ha hb
  have n5 := Dr.n5
  have lc1 : (T3 ++ ex4).length ≠ w1 := fun e => by have := (List.getElem?_eq_some_iff.mp W4.g1).1; omega
  have lc2 : (T3 ++ ex4).length ≠ w2 := fun e => by have := (List.getElem?_eq_some_iff.mp W4.g2).1; omega
  have hcs : U[(T3 ++ ex4).length]? = some (.lst cs) := he _ _ get_end lc1 lc2
  unfold b_law_1 EW
  walk_at "go"
  refine w_meth ?_
  walk_at "go"
  refine ⟨w1, _, rfl, W3.g1, no_meth (by decide +kernel), ?_⟩
  walk_at "go"
  refine wr_by (wstate_run W3.g1) ?_
  walk_at "go"
  refine w_meth ?_
  walk_at "go"
  refine ⟨w1, _, rfl, W3.g1, no_meth (by decide +kernel), ?_⟩
  walk_at "go"
  refine wr_by (woff_run W3.g1) ?_
  walk_at "go"
  refine wr_by (sum2 _ _ _) ?_
  walk_at "go"
  have c4 : cs.length ≤ 1000 := by have := W3.cl; omega
  refine w_meth ?_
  walk_at "go"
  refine ⟨w1, _, rfl, W4.g1, no_meth (by decide +kernel), ?_⟩
  walk_at "go"
  refine wr_by (wcounts_run W4.g1 c4) ?_
  walk_at "go"
  refine w_meth ?_
  walk_at "go"
  refine ⟨w1, _, rfl, W6.g1, no_meth (by decide +kernel), ?_⟩
  walk_at "go"
  refine wr_by (wstate_run W6.g1) ?_
  walk_at "go"
  refine wr_by (eqSS W6.ok) ?_
  walk_at "go"
  have c6 : (addO cs (cntO ws rs off1 s1 (a + b))).length ≤ 1000 := by have := W6.cl; omega
  refine w_meth ?_
  walk_at "go"
  refine ⟨w1, _, rfl, W6.g1, no_meth (by decide +kernel), ?_⟩
  walk_at "go"
  refine wr_by (wcounts_run W6.g1 c6) ?_
  walk_at "go"
  obtain ⟨U2, hU2⟩ : ∃ U2, U2 = U ++ [Ob.lst (addO cs (cntO ws rs off1 s1 (a + b)))] := ⟨_, rfl⟩
  have u2 : U2[U.length]? = some (.lst (addO cs (cntO ws rs off1 s1 (a + b)))) := by rw [hU2]; exact get_end
  have hz : zipSrcM (.ref (T3 ++ ex4).length) (.tup (cntO ws rs off1 s1 (a + b))) U2 = .ok (.zipLT (T3 ++ ex4).length (cntO ws rs off1 s1 (a + b))) U2 := by
    unfold zipSrcM lstOf
    rw [hU2]
    simp only [get0 hcs]
  have hat : Src.at (.zipLT (T3 ++ ex4).length (cntO ws rs off1 s1 (a + b))) U2 = some (List.zipWith pairD cs (cntO ws rs off1 s1 (a + b))) := by
    show (lstOf U2 (T3 ++ ex4).length).map (fun xs => List.zipWith pairD xs (cntO ws rs off1 s1 (a + b))) = _
    unfold lstOf
    rw [hU2, get0 hcs]
    rfl
  rw [← hU2]
  refine wr_by hz ?_
  refine w_lcmap (f := fun p => .int (wI (fstD p) + wI (sndD p))) hat (by rw [List.length_zipWith]; exact Nat.le_trans (Nat.le_trans (Nat.min_le_left _ _) c4) (by decide)) (fun p hp acc => ?_) ?_
  · obtain ⟨i, hi⟩ := List.getElem?_of_mem hp
    obtain ⟨x, y, h1, h2, rfl⟩ := zip_get hi
    obtain ⟨a, rfl⟩ : ∃ a, x = .int a := ⟨_, isI_eq (List.all_eq_true.mp W3.ci x (List.mem_of_getElem? h1))⟩
    obtain ⟨b, rfl, _⟩ := cntO_get y (List.mem_of_getElem? h2)
    exact ⟨_, rfl, rfl⟩
  have ez : (List.zipWith pairD cs (cntO ws rs off1 s1 (a + b))).map (fun p => D.int (wI (fstD p) + wI (sndD p))) = addO cs (cntO ws rs off1 s1 (a + b)) := by
    unfold addO
    rw [List.map_zipWith]
    rfl
  rw [ez]
  refine wr_by (eq_lints addO_ints (get0 u2) get_end) ?_
  walk_at "go"
  have W7 := (W6.drew (W6.st.app (ex := [Ob.lst (addO cs (cntO ws rs off1 s1 (a + b)))])))
  rw [← hU2] at W7
  have W8 := W7.drew (W7.st.app (ex := [Ob.lst (addO cs (cntO ws rs off1 s1 (a + b)))]))
  obtain ⟨S, hS⟩ : ∃ S, S = U2 ++ [Ob.lst (addO cs (cntO ws rs off1 s1 (a + b)))] := ⟨_, rfl⟩
  rw [← hS] at W8 ⊢
  obtain ⟨mm, bb, ρ⟩ := rho_ex W8.off.run W8.ok
  have tr := told_rho W8.off W8.bkg W8.ok ρ
  have rf := ρ.few
  have rl := ρ.lt
  obtain ⟨V1', V2', V3', p7, p8, t1, t2, ⟨X1, Y1, g1⟩, ⟨X2, Y2, g2⟩, t3, W9⟩ := W8.round (by omega) (L := mm - bb) (by omega)
  refine w_meth ?_
  walk_at "go"
  refine ⟨w1, _, rfl, W8.g1, no_meth (by decide +kernel), ?_⟩
  walk_at "go"
  refine wr_by (wstate_run W8.g1) ?_
  walk_at "go"
  refine w_meth ?_
  walk_at "go"
  refine ⟨w1, _, rfl, W8.g1, no_meth (by decide +kernel), ?_⟩
  walk_at "go"
  refine wr_by (woff_run W8.g1) ?_
  walk_at "go"
  have hmul : dMul (.int 2) (.int ((mm - bb : Nat) : Int)) V2' = .ok (.int ((2 * (mm - bb) : Nat) : Int)) V2' := by
    unfold dMul
    simp only
    rw [if_pos (.inl ⟨by decide, by decide⟩)]
    rfl
  have heq : bb = 0 → dEq true (.tup (cntO ws rs off1 (iter ws rs off1 (a + b) s1) (mm - bb))) (.tup (cntO ws rs off1 (iter ws rs off1 (mm - bb) (iter ws rs off1 (a + b) s1)) (mm - bb))) V2' = .ok (.bl false) V2' := fun h0 => by
    have e0 : iter ws rs off1 (mm - bb) (iter ws rs off1 (a + b) s1) = iter ws rs off1 (a + b) s1 := by
      have := ρ.rep
      rw [h0] at this ⊢
      exact this
    rw [e0]
    exact eq_ints cntO_ints _
  refine w_meth ?_
  walk_at "go"
  refine ⟨w1, _, rfl, W8.g1, no_meth (by decide +kernel), ?_⟩
  walk_at "go"
  refine wr_by t1 ?_
  walk_at "go"
  refine w_meth ?_
  walk_at "go"
  refine ⟨w1, _, rfl, g1, no_meth (by decide +kernel), ?_⟩
  walk_at "go"
  refine wr_by t2 ?_
  walk_at "go"
  refine cond_by (fun h0 => ?_) (fun h0 => ?_)
  · have hb0 : bb = 0 := by have := beq_iff_eq.mp h0; omega
    walk_at "go"
    refine wr_by (heq hb0) ?_
    walk_at "go"
    refine w_meth ?_
    walk_at "go"
    refine ⟨w2, _, rfl, g2, no_meth (by decide +kernel), ?_⟩
    walk_at "go"
    refine wr_by t3 ?_
    walk_at "go"
    exact ⟨⟨_, _, _, _, _, _, _, _, _, _, rfl⟩, _, _, _, _, _, _, W9.drew (W9.st.mono (by omega))⟩
  · walk_at "go"
    refine w_meth ?_
    walk_at "go"
    refine ⟨w2, _, rfl, g2, no_meth (by decide +kernel), ?_⟩
    walk_at "go"
    refine wr_by t3 ?_
    walk_at "go"
    exact ⟨⟨_, _, _, _, _, _, _, _, _, _, rfl⟩, _, _, _, _, _, _, W9.drew (W9.st.mono (by omega))⟩
end

end Hd
set_option Elab.async false
set_option linter.all false
set_option maxRecDepth 100000
set_option maxHeartbeats 1000000
namespace Hd
open PySem U
local macro_rules | `(tactic| walk_at "ex1") => `(tactic| first | (with_reducible refine w_seq ?_) | (with_reducible refine w_set ?_) | (with_reducible refine w_ret ?_) | (with_reducible refine w_sif ?_) | (with_reducible refine w_asg2 ?_) | (with_reducible refine w_asg3 ?_) | (with_reducible refine w_asg4 ?_) | (with_reducible refine w_ex2 ?_) | (with_reducible refine w_ex3 ?_) | (with_reducible refine w_ex4 ?_) | (with_reducible refine w_par ?_) | (with_reducible refine w_par3 ?_) | (with_reducible refine w_expr ?_) | (with_reducible refine w_for ?_) | (with_reducible refine w_skip ?_) | (with_reducible refine w_fn ?_) | (with_reducible refine w_acons ?_) | (with_reducible refine w_anil ?_) | (with_reducible refine w_aapp ?_) | (with_reducible refine w_bin ?_) | (with_reducible refine w_un ?_) | (with_reducible refine w_c ?_) | (with_reducible refine w_tof ?_) | (with_reducible refine w_tob ?_) | (with_reducible refine w_tand ?_) | (with_reducible refine w_tor ?_) | (with_reducible refine w_tnot ?_) | (with_reducible refine w_eand ?_) | (with_reducible refine w_eor ?_) | (with_reducible refine w_enot ?_) | (with_reducible refine w_exb ?_) | (with_reducible refine w_exi ?_) | (with_reducible refine w_if ?_) | (with_reducible refine w_slice ?_) | (with_reducible refine w_onone ?_) | (with_reducible refine w_osome ?_) | (with_reducible refine w_lc ?_) | (with_reducible refine w_lc2 ?_) | (with_reducible refine w_mtl ?_) | (with_reducible refine w_iseq ?_) | (with_reducible refine w_irng ?_) | (with_reducible refine w_ienum ?_) | (with_reducible refine w_ibin ?_) | (with_reducible refine w_true ?_) | (with_reducible refine cond_t ?_) | (with_reducible refine cond_f ?_))
local macro_rules | `(tactic| walk_at "ex2") => `(tactic| first | (with_reducible refine w_addI ?_) | (with_reducible refine w_subI ?_) | (with_reducible refine w_ltI ?_) | (with_reducible refine w_leI ?_) | (with_reducible refine w_gtI ?_) | (with_reducible refine w_geI ?_) | (with_reducible refine w_eqI ?_) | (with_reducible refine w_neI ?_) | (with_reducible refine w_negI ?_) | (with_reducible refine w_maxI ?_) | (with_reducible refine w_minI ?_) | (with_reducible refine w_lenT ?_) | (with_reducible refine w_slT ?_) | (with_reducible refine w_sseq ?_) | (with_reducible refine w_senum ?_) | (with_reducible refine w_szip ?_) | (with_reducible refine w_eqB ?_) | (with_reducible refine w_neB ?_))
local macro_rules | `(tactic| walk_at "ex3") => `(tactic| first | ((with_reducible apply w_var); (focus exact rfl)) | ((with_reducible apply w_aug); (focus exact rfl)) | ((with_reducible apply w_thaw); (focus exact rfl); (focus with_reducible assumption)) | ((with_reducible apply w_idxZ); (focus exact rfl); (focus with_reducible assumption)) | ((with_reducible apply wr_by); (focus with_reducible assumption)) | ((with_reducible apply w_via); (focus exact rfl)) | ((with_reducible apply w_mkTup); (focus exact Nat.le_of_ble_eq_true rfl)) | ((with_reducible apply w_mkLst); (focus exact Nat.le_of_ble_eq_true rfl)) | ((with_reducible apply w_ix); (focus exact rfl); (focus exact rfl)) | ((with_reducible apply w_lenL); (focus with_reducible assumption)) | ((with_reducible apply w_lenL); (focus with_reducible exact get_end)) | ((with_reducible apply w_isl); (focus with_reducible assumption)) | ((with_reducible apply w_append); (focus with_reducible assumption); (focus with_reducible assumption)) | ((with_reducible apply w_slL); (focus with_reducible assumption)) | ((with_reducible apply w_enumL); (focus with_reducible assumption)) | ((with_reducible apply w_tupL); (focus with_reducible assumption)) | ((with_reducible apply w_sdyn); (focus with_reducible assumption)) | ((with_reducible apply w_isi); (focus exact rfl)) | ((with_reducible apply w_isi2); (focus exact rfl)) | ((with_reducible apply w_eqS); (focus decide +kernel); (focus decide +kernel)) | ((with_reducible apply cond_af); (focus exact rfl)) | ((with_reducible apply cond_at); (focus exact rfl)) | ((with_reducible apply cond_af); (focus decide +kernel)) | ((with_reducible apply cond_at); (focus decide +kernel)))
local macro_rules | `(tactic| walk_at "go") => `(tactic| repeat (first | walk_at "ex1" | walk_at "ex2" | walk_at "ex3"))
section
variable {ws rs rs2 : List D} {T : Sto}
theorem beg_ne (Dr : DrawOk ws rs) : 0 < (begD ws).length := by
  have key : ∀ (us : List D) (f : List (List D)), (∀ w ∈ us, ∃ m : Nat, w = .int m ∧ 2 ≤ m ∧ m ≤ 4) → f ≠ [] → us.foldl begF f ≠ [] := by
    intro us
    induction us with
    | nil => intro f _ h; exact h
    | cons u us ih =>
      intro f hu hf
      rw [List.foldl_cons]
      refine ih _ (fun w hw => hu w (List.mem_cons_of_mem _ hw)) ?_
      obtain ⟨m, rfl, h2, _⟩ := hu u List.mem_cons_self
      cases f with
      | nil => exact absurd rfl hf
      | cons v f =>
        intro h
        unfold begF at h
        rw [List.flatMap_cons] at h
        have := (List.append_eq_nil_iff.mp h).1
        rw [List.map_eq_nil_iff, List.range_eq_nil] at this
        simp only [wI] at this
        omega
  unfold begD begL
  rw [List.length_map]
  exact List.length_pos_iff.mpr (key ws [[]] Dr.wh.w (by simp))
end

end Hd
set_option Elab.async false
set_option linter.all false
set_option maxRecDepth 100000
set_option maxHeartbeats 1000000
namespace Hd
open PySem U
local macro_rules | `(tactic| walk_at "ex1") => `(tactic| first | (with_reducible refine w_seq ?_) | (with_reducible refine w_set ?_) | (with_reducible refine w_ret ?_) | (with_reducible refine w_sif ?_) | (with_reducible refine w_asg2 ?_) | (with_reducible refine w_asg3 ?_) | (with_reducible refine w_asg4 ?_) | (with_reducible refine w_ex2 ?_) | (with_reducible refine w_ex3 ?_) | (with_reducible refine w_ex4 ?_) | (with_reducible refine w_par ?_) | (with_reducible refine w_par3 ?_) | (with_reducible refine w_expr ?_) | (with_reducible refine w_for ?_) | (with_reducible refine w_skip ?_) | (with_reducible refine w_fn ?_) | (with_reducible refine w_acons ?_) | (with_reducible refine w_anil ?_) | (with_reducible refine w_aapp ?_) | (with_reducible refine w_bin ?_) | (with_reducible refine w_un ?_) | (with_reducible refine w_c ?_) | (with_reducible refine w_tof ?_) | (with_reducible refine w_tob ?_) | (with_reducible refine w_tand ?_) | (with_reducible refine w_tor ?_) | (with_reducible refine w_tnot ?_) | (with_reducible refine w_eand ?_) | (with_reducible refine w_eor ?_) | (with_reducible refine w_enot ?_) | (with_reducible refine w_exb ?_) | (with_reducible refine w_exi ?_) | (with_reducible refine w_if ?_) | (with_reducible refine w_slice ?_) | (with_reducible refine w_onone ?_) | (with_reducible refine w_osome ?_) | (with_reducible refine w_lc ?_) | (with_reducible refine w_lc2 ?_) | (with_reducible refine w_mtl ?_) | (with_reducible refine w_iseq ?_) | (with_reducible refine w_irng ?_) | (with_reducible refine w_ienum ?_) | (with_reducible refine w_ibin ?_) | (with_reducible refine w_true ?_) | (with_reducible refine cond_t ?_) | (with_reducible refine cond_f ?_))
local macro_rules | `(tactic| walk_at "ex2") => `(tactic| first | (with_reducible refine w_addI ?_) | (with_reducible refine w_subI ?_) | (with_reducible refine w_ltI ?_) | (with_reducible refine w_leI ?_) | (with_reducible refine w_gtI ?_) | (with_reducible refine w_geI ?_) | (with_reducible refine w_eqI ?_) | (with_reducible refine w_neI ?_) | (with_reducible refine w_negI ?_) | (with_reducible refine w_maxI ?_) | (with_reducible refine w_minI ?_) | (with_reducible refine w_lenT ?_) | (with_reducible refine w_slT ?_) | (with_reducible refine w_sseq ?_) | (with_reducible refine w_senum ?_) | (with_reducible refine w_szip ?_) | (with_reducible refine w_eqB ?_) | (with_reducible refine w_neB ?_))
local macro_rules | `(tactic| walk_at "ex3") => `(tactic| first | ((with_reducible apply w_var); (focus exact rfl)) | ((with_reducible apply w_aug); (focus exact rfl)) | ((with_reducible apply w_thaw); (focus exact rfl); (focus with_reducible assumption)) | ((with_reducible apply w_idxZ); (focus exact rfl); (focus with_reducible assumption)) | ((with_reducible apply wr_by); (focus with_reducible assumption)) | ((with_reducible apply w_via); (focus exact rfl)) | ((with_reducible apply w_mkTup); (focus exact Nat.le_of_ble_eq_true rfl)) | ((with_reducible apply w_mkLst); (focus exact Nat.le_of_ble_eq_true rfl)) | ((with_reducible apply w_ix); (focus exact rfl); (focus exact rfl)) | ((with_reducible apply w_lenL); (focus with_reducible assumption)) | ((with_reducible apply w_lenL); (focus with_reducible exact get_end)) | ((with_reducible apply w_isl); (focus with_reducible assumption)) | ((with_reducible apply w_append); (focus with_reducible assumption); (focus with_reducible assumption)) | ((with_reducible apply w_slL); (focus with_reducible assumption)) | ((with_reducible apply w_enumL); (focus with_reducible assumption)) | ((with_reducible apply w_tupL); (focus with_reducible assumption)) | ((with_reducible apply w_sdyn); (focus with_reducible assumption)) | ((with_reducible apply w_isi); (focus exact rfl)) | ((with_reducible apply w_isi2); (focus exact rfl)) | ((with_reducible apply w_eqS); (focus decide +kernel); (focus decide +kernel)) | ((with_reducible apply cond_af); (focus exact rfl)) | ((with_reducible apply cond_at); (focus exact rfl)) | ((with_reducible apply cond_af); (focus decide +kernel)) | ((with_reducible apply cond_at); (focus decide +kernel)))
local macro_rules | `(tactic| walk_at "go") => `(tactic| repeat (first | walk_at "ex1" | walk_at "ex2" | walk_at "ex3"))
section
variable {ob : Ob} {k : Nat}
theorem dk_ints {st : Sto} {xs : List D} (h : xs.all isI = true) : dk st (.tup xs) = true := dk_of fun x hx => by
  obtain ⟨i, rfl⟩ : ∃ i, x = .int i := ⟨_, isI_eq (List.all_eq_true.mp h x hx)⟩
  rfl
theorem watch_make {T : Sto} {bk : Nat} {ws rs off vs : List D} (Dr : DrawOk ws rs) (hb : T[bk]? = some (bookO ws rs)) (hv : VOk ws vs) (O : OffOk ws rs off) :
    mkIns "Watch" (via [.at 0, .at 1, .at 2, .at 3] m_Watch_init) [.ref bk, .tup vs, .tup off] T = .ok (.ref T.length) (T ++ [watchO bk (.tup [.int 0, .tup [.tup vs, .tup (List.replicate rs.length (.int 0))], .tup off, .tup (List.replicate rs.length (.int 0))]) (.tup [])]) := by
  have n5 := Dr.n5
  have w3 := Dr.wh.l3
  have iw := init_run (T := T) (bk := bk) (vs := vs) (off := off) (bookO_at hb) ⟨hv.ints, ws_ints O.run, by rw [hv.1]; exact Nat.le_trans w3 (by decide), values_ok hv⟩ (by omega) (dk_ints O.run.offI) (Nat.le_trans O.run.offL (by decide)) O.rise
  unfold mkIns via
  show (m_Watch_init [.ref T.length, .ref bk, .tup vs, .tup off] _).bind _ = _
  rw [iw]
  rfl
theorem l2 {st : Sto} {ns : List Int} {e2 e3 e4 e5 e6 e7 e8 e9 e10 e11 e12 e13 e14 e15 e16 e17 e18 e19 e20 e21 : Option D} (hob : ∀ s : Sto, s[0]? = some ob → lstOf s 0 = some (ns.map D.int)) (hn : ns.length ≤ 63) (hk : k < 4) (h0 : st[0]? = some ob) :
    WS (b_law_2 [some (.ref 0), some (.int (k : Int)), e2, e3, e4, e5, e6, e7, e8, e9, e10, e11, e12, e13, e14, e15, e16, e17, e18, e19, e20, e21] st) (fun e s => s[0]? = some ob ∧ e.length = 22 ∧ e[0]? = some (some (.ref 0))) (fun _ _ => False) (fun _ _ => False) (fun _ _ => False) := by
  unfold b_law_2
  obtain ⟨S0, q0, H0⟩ := bag_s (k := k) hob hn (by omega) h0
  obtain ⟨ws, rs, S1, q1, H1, Dr⟩ := drawn_s H0 (by omega)
  obtain ⟨S2, q2, H2⟩ := book_s H1 Dr
  obtain ⟨nl, ex3, q3, g3, hle⟩ := lstarts_run (T := S2) Dr
  have nB : nl ≠ st.length := fun e => by have := H2.bag.lt; omega
  have H3 := (H2.app (ex := ex3)).add g3 nB
  obtain ⟨off, S4, q4, H4, O⟩ := off_s H3 Dr (by omega)
  have g4 : S4[nl]? = some (.lst (begD ws)) := H4.at List.mem_cons_self
  have few := begD_few Dr
  have hpos := beg_ne Dr
  obtain ⟨v, S5, q5, hv, H5⟩ := take_s H4 (many := ((begD ws).length : Int)) (by omega) (by omega) (by omega)
  obtain ⟨d, hd⟩ : ∃ d, (begD ws)[v]? = some d := ⟨_, List.getElem?_eq_getElem (by omega)⟩
  have hdm := List.mem_of_getElem? hd
  obtain ⟨vs, hde, hvs⟩ := begD_mem Dr hdm
  have hso : SOk ws rs (.tup [.tup vs, .tup (List.replicate rs.length (.int 0))]) := by
    have := begS_ok (rs := rs) Dr hdm
    rw [hde] at this
    exact this
  subst hde
  have g5 : S5[nl]? = some (.lst (begD ws)) := H5.at List.mem_cons_self
  have b5 : S5[S1.length]? = some (bookO ws rs) := H5.at (List.mem_cons_of_mem _ List.mem_cons_self)
  have m1 := watch_make Dr b5 hvs O
  obtain ⟨wO, hwO⟩ : ∃ o, o = watchO S1.length (.tup [.int 0, .tup [.tup vs, .tup (List.replicate rs.length (.int 0))], .tup off, .tup (List.replicate rs.length (.int 0))]) (.tup []) := ⟨_, rfl⟩
  have H6 := H5.tail.new wO
  have m2 := watch_make Dr (get0 (ex := [wO]) b5) hvs O
  rw [← hwO] at m1 m2
  have H7 := H6.new wO
  walk_at "go"
  refine w_ix (seq_lst g5) (atI_nat hd) ?_
  walk_at "go"
  refine wr_by m1 ?_
  walk_at "go"
  refine wr_by m2 ?_
  walk_at "go"
  refine w_rng (n := 6) rfl (by decide) ?_
  have hpos : 0 < st.length := (List.getElem?_eq_some_iff.mp h0).1
  have lb := (List.getElem?_eq_some_iff.mp b5).1
  have l0 : 0 < S5.length := by omega
  have hl2 : (S5 ++ [wO]).length = S5.length + 1 := by simp
  have H8 : Stg st.length [(S5.length, wO), ((S5 ++ [wO]).length, wO), (S1.length, bookO ws rs), (0, ob)] (S5 ++ [wO] ++ [wO]) (400 + 20 * ((0 : Nat) : Int)) := (H7.mono (by omega)).sub fun p hp => by
    simp only [List.mem_cons, List.not_mem_nil, or_false] at hp ⊢
    rcases hp with h | h | h | h <;> simp [h]
  rw [hwO] at H8
  have W0 : Twin st.length S1.length S5.length (S5 ++ [wO]).length ob ws rs (5 * 0) (S5 ++ [wO] ++ [wO]) (400 + 20 * ((0 : Nat) : Int)) 0 (.tup [.tup vs, .tup (List.replicate rs.length (.int 0))]) off (List.replicate rs.length (.int 0)) [] [] := by
    rw [hwO]
    refine ⟨H8, ?_, ?_, ?_, ?_, ?_, hso, O, List.all_eq_true.mpr fun x hx => by rw [(List.mem_replicate.mp hx).2]; rfl, by simp, Nat.zero_le _, Nat.zero_le _⟩
    all_goals (try rw [← hwO]); omega
  refine w_loopF (fun i e t => (∃ x4 y12 y13 y14 y15 y16 y17 y18 y19 y20 y21, e = EW k st.length ws rs S1.length S5.length (S5 ++ [wO]).length (some (.tup vs)) x4 (some (.ref nl)) (some (.tup off)) y12 y13 y14 y15 y16 y17 y18 y19 y20 y21) ∧ ∃ n s off cs p1 p2, Twin st.length S1.length S5.length (S5 ++ [wO]).length ob ws rs (5 * i) t (400 + 20 * (i : Int)) n s off cs p1 p2)
    ⟨⟨_, _, _, _, _, _, _, _, _, _, _, rfl⟩, _, _, _, _, _, _, W0⟩ (fun i x e t hx ⟨⟨x4, y12, y13, y14, y15, y16, y17, y18, y19, y20, y21, he⟩, n, s, off', cs, p1, p2, W⟩ => ?_) (fun e t ⟨⟨x4, y12, y13, y14, y15, y16, y17, y18, y19, y20, y21, he⟩, n, s, off', cs, p1, p2, W⟩ => ?_)
  · subst he
    obtain ⟨hi, rfl⟩ := rngL_get hx
    refine ⟨_, _, rfl, ?_⟩
    refine ws_imp (one_turn (k := k) (x3 := some (.tup vs)) (x4 := some (.int (i : Int))) (x8 := some (.ref nl)) (x9 := some (.tup off)) (x12 := y12) (x13 := y13) (x14 := y14) (x15 := y15) (x16 := y16) (x17 := y17) (x18 := y18) (x19 := y19) (x20 := y20) (x21 := y21) W Dr (by omega) (by omega)) (fun e t ⟨⟨a12, a13, a14, a15, a16, a17, a18, a19, a20, a21, he⟩, n, s, off2, cs2, q1, q2, W2⟩ => ?_) (fun _ _ h => h.elim) (fun _ _ h => h.elim) (fun _ _ h => h.elim)
    subst he
    exact ⟨⟨_, _, _, _, _, _, _, _, _, _, _, rfl⟩, n, s, off2, cs2, q1, q2, by have := W2.drew (W2.st.mono (show (400 + 20 * (i : Int)) + 20 ≤ 400 + 20 * ((i + 1 : Nat) : Int) by omega)); exact this⟩
  · subst he
    exact ⟨W.st.at (by simp), rfl, rfl⟩
end
end Hd
set_option Elab.async false
set_option linter.all false
set_option maxRecDepth 100000
set_option maxHeartbeats 0
open PySem PySem.W PySem.Calls PyProof.Rows
abbrev Hd.rw : PySem.W.OpenLaw := PySem.Challenge.rw_hushrules_k69_whole_watch_far_on