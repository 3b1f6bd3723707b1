import PyProof.Rows.All
import Wide.All
import OpenK.AllK
import Wide.FinOn
import KE.KStateDown
import Lean
import HandS.ForMost
import HandS.ForExc
import HandS.More
import HandS.Flow
import HandS.IsInst
import HandS.Conv
import HandS.TupMul
import HandS.Zip
import HandS.TupLen
import HandS.TupAny
import HandS.TupSets
import HandS.Defaults
import HandS.FStr
import HandS.Wide
import HandS.Lambda
import HandS.TryMany
import HandS.ExcInit
import HandS.ExcField
import HandS.Head0
import HandS.Head1
import HandS.Head2
import HandS.HeadEnd
import HandS.HeadHook1
import HandS.HeadHook2
import HandS.HeadHook4
import KE.KDictKeyed
import KE.KDictWalk
import KE.KDictCopyH
import KE.KDictList
import KE.GoesMore
import HandS.Deep
import HandS.SortInts
import HandS.ExcValue
import PyProof.TupleOfSeq
import HandS.Style
import HandS.SortKw
import KE.DatumOrd
import KE.SortData
import KE.KDictSum
import HandS.Strs
import HandS.SetFor
import HandS.DictComp
import KE.KDictPairs
import HandS.NamedTupGet
import PyProof.ReprRoads
import PyProof.ReprLen
import KE.GoesEnum
import KE.KIndexWalk
import HandS.TryOnly
import HandS.MakeKwOnly
import PyProof.Rows.IntBool
import HandS.ExcOwn
import KE.KExcIs
import HandS.HotCalls
import HandS.HeadWalk
import HandS.MakeKw
import HandS.Text
import HandS.RaiseMore
import PyProof.Rows.Range3
import HandS.OwnEq
import PyProof.InstEq
import KE.KDflt
import PyProof.EqKinds
import HandS.DictSub
import PySem.Challenge.RW_hushrules_k03_books_alike
set_option Elab.async false
set_option linter.all false
set_option maxRecDepth 100000
namespace U
open PySem PySem.Spec PySem.Calls PyProof.Rows PyProof.V L2
def isiCB (C : Addr) (K : PySem.W.Frag) : Bool :=
  decide (PySem.W.findIn K (.ref C) "__class__" = some (some (.builtin "object.__class__"))) && (decide (PySem.W.specialIn K (.builtin "object.__class__") "__get__" = some (some (.builtin "getset_descriptor.__get__"))) &&
    (decide (PySem.W.takesIn K (.builtin "object.__class__") = some true) && (decide (PySem.W.mroIn K C (.type "object") = some true) && ["int", "bool", "str", "tuple", "list"].all fun T => decide (PySem.W.kitOne K (.ref C) (.type T) = some false))))
def kinds : List String := ["NoneType", "bool", "int", "str", "tuple", "list"]
def etupB (a : PySem.W.Frag → Addr) (K : PySem.W.Frag) : Bool := match K.lookup (a K) with
  | some ⟨.type c, _, .seq its _, _⟩ => decide (c = "tuple") && decide (its.toList = [])
  | _ => false
def exOk (xs : List (PySem.W.Frag → Bool)) (K : PySem.W.Frag) : Bool := xs.all fun f => f K
theorem exOk_at {xs : List (PySem.W.Frag → Bool)} {K : PySem.W.Frag} (h : exOk xs K = true) (i : Nat) {f : PySem.W.Frag → Bool} (e : xs[i]? = some f) : f K = true := List.all_eq_true.mp h f (List.mem_of_getElem? e)
def rscB (c : Str) (K : PySem.W.Frag) : Bool :=
  PySem.W.excIn K (He.ga K c) [.type "ValueError", .type "Exception", .type "BaseException", .type "object"] "ValueError.__new__" &&
    (PySem.W.keepIn K (.ref (He.ga K c)) && (decide (PySem.W.subIn K (.ref (He.ga K c)) (.type "BaseException") = some true) && decide (PySem.W.typeIn K (.ref (He.ga K c)) = some (.type "type"))))
def fieldsOf (c : Str) : List Str := match ([("NoBook", "at"), ("NoSeen", "at"), ("NoText", "at"), ("NoRule", "rule"), ("NoWheel", "wheel"), ("NoPlace", "place"), ("NoBeat", "beats")] : List (Str × Str)).lookup c with
  | some x => [x]
  | none => []
def neB (c : Str) (K : PySem.W.Frag) : Bool := decide (PySem.W.findIn K (.ref (He.ga K c)) "__ne__" = some (some (.builtin "object.__ne__"))) && decide (PySem.W.mroIn K (He.ga K c) (.type "object") = some true)
def noB (c : Str) (K : PySem.W.Frag) : Bool := kinds.all fun q => decide (PySem.W.kitOne K (.type q) (.ref (He.ga K c)) = some false)
def subB (c : Str) (K : PySem.W.Frag) : Bool := kinds.all fun q => decide (PySem.W.subIn K (.ref (He.ga K c)) (.type q) = some false)
def boolB (c : Str) (K : PySem.W.Frag) : Bool := decide (PySem.W.findIn K (.ref (He.ga K c)) "__bool__" = some none)
end U
set_option Elab.async false
set_option linter.all false
set_option maxRecDepth 100000
set_option maxHeartbeats 0
namespace Hd
open PySem PySem.Spec PyProof.Rows L2
def top (i : Nat) : Stmt := PySem.Challenge.pw_hushrules_k03_books_alike.main.body.getD i (.Pass ⟨0, 0, 0, 0⟩)
def topM (i j : Nat) : Stmt := inClass (top i) j
def d_is_whole : He.DefD := ⟨("is_whole", none), "is_whole", "is_whole", defArgs (top 8), defBody (top 8), defScope (top 8), [], []⟩
def d_is_within : He.DefD := ⟨("is_within", none), "is_within", "is_within", defArgs (top 9), defBody (top 9), defScope (top 9), [], []⟩
def d_is_below : He.DefD := ⟨("is_below", none), "is_below", "is_below", defArgs (top 10), defBody (top 10), defScope (top 10), [], []⟩
def d_is_rising : He.DefD := ⟨("is_rising", none), "is_rising", "is_rising", defArgs (top 11), defBody (top 11), defScope (top 11), [], []⟩
def d_is_wheels : He.DefD := ⟨("is_wheels", none), "is_wheels", "is_wheels", defArgs (top 12), defBody (top 12), defScope (top 12), [], []⟩
def d_Book_init : He.DefD := ⟨("Book", some "__init__"), "__init__", "Book.__init__", defArgs (topM 21 0), defBody (topM 21 0), defScope (topM 21 0), [.adr (He.dflAt ("Book", some "__init__") 0)], []⟩
def d_Book_eq : He.DefD := ⟨("Book", some "__eq__"), "__eq__", "Book.__eq__", defArgs (topM 21 1), defBody (topM 21 1), defScope (topM 21 1), [], []⟩
def d_Book_len : He.DefD := ⟨("Book", some "__len__"), "__len__", "Book.__len__", defArgs (topM 21 2), defBody (topM 21 2), defScope (topM 21 2), [], []⟩
def d_Book_repr : He.DefD := ⟨("Book", some "__repr__"), "__repr__", "Book.__repr__", defArgs (topM 21 3), defBody (topM 21 3), defScope (topM 21 3), [], []⟩
def d_Book_str : He.DefD := ⟨("Book", some "__str__"), "__str__", "Book.__str__", defArgs (topM 21 4), defBody (topM 21 4), defScope (topM 21 4), [], []⟩
def d_is_row : He.DefD := ⟨("is_row", none), "is_row", "is_row", defArgs (top 22), defBody (top 22), defScope (top 22), [], []⟩
def d_is_rule : He.DefD := ⟨("is_rule", none), "is_rule", "is_rule", defArgs (top 23), defBody (top 23), defScope (top 23), [], []⟩
def d_is_condition : He.DefD := ⟨("is_condition", none), "is_condition", "is_condition", defArgs (top 24), defBody (top 24), defScope (top 24), [], []⟩
def d_is_moment : He.DefD := ⟨("is_moment", none), "is_moment", "is_moment", defArgs (top 25), defBody (top 25), defScope (top 25), [], []⟩
def d_is_change : He.DefD := ⟨("is_change", none), "is_change", "is_change", defArgs (top 26), defBody (top 26), defScope (top 26), [], []⟩
def d_is_spot : He.DefD := ⟨("is_spot", none), "is_spot", "is_spot", defArgs (top 27), defBody (top 27), defScope (top 27), [], []⟩
def d_is_hushes : He.DefD := ⟨("is_hushes", none), "is_hushes", "is_hushes", defArgs (top 28), defBody (top 28), defScope (top 28), [], []⟩
def d_is_hush : He.DefD := ⟨("is_hush", none), "is_hush", "is_hush", defArgs (top 29), defBody (top 29), defScope (top 29), [], []⟩
def d_is_wakes : He.DefD := ⟨("is_wakes", none), "is_wakes", "is_wakes", defArgs (top 30), defBody (top 30), defScope (top 30), [], []⟩
def d_book_lines : He.DefD := ⟨("book_lines", none), "book_lines", "book_lines", defArgs (top 31), defBody (top 31), defScope (top 31), [], []⟩
def d_rule_line : He.DefD := ⟨("rule_line", none), "rule_line", "rule_line", defArgs (top 32), defBody (top 32), defScope (top 32), [], []⟩
def d_spaced : He.DefD := ⟨("spaced", none), "spaced", "spaced", defArgs (top 33), defBody (top 33), defScope (top 33), [], []⟩
def d__law_bag : He.DefD := ⟨("_law_bag", none), "_law_bag", "_law_bag", defArgs (top 35), defBody (top 35), defScope (top 35), [], []⟩
def d__law_take : He.DefD := ⟨("_law_take", none), "_law_take", "_law_take", defArgs (top 36), defBody (top 36), defScope (top 36), [], []⟩
def d__law_wheels : He.DefD := ⟨("_law_wheels", none), "_law_wheels", "_law_wheels", defArgs (top 37), defBody (top 37), defScope (top 37), [], []⟩
def d__law_condition : He.DefD := ⟨("_law_condition", none), "_law_condition", "_law_condition", defArgs (top 38), defBody (top 38), defScope (top 38), [], []⟩
def d__law_change : He.DefD := ⟨("_law_change", none), "_law_change", "_law_change", defArgs (top 39), defBody (top 39), defScope (top 39), [], []⟩
def d__law_rule : He.DefD := ⟨("_law_rule", none), "_law_rule", "_law_rule", defArgs (top 40), defBody (top 40), defScope (top 40), [], []⟩
def d__law_rules : He.DefD := ⟨("_law_rules", none), "_law_rules", "_law_rules", defArgs (top 41), defBody (top 41), defScope (top 41), [], []⟩
def d__law_drawn : He.DefD := ⟨("_law_drawn", none), "_law_drawn", "_law_drawn", defArgs (top 42), defBody (top 42), defScope (top 42), [], []⟩
def d__law_near : He.DefD := ⟨("_law_near", none), "_law_near", "_law_near", defArgs (top 43), defBody (top 43), defScope (top 43), [], []⟩
def d_law : He.DefD := ⟨("law", none), "law", "law", defArgs (top 44), defBody (top 44), defScope (top 44), [], []⟩
def fn0 : List He.DefD := [d_is_whole, d_is_within, d_is_below, d_is_rising, d_is_wheels, d_Book_init, d_Book_eq, d_Book_len, d_Book_repr, d_Book_str, d_is_row, d_is_rule, d_is_condition, d_is_moment, d_is_change, d_is_spot, d_is_hushes, d_is_hush, d_is_wakes, d_book_lines, d_rule_line, d_spaced, d__law_bag, d__law_take, d__law_wheels, d__law_condition, d__law_change, d__law_rule, d__law_rules, d__law_drawn]
def fn1 : List He.DefD := [d__law_near, d_law]
def fn : List He.DefD := fn0 ++ fn1
def fa0 : List He.Fa := [.glo "HushError", .glo "NoBook", .int "MOST_WHEELS" 3, .int "LEAST_PLACES" 2, .int "MOST_PLACES" 4, .int "MOST_VALUES" 24, .glo "is_whole", .glo "is_within", .glo "is_below", .glo "is_rising", .glo "is_wheels", .int "MOST_RULES" 5, .int "MOST_CONDITIONS" 4, .int "MOST_CHANGES" 3, .int "MOST_HUSHES" 5, .int "MOST_WAKES" 5, .int "LEAST_HUSH" 1, .int "LONGEST_HUSH" 3, .glo "Book", .glo "is_row", .glo "is_rule", .glo "is_condition", .glo "is_moment", .glo "is_change", .glo "is_spot", .glo "is_hushes", .glo "is_hush", .glo "is_wakes", .glo "book_lines", .glo "rule_line"]
def fa1 : List He.Fa := [.glo "spaced", .glo "_law_bag", .glo "_law_take", .glo "_law_wheels", .glo "_law_condition", .glo "_law_change", .glo "_law_rule", .glo "_law_rules", .glo "_law_drawn", .glo "_law_near", .glo "law", .free "ValueError", .free "abs", .free "all", .free "any", .free "bool", .free "enumerate", .free "int", .free "isinstance", .free "len", .free "max", .free "min", .free "range", .free "repr", .free "str", .free "tuple", .free "zip", .cls "Book", .noat "Book" "wheels", .noat "Book" "rules"]
def fa2 : List He.Fa := [.meth "Book" "__repr__", .meth "Book" "__str__", .meth "Book" "__eq__", .meth "Book" "__len__", .mkr "Book"]
def fa : List He.Fa := fa0 ++ fa1 ++ fa2
def loose0 : List PySem.Str := ["HushError", "NoBook", "MOST_WHEELS", "LEAST_PLACES", "MOST_PLACES", "MOST_VALUES", "is_whole", "is_within", "is_below", "is_rising", "is_wheels", "MOST_RULES", "MOST_CONDITIONS", "MOST_CHANGES", "MOST_HUSHES", "MOST_WAKES", "LEAST_HUSH", "LONGEST_HUSH", "Book", "is_row", "is_rule", "is_condition", "is_moment", "is_change", "is_spot", "is_hushes", "is_hush", "is_wakes", "book_lines", "rule_line"]
def loose1 : List PySem.Str := ["spaced", "_law_bag", "_law_take", "_law_wheels", "_law_condition", "_law_change", "_law_rule", "_law_rules", "_law_drawn", "_law_near"]
def loose : List PySem.Str := loose0 ++ loose1
structure Txt (K : PySem.W.Frag) (mg : Str → Option Value) : Prop where
  g_HushError : mg "HushError" = some (.ref (He.ga K "HushError"))
  g_NoBook : mg "NoBook" = some (.ref (He.ga K "NoBook"))
  i_MOST_WHEELS : ∃ t, mg "MOST_WHEELS" = some (.int 3 t)
  i_LEAST_PLACES : ∃ t, mg "LEAST_PLACES" = some (.int 2 t)
  i_MOST_PLACES : ∃ t, mg "MOST_PLACES" = some (.int 4 t)
  i_MOST_VALUES : ∃ t, mg "MOST_VALUES" = some (.int 24 t)
  g_is_whole : mg "is_whole" = some (.ref (He.ga K "is_whole"))
  g_is_within : mg "is_within" = some (.ref (He.ga K "is_within"))
  g_is_below : mg "is_below" = some (.ref (He.ga K "is_below"))
  g_is_rising : mg "is_rising" = some (.ref (He.ga K "is_rising"))
  g_is_wheels : mg "is_wheels" = some (.ref (He.ga K "is_wheels"))
  i_MOST_RULES : ∃ t, mg "MOST_RULES" = some (.int 5 t)
  i_MOST_CONDITIONS : ∃ t, mg "MOST_CONDITIONS" = some (.int 4 t)
  i_MOST_CHANGES : ∃ t, mg "MOST_CHANGES" = some (.int 3 t)
  i_MOST_HUSHES : ∃ t, mg "MOST_HUSHES" = some (.int 5 t)
  i_MOST_WAKES : ∃ t, mg "MOST_WAKES" = some (.int 5 t)
  i_LEAST_HUSH : ∃ t, mg "LEAST_HUSH" = some (.int 1 t)
  i_LONGEST_HUSH : ∃ t, mg "LONGEST_HUSH" = some (.int 3 t)
  g_Book : mg "Book" = some (.ref (He.ga K "Book"))
  g_is_row : mg "is_row" = some (.ref (He.ga K "is_row"))
  g_is_rule : mg "is_rule" = some (.ref (He.ga K "is_rule"))
  g_is_condition : mg "is_condition" = some (.ref (He.ga K "is_condition"))
  g_is_moment : mg "is_moment" = some (.ref (He.ga K "is_moment"))
  g_is_change : mg "is_change" = some (.ref (He.ga K "is_change"))
  g_is_spot : mg "is_spot" = some (.ref (He.ga K "is_spot"))
  g_is_hushes : mg "is_hushes" = some (.ref (He.ga K "is_hushes"))
  g_is_hush : mg "is_hush" = some (.ref (He.ga K "is_hush"))
  g_is_wakes : mg "is_wakes" = some (.ref (He.ga K "is_wakes"))
  g_book_lines : mg "book_lines" = some (.ref (He.ga K "book_lines"))
  g_rule_line : mg "rule_line" = some (.ref (He.ga K "rule_line"))
  g_spaced : mg "spaced" = some (.ref (He.ga K "spaced"))
  g__law_bag : mg "_law_bag" = some (.ref (He.ga K "_law_bag"))
  g__law_take : mg "_law_take" = some (.ref (He.ga K "_law_take"))
  g__law_wheels : mg "_law_wheels" = some (.ref (He.ga K "_law_wheels"))
  g__law_condition : mg "_law_condition" = some (.ref (He.ga K "_law_condition"))
  g__law_change : mg "_law_change" = some (.ref (He.ga K "_law_change"))
  g__law_rule : mg "_law_rule" = some (.ref (He.ga K "_law_rule"))
  g__law_rules : mg "_law_rules" = some (.ref (He.ga K "_law_rules"))
  g__law_drawn : mg "_law_drawn" = some (.ref (He.ga K "_law_drawn"))
  g__law_near : mg "_law_near" = some (.ref (He.ga K "_law_near"))
  g_law : mg "law" = some (.ref (He.ga K "law"))
  b_ValueError : mg "ValueError" = none
  b_abs : mg "abs" = none
  b_all : mg "all" = none
  b_any : mg "any" = none
  b_bool : mg "bool" = none
  b_enumerate : mg "enumerate" = none
  b_int : mg "int" = none
  b_isinstance : mg "isinstance" = none
  b_len : mg "len" = none
  b_max : mg "max" = none
  b_min : mg "min" = none
  b_range : mg "range" = none
  b_repr : mg "repr" = none
  b_str : mg "str" = none
  b_tuple : mg "tuple" = none
  b_zip : mg "zip" = none
  c_Book : Cls K (He.ga K "Book")
  n_Book_wheels : NoAttr K (He.ga K "Book") "wheels"
  n_Book_rules : NoAttr K (He.ga K "Book") "rules"
  h_Book_repr : Meth K (He.ga K "Book") "__repr__" (He.ma K (He.ga K "Book") "__repr__")
  h_Book_str : Meth K (He.ga K "Book") "__str__" (He.ma K (He.ga K "Book") "__str__")
  h_Book_eq : Meth K (He.ga K "Book") "__eq__" (He.ma K (He.ga K "Book") "__eq__")
  h_Book_len : Meth K (He.ga K "Book") "__len__" (He.ma K (He.ga K "Book") "__len__")
  k_Book : Mk K (He.ga K "Book") (He.ma K (He.ga K "Book") "__init__")
  x_Book_init_rules : U.etupB (He.dflAt ("Book", some "__init__") 0) K = true
  o_Book : U.isiCB (He.ga K "Book") K = true
  f_is_whole : ∃ fd, FunD K "is_whole" "is_whole" (defArgs (top 8)) (defBody (top 8)) (defScope (top 8)) (d_is_whole.dvs K) (d_is_whole.kws K) (He.fAd K ("is_whole", none)) fd
  f_is_within : ∃ fd, FunD K "is_within" "is_within" (defArgs (top 9)) (defBody (top 9)) (defScope (top 9)) (d_is_within.dvs K) (d_is_within.kws K) (He.fAd K ("is_within", none)) fd
  f_is_below : ∃ fd, FunD K "is_below" "is_below" (defArgs (top 10)) (defBody (top 10)) (defScope (top 10)) (d_is_below.dvs K) (d_is_below.kws K) (He.fAd K ("is_below", none)) fd
  f_is_rising : ∃ fd, FunD K "is_rising" "is_rising" (defArgs (top 11)) (defBody (top 11)) (defScope (top 11)) (d_is_rising.dvs K) (d_is_rising.kws K) (He.fAd K ("is_rising", none)) fd
  f_is_wheels : ∃ fd, FunD K "is_wheels" "is_wheels" (defArgs (top 12)) (defBody (top 12)) (defScope (top 12)) (d_is_wheels.dvs K) (d_is_wheels.kws K) (He.fAd K ("is_wheels", none)) fd
  f_Book_init : ∃ fd, FunD K "__init__" "Book.__init__" (defArgs (topM 21 0)) (defBody (topM 21 0)) (defScope (topM 21 0)) (d_Book_init.dvs K) (d_Book_init.kws K) (He.fAd K ("Book", some "__init__")) fd
  f_Book_eq : ∃ fd, FunD K "__eq__" "Book.__eq__" (defArgs (topM 21 1)) (defBody (topM 21 1)) (defScope (topM 21 1)) (d_Book_eq.dvs K) (d_Book_eq.kws K) (He.fAd K ("Book", some "__eq__")) fd
  f_Book_len : ∃ fd, FunD K "__len__" "Book.__len__" (defArgs (topM 21 2)) (defBody (topM 21 2)) (defScope (topM 21 2)) (d_Book_len.dvs K) (d_Book_len.kws K) (He.fAd K ("Book", some "__len__")) fd
  f_Book_repr : ∃ fd, FunD K "__repr__" "Book.__repr__" (defArgs (topM 21 3)) (defBody (topM 21 3)) (defScope (topM 21 3)) (d_Book_repr.dvs K) (d_Book_repr.kws K) (He.fAd K ("Book", some "__repr__")) fd
  f_Book_str : ∃ fd, FunD K "__str__" "Book.__str__" (defArgs (topM 21 4)) (defBody (topM 21 4)) (defScope (topM 21 4)) (d_Book_str.dvs K) (d_Book_str.kws K) (He.fAd K ("Book", some "__str__")) fd
  f_is_row : ∃ fd, FunD K "is_row" "is_row" (defArgs (top 22)) (defBody (top 22)) (defScope (top 22)) (d_is_row.dvs K) (d_is_row.kws K) (He.fAd K ("is_row", none)) fd
  f_is_rule : ∃ fd, FunD K "is_rule" "is_rule" (defArgs (top 23)) (defBody (top 23)) (defScope (top 23)) (d_is_rule.dvs K) (d_is_rule.kws K) (He.fAd K ("is_rule", none)) fd
  f_is_condition : ∃ fd, FunD K "is_condition" "is_condition" (defArgs (top 24)) (defBody (top 24)) (defScope (top 24)) (d_is_condition.dvs K) (d_is_condition.kws K) (He.fAd K ("is_condition", none)) fd
  f_is_moment : ∃ fd, FunD K "is_moment" "is_moment" (defArgs (top 25)) (defBody (top 25)) (defScope (top 25)) (d_is_moment.dvs K) (d_is_moment.kws K) (He.fAd K ("is_moment", none)) fd
  f_is_change : ∃ fd, FunD K "is_change" "is_change" (defArgs (top 26)) (defBody (top 26)) (defScope (top 26)) (d_is_change.dvs K) (d_is_change.kws K) (He.fAd K ("is_change", none)) fd
  f_is_spot : ∃ fd, FunD K "is_spot" "is_spot" (defArgs (top 27)) (defBody (top 27)) (defScope (top 27)) (d_is_spot.dvs K) (d_is_spot.kws K) (He.fAd K ("is_spot", none)) fd
  f_is_hushes : ∃ fd, FunD K "is_hushes" "is_hushes" (defArgs (top 28)) (defBody (top 28)) (defScope (top 28)) (d_is_hushes.dvs K) (d_is_hushes.kws K) (He.fAd K ("is_hushes", none)) fd
  f_is_hush : ∃ fd, FunD K "is_hush" "is_hush" (defArgs (top 29)) (defBody (top 29)) (defScope (top 29)) (d_is_hush.dvs K) (d_is_hush.kws K) (He.fAd K ("is_hush", none)) fd
  f_is_wakes : ∃ fd, FunD K "is_wakes" "is_wakes" (defArgs (top 30)) (defBody (top 30)) (defScope (top 30)) (d_is_wakes.dvs K) (d_is_wakes.kws K) (He.fAd K ("is_wakes", none)) fd
  f_book_lines : ∃ fd, FunD K "book_lines" "book_lines" (defArgs (top 31)) (defBody (top 31)) (defScope (top 31)) (d_book_lines.dvs K) (d_book_lines.kws K) (He.fAd K ("book_lines", none)) fd
  f_rule_line : ∃ fd, FunD K "rule_line" "rule_line" (defArgs (top 32)) (defBody (top 32)) (defScope (top 32)) (d_rule_line.dvs K) (d_rule_line.kws K) (He.fAd K ("rule_line", none)) fd
  f_spaced : ∃ fd, FunD K "spaced" "spaced" (defArgs (top 33)) (defBody (top 33)) (defScope (top 33)) (d_spaced.dvs K) (d_spaced.kws K) (He.fAd K ("spaced", none)) fd
  f__law_bag : ∃ fd, FunD K "_law_bag" "_law_bag" (defArgs (top 35)) (defBody (top 35)) (defScope (top 35)) (d__law_bag.dvs K) (d__law_bag.kws K) (He.fAd K ("_law_bag", none)) fd
  f__law_take : ∃ fd, FunD K "_law_take" "_law_take" (defArgs (top 36)) (defBody (top 36)) (defScope (top 36)) (d__law_take.dvs K) (d__law_take.kws K) (He.fAd K ("_law_take", none)) fd
  f__law_wheels : ∃ fd, FunD K "_law_wheels" "_law_wheels" (defArgs (top 37)) (defBody (top 37)) (defScope (top 37)) (d__law_wheels.dvs K) (d__law_wheels.kws K) (He.fAd K ("_law_wheels", none)) fd
  f__law_condition : ∃ fd, FunD K "_law_condition" "_law_condition" (defArgs (top 38)) (defBody (top 38)) (defScope (top 38)) (d__law_condition.dvs K) (d__law_condition.kws K) (He.fAd K ("_law_condition", none)) fd
  f__law_change : ∃ fd, FunD K "_law_change" "_law_change" (defArgs (top 39)) (defBody (top 39)) (defScope (top 39)) (d__law_change.dvs K) (d__law_change.kws K) (He.fAd K ("_law_change", none)) fd
  f__law_rule : ∃ fd, FunD K "_law_rule" "_law_rule" (defArgs (top 40)) (defBody (top 40)) (defScope (top 40)) (d__law_rule.dvs K) (d__law_rule.kws K) (He.fAd K ("_law_rule", none)) fd
  f__law_rules : ∃ fd, FunD K "_law_rules" "_law_rules" (defArgs (top 41)) (defBody (top 41)) (defScope (top 41)) (d__law_rules.dvs K) (d__law_rules.kws K) (He.fAd K ("_law_rules", none)) fd
  f__law_drawn : ∃ fd, FunD K "_law_drawn" "_law_drawn" (defArgs (top 42)) (defBody (top 42)) (defScope (top 42)) (d__law_drawn.dvs K) (d__law_drawn.kws K) (He.fAd K ("_law_drawn", none)) fd
  f__law_near : ∃ fd, FunD K "_law_near" "_law_near" (defArgs (top 43)) (defBody (top 43)) (defScope (top 43)) (d__law_near.dvs K) (d__law_near.kws K) (He.fAd K ("_law_near", none)) fd
  f_law : ∃ fd, FunD K "law" "law" (defArgs (top 44)) (defBody (top 44)) (defScope (top 44)) (d_law.dvs K) (d_law.kws K) (He.fAd K ("law", none)) fd
  q_Book : U.neB "Book" K = true
  n_Book : U.noB "Book" K = true
  s_Book : U.subB "Book" K = true
  l_Book : U.boolB "Book" K = true
def tf : List He.Defn := []
def exs : List (PySem.W.Frag → Bool) := [U.etupB (He.dflAt ("Book", some "__init__") 0), fun K => U.isiCB (He.ga K "Book") K, U.neB "Book", U.noB "Book", U.subB "Book", U.boolB "Book"]
theorem txt_of {K : PySem.W.Frag} {h : Heap} {w : World} {mg : Str → Option Value} (X : K.In h) (G : h.Ns mainGlobals mg) (c0 : He.SaysX fa fn [] tf (U.exOk exs) w h K) : Txt K mg :=
  have c := c0.t.d
  {
  g_HushError := He.glo_ok X G (c.fact 0 (f := .glo "HushError") rfl)
  g_NoBook := He.glo_ok X G (c.fact 1 (f := .glo "NoBook") rfl)
  i_MOST_WHEELS := He.int_ok X G (c.fact 2 (f := .int "MOST_WHEELS" 3) rfl)
  i_LEAST_PLACES := He.int_ok X G (c.fact 3 (f := .int "LEAST_PLACES" 2) rfl)
  i_MOST_PLACES := He.int_ok X G (c.fact 4 (f := .int "MOST_PLACES" 4) rfl)
  i_MOST_VALUES := He.int_ok X G (c.fact 5 (f := .int "MOST_VALUES" 24) rfl)
  g_is_whole := He.glo_ok X G (c.fact 6 (f := .glo "is_whole") rfl)
  g_is_within := He.glo_ok X G (c.fact 7 (f := .glo "is_within") rfl)
  g_is_below := He.glo_ok X G (c.fact 8 (f := .glo "is_below") rfl)
  g_is_rising := He.glo_ok X G (c.fact 9 (f := .glo "is_rising") rfl)
  g_is_wheels := He.glo_ok X G (c.fact 10 (f := .glo "is_wheels") rfl)
  i_MOST_RULES := He.int_ok X G (c.fact 11 (f := .int "MOST_RULES" 5) rfl)
  i_MOST_CONDITIONS := He.int_ok X G (c.fact 12 (f := .int "MOST_CONDITIONS" 4) rfl)
  i_MOST_CHANGES := He.int_ok X G (c.fact 13 (f := .int "MOST_CHANGES" 3) rfl)
  i_MOST_HUSHES := He.int_ok X G (c.fact 14 (f := .int "MOST_HUSHES" 5) rfl)
  i_MOST_WAKES := He.int_ok X G (c.fact 15 (f := .int "MOST_WAKES" 5) rfl)
  i_LEAST_HUSH := He.int_ok X G (c.fact 16 (f := .int "LEAST_HUSH" 1) rfl)
  i_LONGEST_HUSH := He.int_ok X G (c.fact 17 (f := .int "LONGEST_HUSH" 3) rfl)
  g_Book := He.glo_ok X G (c.fact 18 (f := .glo "Book") rfl)
  g_is_row := He.glo_ok X G (c.fact 19 (f := .glo "is_row") rfl)
  g_is_rule := He.glo_ok X G (c.fact 20 (f := .glo "is_rule") rfl)
  g_is_condition := He.glo_ok X G (c.fact 21 (f := .glo "is_condition") rfl)
  g_is_moment := He.glo_ok X G (c.fact 22 (f := .glo "is_moment") rfl)
  g_is_change := He.glo_ok X G (c.fact 23 (f := .glo "is_change") rfl)
  g_is_spot := He.glo_ok X G (c.fact 24 (f := .glo "is_spot") rfl)
  g_is_hushes := He.glo_ok X G (c.fact 25 (f := .glo "is_hushes") rfl)
  g_is_hush := He.glo_ok X G (c.fact 26 (f := .glo "is_hush") rfl)
  g_is_wakes := He.glo_ok X G (c.fact 27 (f := .glo "is_wakes") rfl)
  g_book_lines := He.glo_ok X G (c.fact 28 (f := .glo "book_lines") rfl)
  g_rule_line := He.glo_ok X G (c.fact 29 (f := .glo "rule_line") rfl)
  g_spaced := He.glo_ok X G (c.fact 30 (f := .glo "spaced") rfl)
  g__law_bag := He.glo_ok X G (c.fact 31 (f := .glo "_law_bag") rfl)
  g__law_take := He.glo_ok X G (c.fact 32 (f := .glo "_law_take") rfl)
  g__law_wheels := He.glo_ok X G (c.fact 33 (f := .glo "_law_wheels") rfl)
  g__law_condition := He.glo_ok X G (c.fact 34 (f := .glo "_law_condition") rfl)
  g__law_change := He.glo_ok X G (c.fact 35 (f := .glo "_law_change") rfl)
  g__law_rule := He.glo_ok X G (c.fact 36 (f := .glo "_law_rule") rfl)
  g__law_rules := He.glo_ok X G (c.fact 37 (f := .glo "_law_rules") rfl)
  g__law_drawn := He.glo_ok X G (c.fact 38 (f := .glo "_law_drawn") rfl)
  g__law_near := He.glo_ok X G (c.fact 39 (f := .glo "_law_near") rfl)
  g_law := He.glo_ok X G (c.fact 40 (f := .glo "law") rfl)
  b_ValueError := He.free_ok X G (c.fact 41 (f := .free "ValueError") rfl)
  b_abs := He.free_ok X G (c.fact 42 (f := .free "abs") rfl)
  b_all := He.free_ok X G (c.fact 43 (f := .free "all") rfl)
  b_any := He.free_ok X G (c.fact 44 (f := .free "any") rfl)
  b_bool := He.free_ok X G (c.fact 45 (f := .free "bool") rfl)
  b_enumerate := He.free_ok X G (c.fact 46 (f := .free "enumerate") rfl)
  b_int := He.free_ok X G (c.fact 47 (f := .free "int") rfl)
  b_isinstance := He.free_ok X G (c.fact 48 (f := .free "isinstance") rfl)
  b_len := He.free_ok X G (c.fact 49 (f := .free "len") rfl)
  b_max := He.free_ok X G (c.fact 50 (f := .free "max") rfl)
  b_min := He.free_ok X G (c.fact 51 (f := .free "min") rfl)
  b_range := He.free_ok X G (c.fact 52 (f := .free "range") rfl)
  b_repr := He.free_ok X G (c.fact 53 (f := .free "repr") rfl)
  b_str := He.free_ok X G (c.fact 54 (f := .free "str") rfl)
  b_tuple := He.free_ok X G (c.fact 55 (f := .free "tuple") rfl)
  b_zip := He.free_ok X G (c.fact 56 (f := .free "zip") rfl)
  c_Book := He.cls_ok (c.fact 57 (f := .cls "Book") rfl)
  n_Book_wheels := He.noat_ok (c.fact 58 (f := .noat "Book" "wheels") rfl)
  n_Book_rules := He.noat_ok (c.fact 59 (f := .noat "Book" "rules") rfl)
  h_Book_repr := He.meth_ok (c.fact 60 (f := .meth "Book" "__repr__") rfl)
  h_Book_str := He.meth_ok (c.fact 61 (f := .meth "Book" "__str__") rfl)
  h_Book_eq := He.meth_ok (c.fact 62 (f := .meth "Book" "__eq__") rfl)
  h_Book_len := He.meth_ok (c.fact 63 (f := .meth "Book" "__len__") rfl)
  k_Book := He.mkr_ok (c.fact 64 (f := .mkr "Book") rfl)
  x_Book_init_rules := U.exOk_at c0.more 0 rfl
  o_Book := U.exOk_at c0.more 1 (f := fun K => U.isiCB (He.ga K "Book") K) rfl
  q_Book := U.exOk_at c0.more 2 (f := U.neB "Book") rfl
  n_Book := U.exOk_at c0.more 3 (f := U.noB "Book") rfl
  s_Book := U.exOk_at c0.more 4 (f := U.subB "Book") rfl
  l_Book := U.exOk_at c0.more 5 (f := U.boolB "Book") rfl
  f_is_whole := c.def_ 0 (d := d_is_whole) rfl
  f_is_within := c.def_ 1 (d := d_is_within) rfl
  f_is_below := c.def_ 2 (d := d_is_below) rfl
  f_is_rising := c.def_ 3 (d := d_is_rising) rfl
  f_is_wheels := c.def_ 4 (d := d_is_wheels) rfl
  f_Book_init := c.def_ 5 (d := d_Book_init) rfl
  f_Book_eq := c.def_ 6 (d := d_Book_eq) rfl
  f_Book_len := c.def_ 7 (d := d_Book_len) rfl
  f_Book_repr := c.def_ 8 (d := d_Book_repr) rfl
  f_Book_str := c.def_ 9 (d := d_Book_str) rfl
  f_is_row := c.def_ 10 (d := d_is_row) rfl
  f_is_rule := c.def_ 11 (d := d_is_rule) rfl
  f_is_condition := c.def_ 12 (d := d_is_condition) rfl
  f_is_moment := c.def_ 13 (d := d_is_moment) rfl
  f_is_change := c.def_ 14 (d := d_is_change) rfl
  f_is_spot := c.def_ 15 (d := d_is_spot) rfl
  f_is_hushes := c.def_ 16 (d := d_is_hushes) rfl
  f_is_hush := c.def_ 17 (d := d_is_hush) rfl
  f_is_wakes := c.def_ 18 (d := d_is_wakes) rfl
  f_book_lines := c.def_ 19 (d := d_book_lines) rfl
  f_rule_line := c.def_ 20 (d := d_rule_line) rfl
  f_spaced := c.def_ 21 (d := d_spaced) rfl
  f__law_bag := c.def_ 22 (d := d__law_bag) rfl
  f__law_take := c.def_ 23 (d := d__law_take) rfl
  f__law_wheels := c.def_ 24 (d := d__law_wheels) rfl
  f__law_condition := c.def_ 25 (d := d__law_condition) rfl
  f__law_change := c.def_ 26 (d := d__law_change) rfl
  f__law_rule := c.def_ 27 (d := d__law_rule) rfl
  f__law_rules := c.def_ 28 (d := d__law_rules) rfl
  f__law_drawn := c.def_ 29 (d := d__law_drawn) rfl
  f__law_near := c.def_ 30 (d := d__law_near) rfl
  f_law := c.def_ 31 (d := d_law) rfl
  }
abbrev RR : PySem.W.OpenRow := PySem.W.OpenLaw.row PySem.Challenge.rw_hushrules_k03_books_alike
def hs (w : World) (cps : Array Nat) : Int := reduceHash (w.params.strHash cps)
def KL0 (w : World) : PySem.W.Frag := [(3, ⟨(.type "dict"), none, (.dict #[⟨hs w #[95, 95, 110, 97, 109, 101, 95, 95], (.str ⟨#[95, 95, 110, 97, 109, 101, 95, 95]⟩ 165), (.str ⟨#[108, 97, 119, 95, 104, 117, 115, 104, 114, 117, 108, 101, 115, 95, 107, 48, 51, 95, 98, 111, 111, 107, 115, 95, 97, 108, 105, 107, 101]⟩ 445)⟩, ⟨hs w #[95, 95, 100, 111, 99, 95, 95], (.str ⟨#[95, 95, 100, 111, 99, 95, 95]⟩ 166), .none⟩, ⟨hs w #[95, 95, 112, 97, 99, 107, 97, 103, 101, 95, 95], (.str ⟨#[95, 95, 112, 97, 99, 107, 97, 103, 101, 95, 95]⟩ 167), .none⟩, ⟨hs w #[95, 95, 108, 111, 97, 100, 101, 114, 95, 95], (.str ⟨#[95, 95, 108, 111, 97, 100, 101, 114, 95, 95]⟩ 168), (.builtin "__main__.__loader__#opaque")⟩, ⟨hs w #[95, 95, 115, 112, 101, 99, 95, 95], (.str ⟨#[95, 95, 115, 112, 101, 99, 95, 95]⟩ 169), .none⟩, ⟨hs w #[95, 95, 97, 110, 110, 111, 116, 97, 116, 105, 111, 110, 115, 95, 95], (.str ⟨#[95, 95, 97, 110, 110, 111, 116, 97, 116, 105, 111, 110, 115, 95, 95]⟩ 170), (.ref 6)⟩, ⟨hs w #[95, 95, 98, 117, 105, 108, 116, 105, 110, 115, 95, 95], (.str ⟨#[95, 95, 98, 117, 105, 108, 116, 105, 110, 115, 95, 95]⟩ 171), (.ref 4)⟩, ⟨hs w #[95, 95, 102, 105, 108, 101, 95, 95], (.str ⟨#[95, 95, 102, 105, 108, 101, 95, 95]⟩ 173), (.str ⟨#[47, 99, 108, 97, 105, 109, 47, 99, 117, 116, 46, 112, 121]⟩ 172)⟩, ⟨hs w #[95, 95, 99, 97, 99, 104, 101, 100, 95, 95], (.str ⟨#[95, 95, 99, 97, 99, 104, 101, 100, 95, 95]⟩ 174), .none⟩, ⟨hs w #[72, 117, 115, 104, 69, 114, 114, 111, 114], (.str ⟨#[72, 117, 115, 104, 69, 114, 114, 111, 114]⟩ 206), (.ref 24)⟩, ⟨hs w #[78, 111, 66, 111, 111, 107], (.str ⟨#[78, 111, 66, 111, 111, 107]⟩ 231), (.ref 44)⟩, ⟨hs w #[77, 79, 83, 84, 95, 87, 72, 69, 69, 76, 83], (.str ⟨#[77, 79, 83, 84, 95, 87, 72, 69, 69, 76, 83]⟩ 235), (.int (3) 234)⟩, ⟨hs w #[76, 69, 65, 83, 84, 95, 80, 76, 65, 67, 69, 83], (.str ⟨#[76, 69, 65, 83, 84, 95, 80, 76, 65, 67, 69, 83]⟩ 237), (.int (2) 236)⟩, ⟨hs w #[77, 79, 83, 84, 95, 80, 76, 65, 67, 69, 83], (.str ⟨#[77, 79, 83, 84, 95, 80, 76, 65, 67, 69, 83]⟩ 239), (.int (4) 238)⟩, ⟨hs w #[77, 79, 83, 84, 95, 86, 65, 76, 85, 69, 83], (.str ⟨#[77, 79, 83, 84, 95, 86, 65, 76, 85, 69, 83]⟩ 241), (.int (24) 240)⟩, ⟨hs w #[105, 115, 95, 119, 104, 111, 108, 101], (.str ⟨#[105, 115, 95, 119, 104, 111, 108, 101]⟩ 248), (.ref 53)⟩, ⟨hs w #[105, 115, 95, 119, 105, 116, 104, 105, 110], (.str ⟨#[105, 115, 95, 119, 105, 116, 104, 105, 110]⟩ 257), (.ref 60)⟩, ⟨hs w #[105, 115, 95, 98, 101, 108, 111, 119], (.str ⟨#[105, 115, 95, 98, 101, 108, 111, 119]⟩ 265), (.ref 67)⟩, ⟨hs w #[105, 115, 95, 114, 105, 115, 105, 110, 103], (.str ⟨#[105, 115, 95, 114, 105, 115, 105, 110, 103]⟩ 271), (.ref 72)⟩, ⟨hs w #[105, 115, 95, 119, 104, 101, 101, 108, 115], (.str ⟨#[105, 115, 95, 119, 104, 101, 101, 108, 115]⟩ 277), (.ref 77)⟩, ⟨hs w #[77, 79, 83, 84, 95, 82, 85, 76, 69, 83], (.str ⟨#[77, 79, 83, 84, 95, 82, 85, 76, 69, 83]⟩ 281), (.int (5) 280)⟩, ⟨hs w #[77, 79, 83, 84, 95, 67, 79, 78, 68, 73, 84, 73, 79, 78, 83], (.str ⟨#[77, 79, 83, 84, 95, 67, 79, 78, 68, 73, 84, 73, 79, 78, 83]⟩ 283), (.int (4) 282)⟩, ⟨hs w #[77, 79, 83, 84, 95, 67, 72, 65, 78, 71, 69, 83], (.str ⟨#[77, 79, 83, 84, 95, 67, 72, 65, 78, 71, 69, 83]⟩ 285), (.int (3) 284)⟩, ⟨hs w #[77, 79, 83, 84, 95, 72, 85, 83, 72, 69, 83], (.str ⟨#[77, 79, 83, 84, 95, 72, 85, 83, 72, 69, 83]⟩ 287), (.int (5) 286)⟩, ⟨hs w #[77, 79, 83, 84, 95, 87, 65, 75, 69, 83], (.str ⟨#[77, 79, 83, 84, 95, 87, 65, 75, 69, 83]⟩ 289), (.int (5) 288)⟩, ⟨hs w #[76, 69, 65, 83, 84, 95, 72, 85, 83, 72], (.str ⟨#[76, 69, 65, 83, 84, 95, 72, 85, 83, 72]⟩ 291), (.int (1) 290)⟩, ⟨hs w #[76, 79, 78, 71, 69, 83, 84, 95, 72, 85, 83, 72], (.str ⟨#[76, 79, 78, 71, 69, 83, 84, 95, 72, 85, 83, 72]⟩ 293), (.int (3) 292)⟩, ⟨hs w #[66, 111, 111, 107], (.str ⟨#[66, 111, 111, 107]⟩ 356), (.ref 124)⟩, ⟨hs w #[105, 115, 95, 114, 111, 119], (.str ⟨#[105, 115, 95, 114, 111, 119]⟩ 364), (.ref 135)⟩, ⟨hs w #[105, 115, 95, 114, 117, 108, 101], (.str ⟨#[105, 115, 95, 114, 117, 108, 101]⟩ 370), (.ref 140)⟩, ⟨hs w #[105, 115, 95, 99, 111, 110, 100, 105, 116, 105, 111, 110], (.str ⟨#[105, 115, 95, 99, 111, 110, 100, 105, 116, 105, 111, 110]⟩ 379), (.ref 147)⟩, ⟨hs w #[105, 115, 95, 109, 111, 109, 101, 110, 116], (.str ⟨#[105, 115, 95, 109, 111, 109, 101, 110, 116]⟩ 387), (.ref 154)⟩, ⟨hs w #[105, 115, 95, 99, 104, 97, 110, 103, 101], (.str ⟨#[105, 115, 95, 99, 104, 97, 110, 103, 101]⟩ 395), (.ref 161)⟩, ⟨hs w #[105, 115, 95, 115, 112, 111, 116], (.str ⟨#[105, 115, 95, 115, 112, 111, 116]⟩ 407), (.ref 168)⟩, ⟨hs w #[105, 115, 95, 104, 117, 115, 104, 101, 115], (.str ⟨#[105, 115, 95, 104, 117, 115, 104, 101, 115]⟩ 413), (.ref 173)⟩, ⟨hs w #[105, 115, 95, 104, 117, 115, 104], (.str ⟨#[105, 115, 95, 104, 117, 115, 104]⟩ 420), (.ref 180)⟩, ⟨hs w #[105, 115, 95, 119, 97, 107, 101, 115], (.str ⟨#[105, 115, 95, 119, 97, 107, 101, 115]⟩ 426), (.ref 185)⟩, ⟨hs w #[98, 111, 111, 107, 95, 108, 105, 110, 101, 115], (.str ⟨#[98, 111, 111, 107, 95, 108, 105, 110, 101, 115]⟩ 432), (.ref 190)⟩, ⟨hs w #[114, 117, 108, 101, 95, 108, 105, 110, 101], (.str ⟨#[114, 117, 108, 101, 95, 108, 105, 110, 101]⟩ 438), (.ref 195)⟩, ⟨hs w #[115, 112, 97, 99, 101, 100], (.str ⟨#[115, 112, 97, 99, 101, 100]⟩ 444), (.ref 200)⟩, ⟨hs w #[95, 108, 97, 119, 95, 98, 97, 103], (.str ⟨#[95, 108, 97, 119, 95, 98, 97, 103]⟩ 457), (.ref 207)⟩, ⟨hs w #[95, 108, 97, 119, 95, 116, 97, 107, 101], (.str ⟨#[95, 108, 97, 119, 95, 116, 97, 107, 101]⟩ 466), (.ref 214)⟩, ⟨hs w #[95, 108, 97, 119, 95, 119, 104, 101, 101, 108, 115], (.str ⟨#[95, 108, 97, 119, 95, 119, 104, 101, 101, 108, 115]⟩ 477), (.ref 221)⟩, ⟨hs w #[95, 108, 97, 119, 95, 99, 111, 110, 100, 105, 116, 105, 111, 110], (.str ⟨#[95, 108, 97, 119, 95, 99, 111, 110, 100, 105, 116, 105, 111, 110]⟩ 488), (.ref 228)⟩, ⟨hs w #[95, 108, 97, 119, 95, 99, 104, 97, 110, 103, 101], (.str ⟨#[95, 108, 97, 119, 95, 99, 104, 97, 110, 103, 101]⟩ 497), (.ref 235)⟩, ⟨hs w #[95, 108, 97, 119, 95, 114, 117, 108, 101], (.str ⟨#[95, 108, 97, 119, 95, 114, 117, 108, 101]⟩ 503), (.ref 240)⟩, ⟨hs w #[95, 108, 97, 119, 95, 114, 117, 108, 101, 115], (.str ⟨#[95, 108, 97, 119, 95, 114, 117, 108, 101, 115]⟩ 509), (.ref 245)⟩, ⟨hs w #[95, 108, 97, 119, 95, 100, 114, 97, 119, 110], (.str ⟨#[95, 108, 97, 119, 95, 100, 114, 97, 119, 110]⟩ 517), (.ref 252)⟩, ⟨hs w #[95, 108, 97, 119, 95, 110, 101, 97, 114], (.str ⟨#[95, 108, 97, 119, 95, 110, 101, 97, 114]⟩ 533), (.ref 259)⟩, ⟨hs w #[108, 97, 119], (.str ⟨#[108, 97, 119]⟩ 539), (.ref 264)⟩] 50), #[]⟩),
  (24, ⟨(.type "type"), none, (.cls ⟨⟨#[72, 117, 115, 104, 69, 114, 114, 111, 114]⟩, [(.type "ValueError")], [(.ref 24), (.type "ValueError"), (.type "Exception"), (.type "BaseException"), (.type "object")], 23, ⟨#[72, 117, 115, 104, 69, 114, 114, 111, 114]⟩, true, [], [(.ref 44)], false, none, false⟩), #[(some (.ref 15)), none, (some (.str ⟨#[72, 117, 115, 104, 69, 114, 114, 111, 114]⟩ 189)), (some (.str ⟨#[72, 117, 115, 104, 69, 114, 114, 111, 114]⟩ 197)), (some (.builtin "ValueError.__new__")), (some (.bool true))]⟩),
  (23, ⟨(.type "dict"), none, (.dict #[⟨hs w #[95, 95, 109, 111, 100, 117, 108, 101, 95, 95], (.str ⟨#[95, 95, 109, 111, 100, 117, 108, 101, 95, 95]⟩ 196), (.str ⟨#[104, 117, 115, 104, 114, 117, 108, 101, 115, 46, 101, 114, 114, 111, 114, 115]⟩ 187)⟩, ⟨hs w #[95, 95, 102, 105, 114, 115, 116, 108, 105, 110, 101, 110, 111, 95, 95], (.str ⟨#[95, 95, 102, 105, 114, 115, 116, 108, 105, 110, 101, 110, 111, 95, 95]⟩ 200), (.int (2) 199)⟩, ⟨hs w #[95, 95, 115, 116, 97, 116, 105, 99, 95, 97, 116, 116, 114, 105, 98, 117, 116, 101, 115, 95, 95], (.str ⟨#[95, 95, 115, 116, 97, 116, 105, 99, 95, 97, 116, 116, 114, 105, 98, 117, 116, 101, 115, 95, 95]⟩ 201), (.ref 22)⟩, ⟨hs w #[95, 95, 119, 101, 97, 107, 114, 101, 102, 95, 95], (.str ⟨#[95, 95, 119, 101, 97, 107, 114, 101, 102, 95, 95]⟩ 203), (.ref 25)⟩, ⟨hs w #[95, 95, 100, 111, 99, 95, 95], (.str ⟨#[95, 95, 100, 111, 99, 95, 95]⟩ 204), .none⟩] 3), #[]⟩),
  (44, ⟨(.type "type"), none, (.cls ⟨⟨#[78, 111, 66, 111, 111, 107]⟩, [(.ref 24)], [(.ref 44), (.ref 24), (.type "ValueError"), (.type "Exception"), (.type "BaseException"), (.type "object")], 43, ⟨#[78, 111, 66, 111, 111, 107]⟩, true, [], [], false, none, false⟩), #[(some (.ref 28)), none, (some (.str ⟨#[78, 111, 66, 111, 111, 107]⟩ 207)), (some (.str ⟨#[78, 111, 66, 111, 111, 107]⟩ 215)), (some (.builtin "ValueError.__new__")), (some (.bool true))]⟩),
  (43, ⟨(.type "dict"), none, (.dict #[⟨hs w #[95, 95, 109, 111, 100, 117, 108, 101, 95, 95], (.str ⟨#[95, 95, 109, 111, 100, 117, 108, 101, 95, 95]⟩ 214), (.str ⟨#[104, 117, 115, 104, 114, 117, 108, 101, 115, 46, 101, 114, 114, 111, 114, 115]⟩ 187)⟩, ⟨hs w #[95, 95, 102, 105, 114, 115, 116, 108, 105, 110, 101, 110, 111, 95, 95], (.str ⟨#[95, 95, 102, 105, 114, 115, 116, 108, 105, 110, 101, 110, 111, 95, 95]⟩ 218), (.int (4) 217)⟩, ⟨hs w #[95, 95, 105, 110, 105, 116, 95, 95], (.str ⟨#[95, 95, 105, 110, 105, 116, 95, 95]⟩ 226), (.ref 41)⟩, ⟨hs w #[95, 95, 115, 116, 97, 116, 105, 99, 95, 97, 116, 116, 114, 105, 98, 117, 116, 101, 115, 95, 95], (.str ⟨#[95, 95, 115, 116, 97, 116, 105, 99, 95, 97, 116, 116, 114, 105, 98, 117, 116, 101, 115, 95, 95]⟩ 228), (.ref 42)⟩, ⟨hs w #[95, 95, 100, 111, 99, 95, 95], (.str ⟨#[95, 95, 100, 111, 99, 95, 95]⟩ 229), .none⟩] 2), #[]⟩),
  (124, ⟨(.type "type"), none, (.cls ⟨⟨#[66, 111, 111, 107]⟩, [(.type "object")], [(.ref 124), (.type "object")], 123, ⟨#[66, 111, 111, 107]⟩, true, [], [], false, none, false⟩), #[none, none, (some (.str ⟨#[66, 111, 111, 107]⟩ 294)), (some (.str ⟨#[66, 111, 111, 107]⟩ 302)), (some (.builtin "object.__new__")), (some (.bool true))]⟩),
  (123, ⟨(.type "dict"), none, (.dict #[⟨hs w #[95, 95, 109, 111, 100, 117, 108, 101, 95, 95], (.str ⟨#[95, 95, 109, 111, 100, 117, 108, 101, 95, 95]⟩ 301), (.str ⟨#[104, 117, 115, 104, 114, 117, 108, 101, 115, 46, 98, 111, 111, 107, 115]⟩ 278)⟩, ⟨hs w #[95, 95, 102, 105, 114, 115, 116, 108, 105, 110, 101, 110, 111, 95, 95], (.str ⟨#[95, 95, 102, 105, 114, 115, 116, 108, 105, 110, 101, 110, 111, 95, 95]⟩ 305), (.int (41) 304)⟩, ⟨hs w #[95, 95, 105, 110, 105, 116, 95, 95], (.str ⟨#[95, 95, 105, 110, 105, 116, 95, 95]⟩ 316), (.ref 93)⟩, ⟨hs w #[95, 95, 101, 113, 95, 95], (.str ⟨#[95, 95, 101, 113, 95, 95]⟩ 324), (.ref 100)⟩, ⟨hs w #[95, 95, 108, 101, 110, 95, 95], (.str ⟨#[95, 95, 108, 101, 110, 95, 95]⟩ 331), (.ref 107)⟩, ⟨hs w #[95, 95, 114, 101, 112, 114, 95, 95], (.str ⟨#[95, 95, 114, 101, 112, 114, 95, 95]⟩ 338), (.ref 114)⟩, ⟨hs w #[95, 95, 115, 116, 114, 95, 95], (.str ⟨#[95, 95, 115, 116, 114, 95, 95]⟩ 345), (.ref 121)⟩, ⟨hs w #[95, 95, 115, 116, 97, 116, 105, 99, 95, 97, 116, 116, 114, 105, 98, 117, 116, 101, 115, 95, 95], (.str ⟨#[95, 95, 115, 116, 97, 116, 105, 99, 95, 97, 116, 116, 114, 105, 98, 117, 116, 101, 115, 95, 95]⟩ 348), (.ref 122)⟩, ⟨hs w #[95, 95, 100, 105, 99, 116, 95, 95], (.str ⟨#[95, 95, 100, 105, 99, 116, 95, 95]⟩ 350), (.ref 125)⟩, ⟨hs w #[95, 95, 119, 101, 97, 107, 114, 101, 102, 95, 95], (.str ⟨#[95, 95, 119, 101, 97, 107, 114, 101, 102, 95, 95]⟩ 352), (.ref 126)⟩, ⟨hs w #[95, 95, 100, 111, 99, 95, 95], (.str ⟨#[95, 95, 100, 111, 99, 95, 95]⟩ 353), .none⟩, ⟨hs w #[95, 95, 104, 97, 115, 104, 95, 95], (.str ⟨#[95, 95, 104, 97, 115, 104, 95, 95]⟩ 354), .none⟩] 5), #[]⟩),
  (51, ⟨.none, none, (.func ⟨⟨#[105, 115, 95, 119, 104, 111, 108, 101]⟩, ⟨#[105, 115, 95, 119, 104, 111, 108, 101]⟩, defArgs (top 8), .stmts (defBody (top 8)), defScope (top 8), 0, [], .none, .none, .none, .none, none, .none, .none, 0⟩), #[]⟩),
  (53, ⟨(.type "function"), none, (.func ⟨⟨#[105, 115, 95, 119, 104, 111, 108, 101]⟩, ⟨#[105, 115, 95, 119, 104, 111, 108, 101]⟩, defArgs (top 8), .stmts (defBody (top 8)), defScope (top 8), 3, [], .none, .none, .none, (.str ⟨#[104, 117, 115, 104, 114, 117, 108, 101, 115, 46, 99, 104, 101, 99, 107, 115]⟩ 232), none, (.ref 52), .none, 0⟩), #[]⟩),
  (52, ⟨(.type "code"), none, (.fields #[(.str ⟨#[105, 115, 95, 119, 104, 111, 108, 101]⟩ 242), (.str ⟨#[105, 115, 95, 119, 104, 111, 108, 101]⟩ 243), (.str ⟨#[47, 99, 108, 97, 105, 109, 47, 99, 117, 116, 46, 112, 121]⟩ 244), (.int (14) 0), (.int (1) 0), (.int (0) 0), (.int (0) 0), (.int (3) 0), (.ref 47), (.bool true), (.int (181) 0), (.ref 48), .none, (.ref 49), (.ref 50), (.ref 51), (.int (246) 0), (.int (14) 0), (.str ⟨#[47, 99, 108, 97, 105, 109, 47, 99, 117, 116, 46, 112, 121]⟩ 247)]), #[]⟩),
  (58, ⟨.none, none, (.func ⟨⟨#[105, 115, 95, 119, 105, 116, 104, 105, 110]⟩, ⟨#[105, 115, 95, 119, 105, 116, 104, 105, 110]⟩, defArgs (top 9), .stmts (defBody (top 9)), defScope (top 9), 0, [], .none, .none, .none, .none, none, .none, .none, 0⟩), #[]⟩),
  (60, ⟨(.type "function"), none, (.func ⟨⟨#[105, 115, 95, 119, 105, 116, 104, 105, 110]⟩, ⟨#[105, 115, 95, 119, 105, 116, 104, 105, 110]⟩, defArgs (top 9), .stmts (defBody (top 9)), defScope (top 9), 3, [], .none, .none, .none, (.str ⟨#[104, 117, 115, 104, 114, 117, 108, 101, 115, 46, 99, 104, 101, 99, 107, 115]⟩ 232), none, (.ref 59), .none, 0⟩), #[]⟩),
  (59, ⟨(.type "code"), none, (.fields #[(.str ⟨#[105, 115, 95, 119, 105, 116, 104, 105, 110]⟩ 249), (.str ⟨#[105, 115, 95, 119, 105, 116, 104, 105, 110]⟩ 250), (.str ⟨#[47, 99, 108, 97, 105, 109, 47, 99, 117, 116, 46, 112, 121]⟩ 251), (.int (16) 0), (.int (3) 0), (.int (0) 0), (.int (0) 0), (.int (3) 0), (.ref 54), (.bool true), (.int (181) 0), (.ref 55), .none, (.ref 56), (.ref 57), (.ref 58), (.int (255) 0), (.int (16) 0), (.str ⟨#[47, 99, 108, 97, 105, 109, 47, 99, 117, 116, 46, 112, 121]⟩ 256)]), #[]⟩),
  (65, ⟨.none, none, (.func ⟨⟨#[105, 115, 95, 98, 101, 108, 111, 119]⟩, ⟨#[105, 115, 95, 98, 101, 108, 111, 119]⟩, defArgs (top 10), .stmts (defBody (top 10)), defScope (top 10), 0, [], .none, .none, .none, .none, none, .none, .none, 0⟩), #[]⟩),
  (67, ⟨(.type "function"), none, (.func ⟨⟨#[105, 115, 95, 98, 101, 108, 111, 119]⟩, ⟨#[105, 115, 95, 98, 101, 108, 111, 119]⟩, defArgs (top 10), .stmts (defBody (top 10)), defScope (top 10), 3, [], .none, .none, .none, (.str ⟨#[104, 117, 115, 104, 114, 117, 108, 101, 115, 46, 99, 104, 101, 99, 107, 115]⟩ 232), none, (.ref 66), .none, 0⟩), #[]⟩),
  (66, ⟨(.type "code"), none, (.fields #[(.str ⟨#[105, 115, 95, 98, 101, 108, 111, 119]⟩ 258), (.str ⟨#[105, 115, 95, 98, 101, 108, 111, 119]⟩ 259), (.str ⟨#[47, 99, 108, 97, 105, 109, 47, 99, 117, 116, 46, 112, 121]⟩ 260), (.int (18) 0), (.int (2) 0), (.int (0) 0), (.int (0) 0), (.int (3) 0), (.ref 61), (.bool true), (.int (181) 0), (.ref 62), .none, (.ref 63), (.ref 64), (.ref 65), (.int (263) 0), (.int (18) 0), (.str ⟨#[47, 99, 108, 97, 105, 109, 47, 99, 117, 116, 46, 112, 121]⟩ 264)]), #[]⟩),
  (70, ⟨.none, none, (.func ⟨⟨#[105, 115, 95, 114, 105, 115, 105, 110, 103]⟩, ⟨#[105, 115, 95, 114, 105, 115, 105, 110, 103]⟩, defArgs (top 11), .stmts (defBody (top 11)), defScope (top 11), 0, [], .none, .none, .none, .none, none, .none, .none, 0⟩), #[]⟩),
  (72, ⟨(.type "function"), none, (.func ⟨⟨#[105, 115, 95, 114, 105, 115, 105, 110, 103]⟩, ⟨#[105, 115, 95, 114, 105, 115, 105, 110, 103]⟩, defArgs (top 11), .stmts (defBody (top 11)), defScope (top 11), 3, [], .none, .none, .none, (.str ⟨#[104, 117, 115, 104, 114, 117, 108, 101, 115, 46, 99, 104, 101, 99, 107, 115]⟩ 232), none, (.ref 71), .none, 0⟩), #[]⟩),
  (71, ⟨(.type "code"), none, (.fields #[(.str ⟨#[105, 115, 95, 114, 105, 115, 105, 110, 103]⟩ 266), (.str ⟨#[105, 115, 95, 114, 105, 115, 105, 110, 103]⟩ 267), (.str ⟨#[47, 99, 108, 97, 105, 109, 47, 99, 117, 116, 46, 112, 121]⟩ 268), (.int (20) 0), (.int (2) 0), (.int (0) 0), (.int (0) 0), (.int (3) 0), (.ref 68), (.bool true), (.int (181) 0), (.ref 69), .none, .none, .none, (.ref 70), (.int (269) 0), (.int (20) 0), (.str ⟨#[47, 99, 108, 97, 105, 109, 47, 99, 117, 116, 46, 112, 121]⟩ 270)]), #[]⟩),
  (75, ⟨.none, none, (.func ⟨⟨#[105, 115, 95, 119, 104, 101, 101, 108, 115]⟩, ⟨#[105, 115, 95, 119, 104, 101, 101, 108, 115]⟩, defArgs (top 12), .stmts (defBody (top 12)), defScope (top 12), 0, [], .none, .none, .none, .none, none, .none, .none, 0⟩), #[]⟩),
  (77, ⟨(.type "function"), none, (.func ⟨⟨#[105, 115, 95, 119, 104, 101, 101, 108, 115]⟩, ⟨#[105, 115, 95, 119, 104, 101, 101, 108, 115]⟩, defArgs (top 12), .stmts (defBody (top 12)), defScope (top 12), 3, [], .none, .none, .none, (.str ⟨#[104, 117, 115, 104, 114, 117, 108, 101, 115, 46, 99, 104, 101, 99, 107, 115]⟩ 232), none, (.ref 76), .none, 0⟩), #[]⟩),
  (76, ⟨(.type "code"), none, (.fields #[(.str ⟨#[105, 115, 95, 119, 104, 101, 101, 108, 115]⟩ 272), (.str ⟨#[105, 115, 95, 119, 104, 101, 101, 108, 115]⟩ 273), (.str ⟨#[47, 99, 108, 97, 105, 109, 47, 99, 117, 116, 46, 112, 121]⟩ 274), (.int (24) 0), (.int (1) 0), (.int (0) 0), (.int (0) 0), (.int (3) 0), (.ref 73), (.bool true), (.int (181) 0), (.ref 74), .none, .none, .none, (.ref 75), (.int (275) 0), (.int (24) 0), (.str ⟨#[47, 99, 108, 97, 105, 109, 47, 99, 117, 116, 46, 112, 121]⟩ 276)]), #[]⟩),
  (91, ⟨.none, none, (.func ⟨⟨#[95, 95, 105, 110, 105, 116, 95, 95]⟩, ⟨#[66, 111, 111, 107, 46, 95, 95, 105, 110, 105, 116, 95, 95]⟩, defArgs (topM 21 0), .stmts (defBody (topM 21 0)), defScope (topM 21 0), 0, [], .none, .none, .none, .none, none, .none, .none, 0⟩), #[]⟩),
  (93, ⟨(.type "function"), none, (.func ⟨⟨#[95, 95, 105, 110, 105, 116, 95, 95]⟩, ⟨#[66, 111, 111, 107, 46, 95, 95, 105, 110, 105, 116, 95, 95]⟩, defArgs (topM 21 0), .stmts (defBody (topM 21 0)), defScope (topM 21 0), 3, [], (.ref 86), .none, .none, (.str ⟨#[104, 117, 115, 104, 114, 117, 108, 101, 115, 46, 98, 111, 111, 107, 115]⟩ 278), none, (.ref 92), .none, 0⟩), #[]⟩),
  (86, ⟨(.type "tuple"), none, (.seq #[(.ref 85)] 0), #[]⟩)]
def KL1 (w : World) : PySem.W.Frag := [(85, ⟨(.type "tuple"), none, (.seq #[] 0), #[]⟩),
  (92, ⟨(.type "code"), none, (.fields #[(.str ⟨#[95, 95, 105, 110, 105, 116, 95, 95]⟩ 306), (.str ⟨#[66, 111, 111, 107, 46, 95, 95, 105, 110, 105, 116, 95, 95]⟩ 307), (.str ⟨#[47, 99, 108, 97, 105, 109, 47, 99, 117, 116, 46, 112, 121]⟩ 308), (.int (43) 0), (.int (3) 0), (.int (0) 0), (.int (0) 0), (.int (3) 0), (.ref 87), (.bool true), (.int (181) 0), (.ref 88), .none, (.ref 89), (.ref 90), (.ref 91), (.int (314) 0), (.int (43) 0), (.str ⟨#[47, 99, 108, 97, 105, 109, 47, 99, 117, 116, 46, 112, 121]⟩ 315)]), #[]⟩),
  (98, ⟨.none, none, (.func ⟨⟨#[95, 95, 101, 113, 95, 95]⟩, ⟨#[66, 111, 111, 107, 46, 95, 95, 101, 113, 95, 95]⟩, defArgs (topM 21 1), .stmts (defBody (topM 21 1)), defScope (topM 21 1), 0, [], .none, .none, .none, .none, none, .none, .none, 0⟩), #[]⟩),
  (100, ⟨(.type "function"), none, (.func ⟨⟨#[95, 95, 101, 113, 95, 95]⟩, ⟨#[66, 111, 111, 107, 46, 95, 95, 101, 113, 95, 95]⟩, defArgs (topM 21 1), .stmts (defBody (topM 21 1)), defScope (topM 21 1), 3, [], .none, .none, .none, (.str ⟨#[104, 117, 115, 104, 114, 117, 108, 101, 115, 46, 98, 111, 111, 107, 115]⟩ 278), none, (.ref 99), .none, 0⟩), #[]⟩),
  (99, ⟨(.type "code"), none, (.fields #[(.str ⟨#[95, 95, 101, 113, 95, 95]⟩ 317), (.str ⟨#[66, 111, 111, 107, 46, 95, 95, 101, 113, 95, 95]⟩ 318), (.str ⟨#[47, 99, 108, 97, 105, 109, 47, 99, 117, 116, 46, 112, 121]⟩ 319), (.int (52) 0), (.int (2) 0), (.int (0) 0), (.int (0) 0), (.int (3) 0), (.ref 94), (.bool true), (.int (181) 0), (.ref 95), .none, (.ref 96), (.ref 97), (.ref 98), (.int (322) 0), (.int (52) 0), (.str ⟨#[47, 99, 108, 97, 105, 109, 47, 99, 117, 116, 46, 112, 121]⟩ 323)]), #[]⟩),
  (105, ⟨.none, none, (.func ⟨⟨#[95, 95, 108, 101, 110, 95, 95]⟩, ⟨#[66, 111, 111, 107, 46, 95, 95, 108, 101, 110, 95, 95]⟩, defArgs (topM 21 2), .stmts (defBody (topM 21 2)), defScope (topM 21 2), 0, [], .none, .none, .none, .none, none, .none, .none, 0⟩), #[]⟩),
  (107, ⟨(.type "function"), none, (.func ⟨⟨#[95, 95, 108, 101, 110, 95, 95]⟩, ⟨#[66, 111, 111, 107, 46, 95, 95, 108, 101, 110, 95, 95]⟩, defArgs (topM 21 2), .stmts (defBody (topM 21 2)), defScope (topM 21 2), 3, [], .none, .none, .none, (.str ⟨#[104, 117, 115, 104, 114, 117, 108, 101, 115, 46, 98, 111, 111, 107, 115]⟩ 278), none, (.ref 106), .none, 0⟩), #[]⟩),
  (106, ⟨(.type "code"), none, (.fields #[(.str ⟨#[95, 95, 108, 101, 110, 95, 95]⟩ 325), (.str ⟨#[66, 111, 111, 107, 46, 95, 95, 108, 101, 110, 95, 95]⟩ 326), (.str ⟨#[47, 99, 108, 97, 105, 109, 47, 99, 117, 116, 46, 112, 121]⟩ 327), (.int (55) 0), (.int (1) 0), (.int (0) 0), (.int (0) 0), (.int (3) 0), (.ref 101), (.bool true), (.int (181) 0), (.ref 102), .none, (.ref 103), (.ref 104), (.ref 105), (.int (329) 0), (.int (55) 0), (.str ⟨#[47, 99, 108, 97, 105, 109, 47, 99, 117, 116, 46, 112, 121]⟩ 330)]), #[]⟩),
  (112, ⟨.none, none, (.func ⟨⟨#[95, 95, 114, 101, 112, 114, 95, 95]⟩, ⟨#[66, 111, 111, 107, 46, 95, 95, 114, 101, 112, 114, 95, 95]⟩, defArgs (topM 21 3), .stmts (defBody (topM 21 3)), defScope (topM 21 3), 0, [], .none, .none, .none, .none, none, .none, .none, 0⟩), #[]⟩),
  (114, ⟨(.type "function"), none, (.func ⟨⟨#[95, 95, 114, 101, 112, 114, 95, 95]⟩, ⟨#[66, 111, 111, 107, 46, 95, 95, 114, 101, 112, 114, 95, 95]⟩, defArgs (topM 21 3), .stmts (defBody (topM 21 3)), defScope (topM 21 3), 3, [], .none, .none, .none, (.str ⟨#[104, 117, 115, 104, 114, 117, 108, 101, 115, 46, 98, 111, 111, 107, 115]⟩ 278), none, (.ref 113), .none, 0⟩), #[]⟩),
  (113, ⟨(.type "code"), none, (.fields #[(.str ⟨#[95, 95, 114, 101, 112, 114, 95, 95]⟩ 332), (.str ⟨#[66, 111, 111, 107, 46, 95, 95, 114, 101, 112, 114, 95, 95]⟩ 333), (.str ⟨#[47, 99, 108, 97, 105, 109, 47, 99, 117, 116, 46, 112, 121]⟩ 334), (.int (58) 0), (.int (1) 0), (.int (0) 0), (.int (0) 0), (.int (3) 0), (.ref 108), (.bool true), (.int (181) 0), (.ref 109), .none, (.ref 110), (.ref 111), (.ref 112), (.int (336) 0), (.int (58) 0), (.str ⟨#[47, 99, 108, 97, 105, 109, 47, 99, 117, 116, 46, 112, 121]⟩ 337)]), #[]⟩),
  (119, ⟨.none, none, (.func ⟨⟨#[95, 95, 115, 116, 114, 95, 95]⟩, ⟨#[66, 111, 111, 107, 46, 95, 95, 115, 116, 114, 95, 95]⟩, defArgs (topM 21 4), .stmts (defBody (topM 21 4)), defScope (topM 21 4), 0, [], .none, .none, .none, .none, none, .none, .none, 0⟩), #[]⟩),
  (121, ⟨(.type "function"), none, (.func ⟨⟨#[95, 95, 115, 116, 114, 95, 95]⟩, ⟨#[66, 111, 111, 107, 46, 95, 95, 115, 116, 114, 95, 95]⟩, defArgs (topM 21 4), .stmts (defBody (topM 21 4)), defScope (topM 21 4), 3, [], .none, .none, .none, (.str ⟨#[104, 117, 115, 104, 114, 117, 108, 101, 115, 46, 98, 111, 111, 107, 115]⟩ 278), none, (.ref 120), .none, 0⟩), #[]⟩),
  (120, ⟨(.type "code"), none, (.fields #[(.str ⟨#[95, 95, 115, 116, 114, 95, 95]⟩ 339), (.str ⟨#[66, 111, 111, 107, 46, 95, 95, 115, 116, 114, 95, 95]⟩ 340), (.str ⟨#[47, 99, 108, 97, 105, 109, 47, 99, 117, 116, 46, 112, 121]⟩ 341), (.int (61) 0), (.int (1) 0), (.int (0) 0), (.int (0) 0), (.int (3) 0), (.ref 115), (.bool true), (.int (181) 0), (.ref 116), .none, (.ref 117), (.ref 118), (.ref 119), (.int (343) 0), (.int (61) 0), (.str ⟨#[47, 99, 108, 97, 105, 109, 47, 99, 117, 116, 46, 112, 121]⟩ 344)]), #[]⟩),
  (133, ⟨.none, none, (.func ⟨⟨#[105, 115, 95, 114, 111, 119]⟩, ⟨#[105, 115, 95, 114, 111, 119]⟩, defArgs (top 22), .stmts (defBody (top 22)), defScope (top 22), 0, [], .none, .none, .none, .none, none, .none, .none, 0⟩), #[]⟩),
  (135, ⟨(.type "function"), none, (.func ⟨⟨#[105, 115, 95, 114, 111, 119]⟩, ⟨#[105, 115, 95, 114, 111, 119]⟩, defArgs (top 22), .stmts (defBody (top 22)), defScope (top 22), 3, [], .none, .none, .none, (.str ⟨#[104, 117, 115, 104, 114, 117, 108, 101, 115, 46, 98, 111, 111, 107, 115]⟩ 278), none, (.ref 134), .none, 0⟩), #[]⟩),
  (134, ⟨(.type "code"), none, (.fields #[(.str ⟨#[105, 115, 95, 114, 111, 119]⟩ 357), (.str ⟨#[105, 115, 95, 114, 111, 119]⟩ 358), (.str ⟨#[47, 99, 108, 97, 105, 109, 47, 99, 117, 116, 46, 112, 121]⟩ 359), (.int (63) 0), (.int (2) 0), (.int (0) 0), (.int (0) 0), (.int (3) 0), (.ref 129), (.bool true), (.int (181) 0), (.ref 130), .none, (.ref 131), (.ref 132), (.ref 133), (.int (362) 0), (.int (63) 0), (.str ⟨#[47, 99, 108, 97, 105, 109, 47, 99, 117, 116, 46, 112, 121]⟩ 363)]), #[]⟩),
  (138, ⟨.none, none, (.func ⟨⟨#[105, 115, 95, 114, 117, 108, 101]⟩, ⟨#[105, 115, 95, 114, 117, 108, 101]⟩, defArgs (top 23), .stmts (defBody (top 23)), defScope (top 23), 0, [], .none, .none, .none, .none, none, .none, .none, 0⟩), #[]⟩),
  (140, ⟨(.type "function"), none, (.func ⟨⟨#[105, 115, 95, 114, 117, 108, 101]⟩, ⟨#[105, 115, 95, 114, 117, 108, 101]⟩, defArgs (top 23), .stmts (defBody (top 23)), defScope (top 23), 3, [], .none, .none, .none, (.str ⟨#[104, 117, 115, 104, 114, 117, 108, 101, 115, 46, 98, 111, 111, 107, 115]⟩ 278), none, (.ref 139), .none, 0⟩), #[]⟩),
  (139, ⟨(.type "code"), none, (.fields #[(.str ⟨#[105, 115, 95, 114, 117, 108, 101]⟩ 365), (.str ⟨#[105, 115, 95, 114, 117, 108, 101]⟩ 366), (.str ⟨#[47, 99, 108, 97, 105, 109, 47, 99, 117, 116, 46, 112, 121]⟩ 367), (.int (65) 0), (.int (3) 0), (.int (0) 0), (.int (0) 0), (.int (3) 0), (.ref 136), (.bool true), (.int (181) 0), (.ref 137), .none, .none, .none, (.ref 138), (.int (368) 0), (.int (65) 0), (.str ⟨#[47, 99, 108, 97, 105, 109, 47, 99, 117, 116, 46, 112, 121]⟩ 369)]), #[]⟩),
  (145, ⟨.none, none, (.func ⟨⟨#[105, 115, 95, 99, 111, 110, 100, 105, 116, 105, 111, 110]⟩, ⟨#[105, 115, 95, 99, 111, 110, 100, 105, 116, 105, 111, 110]⟩, defArgs (top 24), .stmts (defBody (top 24)), defScope (top 24), 0, [], .none, .none, .none, .none, none, .none, .none, 0⟩), #[]⟩),
  (147, ⟨(.type "function"), none, (.func ⟨⟨#[105, 115, 95, 99, 111, 110, 100, 105, 116, 105, 111, 110]⟩, ⟨#[105, 115, 95, 99, 111, 110, 100, 105, 116, 105, 111, 110]⟩, defArgs (top 24), .stmts (defBody (top 24)), defScope (top 24), 3, [], .none, .none, .none, (.str ⟨#[104, 117, 115, 104, 114, 117, 108, 101, 115, 46, 98, 111, 111, 107, 115]⟩ 278), none, (.ref 146), .none, 0⟩), #[]⟩),
  (146, ⟨(.type "code"), none, (.fields #[(.str ⟨#[105, 115, 95, 99, 111, 110, 100, 105, 116, 105, 111, 110]⟩ 371), (.str ⟨#[105, 115, 95, 99, 111, 110, 100, 105, 116, 105, 111, 110]⟩ 372), (.str ⟨#[47, 99, 108, 97, 105, 109, 47, 99, 117, 116, 46, 112, 121]⟩ 373), (.int (76) 0), (.int (3) 0), (.int (0) 0), (.int (0) 0), (.int (3) 0), (.ref 141), (.bool true), (.int (181) 0), (.ref 142), .none, (.ref 143), (.ref 144), (.ref 145), (.int (377) 0), (.int (76) 0), (.str ⟨#[47, 99, 108, 97, 105, 109, 47, 99, 117, 116, 46, 112, 121]⟩ 378)]), #[]⟩),
  (152, ⟨.none, none, (.func ⟨⟨#[105, 115, 95, 109, 111, 109, 101, 110, 116]⟩, ⟨#[105, 115, 95, 109, 111, 109, 101, 110, 116]⟩, defArgs (top 25), .stmts (defBody (top 25)), defScope (top 25), 0, [], .none, .none, .none, .none, none, .none, .none, 0⟩), #[]⟩),
  (154, ⟨(.type "function"), none, (.func ⟨⟨#[105, 115, 95, 109, 111, 109, 101, 110, 116]⟩, ⟨#[105, 115, 95, 109, 111, 109, 101, 110, 116]⟩, defArgs (top 25), .stmts (defBody (top 25)), defScope (top 25), 3, [], .none, .none, .none, (.str ⟨#[104, 117, 115, 104, 114, 117, 108, 101, 115, 46, 98, 111, 111, 107, 115]⟩ 278), none, (.ref 153), .none, 0⟩), #[]⟩)]
def KL2 (w : World) : PySem.W.Frag := [(153, ⟨(.type "code"), none, (.fields #[(.str ⟨#[105, 115, 95, 109, 111, 109, 101, 110, 116]⟩ 380), (.str ⟨#[105, 115, 95, 109, 111, 109, 101, 110, 116]⟩ 381), (.str ⟨#[47, 99, 108, 97, 105, 109, 47, 99, 117, 116, 46, 112, 121]⟩ 382), (.int (78) 0), (.int (2) 0), (.int (0) 0), (.int (0) 0), (.int (3) 0), (.ref 148), (.bool true), (.int (181) 0), (.ref 149), .none, (.ref 150), (.ref 151), (.ref 152), (.int (385) 0), (.int (78) 0), (.str ⟨#[47, 99, 108, 97, 105, 109, 47, 99, 117, 116, 46, 112, 121]⟩ 386)]), #[]⟩),
  (159, ⟨.none, none, (.func ⟨⟨#[105, 115, 95, 99, 104, 97, 110, 103, 101]⟩, ⟨#[105, 115, 95, 99, 104, 97, 110, 103, 101]⟩, defArgs (top 26), .stmts (defBody (top 26)), defScope (top 26), 0, [], .none, .none, .none, .none, none, .none, .none, 0⟩), #[]⟩),
  (161, ⟨(.type "function"), none, (.func ⟨⟨#[105, 115, 95, 99, 104, 97, 110, 103, 101]⟩, ⟨#[105, 115, 95, 99, 104, 97, 110, 103, 101]⟩, defArgs (top 26), .stmts (defBody (top 26)), defScope (top 26), 3, [], .none, .none, .none, (.str ⟨#[104, 117, 115, 104, 114, 117, 108, 101, 115, 46, 98, 111, 111, 107, 115]⟩ 278), none, (.ref 160), .none, 0⟩), #[]⟩),
  (160, ⟨(.type "code"), none, (.fields #[(.str ⟨#[105, 115, 95, 99, 104, 97, 110, 103, 101]⟩ 388), (.str ⟨#[105, 115, 95, 99, 104, 97, 110, 103, 101]⟩ 389), (.str ⟨#[47, 99, 108, 97, 105, 109, 47, 99, 117, 116, 46, 112, 121]⟩ 390), (.int (82) 0), (.int (2) 0), (.int (0) 0), (.int (0) 0), (.int (3) 0), (.ref 155), (.bool true), (.int (181) 0), (.ref 156), .none, (.ref 157), (.ref 158), (.ref 159), (.int (393) 0), (.int (82) 0), (.str ⟨#[47, 99, 108, 97, 105, 109, 47, 99, 117, 116, 46, 112, 121]⟩ 394)]), #[]⟩),
  (166, ⟨.none, none, (.func ⟨⟨#[105, 115, 95, 115, 112, 111, 116]⟩, ⟨#[105, 115, 95, 115, 112, 111, 116]⟩, defArgs (top 27), .stmts (defBody (top 27)), defScope (top 27), 0, [], .none, .none, .none, .none, none, .none, .none, 0⟩), #[]⟩),
  (168, ⟨(.type "function"), none, (.func ⟨⟨#[105, 115, 95, 115, 112, 111, 116]⟩, ⟨#[105, 115, 95, 115, 112, 111, 116]⟩, defArgs (top 27), .stmts (defBody (top 27)), defScope (top 27), 3, [], .none, .none, .none, (.str ⟨#[104, 117, 115, 104, 114, 117, 108, 101, 115, 46, 98, 111, 111, 107, 115]⟩ 278), none, (.ref 167), .none, 0⟩), #[]⟩),
  (167, ⟨(.type "code"), none, (.fields #[(.str ⟨#[105, 115, 95, 115, 112, 111, 116]⟩ 396), (.str ⟨#[105, 115, 95, 115, 112, 111, 116]⟩ 397), (.str ⟨#[47, 99, 108, 97, 105, 109, 47, 99, 117, 116, 46, 112, 121]⟩ 398), (.int (84) 0), (.int (3) 0), (.int (0) 0), (.int (0) 0), (.int (3) 0), (.ref 162), (.bool true), (.int (181) 0), (.ref 163), .none, (.ref 164), (.ref 165), (.ref 166), (.int (405) 0), (.int (84) 0), (.str ⟨#[47, 99, 108, 97, 105, 109, 47, 99, 117, 116, 46, 112, 121]⟩ 406)]), #[]⟩),
  (171, ⟨.none, none, (.func ⟨⟨#[105, 115, 95, 104, 117, 115, 104, 101, 115]⟩, ⟨#[105, 115, 95, 104, 117, 115, 104, 101, 115]⟩, defArgs (top 28), .stmts (defBody (top 28)), defScope (top 28), 0, [], .none, .none, .none, .none, none, .none, .none, 0⟩), #[]⟩),
  (173, ⟨(.type "function"), none, (.func ⟨⟨#[105, 115, 95, 104, 117, 115, 104, 101, 115]⟩, ⟨#[105, 115, 95, 104, 117, 115, 104, 101, 115]⟩, defArgs (top 28), .stmts (defBody (top 28)), defScope (top 28), 3, [], .none, .none, .none, (.str ⟨#[104, 117, 115, 104, 114, 117, 108, 101, 115, 46, 98, 111, 111, 107, 115]⟩ 278), none, (.ref 172), .none, 0⟩), #[]⟩),
  (172, ⟨(.type "code"), none, (.fields #[(.str ⟨#[105, 115, 95, 104, 117, 115, 104, 101, 115]⟩ 408), (.str ⟨#[105, 115, 95, 104, 117, 115, 104, 101, 115]⟩ 409), (.str ⟨#[47, 99, 108, 97, 105, 109, 47, 99, 117, 116, 46, 112, 121]⟩ 410), (.int (89) 0), (.int (2) 0), (.int (0) 0), (.int (0) 0), (.int (3) 0), (.ref 169), (.bool true), (.int (181) 0), (.ref 170), .none, .none, .none, (.ref 171), (.int (411) 0), (.int (89) 0), (.str ⟨#[47, 99, 108, 97, 105, 109, 47, 99, 117, 116, 46, 112, 121]⟩ 412)]), #[]⟩),
  (178, ⟨.none, none, (.func ⟨⟨#[105, 115, 95, 104, 117, 115, 104]⟩, ⟨#[105, 115, 95, 104, 117, 115, 104]⟩, defArgs (top 29), .stmts (defBody (top 29)), defScope (top 29), 0, [], .none, .none, .none, .none, none, .none, .none, 0⟩), #[]⟩),
  (180, ⟨(.type "function"), none, (.func ⟨⟨#[105, 115, 95, 104, 117, 115, 104]⟩, ⟨#[105, 115, 95, 104, 117, 115, 104]⟩, defArgs (top 29), .stmts (defBody (top 29)), defScope (top 29), 3, [], .none, .none, .none, (.str ⟨#[104, 117, 115, 104, 114, 117, 108, 101, 115, 46, 98, 111, 111, 107, 115]⟩ 278), none, (.ref 179), .none, 0⟩), #[]⟩),
  (179, ⟨(.type "code"), none, (.fields #[(.str ⟨#[105, 115, 95, 104, 117, 115, 104]⟩ 414), (.str ⟨#[105, 115, 95, 104, 117, 115, 104]⟩ 415), (.str ⟨#[47, 99, 108, 97, 105, 109, 47, 99, 117, 116, 46, 112, 121]⟩ 416), (.int (93) 0), (.int (1) 0), (.int (0) 0), (.int (0) 0), (.int (3) 0), (.ref 174), (.bool true), (.int (181) 0), (.ref 175), .none, (.ref 176), (.ref 177), (.ref 178), (.int (418) 0), (.int (93) 0), (.str ⟨#[47, 99, 108, 97, 105, 109, 47, 99, 117, 116, 46, 112, 121]⟩ 419)]), #[]⟩),
  (183, ⟨.none, none, (.func ⟨⟨#[105, 115, 95, 119, 97, 107, 101, 115]⟩, ⟨#[105, 115, 95, 119, 97, 107, 101, 115]⟩, defArgs (top 30), .stmts (defBody (top 30)), defScope (top 30), 0, [], .none, .none, .none, .none, none, .none, .none, 0⟩), #[]⟩),
  (185, ⟨(.type "function"), none, (.func ⟨⟨#[105, 115, 95, 119, 97, 107, 101, 115]⟩, ⟨#[105, 115, 95, 119, 97, 107, 101, 115]⟩, defArgs (top 30), .stmts (defBody (top 30)), defScope (top 30), 3, [], .none, .none, .none, (.str ⟨#[104, 117, 115, 104, 114, 117, 108, 101, 115, 46, 98, 111, 111, 107, 115]⟩ 278), none, (.ref 184), .none, 0⟩), #[]⟩),
  (184, ⟨(.type "code"), none, (.fields #[(.str ⟨#[105, 115, 95, 119, 97, 107, 101, 115]⟩ 421), (.str ⟨#[105, 115, 95, 119, 97, 107, 101, 115]⟩ 422), (.str ⟨#[47, 99, 108, 97, 105, 109, 47, 99, 117, 116, 46, 112, 121]⟩ 423), (.int (95) 0), (.int (3) 0), (.int (0) 0), (.int (0) 0), (.int (3) 0), (.ref 181), (.bool true), (.int (181) 0), (.ref 182), .none, .none, .none, (.ref 183), (.int (424) 0), (.int (95) 0), (.str ⟨#[47, 99, 108, 97, 105, 109, 47, 99, 117, 116, 46, 112, 121]⟩ 425)]), #[]⟩),
  (188, ⟨.none, none, (.func ⟨⟨#[98, 111, 111, 107, 95, 108, 105, 110, 101, 115]⟩, ⟨#[98, 111, 111, 107, 95, 108, 105, 110, 101, 115]⟩, defArgs (top 31), .stmts (defBody (top 31)), defScope (top 31), 0, [], .none, .none, .none, .none, none, .none, .none, 0⟩), #[]⟩),
  (190, ⟨(.type "function"), none, (.func ⟨⟨#[98, 111, 111, 107, 95, 108, 105, 110, 101, 115]⟩, ⟨#[98, 111, 111, 107, 95, 108, 105, 110, 101, 115]⟩, defArgs (top 31), .stmts (defBody (top 31)), defScope (top 31), 3, [], .none, .none, .none, (.str ⟨#[104, 117, 115, 104, 114, 117, 108, 101, 115, 46, 98, 111, 111, 107, 115]⟩ 278), none, (.ref 189), .none, 0⟩), #[]⟩),
  (189, ⟨(.type "code"), none, (.fields #[(.str ⟨#[98, 111, 111, 107, 95, 108, 105, 110, 101, 115]⟩ 427), (.str ⟨#[98, 111, 111, 107, 95, 108, 105, 110, 101, 115]⟩ 428), (.str ⟨#[47, 99, 108, 97, 105, 109, 47, 99, 117, 116, 46, 112, 121]⟩ 429), (.int (99) 0), (.int (2) 0), (.int (0) 0), (.int (0) 0), (.int (3) 0), (.ref 186), (.bool true), (.int (181) 0), (.ref 187), .none, .none, .none, (.ref 188), (.int (430) 0), (.int (99) 0), (.str ⟨#[47, 99, 108, 97, 105, 109, 47, 99, 117, 116, 46, 112, 121]⟩ 431)]), #[]⟩),
  (193, ⟨.none, none, (.func ⟨⟨#[114, 117, 108, 101, 95, 108, 105, 110, 101]⟩, ⟨#[114, 117, 108, 101, 95, 108, 105, 110, 101]⟩, defArgs (top 32), .stmts (defBody (top 32)), defScope (top 32), 0, [], .none, .none, .none, .none, none, .none, .none, 0⟩), #[]⟩),
  (195, ⟨(.type "function"), none, (.func ⟨⟨#[114, 117, 108, 101, 95, 108, 105, 110, 101]⟩, ⟨#[114, 117, 108, 101, 95, 108, 105, 110, 101]⟩, defArgs (top 32), .stmts (defBody (top 32)), defScope (top 32), 3, [], .none, .none, .none, (.str ⟨#[104, 117, 115, 104, 114, 117, 108, 101, 115, 46, 98, 111, 111, 107, 115]⟩ 278), none, (.ref 194), .none, 0⟩), #[]⟩),
  (194, ⟨(.type "code"), none, (.fields #[(.str ⟨#[114, 117, 108, 101, 95, 108, 105, 110, 101]⟩ 433), (.str ⟨#[114, 117, 108, 101, 95, 108, 105, 110, 101]⟩ 434), (.str ⟨#[47, 99, 108, 97, 105, 109, 47, 99, 117, 116, 46, 112, 121]⟩ 435), (.int (101) 0), (.int (1) 0), (.int (0) 0), (.int (0) 0), (.int (3) 0), (.ref 191), (.bool true), (.int (181) 0), (.ref 192), .none, .none, .none, (.ref 193), (.int (436) 0), (.int (101) 0), (.str ⟨#[47, 99, 108, 97, 105, 109, 47, 99, 117, 116, 46, 112, 121]⟩ 437)]), #[]⟩),
  (198, ⟨.none, none, (.func ⟨⟨#[115, 112, 97, 99, 101, 100]⟩, ⟨#[115, 112, 97, 99, 101, 100]⟩, defArgs (top 33), .stmts (defBody (top 33)), defScope (top 33), 0, [], .none, .none, .none, .none, none, .none, .none, 0⟩), #[]⟩),
  (200, ⟨(.type "function"), none, (.func ⟨⟨#[115, 112, 97, 99, 101, 100]⟩, ⟨#[115, 112, 97, 99, 101, 100]⟩, defArgs (top 33), .stmts (defBody (top 33)), defScope (top 33), 3, [], .none, .none, .none, (.str ⟨#[104, 117, 115, 104, 114, 117, 108, 101, 115, 46, 98, 111, 111, 107, 115]⟩ 278), none, (.ref 199), .none, 0⟩), #[]⟩),
  (199, ⟨(.type "code"), none, (.fields #[(.str ⟨#[115, 112, 97, 99, 101, 100]⟩ 439), (.str ⟨#[115, 112, 97, 99, 101, 100]⟩ 440), (.str ⟨#[47, 99, 108, 97, 105, 109, 47, 99, 117, 116, 46, 112, 121]⟩ 441), (.int (105) 0), (.int (1) 0), (.int (0) 0), (.int (0) 0), (.int (3) 0), (.ref 196), (.bool true), (.int (181) 0), (.ref 197), .none, .none, .none, (.ref 198), (.int (442) 0), (.int (105) 0), (.str ⟨#[47, 99, 108, 97, 105, 109, 47, 99, 117, 116, 46, 112, 121]⟩ 443)]), #[]⟩)]
def KL3 (w : World) : PySem.W.Frag := [(205, ⟨.none, none, (.func ⟨⟨#[95, 108, 97, 119, 95, 98, 97, 103]⟩, ⟨#[95, 108, 97, 119, 95, 98, 97, 103]⟩, defArgs (top 35), .stmts (defBody (top 35)), defScope (top 35), 0, [], .none, .none, .none, .none, none, .none, .none, 0⟩), #[]⟩),
  (207, ⟨(.type "function"), none, (.func ⟨⟨#[95, 108, 97, 119, 95, 98, 97, 103]⟩, ⟨#[95, 108, 97, 119, 95, 98, 97, 103]⟩, defArgs (top 35), .stmts (defBody (top 35)), defScope (top 35), 3, [], .none, .none, .none, (.str ⟨#[108, 97, 119, 95, 104, 117, 115, 104, 114, 117, 108, 101, 115, 95, 107, 48, 51, 95, 98, 111, 111, 107, 115, 95, 97, 108, 105, 107, 101]⟩ 445), none, (.ref 206), .none, 0⟩), #[]⟩),
  (206, ⟨(.type "code"), none, (.fields #[(.str ⟨#[95, 108, 97, 119, 95, 98, 97, 103]⟩ 447), (.str ⟨#[95, 108, 97, 119, 95, 98, 97, 103]⟩ 448), (.str ⟨#[47, 99, 108, 97, 105, 109, 47, 99, 117, 116, 46, 112, 121]⟩ 449), (.int (108) 0), (.int (2) 0), (.int (0) 0), (.int (0) 0), (.int (3) 0), (.ref 201), (.bool true), (.int (181) 0), (.ref 202), .none, (.ref 203), (.ref 204), (.ref 205), (.int (455) 0), (.int (108) 0), (.str ⟨#[47, 99, 108, 97, 105, 109, 47, 99, 117, 116, 46, 112, 121]⟩ 456)]), #[]⟩),
  (212, ⟨.none, none, (.func ⟨⟨#[95, 108, 97, 119, 95, 116, 97, 107, 101]⟩, ⟨#[95, 108, 97, 119, 95, 116, 97, 107, 101]⟩, defArgs (top 36), .stmts (defBody (top 36)), defScope (top 36), 0, [], .none, .none, .none, .none, none, .none, .none, 0⟩), #[]⟩),
  (214, ⟨(.type "function"), none, (.func ⟨⟨#[95, 108, 97, 119, 95, 116, 97, 107, 101]⟩, ⟨#[95, 108, 97, 119, 95, 116, 97, 107, 101]⟩, defArgs (top 36), .stmts (defBody (top 36)), defScope (top 36), 3, [], .none, .none, .none, (.str ⟨#[108, 97, 119, 95, 104, 117, 115, 104, 114, 117, 108, 101, 115, 95, 107, 48, 51, 95, 98, 111, 111, 107, 115, 95, 97, 108, 105, 107, 101]⟩ 445), none, (.ref 213), .none, 0⟩), #[]⟩),
  (213, ⟨(.type "code"), none, (.fields #[(.str ⟨#[95, 108, 97, 119, 95, 116, 97, 107, 101]⟩ 458), (.str ⟨#[95, 108, 97, 119, 95, 116, 97, 107, 101]⟩ 459), (.str ⟨#[47, 99, 108, 97, 105, 109, 47, 99, 117, 116, 46, 112, 121]⟩ 460), (.int (117) 0), (.int (2) 0), (.int (0) 0), (.int (0) 0), (.int (3) 0), (.ref 208), (.bool true), (.int (181) 0), (.ref 209), .none, (.ref 210), (.ref 211), (.ref 212), (.int (464) 0), (.int (117) 0), (.str ⟨#[47, 99, 108, 97, 105, 109, 47, 99, 117, 116, 46, 112, 121]⟩ 465)]), #[]⟩),
  (219, ⟨.none, none, (.func ⟨⟨#[95, 108, 97, 119, 95, 119, 104, 101, 101, 108, 115]⟩, ⟨#[95, 108, 97, 119, 95, 119, 104, 101, 101, 108, 115]⟩, defArgs (top 37), .stmts (defBody (top 37)), defScope (top 37), 0, [], .none, .none, .none, .none, none, .none, .none, 0⟩), #[]⟩),
  (221, ⟨(.type "function"), none, (.func ⟨⟨#[95, 108, 97, 119, 95, 119, 104, 101, 101, 108, 115]⟩, ⟨#[95, 108, 97, 119, 95, 119, 104, 101, 101, 108, 115]⟩, defArgs (top 37), .stmts (defBody (top 37)), defScope (top 37), 3, [], .none, .none, .none, (.str ⟨#[108, 97, 119, 95, 104, 117, 115, 104, 114, 117, 108, 101, 115, 95, 107, 48, 51, 95, 98, 111, 111, 107, 115, 95, 97, 108, 105, 107, 101]⟩ 445), none, (.ref 220), .none, 0⟩), #[]⟩),
  (220, ⟨(.type "code"), none, (.fields #[(.str ⟨#[95, 108, 97, 119, 95, 119, 104, 101, 101, 108, 115]⟩ 467), (.str ⟨#[95, 108, 97, 119, 95, 119, 104, 101, 101, 108, 115]⟩ 468), (.str ⟨#[47, 99, 108, 97, 105, 109, 47, 99, 117, 116, 46, 112, 121]⟩ 469), (.int (125) 0), (.int (1) 0), (.int (0) 0), (.int (0) 0), (.int (3) 0), (.ref 215), (.bool true), (.int (181) 0), (.ref 216), .none, (.ref 217), (.ref 218), (.ref 219), (.int (475) 0), (.int (125) 0), (.str ⟨#[47, 99, 108, 97, 105, 109, 47, 99, 117, 116, 46, 112, 121]⟩ 476)]), #[]⟩),
  (226, ⟨.none, none, (.func ⟨⟨#[95, 108, 97, 119, 95, 99, 111, 110, 100, 105, 116, 105, 111, 110]⟩, ⟨#[95, 108, 97, 119, 95, 99, 111, 110, 100, 105, 116, 105, 111, 110]⟩, defArgs (top 38), .stmts (defBody (top 38)), defScope (top 38), 0, [], .none, .none, .none, .none, none, .none, .none, 0⟩), #[]⟩),
  (228, ⟨(.type "function"), none, (.func ⟨⟨#[95, 108, 97, 119, 95, 99, 111, 110, 100, 105, 116, 105, 111, 110]⟩, ⟨#[95, 108, 97, 119, 95, 99, 111, 110, 100, 105, 116, 105, 111, 110]⟩, defArgs (top 38), .stmts (defBody (top 38)), defScope (top 38), 3, [], .none, .none, .none, (.str ⟨#[108, 97, 119, 95, 104, 117, 115, 104, 114, 117, 108, 101, 115, 95, 107, 48, 51, 95, 98, 111, 111, 107, 115, 95, 97, 108, 105, 107, 101]⟩ 445), none, (.ref 227), .none, 0⟩), #[]⟩),
  (227, ⟨(.type "code"), none, (.fields #[(.str ⟨#[95, 108, 97, 119, 95, 99, 111, 110, 100, 105, 116, 105, 111, 110]⟩ 478), (.str ⟨#[95, 108, 97, 119, 95, 99, 111, 110, 100, 105, 116, 105, 111, 110]⟩ 479), (.str ⟨#[47, 99, 108, 97, 105, 109, 47, 99, 117, 116, 46, 112, 121]⟩ 480), (.int (133) 0), (.int (3) 0), (.int (0) 0), (.int (0) 0), (.int (3) 0), (.ref 222), (.bool true), (.int (181) 0), (.ref 223), .none, (.ref 224), (.ref 225), (.ref 226), (.int (486) 0), (.int (133) 0), (.str ⟨#[47, 99, 108, 97, 105, 109, 47, 99, 117, 116, 46, 112, 121]⟩ 487)]), #[]⟩),
  (233, ⟨.none, none, (.func ⟨⟨#[95, 108, 97, 119, 95, 99, 104, 97, 110, 103, 101]⟩, ⟨#[95, 108, 97, 119, 95, 99, 104, 97, 110, 103, 101]⟩, defArgs (top 39), .stmts (defBody (top 39)), defScope (top 39), 0, [], .none, .none, .none, .none, none, .none, .none, 0⟩), #[]⟩),
  (235, ⟨(.type "function"), none, (.func ⟨⟨#[95, 108, 97, 119, 95, 99, 104, 97, 110, 103, 101]⟩, ⟨#[95, 108, 97, 119, 95, 99, 104, 97, 110, 103, 101]⟩, defArgs (top 39), .stmts (defBody (top 39)), defScope (top 39), 3, [], .none, .none, .none, (.str ⟨#[108, 97, 119, 95, 104, 117, 115, 104, 114, 117, 108, 101, 115, 95, 107, 48, 51, 95, 98, 111, 111, 107, 115, 95, 97, 108, 105, 107, 101]⟩ 445), none, (.ref 234), .none, 0⟩), #[]⟩),
  (234, ⟨(.type "code"), none, (.fields #[(.str ⟨#[95, 108, 97, 119, 95, 99, 104, 97, 110, 103, 101]⟩ 489), (.str ⟨#[95, 108, 97, 119, 95, 99, 104, 97, 110, 103, 101]⟩ 490), (.str ⟨#[47, 99, 108, 97, 105, 109, 47, 99, 117, 116, 46, 112, 121]⟩ 491), (.int (139) 0), (.int (2) 0), (.int (0) 0), (.int (0) 0), (.int (3) 0), (.ref 229), (.bool true), (.int (181) 0), (.ref 230), .none, (.ref 231), (.ref 232), (.ref 233), (.int (495) 0), (.int (139) 0), (.str ⟨#[47, 99, 108, 97, 105, 109, 47, 99, 117, 116, 46, 112, 121]⟩ 496)]), #[]⟩),
  (238, ⟨.none, none, (.func ⟨⟨#[95, 108, 97, 119, 95, 114, 117, 108, 101]⟩, ⟨#[95, 108, 97, 119, 95, 114, 117, 108, 101]⟩, defArgs (top 40), .stmts (defBody (top 40)), defScope (top 40), 0, [], .none, .none, .none, .none, none, .none, .none, 0⟩), #[]⟩),
  (240, ⟨(.type "function"), none, (.func ⟨⟨#[95, 108, 97, 119, 95, 114, 117, 108, 101]⟩, ⟨#[95, 108, 97, 119, 95, 114, 117, 108, 101]⟩, defArgs (top 40), .stmts (defBody (top 40)), defScope (top 40), 3, [], .none, .none, .none, (.str ⟨#[108, 97, 119, 95, 104, 117, 115, 104, 114, 117, 108, 101, 115, 95, 107, 48, 51, 95, 98, 111, 111, 107, 115, 95, 97, 108, 105, 107, 101]⟩ 445), none, (.ref 239), .none, 0⟩), #[]⟩),
  (239, ⟨(.type "code"), none, (.fields #[(.str ⟨#[95, 108, 97, 119, 95, 114, 117, 108, 101]⟩ 498), (.str ⟨#[95, 108, 97, 119, 95, 114, 117, 108, 101]⟩ 499), (.str ⟨#[47, 99, 108, 97, 105, 109, 47, 99, 117, 116, 46, 112, 121]⟩ 500), (.int (142) 0), (.int (3) 0), (.int (0) 0), (.int (0) 0), (.int (3) 0), (.ref 236), (.bool true), (.int (181) 0), (.ref 237), .none, .none, .none, (.ref 238), (.int (501) 0), (.int (142) 0), (.str ⟨#[47, 99, 108, 97, 105, 109, 47, 99, 117, 116, 46, 112, 121]⟩ 502)]), #[]⟩),
  (243, ⟨.none, none, (.func ⟨⟨#[95, 108, 97, 119, 95, 114, 117, 108, 101, 115]⟩, ⟨#[95, 108, 97, 119, 95, 114, 117, 108, 101, 115]⟩, defArgs (top 41), .stmts (defBody (top 41)), defScope (top 41), 0, [], .none, .none, .none, .none, none, .none, .none, 0⟩), #[]⟩),
  (245, ⟨(.type "function"), none, (.func ⟨⟨#[95, 108, 97, 119, 95, 114, 117, 108, 101, 115]⟩, ⟨#[95, 108, 97, 119, 95, 114, 117, 108, 101, 115]⟩, defArgs (top 41), .stmts (defBody (top 41)), defScope (top 41), 3, [], .none, .none, .none, (.str ⟨#[108, 97, 119, 95, 104, 117, 115, 104, 114, 117, 108, 101, 115, 95, 107, 48, 51, 95, 98, 111, 111, 107, 115, 95, 97, 108, 105, 107, 101]⟩ 445), none, (.ref 244), .none, 0⟩), #[]⟩),
  (244, ⟨(.type "code"), none, (.fields #[(.str ⟨#[95, 108, 97, 119, 95, 114, 117, 108, 101, 115]⟩ 504), (.str ⟨#[95, 108, 97, 119, 95, 114, 117, 108, 101, 115]⟩ 505), (.str ⟨#[47, 99, 108, 97, 105, 109, 47, 99, 117, 116, 46, 112, 121]⟩ 506), (.int (153) 0), (.int (3) 0), (.int (0) 0), (.int (0) 0), (.int (3) 0), (.ref 241), (.bool true), (.int (181) 0), (.ref 242), .none, .none, .none, (.ref 243), (.int (507) 0), (.int (153) 0), (.str ⟨#[47, 99, 108, 97, 105, 109, 47, 99, 117, 116, 46, 112, 121]⟩ 508)]), #[]⟩),
  (250, ⟨.none, none, (.func ⟨⟨#[95, 108, 97, 119, 95, 100, 114, 97, 119, 110]⟩, ⟨#[95, 108, 97, 119, 95, 100, 114, 97, 119, 110]⟩, defArgs (top 42), .stmts (defBody (top 42)), defScope (top 42), 0, [], .none, .none, .none, .none, none, .none, .none, 0⟩), #[]⟩),
  (252, ⟨(.type "function"), none, (.func ⟨⟨#[95, 108, 97, 119, 95, 100, 114, 97, 119, 110]⟩, ⟨#[95, 108, 97, 119, 95, 100, 114, 97, 119, 110]⟩, defArgs (top 42), .stmts (defBody (top 42)), defScope (top 42), 3, [], .none, .none, .none, (.str ⟨#[108, 97, 119, 95, 104, 117, 115, 104, 114, 117, 108, 101, 115, 95, 107, 48, 51, 95, 98, 111, 111, 107, 115, 95, 97, 108, 105, 107, 101]⟩ 445), none, (.ref 251), .none, 0⟩), #[]⟩),
  (251, ⟨(.type "code"), none, (.fields #[(.str ⟨#[95, 108, 97, 119, 95, 100, 114, 97, 119, 110]⟩ 510), (.str ⟨#[95, 108, 97, 119, 95, 100, 114, 97, 119, 110]⟩ 511), (.str ⟨#[47, 99, 108, 97, 105, 109, 47, 99, 117, 116, 46, 112, 121]⟩ 512), (.int (155) 0), (.int (1) 0), (.int (0) 0), (.int (0) 0), (.int (3) 0), (.ref 246), (.bool true), (.int (181) 0), (.ref 247), .none, (.ref 248), (.ref 249), (.ref 250), (.int (515) 0), (.int (155) 0), (.str ⟨#[47, 99, 108, 97, 105, 109, 47, 99, 117, 116, 46, 112, 121]⟩ 516)]), #[]⟩),
  (257, ⟨.none, none, (.func ⟨⟨#[95, 108, 97, 119, 95, 110, 101, 97, 114]⟩, ⟨#[95, 108, 97, 119, 95, 110, 101, 97, 114]⟩, defArgs (top 43), .stmts (defBody (top 43)), defScope (top 43), 0, [], .none, .none, .none, .none, none, .none, .none, 0⟩), #[]⟩)]
def KL4 (w : World) : PySem.W.Frag := [(259, ⟨(.type "function"), none, (.func ⟨⟨#[95, 108, 97, 119, 95, 110, 101, 97, 114]⟩, ⟨#[95, 108, 97, 119, 95, 110, 101, 97, 114]⟩, defArgs (top 43), .stmts (defBody (top 43)), defScope (top 43), 3, [], .none, .none, .none, (.str ⟨#[108, 97, 119, 95, 104, 117, 115, 104, 114, 117, 108, 101, 115, 95, 107, 48, 51, 95, 98, 111, 111, 107, 115, 95, 97, 108, 105, 107, 101]⟩ 445), none, (.ref 258), .none, 0⟩), #[]⟩),
  (258, ⟨(.type "code"), none, (.fields #[(.str ⟨#[95, 108, 97, 119, 95, 110, 101, 97, 114]⟩ 518), (.str ⟨#[95, 108, 97, 119, 95, 110, 101, 97, 114]⟩ 519), (.str ⟨#[47, 99, 108, 97, 105, 109, 47, 99, 117, 116, 46, 112, 121]⟩ 520), (.int (158) 0), (.int (3) 0), (.int (0) 0), (.int (0) 0), (.int (3) 0), (.ref 253), (.bool true), (.int (181) 0), (.ref 254), .none, (.ref 255), (.ref 256), (.ref 257), (.int (531) 0), (.int (158) 0), (.str ⟨#[47, 99, 108, 97, 105, 109, 47, 99, 117, 116, 46, 112, 121]⟩ 532)]), #[]⟩),
  (262, ⟨.none, none, (.func ⟨⟨#[108, 97, 119]⟩, ⟨#[108, 97, 119]⟩, defArgs (top 44), .stmts (defBody (top 44)), defScope (top 44), 0, [], .none, .none, .none, .none, none, .none, .none, 0⟩), #[]⟩),
  (264, ⟨(.type "function"), none, (.func ⟨⟨#[108, 97, 119]⟩, ⟨#[108, 97, 119]⟩, defArgs (top 44), .stmts (defBody (top 44)), defScope (top 44), 3, [], .none, .none, .none, (.str ⟨#[108, 97, 119, 95, 104, 117, 115, 104, 114, 117, 108, 101, 115, 95, 107, 48, 51, 95, 98, 111, 111, 107, 115, 95, 97, 108, 105, 107, 101]⟩ 445), none, (.ref 263), .none, 0⟩), #[]⟩),
  (263, ⟨(.type "code"), none, (.fields #[(.str ⟨#[108, 97, 119]⟩ 534), (.str ⟨#[108, 97, 119]⟩ 535), (.str ⟨#[47, 99, 108, 97, 105, 109, 47, 99, 117, 116, 46, 112, 121]⟩ 536), (.int (168) 0), (.int (1) 0), (.int (0) 0), (.int (0) 0), (.int (3) 0), (.ref 260), (.bool true), (.int (181) 0), (.ref 261), .none, .none, .none, (.ref 262), (.int (537) 0), (.int (168) 0), (.str ⟨#[47, 99, 108, 97, 105, 109, 47, 99, 117, 116, 46, 112, 121]⟩ 538)]), #[]⟩)]
def KL (w : World) : PySem.W.Frag := KL0 w ++ KL1 w ++ KL2 w ++ KL3 w ++ KL4 w
def asL : List Addr := [3, 24, 23, 44, 43, 124, 123, 51, 53, 52, 58, 60, 59, 65, 67, 66, 70, 72, 71, 75, 77, 76, 91, 93, 86, 85, 92, 98, 100, 99, 105, 107, 106, 112, 114, 113, 119, 121, 120, 133, 135, 134, 138, 140, 139, 145, 147, 146, 152, 154, 153, 159, 161, 160, 166, 168, 167, 171, 173, 172, 178, 180, 179, 183, 185, 184, 188, 190, 189, 193, 195, 194, 198, 200, 199, 205, 207, 206, 212, 214, 213, 219, 221, 220, 226, 228, 227, 233, 235, 234, 238, 240, 239, 243, 245, 244, 250, 252, 251, 257, 259, 258, 262, 264, 263]
def tabA : List Addr := []
def emB (g : Addr → Option Obj) (a : Addr) : Bool := match g a with
  | some o => He.emptyTab o
  | none => false
def fnWs (w : World) (xs : List He.DefD) : List He.FnW := xs.map fun d => He.fnW (KL w) d.at_
theorem ka0 (w : World) : (fa0.all fun f => f.ok (KL w)) = true := by
  kernel_rfl
theorem ka1 (w : World) : (fa1.all fun f => f.ok (KL w)) = true := by
  kernel_rfl
theorem ka2 (w : World) : (fa2.all fun f => f.ok (KL w)) = true := by
  kernel_rfl
theorem kb0 (w : World) : (fn0.all fun d => d.ok (KL w)) = true := by
  kernel_rfl
theorem kc0 (w : World) : fnWs w fn0 = fn0.map He.DefD.val := by
  kernel_rfl
theorem kb1 (w : World) : (fn1.all fun d => d.ok (KL w)) = true := by
  kernel_rfl
theorem kc1 (w : World) : fnWs w fn1 = fn1.map He.DefD.val := by
  kernel_rfl
theorem kx (w : World) : U.exOk exs (KL w) = true := by
  kernel_rfl
theorem kt (w : World) : (tf.all fun p => PySem.W.codeHdIn (KL w) (He.cT (KL w) p).1 (He.cT (KL w) p).2) = true := by
  kernel_rfl
theorem kt2 (w : World) : tf.map (fun p => (He.cT (KL w) p).2) = tabA := by
  kernel_rfl
theorem kt3 (w : World) : (tabA.all fun a => ((KL w).lookup a).isNone) = true := by
  kernel_rfl
theorem all_app {α : Type} {p : α → Bool} {xs ys : List α} (h1 : xs.all p = true) (h2 : ys.all p = true) : (xs ++ ys).all p = true := by rw [List.all_append, h1, h2]; rfl
theorem map_app {w : World} {xs ys : List He.DefD} (h1 : fnWs w xs = xs.map He.DefD.val) (h2 : fnWs w ys = ys.map He.DefD.val) : fnWs w (xs ++ ys) = (xs ++ ys).map He.DefD.val := by
  unfold fnWs at *
  rw [List.map_append, List.map_append, h1, h2]
theorem fa_ok (w : World) : (fa.all fun f => f.ok (KL w)) = true := (all_app ((all_app (ka0 w) (ka1 w))) (ka2 w))
theorem fn_ok (w : World) : (fn.all fun d => d.ok (KL w)) = true := (all_app (kb0 w) (kb1 w))
theorem fn_val (w : World) : fnWs w fn = fn.map He.DefD.val := (map_app (kc0 w) (kc1 w))
theorem kl_t (w : World) : He.SaysT fa fn [] w (KL w) := by
  show (((fa.all fun f => f.ok (KL w)) && fn.all fun d => d.ok (KL w), fnWs w fn), ([] : List (Option (List (Option (PySem.Str × Int)))))) = ((true, fn.map He.DefD.val), [])
  rw [fa_ok, fn_ok, fn_val] <;> rfl
theorem kl_says (w : World) {h : Heap} (e : (tabA.all (emB h.get?)) = true) : He.SaysX fa fn [] tf (U.exOk exs) w h (KL w) := by
  have inA : ∀ p ∈ tf, (He.cT (KL w) p).2 ∈ tabA := fun p hp => by
    rw [← kt2 w]
    exact List.mem_map.mpr ⟨p, hp, rfl⟩
  refine ⟨kl_t w, kx w, fun p hp => List.all_eq_true.mp (kt w) p hp, fun p hp => ?_, fun p hp => ?_⟩
  · exact Option.isNone_iff_eq_none.mp (List.all_eq_true.mp (kt3 w) _ (inA p hp))
  · have q := List.all_eq_true.mp e _ (inA p hp)
    unfold emB at q
    split at q
    · rename_i o ho
      rw [ho, He.emptyTab_eq q]
    · cases q
abbrev hk : PySem.W.Hook where
  α := PySem.W.Frag × Bool
  obs := fun s => (He.frT s.heap.get? asL, tabA.all (emB s.heap.get?))
  val := fun w => (KL w, true)
  says := fun w h => ∃ K : PySem.W.Frag, K.In h ∧ He.SaysX fa fn [] tf (U.exOk exs) w h K
  of := fun w s e => ⟨KL w, by rw [← show He.frT s.heap.get? asL = KL w from congrArg (·.1) e]; exact He.frT_in, kl_says w (congrArg (·.2) e)⟩
  keeps := fun _ _ _ ⟨K, hK, c⟩ k => ⟨K, PySem.W.Frag.In.keeps hK k, ⟨c.t, c.more, c.hd, c.out, fun p hp => k _ _ (c.empty p hp)⟩⟩
def ob (s : PySem.W.SharedT) : PySem.W.Frag × Bool := (He.frT (HandSHeadRun.getT s) asL, tabA.all (emB (HandSHeadRun.getT s)))
theorem ob_eq (s : PySem.W.SharedT) : ob s = hk.obs s.abs := by
  have e : HandSHeadRun.getT s = s.abs.heap.get? := funext (HandSHeadRun.getT_eq s)
  show (He.frT (HandSHeadRun.getT s) asL, tabA.all (emB (HandSHeadRun.getT s))) = (He.frT s.abs.heap.get? asL, tabA.all (emB s.abs.heap.get?))
  rw [e]
section
open PySem PySem.W PySem.Calls PyProof.Rows HandSHeadRun
theorem run1 (w : World) (os : OsState) : (HandSHeadRun.endF (stepQ (denQ tabQ) RR.prog w) 8000 RR.prog w os).map (fun s => looksF RR.prog (boot_heap w.params) s.abs) = some true := by
  kernel_rfl
theorem run2 (w : World) (os : OsState) : (HandSHeadRun.endF (stepQ (denQ tabQ) RR.prog w) 8000 RR.prog w os).map (fun s => seenQ (PySem.W.view RR.prog [44]) loose (importedModules RR.prog.main.body) (fun s => xlAt (PySem.W.view RR.prog [44]) [] s && recOk RR.toRowW.records s) s.abs) = some (openGood (PySem.W.view RR.prog [44]) loose) := by
  kernel_rfl
theorem run3 (w : World) (os : OsState) : (HandSHeadRun.endF (stepQ (denQ tabQ) RR.prog w) 8000 RR.prog w os).map (fun s => ob s) = some (KL w, true) := by
  kernel_rfl
theorem split3 {α β γ δ : Type} {x : Option α} {f : α → β} {g : α → γ} {h : α → δ} {b : β} {c : γ} {d : δ} (hf : x.map f = some b) (hg : x.map g = some c) (hh : x.map h = some d) : x.map (fun s => (f s, g s, h s)) = some (b, c, d) := by
  cases x with
  | none => cases hf
  | some a => cases hf; cases hg; cases hh; rfl
theorem run (w : World) : HandSHeadRun.RunEq RR (PySem.W.view RR.prog [44]) hk ob 8000 loose w := fun os => split3 (run1 w os) (run2 w os) (run3 w os)
end
end Hd
set_option Elab.async false
set_option linter.all false
set_option maxRecDepth 100000
set_option maxHeartbeats 4000000
namespace U
open PySem PySem.Spec PyProof.Rows L2

def askd : List String := ["int", "bool", "str", "tuple", "list"]
structure IsiC (K : PySem.W.Frag) (C : Addr) : Prop where
  cl : Cls K C
  own : PySem.W.findIn K (.ref C) "__class__" = some (some (.builtin "object.__class__"))
  get : PySem.W.specialIn K (.builtin "object.__class__") "__get__" = some (some (.builtin "getset_descriptor.__get__"))
  tks : PySem.W.takesIn K (.builtin "object.__class__") = some true
  obj : PySem.W.mroIn K C (.type "object") = some true
  no : ∀ T ∈ askd, PySem.W.kitOne K (.ref C) (.type T) = some false
theorem isiC_ok {K : PySem.W.Frag} {C : Addr} (c : Cls K C) (h : isiCB C K = true) : IsiC K C := by
  unfold isiCB at h
  simp only [Bool.and_eq_true, decide_eq_true_eq, List.all_eq_true] at h
  exact ⟨c, h.1, h.2.1, h.2.2.1, h.2.2.2.1, h.2.2.2.2⟩
inductive D where
  | non | bl (b : Bool) | int (i : Int) | str (x : Str) | tup (xs : List D) | ref (n : Nat)
inductive Ob where
  | lst (xs : List D)
  | rol (xs : List D)
  | fzt (xs : List D)
  | tab (n : Str × Option Str) (q : Str)
  | exc (p : Addr) (d : Option Addr) (cl : Value) (c : Str) (fs : List (Str × D))
  | kst (xs : List D)
  | ins (c : Str) (fs : List (Str × D))
  | dct (kvs : List (D × D))
  | dcl (kvs : List (D × D))
abbrev Sto := List Ob
abbrev Pl := List Addr

mutual
inductive RV (K : PySem.W.Frag) (H : Hp) (m : Pl) : D → V → Prop
  | non : RV K H m .non .non
  | bl {b} : RV K H m (.bl b) (.bl b)
  | int {i} : RV K H m (.int i) (.int i)
  | str {x} : RV K H m (.str x) (.str x)
  | tup {xs a vs} : SqT K H a vs → RVs K H m xs vs → RV K H m (.tup xs) (.ref a)
  | ref {n a} : m[n]? = some a → RV K H m (.ref n) (.ref a)
inductive RVs (K : PySem.W.Frag) (H : Hp) (m : Pl) : List D → List V → Prop
  | nil : RVs K H m [] []
  | cons {d ds v vs} : RV K H m d v → RVs K H m ds vs → RVs K H m (d :: ds) (v :: vs)
end

structure Ext (H H' : Hp) : Prop where
  tups : ∀ b xs, H b = some (.tup xs) → H' b = some (.tup xs)
  frzs : ∀ b o u, H b = some (.frz o u) → H' b = some (.frz o u)
  cods : ∀ b q, H b = some (LamX.CodeO b q) → H' b = some (LamX.CodeO b q)
  xds : ∀ b fs, H b = some (.xd fs) → H' b = some (.xd fs)
theorem Ext.refl (H : Hp) : Ext H H := ⟨fun _ _ h => h, fun _ _ _ h => h, fun _ _ h => h, fun _ _ h => h⟩
theorem Ext.trans {H H1 H2 : Hp} (a : Ext H H1) (b : Ext H1 H2) : Ext H H2 := ⟨fun c xs h => b.tups c xs (a.tups c xs h), fun c o u h => b.frzs c o u (a.frzs c o u h), fun c q h => b.cods c q (a.cods c q h), fun c fs h => b.xds c fs (a.xds c fs h)⟩
theorem Ext.new {H : Hp} {p : Addr} {o : HO} (h : H p = none) : Ext H (upd H p o) :=
  ⟨fun b xs e => by rw [upd_ne (ne_of_none e h)]; exact e, fun b o u e => by rw [upd_ne (ne_of_none e h)]; exact e, fun b q e => by rw [upd_ne (ne_of_none e h)]; exact e, fun b q e => by rw [upd_ne (ne_of_none e h)]; exact e⟩
theorem Ext.sqT {K : PySem.W.Frag} {H H' : Hp} {a : Addr} {xs : List V} (e : Ext H H') (h : SqT K H a xs) : SqT K H' a xs := by
  rcases h with (h | ⟨o, h⟩) | h
  · exact .inl (.inl (e.tups _ _ h))
  · exact .inl (.inr ⟨o, e.frzs _ _ _ h⟩)
  · exact .inr h
section
variable {K : PySem.W.Frag} {H H' : Hp} {m m' : Pl}
theorem pre_get {m m' : Pl} (p : m <+: m') {n : Nat} {a : Addr} (h : m[n]? = some a) : m'[n]? = some a := by
  obtain ⟨t, rfl⟩ := p
  rw [List.getElem?_append_left (List.getElem?_eq_some_iff.mp h).1]
  exact h
mutual
theorem RV.mono (e : Ext H H') (p : m <+: m') : ∀ {d : D} {v : V}, RV K H m d v → RV K H' m' d v
  | .non, _, h => by cases h; exact .non
  | .bl _, _, h => by cases h; exact .bl
  | .int _, _, h => by cases h; exact .int
  | .str _, _, h => by cases h; exact .str
  | .tup xs, _, h => by
    cases h with
    | tup h1 h2 => exact .tup (e.sqT h1) (RVs.mono e p h2)
  | .ref _, _, h => by
    cases h with
    | ref h1 => exact .ref (pre_get p h1)
theorem RVs.mono (e : Ext H H') (p : m <+: m') : ∀ {ds : List D} {vs : List V}, RVs K H m ds vs → RVs K H' m' ds vs
  | [], _, h => by cases h; exact .nil
  | _ :: _, _, h => by
    cases h with
    | cons h1 h2 => exact .cons (RV.mono e p h1) (RVs.mono e p h2)
end
theorem RVs.length : ∀ {ds : List D} {vs : List V}, RVs K H m ds vs → ds.length = vs.length
  | [], _, h => by cases h; rfl
  | _ :: _, _, h => by
    cases h with
    | cons h1 h2 => simp [RVs.length h2]
theorem RVs.get : ∀ {ds : List D} {vs : List V} {i : Nat} {d : D}, RVs K H m ds vs → ds[i]? = some d → ∃ v, vs[i]? = some v ∧ RV K H m d v
  | [], _, _, _, _, e => by simp at e
  | x :: xs, _, i, d, h, e => by
    cases h with
    | @cons _ _ v vs h1 h2 =>
      cases i with
      | zero => simp at e; subst e; exact ⟨v, rfl, h1⟩
      | succ i => simpa using RVs.get h2 (by simpa using e)
theorem RVs.getv : ∀ {ds : List D} {vs : List V} {i : Nat} {v : V}, RVs K H m ds vs → vs[i]? = some v → ∃ d, ds[i]? = some d ∧ RV K H m d v
  | [], _, _, _, h, e => by cases h; simp at e
  | x :: xs, _, i, v, h, e => by
    cases h with
    | @cons _ _ w vs h1 h2 =>
      cases i with
      | zero => simp at e; subst e; exact ⟨x, rfl, h1⟩
      | succ i => simpa using RVs.getv h2 (by simpa using e)
theorem RVs.append : ∀ {ds es : List D} {vs ws : List V}, RVs K H m ds vs → RVs K H m es ws → RVs K H m (ds ++ es) (vs ++ ws)
  | [], _, _, _, h, g => by cases h; exact g
  | _ :: _, _, _, _, h, g => by
    cases h with
    | cons h1 h2 => exact .cons h1 (RVs.append h2 g)
theorem RVs.one {d : D} {v : V} (h : RV K H m d v) : RVs K H m [d] [v] := .cons h .nil
theorem RVs.drop : ∀ {ds : List D} {vs : List V} (n : Nat), RVs K H m ds vs → RVs K H m (ds.drop n) (vs.drop n)
  | _, _, 0, h => h
  | [], _, _ + 1, h => by cases h; exact .nil
  | _ :: _, _, n + 1, h => by
    cases h with
    | cons h1 h2 => exact RVs.drop n h2
theorem RVs.take : ∀ {ds : List D} {vs : List V} (n : Nat), RVs K H m ds vs → RVs K H m (ds.take n) (vs.take n)
  | _, _, 0, h => .nil
  | [], _, _ + 1, h => by cases h; exact .nil
  | _ :: _, _, n + 1, h => by
    cases h with
    | cons h1 h2 => exact .cons h1 (RVs.take n h2)
theorem RVs.set {d : D} {v : V} (r : RV K H m d v) : ∀ {ds : List D} {vs : List V} (n : Nat), RVs K H m ds vs → RVs K H m (ds.set n d) (vs.set n v)
  | [], _, _, h => by cases h; exact .nil
  | _ :: _, _, 0, h => by
    cases h with
    | cons h1 h2 => exact .cons r h2
  | _ :: _, _, n + 1, h => by
    cases h with
    | cons h1 h2 => exact .cons h1 (RVs.set r n h2)
end

mutual
def keyD : D → Option NestedKey
  | .non => some .none
  | .bl b => some (.num (if b = true then 1 else 0))
  | .int i => some (.num i)
  | .tup xs => (keysD xs).map .tup
  | .str _ => none
  | .ref _ => none
def keysD : List D → Option (List NestedKey)
  | [] => some []
  | d :: ds => match keyD d, keysD ds with
    | some k, some ks => some (k :: ks)
    | _, _ => none
end
abbrev DEn := NestedKey × Addr × Value
def dObj (a : Addr) (xs : List DEn) : HO := .ext fun h => ∃ (w0 : World) (o : Obj) (es : Array DictEntry) (ep : Nat), h.get? a = some o ∧ o.ExactDict ∧ o.data = .dict es ep ∧ es.toList = xs.map fun x => ⟨x.1.hash w0, .ref x.2.1, x.2.2⟩
structure DR (K : PySem.W.Frag) (H : Hp) (m : Pl) (a : Addr) (kvs : List (D × D)) (xs : List DEn) (vs : List V) : Prop where
  sys : (a == sysModules) = false
  at_ : H a = some (dObj a xs)
  nd : (xs.map (·.1)).Nodup
  key : kvs.map (fun p => keyD p.1) = xs.map (fun x => some x.1)
  dep : ∀ x ∈ xs, x.1.depth ≤ 8
  rk : RVs K H m (kvs.map (·.1)) (xs.map fun x => V.ref x.2.1)
  rv : RVs K H m (kvs.map (·.2)) vs
  vv : Vals vs (xs.map (·.2.2))
  len : kvs.length ≤ sizeLine
def ObjD (o : Obj) (xs : List DEn) : Prop := o.ExactDict ∧ ∃ (w0 : World) (es : Array DictEntry) (ep : Nat), o.data = .dict es ep ∧ es.toList = xs.map fun x => ⟨x.1.hash w0, .ref x.2.1, x.2.2⟩
structure DL (K : PySem.W.Frag) (H : Hp) (m : Pl) (a : Addr) (o : Obj) (kvs : List (D × D)) (xs : List DEn) (vs : List V) : Prop where
  sys : (a == sysModules) = false
  at_ : H a = some (.frz o (dObj a xs))
  obj : ObjD o xs
  nd : (xs.map (·.1)).Nodup
  key : kvs.map (fun p => keyD p.1) = xs.map (fun x => some x.1)
  dep : ∀ x ∈ xs, x.1.depth ≤ 8
  rk : RVs K H m (kvs.map (·.1)) (xs.map fun x => V.ref x.2.1)
  rv : RVs K H m (kvs.map (·.2)) vs
  vv : Vals vs (xs.map (·.2.2))
  len : kvs.length ≤ sizeLine
def XR (K : PySem.W.Frag) (H : Hp) (m : Pl) (fs : List (Str × D)) (dO : Option Addr) : Prop :=
  (fs = [] ∧ dO = none) ∨ ∃ dd vfs, dO = some dd ∧ H dd = some (.xd vfs) ∧ vfs.map (·.1) = fs.map (·.1) ∧ RVs K H m (fs.map (·.2)) (vfs.map (·.2))
def OR (K : PySem.W.Frag) (H : Hp) (m : Pl) (a : Addr) : Ob → Prop
  | .lst xs => ∃ vs, H a = some (.lst vs) ∧ RVs K H m xs vs
  | .rol xs => ∃ o vs, H a = some (.frz o (.lst vs)) ∧ RVs K H m xs vs
  | .fzt xs => ∃ o vs, H a = some (.frz o (.tup vs)) ∧ RVs K H m xs vs ∧ o.dict = none
  | .tab n q => a = (He.cT K n).2 ∧ LamX.TabS H a q
  | .exc p d cl c fs => a = p ∧ cl = .ref (He.ga K c) ∧ XR K H m fs d
  | .kst xs => ∃ vs, (∀ H', SqL K H' a vs) ∧ RVs K H m xs vs
  | .ins c fs => ∃ dx vfs, H a = some (.ins (He.ga K c) dx vfs) ∧ vfs.map (·.1) = fs.map (·.1) ∧ RVs K H m (fs.map (·.2)) (vfs.map (·.2)) ∧ fs.length < 500 ∧ IsiC K (He.ga K c)
  | .dct kvs => ∃ xs vs, DR K H m a kvs xs vs
  | .dcl kvs => ∃ o xs vs, DL K H m a o kvs xs vs
def Ob.trk : Ob → Bool
  | .kst _ => false
  | .exc _ _ _ _ _ => false
  | _ => true
structure SR (K : PySem.W.Frag) (H : Hp) (m : Pl) (st : Sto) : Prop where
  len : m.length = st.length
  nd : ∀ (i j : Nat) (a : Addr) (o o' : Ob), m[i]? = some a → m[j]? = some a → st[i]? = some o → st[j]? = some o' → o.trk = true → o'.trk = true → i = j
  ob : ∀ (i : Nat) (a : Addr) (o : Ob), m[i]? = some a → st[i]? = some o → OR K H m a o
section
variable {K : PySem.W.Frag} {H H' : Hp} {m m' : Pl} {st : Sto}
theorem OR.tracked {a : Addr} {o : Ob} (h : OR K H m a o) (t : o.trk = true) : ∃ u, H a = some u ∧ ∀ xs, u ≠ .tup xs := by
  cases o with
  | lst xs => obtain ⟨vs, h, _⟩ := h; exact ⟨_, h, fun _ e => by cases e⟩
  | rol xs => obtain ⟨o, vs, h, _⟩ := h; exact ⟨_, h, fun _ e => by cases e⟩
  | fzt xs => obtain ⟨o, vs, h, _⟩ := h; exact ⟨_, h, fun _ e => by cases e⟩
  | tab P q => obtain ⟨_, ps, h, _⟩ := h; exact ⟨_, h, fun _ e => by cases e⟩
  | exc p d cl c fs => cases t
  | kst xs => cases t
  | ins c fs => obtain ⟨dx, vfs, h, _⟩ := h; exact ⟨_, h, fun _ e => by cases e⟩
  | dct kvs => obtain ⟨xs, vs, h⟩ := h; exact ⟨_, h.at_, fun _ e => by cases e⟩
  | dcl kvs => obtain ⟨o, xs, vs, h⟩ := h; exact ⟨_, h.at_, fun _ e => by cases e⟩
theorem OR.mono {a : Addr} {o : Ob} (e : Ext H H') (p : m <+: m') (k : o.trk = true → ∀ u, H a = some u → H' a = some u) (h : OR K H m a o) : OR K H' m' a o := by
  cases o with
  | lst xs => obtain ⟨vs, h, r⟩ := h; exact ⟨vs, k rfl _ h, r.mono e p⟩
  | rol xs => obtain ⟨o, vs, h, r⟩ := h; exact ⟨o, vs, k rfl _ h, r.mono e p⟩
  | fzt xs => obtain ⟨o, vs, h, r, hd⟩ := h; exact ⟨o, vs, k rfl _ h, r.mono e p, hd⟩
  | tab P q => obtain ⟨ha, ps, h, h2, h3⟩ := h; exact ⟨ha, ps, k rfl _ h, h2, fun pos cv hc => let ⟨c, e1, e2⟩ := h3 pos cv hc; ⟨c, e1, e.cods c q e2⟩⟩
  | exc q d cl c fs => obtain ⟨h1, h2, h3⟩ := h; exact ⟨h1, h2, h3.elim (fun z => .inl z) fun ⟨dd, vfs, z1, z2, z3, z4⟩ => .inr ⟨dd, vfs, z1, e.xds _ _ z2, z3, z4.mono e p⟩⟩
  | kst xs => obtain ⟨vs, h, r⟩ := h; exact ⟨vs, h, r.mono e p⟩
  | ins c fs => obtain ⟨dx, vfs, h, h2, r, l⟩ := h; exact ⟨dx, vfs, k rfl _ h, h2, r.mono e p, l⟩
  | dct kvs => obtain ⟨xs, vs, h⟩ := h; exact ⟨xs, vs, h.sys, k rfl _ h.at_, h.nd, h.key, h.dep, h.rk.mono e p, h.rv.mono e p, h.vv, h.len⟩
  | dcl kvs => obtain ⟨o, xs, vs, h⟩ := h; exact ⟨o, xs, vs, h.sys, k rfl _ h.at_, h.obj, h.nd, h.key, h.dep, h.rk.mono e p, h.rv.mono e p, h.vv, h.len⟩
theorem SR.at (s : SR K H m st) {i : Nat} {o : Ob} (h : st[i]? = some o) : ∃ a, m[i]? = some a ∧ OR K H m a o := by
  have hi : i < m.length := by rw [s.len]; exact (List.getElem?_eq_some_iff.mp h).1
  exact ⟨m[i], by simp [hi], s.ob i _ o (by simp [hi]) h⟩
theorem SR.ext (s : SR K H m st) (e : Ext H H') (k : ∀ a ∈ m, ∀ u, H a = some u → H' a = some u) : SR K H' m st :=
  ⟨s.len, s.nd, fun i a o h1 h2 => (s.ob i a o h1 h2).mono e (List.prefix_refl m) fun _ => k a (List.mem_of_getElem? h1)⟩
theorem SR.tup (s : SR K H m st) {p : Addr} {o : HO} (h : H p = none) : SR K (upd H p o) m st :=
  s.ext (.new h) fun a ha u e => by rw [upd_ne (ne_of_none e h)]; exact e
theorem SR.new (s : SR K H m st) {p : Addr} {o : HO} {ob : Ob} (h : H p = none) (n : OR K (upd H p o) (m ++ [p]) p ob) : SR K (upd H p o) (m ++ [p]) (st ++ [ob]) := by
  have look : ∀ {i : Nat} {a : Addr} {q : Ob}, (m ++ [p])[i]? = some a → (st ++ [ob])[i]? = some q → (m[i]? = some a ∧ st[i]? = some q) ∨ (i = m.length ∧ a = p ∧ q = ob) := by
    intro i a q h1 h2
    by_cases hi : i < m.length
    · rw [List.getElem?_append_left hi] at h1
      rw [List.getElem?_append_left (by rw [← s.len]; exact hi)] at h2
      exact .inl ⟨h1, h2⟩
    · have hl : i < (m ++ [p]).length := (List.getElem?_eq_some_iff.mp h1).1
      have hi' : i = m.length := by simp at hl; omega
      subst hi'
      simp at h1
      rw [s.len] at h2
      simp at h2
      exact .inr ⟨rfl, h1.symm, h2.symm⟩
  have off : ∀ {i : Nat} {q : Ob}, m[i]? = some p → st[i]? = some q → q.trk = true → False := fun {i q} h1 h2 t => by
    obtain ⟨u, e, _⟩ := (s.ob i p q h1 h2).tracked t
    rw [h] at e
    cases e
  refine ⟨by simp [s.len], fun i j a oi oj hi hj hoi hoj ti tj => ?_, fun i a q h1 h2 => ?_⟩
  · rcases look hi hoi with ⟨x1, x2⟩ | ⟨x1, x2, x3⟩
    · rcases look hj hoj with ⟨y1, y2⟩ | ⟨y1, y2, y3⟩
      · exact s.nd i j a oi oj x1 y1 x2 y2 ti tj
      · subst y2; exact (off x1 x2 ti).elim
    · rcases look hj hoj with ⟨y1, y2⟩ | ⟨y1, y2, y3⟩
      · subst x2; exact (off y1 y2 tj).elim
      · omega
  · by_cases hi : i < m.length
    · rw [List.getElem?_append_left hi] at h1
      rw [List.getElem?_append_left (by rw [← s.len]; exact hi)] at h2
      exact (s.ob i a q h1 h2).mono (.new h) (List.prefix_append m [p]) fun _ u e => by rw [upd_ne (ne_of_none e h)]; exact e
    · have hl : i < (m ++ [p]).length := (List.getElem?_eq_some_iff.mp h1).1
      have hi' : i = m.length := by simp at hl; omega
      subst hi'
      simp at h1
      rw [s.len] at h2
      simp at h2
      subst h1 h2
      exact n
theorem no_tup_code {a : Addr} {xs : List DEn} {q : Str} : dObj a xs ≠ LamX.CodeO a q := fun z => by
  have mk : ∀ n : Nat, ∃ h : Heap, h.objs.size = n := fun n => by
    induction n with
    | zero => exact ⟨{}, rfl⟩
    | succ n ih =>
      obtain ⟨h, e⟩ := ih
      exact ⟨h.push { cls := .none, data := .fields #[] }, by rw [Heap.size_push, e]⟩
  obtain ⟨h, hs⟩ := mk a
  have ha : (h.push { cls := .none, data := .fields #[.none, .str q 0] }).get? a = some { cls := .none, data := .fields #[.none, .str q 0] } := by
    have := Heap.get?_push_size h (o := { cls := .none, data := .fields #[.none, .str q 0] }) rfl
    rwa [hs] at this
  unfold dObj LamX.CodeO at z
  injection z with z
  have z2 := congrFun z (h.push { cls := .none, data := .fields #[.none, .str q 0] })
  have t : ∃ (oc : Obj) (vs : Array Value) (t : Tok), (h.push { cls := .none, data := .fields #[.none, .str q 0] }).get? a = some oc ∧ oc.data = .fields vs ∧ vs[1]? = some (.str q t) := ⟨_, _, 0, ha, rfl, rfl⟩
  rw [← z2] at t
  obtain ⟨_, o, es, ep, e1, _, e2, _⟩ := t
  rw [ha] at e1
  cases e1
  cases e2
theorem Ext.write {p : Addr} {o u : HO} (h : H p = some u) (h1 : ∀ xs, u ≠ .tup xs) (h2 : ∀ o' w, u ≠ .frz o' w) (h3 : ∀ q, u ≠ LamX.CodeO p q := by first | exact fun _ z => by unfold LamX.CodeO at z; cases z | exact fun _ => U.no_tup_code) (h4 : ∀ fs, u ≠ .xd fs := by first | exact fun _ z => by cases z | exact fun _ z => by unfold U.dObj at z; cases z) : Ext H (upd H p o) :=
  ⟨fun b xs e => by rw [upd_ne (ne_of e h fun z => h1 xs z.symm)]; exact e, fun b o w e => by rw [upd_ne (ne_of e h fun z => h2 o w z.symm)]; exact e, fun b q e => by
    by_cases hb : b = p
    · subst hb
      rw [h] at e
      exact absurd (Option.some.inj e) (h3 q)
    · rw [upd_ne hb]
      exact e, fun b fs e => by rw [upd_ne (ne_of e h fun z => h4 fs z.symm)]; exact e⟩
theorem SR.write (s : SR K H m st) {i : Nat} {p : Addr} {o u : HO} {ob o0 : Ob} (hi : m[i]? = some p) (h0 : st[i]? = some o0) (t0 : o0.trk = true) (h : H p = some u) (h1 : ∀ xs, u ≠ .tup xs) (h2 : ∀ o' w, u ≠ .frz o' w)
    (n : OR K (upd H p o) m p ob) (h3 : ∀ q, u ≠ LamX.CodeO p q := by first | exact fun _ z => by unfold LamX.CodeO at z; cases z | exact fun _ => U.no_tup_code) (h4 : ∀ fs, u ≠ .xd fs := by first | exact fun _ z => by cases z | exact fun _ z => by unfold U.dObj at z; cases z) : SR K (upd H p o) m (st.set i ob) := by
  have back : ∀ {j : Nat} {q : Ob}, (st.set i ob)[j]? = some q → (j = i ∧ q = ob) ∨ (j ≠ i ∧ st[j]? = some q) := by
    intro j q e
    by_cases hj : j = i
    · subst hj
      rw [List.getElem?_set_self (List.getElem?_eq_some_iff.mp h0).1] at e
      cases e
      exact .inl ⟨rfl, rfl⟩
    · rw [List.getElem?_set_ne (Ne.symm hj)] at e
      exact .inr ⟨hj, e⟩
  refine ⟨by simp [s.len], fun j k a oj ok hj hk hoj hok tj tk => ?_, fun j a q e1 e2 => ?_⟩
  · rcases back hoj with ⟨x1, x2⟩ | ⟨x1, x2⟩
    · rcases back hok with ⟨y1, y2⟩ | ⟨y1, y2⟩
      · omega
      · subst x1; exact s.nd j k a o0 ok hj hk h0 y2 t0 tk
    · rcases back hok with ⟨y1, y2⟩ | ⟨y1, y2⟩
      · subst y1; exact s.nd j k a oj o0 hj hk x2 h0 tj t0
      · exact s.nd j k a oj ok hj hk x2 y2 tj tk
  · rcases back e2 with ⟨x1, x2⟩ | ⟨x1, x2⟩
    · subst x1 x2
      rw [hi] at e1; cases e1
      exact n
    · refine (s.ob j a q e1 x2).mono (.write h h1 h2 h3 h4) (List.prefix_refl m) fun tq w e => ?_
      have ne : a ≠ p := fun z => x1 (s.nd j i a q o0 e1 (z ▸ hi) x2 h0 tq t0)
      rw [upd_ne ne]; exact e
end

abbrev Ev := List (Option D)
structure RE (K : PySem.W.Frag) (H : Hp) (m : Pl) (env : Ev) (σ : L2.St) : Prop where
  len : env.length = σ.length
  at_ : ∀ (i : Nat) (d : D), env[i]? = some (some d) → ∃ v, σ[i]? = some (some v) ∧ RV K H m d v
section
variable {K : PySem.W.Frag} {H H' : Hp} {m m' : Pl} {env : Ev} {σ : L2.St}
theorem RE.mono (r : RE K H m env σ) (e : Ext H H') (p : m <+: m') : RE K H' m' env σ :=
  ⟨r.len, fun i d h => let ⟨v, h1, h2⟩ := r.at_ i d h; ⟨v, h1, h2.mono e p⟩⟩
theorem RE.set (r : RE K H m env σ) {i : Nat} {d : D} {v : V} (h : RV K H m d v) : RE K H m (env.set i (some d)) (σ.set i (some v)) := by
  refine ⟨by simp [r.len], fun j x e => ?_⟩
  by_cases hj : i = j
  · subst hj
    by_cases hl : i < env.length
    · rw [List.getElem?_set_self hl] at e
      cases e
      exact ⟨v, by rw [List.getElem?_set_self (by rw [← r.len]; exact hl)], h⟩
    · rw [List.getElem?_eq_none (by simp; omega)] at e
      cases e
  · rw [List.getElem?_set_ne hj] at e ⊢
    exact r.at_ j x e
theorem RE.forget (r : RE K H m env σ) {i : Nat} : RE K H m (env.set i none) (σ.set i none) := by
  refine ⟨by simp [r.len], fun j x e => ?_⟩
  by_cases hj : i = j
  · subst hj
    by_cases hl : i < env.length
    · rw [List.getElem?_set_self hl] at e; cases e
    · rw [List.getElem?_eq_none (by simp; omega)] at e
      cases e
  · rw [List.getElem?_set_ne hj] at e ⊢
    exact r.at_ j x e
end

inductive R (α : Type) where
  | ok (a : α) (st : Sto)
  | err (c : Str) (fs : List (Str × D)) (st : Sto)
  | fail
def R.bind {α β : Type} (r : R α) (f : α → Sto → R β) : R β := match r with
  | .ok a st => f a st
  | .err c fs st => .err c fs st
  | .fail => .fail
inductive RS where
  | nx (env : Ev) (st : Sto)
  | rt (d : D) (st : Sto)
  | bk (env : Ev) (st : Sto)
  | ct (env : Ev) (st : Sto)
  | err (c : Str) (fs : List (Str × D)) (env : Ev) (st : Sto)
  | fail
def R.then {α : Type} (env : Ev) (r : R α) (f : α → Sto → RS) : RS := match r with
  | .ok a st => f a st
  | .err c fs st => .err c fs env st
  | .fail => .fail
abbrev EM := Ev → Sto → R D
abbrev TM := Ev → Sto → R Bool
abbrev AM := Ev → Sto → R (List D)
abbrev SM := Ev → Sto → RS
def Post {α β : Type} (K : PySem.W.Frag) (ok : Hp → Pl → α → β → Prop) (E : XK) (m : Pl) (H : Hp) (Q : β → Hp → Prop) : R α → Prop
  | .ok d st => ∀ v H' m', Ext H H' → m <+: m' → SR K H' m' st → ok H' m' d v → Q v H'
  | .err c fs st => ∀ dO H' m', Ext H H' → m <+: m' → SR K H' m' st → XR K H' m' fs dO → E (.ref (He.ga K c)) dO H'
  | .fail => False
def PostS (K : PySem.W.Frag) (W : WX) (m : Pl) (H : Hp) (Dn : Ends) : RS → Prop
  | .nx env st => ∀ σ H' m', Ext H H' → m <+: m' → SR K H' m' st → RE K H' m' env σ → Dn.nx σ H'
  | .rt d st => ∀ v H' m', Ext H H' → m <+: m' → SR K H' m' st → RV K H' m' d v → Dn.rt v H'
  | .bk env st => ∀ σ H' m', Ext H H' → m <+: m' → SR K H' m' st → RE K H' m' env σ → Dn.bk σ H'
  | .ct env st => ∀ σ H' m', Ext H H' → m <+: m' → SR K H' m' st → RE K H' m' env σ → Dn.ct σ H'
  | .err c fs env st => ∀ dO σ H' m', Ext H H' → m <+: m' → SR K H' m' st → XR K H' m' fs dO → RE K H' m' env σ → W (.ref (He.ga K c)) dO σ H'
  | .fail => False
abbrev okV (K : PySem.W.Frag) : Hp → Pl → D → V → Prop := fun H m d v => RV K H m d v
abbrev okB : Hp → Pl → Bool → Bool → Prop := fun _ _ b c => b = c
abbrev okA (K : PySem.W.Frag) : Hp → Pl → List D → List V → Prop := fun H m d v => RVs K H m d v
def rE (K : PySem.W.Frag) (W : WX) (g : EM) : TE := fun σ H Q => ∃ env m st, RE K H m env σ ∧ SR K H m st ∧ Post K (okV K) (WE W σ) m H Q (g env st)
def rT (K : PySem.W.Frag) (W : WX) (g : TM) : TT := fun σ H Q => ∃ env m st, RE K H m env σ ∧ SR K H m st ∧ Post K okB (WE W σ) m H Q (g env st)
def rA (K : PySem.W.Frag) (W : WX) (g : AM) : TA := fun σ H Q => ∃ env m st, RE K H m env σ ∧ SR K H m st ∧ Post K (okA K) (WE W σ) m H Q (g env st)
def rS (K : PySem.W.Frag) (W : WX) (g : SM) : TS := fun Dn σ H => ∃ env m st, RE K H m env σ ∧ SR K H m st ∧ PostS K W m H Dn (g env st)
section
variable {K : PySem.W.Frag} {E : XK} {W : WX} {m m' : Pl} {H H' : Hp} {Dn : Ends} {σ : L2.St}
theorem Post.up {α β : Type} {ok : Hp → Pl → α → β → Prop} {Q : β → Hp → Prop} {r : R α} (h : Post K ok E m H Q r) (e : Ext H H') (p : m <+: m') : Post K ok E m' H' Q r := by
  cases r with
  | ok d st => exact fun v H2 m2 e2 p2 => h v H2 m2 (e.trans e2) (p.trans p2)
  | err c fs st => exact fun dO H2 m2 e2 p2 => h dO H2 m2 (e.trans e2) (p.trans p2)
  | fail => exact h
theorem PostS.up {r : RS} (h : PostS K W m H Dn r) (e : Ext H H') (p : m <+: m') : PostS K W m' H' Dn r := by
  cases r with
  | nx env st => exact fun v H2 m2 e2 p2 => h v H2 m2 (e.trans e2) (p.trans p2)
  | rt d st => exact fun v H2 m2 e2 p2 => h v H2 m2 (e.trans e2) (p.trans p2)
  | bk env st => exact fun v H2 m2 e2 p2 => h v H2 m2 (e.trans e2) (p.trans p2)
  | ct env st => exact fun v H2 m2 e2 p2 => h v H2 m2 (e.trans e2) (p.trans p2)
  | err c fs env st => exact fun dO v H2 m2 e2 p2 => h dO v H2 m2 (e.trans e2) (p.trans p2)
  | fail => exact h
theorem Post.bind {α β α' β' : Type} {ok : Hp → Pl → α → β → Prop} {ok' : Hp → Pl → α' → β' → Prop} {Q : β → Hp → Prop} {Q1 : β' → Hp → Prop} {r : R α'} {f : α' → Sto → R α} (h : Post K ok E m H Q (r.bind f))
    (k : ∀ d st v H' m', Ext H H' → m <+: m' → SR K H' m' st → ok' H' m' d v → Post K ok E m' H' Q (f d st) → Q1 v H') : Post K ok' E m H Q1 r := by
  cases r with
  | ok d st => exact fun v H2 m2 e2 p2 s2 r2 => k d st v H2 m2 e2 p2 s2 r2 (Post.up (r := f d st) h e2 p2)
  | err c fs st => exact h
  | fail => exact h
theorem PostS.bind {α' β' : Type} {ok' : Hp → Pl → α' → β' → Prop} {Q1 : β' → Hp → Prop} {r : R α'} {env : Ev} {f : α' → Sto → RS} (hE : RE K H m env σ) (h : PostS K W m H Dn (r.then env f))
    (k : ∀ d st v H' m', Ext H H' → m <+: m' → SR K H' m' st → ok' H' m' d v → PostS K W m' H' Dn (f d st) → Q1 v H') : Post K ok' (WE W σ) m H Q1 r := by
  cases r with
  | ok d st => exact fun v H2 m2 e2 p2 s2 r2 => k d st v H2 m2 e2 p2 s2 r2 (PostS.up (r := f d st) h e2 p2)
  | err c fs st => exact fun dO H2 m2 e2 p2 s2 r2 => h dO σ H2 m2 e2 p2 s2 r2 (hE.mono e2 p2)
  | fail => exact h
theorem Post.here {α β : Type} {ok : Hp → Pl → α → β → Prop} {Q : β → Hp → Prop} {d : α} {v : β} {st : Sto} (h : Post K ok E m H Q (.ok d st)) (s : SR K H m st) (r : ok H m d v) : Q v H :=
  h v H m (.refl H) (List.prefix_refl m) s r
end
theorem _root_.L2.PE.imp {X : Cx} {e : Expr} {t t' : TE} (h : PE X e t) (i : ∀ σ H Q, t' σ H Q → t σ H Q) : PE X e t' := ⟨fun pins s σ H Q I q => h.run pins s σ H Q I (i _ _ _ q)⟩
theorem _root_.L2.PT.imp {X : Cx} {e : Expr} {t t' : TT} (h : PT X e t) (i : ∀ σ H Q, t' σ H Q → t σ H Q) : PT X e t' := ⟨fun pins s σ H Q I q => h.run pins s σ H Q I (i _ _ _ q)⟩
theorem _root_.L2.PW.imp {X : Cx} {e : Expr} {t t' : TT} (h : PW X e t) (i : ∀ σ H Q, t' σ H Q → t σ H Q) : PW X e t' := ⟨fun wh pins s σ H Q I q => h.run wh pins s σ H Q I (i _ _ _ q)⟩
theorem _root_.L2.PA.imp {X : Cx} {e : List Expr} {t t' : TA} (h : PA X e t) (i : ∀ σ H Q, t' σ H Q → t σ H Q) : PA X e t' := ⟨fun pos pins s σ H Q I q => h.run pos pins s σ H Q I (i _ _ _ q)⟩
theorem _root_.L2.PS.imp {X : Cx} {e : Stmt} {t t' : TS} (h : PS X e t) (i : ∀ D σ H, t' D σ H → t D σ H) : PS X e t' := ⟨fun pins s σ H D I q => h.run pins s σ H D I (i _ _ _ q)⟩
theorem _root_.L2.PSs.imp {X : Cx} {e : List Stmt} {t t' : TS} (h : PSs X e t) (i : ∀ D σ H, t' D σ H → t D σ H) : PSs X e t' := ⟨fun pins s σ H D I q => h.run pins s σ H D I (i _ _ _ q)⟩
end U
set_option Elab.async false
set_option linter.all false
set_option maxRecDepth 100000
set_option maxHeartbeats 4000000
namespace U
open PySem PySem.Spec PyProof.Rows L2

def eVar (i : Nat) : EM := fun env st => match env[i]? with
  | some (some d) => .ok d st
  | _ => .fail
def eC (d : D) : EM := fun _ st => .ok d st
def eUn (f : D → Sto → R D) (a : EM) : EM := fun env st => (a env st).bind f
def eBin (f : D → D → Sto → R D) (a b : EM) : EM := fun env st => (a env st).bind fun x st => (b env st).bind fun y st => f x y st
def aNil : AM := fun _ st => .ok [] st
def aCons (a : EM) (r : AM) : AM := fun env st => (a env st).bind fun x st => (r env st).bind fun xs st => .ok (x :: xs) st
def eFn (f : List D → Sto → R D) (a : AM) : EM := fun env st => (a env st).bind f
def toB (d : D) (st : Sto) : R Bool := match d with
  | .bl b => .ok b st
  | _ => .fail
def tOf (g : EM) : TM := fun env st => (g env st).bind toB
def tAnd (a b : TM) : TM := fun env st => (a env st).bind fun c st => if c = true then b env st else .ok false st
def tOr (a b : TM) : TM := fun env st => (a env st).bind fun c st => if c = true then .ok true st else b env st
def tNot (a : TM) : TM := fun env st => (a env st).bind fun c st => .ok (!c) st
def eAnd (a b : EM) : EM := fun env st => (a env st).bind fun x st => match x with
  | .bl c => if c = true then b env st else .ok (.bl false) st
  | _ => .fail
def eOr (a b : EM) : EM := fun env st => (a env st).bind fun x st => match x with
  | .bl c => if c = true then .ok (.bl true) st else b env st
  | _ => .fail
def eNot (a : EM) : EM := fun env st => (a env st).bind fun x st => match x with
  | .bl c => .ok (.bl (!c)) st
  | _ => .fail
def eIf (c : TM) (a b : EM) : EM := fun env st => (c env st).bind fun k st => if k = true then a env st else b env st

section
variable {X : Cx} {W : WX} {a b c : Expr} {ga gb gc : EM} {es : List Expr} {gs : AM} {pos : Pos}
theorem e_of {v : V} {d : D} (h : PE X a (tC v)) (r : ∀ H m, RV X.K H m d v) : PE X a (rE X.K W (eC d)) := h.imp fun σ H Q ⟨env, m, st, hE, hS, hp⟩ => Post.here (v := v) hp hS (r H m)
theorem e_int {i : Int} {j : Nat} : PE X (.Constant (.int i) j pos) (rE X.K W (eC (.int i))) := e_of pe_int fun _ _ => .int
theorem e_bl {i : Bool} {j : Nat} : PE X (.Constant (.bool i) j pos) (rE X.K W (eC (.bl i))) := e_of pe_bl fun _ _ => .bl
theorem e_non {j : Nat} : PE X (.Constant .none j pos) (rE X.K W (eC .non)) := e_of pe_non fun _ _ => .non
theorem e_str {x : Str} {j : Nat} : PE X (.Constant (.str x) j pos) (rE X.K W (eC (.str x))) := e_of pe_str fun _ _ => .str
theorem e_gint {x : Str} {i : Int} (hm : ∃ t, X.mg x = some (.int i t)) (hg : Gl X x := by rfl) (hd : (x == ("__debug__" : Str)) = false := by decide) : PE X (.Name x pos) (rE X.K W (eC (.int i))) := by
  obtain ⟨t, hm⟩ := hm
  exact e_of (v := .int i) (pe_glob hg hm ⟨t, rfl⟩ hd) fun _ _ => .int
theorem e_var (i : Nat) {x : Str} (hN : X.N[i]? = some x := by rfl) (hv : Vis X.env.scope x := by first | exact Or.inl rfl | exact Or.inr (Or.inl rfl) | exact Or.inr (Or.inr rfl)) (hd : (x == ("__debug__" : Str)) = false := by decide)
    (hcd : (x == ("__classdict__" : Str)) = false := by decide) : PE X (.Name x pos) (rE X.K W (eVar i)) := (pe_var hN hv hd hcd).imp fun σ H Q ⟨env, m, st, hE, hS, hp⟩ => by
  unfold eVar at hp
  cases q : env[i]? with
  | none => rw [q] at hp; exact hp.elim
  | some o =>
    cases o with
    | none => rw [q] at hp; exact hp.elim
    | some d =>
      rw [q] at hp
      obtain ⟨v, e, r⟩ := hE.at_ i d q
      exact ⟨v, e, Post.here (v := v) hp hS r⟩
def OpF (X : Cx) (o : Value → Value → Sem Value) (f : D → D → Sto → R D) : Prop :=
  ∃ r : R2, OpR X o r ∧ ∀ (E : XK) (m : Pl) (H : Hp) (st : Sto) (dx dy : D) (x y : V) (Q : VK), SR X.K H m st → RV X.K H m dx x → RV X.K H m dy y → Post X.K (okV X.K) E m H Q (f dx dy st) → r x y H Q
theorem bin_of {r : R2} {f : D → D → Sto → R D} (hr : ∀ (E : XK) (m : Pl) (H : Hp) (st : Sto) (dx dy : D) (x y : V) (Q : VK), SR X.K H m st → RV X.K H m dx x → RV X.K H m dy y → Post X.K (okV X.K) E m H Q (f dx dy st) → r x y H Q)
    {σ : L2.St} {H : Hp} {Q : VK} (h : rE X.K W (eBin f ga gb) σ H Q) : tOp r (rE X.K W ga) (rE X.K W gb) σ H Q := by
  obtain ⟨env, m, st, hE, hS, hp⟩ := h
  exact ⟨env, m, st, hE, hS, hp.bind fun dx st1 x H1 m1 e1 p1 s1 r1 hp1 => ⟨env, m1, st1, hE.mono e1 p1, s1, hp1.bind fun dy st2 y H2 m2 e2 p2 s2 r2 hp2 => hr _ m2 H2 st2 dx dy x y Q s2 (r1.mono e2 p2) r2 hp2⟩⟩
theorem e_op {op : Operator} {f : D → D → Sto → R D} (ho : OpF X (binaryOp op) f) (ha : PE X a (rE X.K W ga)) (hb : PE X b (rE X.K W gb)) : PE X (.BinOp a op b pos) (rE X.K W (eBin f ga gb)) := by
  obtain ⟨r, h1, h2⟩ := ho
  exact (pe_op h1 ha hb).imp fun σ H Q h => bin_of h2 h
theorem e_cmp {op : CmpOp} {f : D → D → Sto → R D} (ho : OpF X (compareOp op) f) (ha : PE X a (rE X.K W ga)) (hb : PE X b (rE X.K W gb)) (hm : behindInMarks op b = false := by first | exact nomark _ | rfl) : PE X (.Compare a [op] [b] pos) (rE X.K W (eBin f ga gb)) := by
  obtain ⟨r, h1, h2⟩ := ho
  exact (pe_cmpR h1 ha hb hm).imp fun σ H Q h => bin_of h2 h
theorem test_of {g : EM} {σ : L2.St} {H : Hp} {Q : Bool → Hp → Prop} (h : rT X.K W (tOf g) σ H Q) : rE X.K W g σ H (fun x H' => ∃ k, x = .bl k ∧ Q k H') := by
  obtain ⟨env, m, st, hE, hS, hp⟩ := h
  refine ⟨env, m, st, hE, hS, hp.bind fun d st1 x H1 m1 e1 p1 s1 r1 hp1 => ?_⟩
  cases d with
  | bl k => cases r1; exact ⟨k, rfl, Post.here (v := k) hp1 s1 rfl⟩
  | _ => exact hp1.elim
theorem t_cmp {op : CmpOp} {f : D → D → Sto → R D} (ho : OpF X (compareOp op) f) (ha : PE X a (rE X.K W ga)) (hb : PE X b (rE X.K W gb)) (hm : behindInMarks op b = false := by first | exact nomark _ | rfl) : PT X (.Compare a [op] [b] pos) (rT X.K W (tOf (eBin f ga gb))) := by
  obtain ⟨r, h1, h2⟩ := ho
  refine (pt_cmpR h1 ha hb hm).imp fun σ H Q h => ?_
  exact bin_of h2 (test_of h)
theorem t_val (ha : PE X a (rE X.K W ga)) (he : ∀ whole, isTrue a X.env whole = (do let v ← whole; standAt a.pos; holding [v] (truthy v)) := by intro _; rfl) : PT X a (rT X.K W (tOf ga)) :=
  (pt_val ha he).imp fun σ H Q h => test_of h
variable {ta tb tc : TM}
theorem or_of {σ : L2.St} {H : Hp} {Q : Bool → Hp → Prop} (h : rT X.K W (tOr ta tb) σ H Q) : L2.tOr (rT X.K W ta) (rT X.K W tb) σ H Q := by
  obtain ⟨env, m, st, hE, hS, hp⟩ := h
  refine ⟨env, m, st, hE, hS, hp.bind fun c st1 c' H1 m1 e1 p1 s1 r1 hp1 => ?_⟩
  cases (show c = c' from r1)
  cases c with
  | true => exact iteT (Post.here (v := true) hp1 s1 rfl)
  | false => exact iteF ⟨env, m1, st1, hE.mono e1 p1, s1, hp1⟩
theorem w_or1 (ha : PT X a (rT X.K W ta)) : PW X (.BoolOp .Or [a] pos) (rT X.K W ta) := pw_or1 ha
theorem w_or (ha : PT X a (rT X.K W ta)) (hb : PW X (.BoolOp .Or (b :: es) pos) (rT X.K W tb)) : PW X (.BoolOp .Or (a :: b :: es) pos) (rT X.K W (tOr ta tb)) := (pw_or ha hb).imp fun σ H Q h => or_of h
theorem t_w {t : TM} (h : PW X a (rT X.K W t)) : PT X a (rT X.K W t) := h.pt
theorem t_not (ha : PT X a (rT X.K W ta)) : PT X (.UnaryOp .Not a pos) (rT X.K W (tNot ta)) := (pt_not ha).imp fun σ H Q h => by
  obtain ⟨env, m, st, hE, hS, hp⟩ := h
  refine ⟨env, m, st, hE, hS, hp.bind fun c st1 c' H1 m1 e1 p1 s1 r1 hp1 => ?_⟩
  cases (show c = c' from r1)
  exact Post.here (v := !c) hp1 s1 rfl
theorem e_one {op : BoolOp} (ha : PE X a (rE X.K W ga)) : PE X (.BoolOp op [a] pos) (rE X.K W ga) := pe_one ha
theorem e_and (ha : PE X a (rE X.K W ga)) (hb : PE X (.BoolOp .And (b :: es) pos) (rE X.K W gb)) : PE X (.BoolOp .And (a :: b :: es) pos) (rE X.K W (eAnd ga gb)) := (pe_and ha hb).imp fun σ H Q h => by
  obtain ⟨env, m, st, hE, hS, hp⟩ := h
  refine ⟨env, m, st, hE, hS, hp.bind fun d st1 x H1 m1 e1 p1 s1 r1 hp1 => ?_⟩
  cases d with
  | bl c =>
    cases r1
    refine ⟨c, rfl, ?_⟩
    cases c with
    | true => exact iteT ⟨env, m1, st1, hE.mono e1 p1, s1, hp1⟩
    | false => exact iteF (Post.here (v := .bl false) hp1 s1 .bl)
  | _ => exact hp1.elim
theorem e_or (ha : PE X a (rE X.K W ga)) (hb : PE X (.BoolOp .Or (b :: es) pos) (rE X.K W gb)) : PE X (.BoolOp .Or (a :: b :: es) pos) (rE X.K W (eOr ga gb)) := (pe_or ha hb).imp fun σ H Q h => by
  obtain ⟨env, m, st, hE, hS, hp⟩ := h
  refine ⟨env, m, st, hE, hS, hp.bind fun d st1 x H1 m1 e1 p1 s1 r1 hp1 => ?_⟩
  cases d with
  | bl c =>
    cases r1
    refine ⟨c, rfl, ?_⟩
    cases c with
    | true => exact iteT (Post.here (v := .bl true) hp1 s1 .bl)
    | false => exact iteF ⟨env, m1, st1, hE.mono e1 p1, s1, hp1⟩
  | _ => exact hp1.elim
theorem e_not (ha : PE X a (rE X.K W ga)) : PE X (.UnaryOp .Not a pos) (rE X.K W (eNot ga)) := (pe_not ha).imp fun σ H Q h => by
  obtain ⟨env, m, st, hE, hS, hp⟩ := h
  refine ⟨env, m, st, hE, hS, hp.bind fun d st1 x H1 m1 e1 p1 s1 r1 hp1 => ?_⟩
  cases d with
  | bl c => cases r1; exact ⟨c, rfl, Post.here (v := .bl (!c)) hp1 s1 .bl⟩
  | _ => exact hp1.elim
theorem e_if (hc : PT X c (rT X.K W tc)) (ha : PE X a (rE X.K W ga)) (hb : PE X b (rE X.K W gb)) : PE X (.IfExp c a b pos) (rE X.K W (eIf tc ga gb)) := (pe_ifExp hc ha hb).imp fun σ H Q h => by
  obtain ⟨env, m, st, hE, hS, hp⟩ := h
  refine ⟨env, m, st, hE, hS, hp.bind fun k st1 k' H1 m1 e1 p1 s1 r1 hp1 => ?_⟩
  cases (show k = k' from r1)
  cases k with
  | true => exact iteT ⟨env, m1, st1, hE.mono e1 p1, s1, hp1⟩
  | false => exact iteF ⟨env, m1, st1, hE.mono e1 p1, s1, hp1⟩
theorem a_nil : PA X [] (rA X.K W aNil) := pa_nil.imp fun σ H Q ⟨env, m, st, hE, hS, hp⟩ => Post.here (v := []) hp hS .nil
theorem a_cons (ha : PE X a (rE X.K W ga)) (hr : PA X es (rA X.K W gs)) (hs : starEach (a :: es) X.env = (false, eval a X.env) :: starEach es X.env := by rfl) : PA X (a :: es) (rA X.K W (aCons ga gs)) := (pa_cons ha hr hs).imp fun σ H Q h => by
  obtain ⟨env, m, st, hE, hS, hp⟩ := h
  exact ⟨env, m, st, hE, hS, hp.bind fun d st1 x H1 m1 e1 p1 s1 r1 hp1 => ⟨env, m1, st1, hE.mono e1 p1, s1, hp1.bind fun ds st2 xs H2 m2 e2 p2 s2 r2 hp2 => Post.here (v := x :: xs) hp2 s2 (.cons (r1.mono e2 p2) r2)⟩⟩
def CallF (K : PySem.W.Frag) (r : List V → Hp → VK → Prop) (f : List D → Sto → R D) : Prop :=
  ∀ (E : XK) (m : Pl) (H : Hp) (st : Sto) (ds : List D) (vs : List V) (Q : VK), SR K H m st → RVs K H m ds vs → Post K (okV K) E m H Q (f ds st) → r vs H Q
theorem fn_read {r : List V → Hp → VK → Prop} {f : List D → Sto → R D} (hr : CallF X.K r f) {σ : L2.St} {H : Hp} {Q : VK} (h : rE X.K W (eFn f gs) σ H Q) : rA X.K W gs σ H (fun vs H1 => r vs H1 Q) := by
  obtain ⟨env, m, st, hE, hS, hp⟩ := h
  exact ⟨env, m, st, hE, hS, hp.bind fun d st1 x H1 m1 e1 p1 s1 r1 hp1 => hr _ m1 H1 st1 d x Q s1 r1 hp1⟩
theorem e_callB {id : String} {x : Str} {p : Pos} {r : List V → Hp → VK → Prop} {f : List D → Sto → R D} (hc : CallR X (.builtin id) r) (hf : CallF X.K r f) (hm : X.mg x = none) (hv : bootBuiltins x = some (.builtin id)) (ha : PA X (a :: es) (rA X.K W gs))
    (hg : Gl X x := by rfl) (hn : x ≠ "__name__" := by decide) (hdb : (x == ("__debug__" : Str)) = false := by decide) (he : starEach (a :: es) X.env = (false, eval a X.env) :: starEach es X.env := by rfl) (hpl : (backTo pos (starEach es X.env)).any (·.1) = false := by rfl) :
    PE X (.Call (.Name x p) (a :: es) [] pos) (rE X.K W (eFn f gs)) := (pe_callB hc hg hm hv ha hn hdb he hpl).imp fun σ H Q h => fn_read hf h
theorem e_callTy {T : String} {x : Str} {p : Pos} {r : List V → Hp → VK → Prop} {f : List D → Sto → R D} (hc : CallR X (.type T) r) (hf : CallF X.K r f) (hm : X.mg x = none) (hv : bootBuiltins x = some (.type T)) (ha : PA X (a :: es) (rA X.K W gs))
    (hg : Gl X x := by rfl) (hn : x ≠ "__name__" := by decide) (hdb : (x == ("__debug__" : Str)) = false := by decide) (he : starEach (a :: es) X.env = (false, eval a X.env) :: starEach es X.env := by rfl) (hpl : (backTo pos (starEach es X.env)).any (·.1) = false := by rfl) :
    PE X (.Call (.Name x p) (a :: es) [] pos) (rE X.K W (eFn f gs)) := (pe_callTy hc hg hm hv ha hn hdb he hpl).imp fun σ H Q h => fn_read hf h
def most : Nat := 4000000
theorem most_le {n : Nat} (h : n ≤ most) : n ≤ sizeLine := Nat.le_trans h (by rw [sizeLine_eq]; decide)
theorem most_lt {n : Nat} (h : n < most) : n < sizeLine := Nat.lt_of_lt_of_le h (by rw [sizeLine_eq]; decide)
def mkTup (ds : List D) (st : Sto) : R D := if ds.length ≤ most then .ok (.tup ds) st else .fail
def mkLst (ds : List D) (st : Sto) : R D := if ds.length ≤ most then .ok (.ref st.length) (st ++ [.lst ds]) else .fail
theorem new_tup {K : PySem.W.Frag} {E : XK} {m : Pl} {H : Hp} {st : Sto} {ds : List D} {vs : List V} {Q : VK} (hp : Post K (okV K) E m H Q (.ok (.tup ds) st)) (s : SR K H m st) (r : RVs K H m ds vs) {p : Addr} (h : H p = none) : Q (.ref p) (upd H p (.tup vs)) :=
  hp _ _ m (.new h) (List.prefix_refl m) (s.tup h) (.tup (.of upd_same) (r.mono (.new h) (List.prefix_refl m)))
theorem new_lst {K : PySem.W.Frag} {E : XK} {m : Pl} {H : Hp} {st : Sto} {ds : List D} {vs : List V} {Q : VK} (hp : Post K (okV K) E m H Q (.ok (.ref st.length) (st ++ [.lst ds]))) (s : SR K H m st) (r : RVs K H m ds vs) {p : Addr} (h : H p = none) : Q (.ref p) (upd H p (.lst vs)) :=
  hp _ _ (m ++ [p]) (.new h) (List.prefix_append m [p]) (s.new h ⟨vs, upd_same, r.mono (.new h) (List.prefix_append m [p])⟩) (.ref (by rw [← s.len]; simp))
theorem e_tup {k : Nat} (ha : PA X es (rA X.K W gs)) : PE X (.Tuple es k pos) (rE X.K W (eFn mkTup gs)) := (pe_tup ha).imp fun σ H Q h => fn_read (r := fun vs H1 Q => vs.length ≤ sizeLine ∧ ∀ p, H1 p = none → Q (.ref p) (upd H1 p (.tup vs))) (fun E m H st ds vs Q s r hp => by
  unfold mkTup at hp
  split at hp
  · rename_i hl
    exact ⟨by rw [← r.length]; exact most_le hl, fun p h => new_tup hp s r h⟩
  · exact hp.elim) h
theorem e_lst (ha : PA X es (rA X.K W gs)) : PE X (.List es pos) (rE X.K W (eFn mkLst gs)) := (pe_lst ha).imp fun σ H Q h => fn_read (r := fun vs H1 Q => vs.length ≤ sizeLine ∧ ∀ p, H1 p = none → Q (.ref p) (upd H1 p (.lst vs))) (fun E m H st ds vs Q s r hp => by
  unfold mkLst at hp
  split at hp
  · rename_i hl
    exact ⟨by rw [← r.length]; exact most_le hl, fun p h => new_lst hp s r h⟩
  · exact hp.elim) h
end
end U
set_option Elab.async false
set_option linter.all false
set_option maxRecDepth 100000
set_option maxHeartbeats 4000000
namespace U
open PySem PySem.Spec PyProof.Rows L2

def sSkip : SM := fun env st => .nx env st
def sSeq (a b : SM) : SM := fun env st => match a env st with
  | .nx env st => b env st
  | r => r
def sRet (g : EM) : SM := fun env st => (g env st).then env fun d st => .rt d st
def sIf (t : TM) (a b : SM) : SM := fun env st => (t env st).then env fun c st => if c = true then a env st else b env st
def sSet (i : Nat) (g : EM) : SM := fun env st => (g env st).then env fun d st => .nx (env.set i (some d)) st
def sExpr (g : EM) : SM := fun env st => (g env st).then env fun _ st => .nx env st
def sNever : SM := fun _ _ => .fail
section
variable {X : Cx} {W : WX} {a b c : Expr} {ga gb gc : EM} {tc : TM} {s1 s2 : SM} {st : Stmt} {rest : List Stmt} {pos : Pos}
theorem ss_nil : PSs X [] (rS X.K W sSkip) := pss_nil.imp fun D σ H ⟨env, m, st, hE, hS, hp⟩ => hp σ H m (.refl H) (List.prefix_refl m) hS hE
theorem ss_cons (h1 : PS X st (rS X.K W s1)) (h2 : PSs X rest (rS X.K W s2)) : PSs X (st :: rest) (rS X.K W (sSeq s1 s2)) := (pss_cons h1 h2).imp fun D σ H ⟨env, m, sto, hE, hS, hp⟩ => by
  refine ⟨env, m, sto, hE, hS, ?_⟩
  unfold sSeq at hp
  cases q : s1 env sto with
  | nx env' st' => rw [q] at hp; exact fun σ' H' m' e p s r => ⟨env', m', st', r, s, PostS.up (r := s2 env' st') hp e p⟩
  | rt d st' => rw [q] at hp; exact hp
  | bk env' st' => rw [q] at hp; exact hp
  | ct env' st' => rw [q] at hp; exact hp
  | err c fs env' st' => rw [q] at hp; exact hp
  | fail => rw [q] at hp; exact hp
theorem ss_one (h1 : PS X st (rS X.K W s1)) : PSs X [st] (rS X.K W s1) := pss_one h1
theorem s_never : PS X st (rS X.K W sNever) := ps_never.imp fun D σ H ⟨env, m, sto, hE, hS, hp⟩ => hp
theorem s_ret (ha : PE X a (rE X.K W ga)) : PS X (.Return (some a) pos) (rS X.K W (sRet ga)) := (ps_ret ha).imp fun D σ H ⟨env, m, st, hE, hS, hp⟩ =>
  ⟨env, m, st, hE, hS, PostS.bind hE hp fun d st1 v H1 m1 e1 p1 s1 r1 hp1 => hp1 v H1 m1 (.refl _) (List.prefix_refl _) s1 r1⟩
theorem s_if {x y : List Stmt} (hc : PT X c (rT X.K W tc)) (h1 : PSs X x (rS X.K W s1)) (h2 : PSs X y (rS X.K W s2)) : PS X (.If c x y pos) (rS X.K W (sIf tc s1 s2)) := (ps_if hc h1 h2).imp fun D σ H ⟨env, m, st, hE, hS, hp⟩ => by
  refine ⟨env, m, st, hE, hS, PostS.bind hE hp fun k st1 k' H1 m1 e1 p1 s1 r1 hp1 => ?_⟩
  cases (show k = k' from r1)
  cases k with
  | true => exact iteT ⟨env, m1, st1, hE.mono e1 p1, s1, hp1⟩
  | false => exact iteF ⟨env, m1, st1, hE.mono e1 p1, s1, hp1⟩
theorem s_expr (ha : PE X a (rE X.K W ga)) (hs : swapsWith a none pos.line X.env = pure false := by rfl) : PS X (.Expr a pos) (rS X.K W (sExpr ga)) := (ps_expr ha hs).imp fun D σ H ⟨env, m, st, hE, hS, hp⟩ =>
  ⟨env, m, st, hE, hS, PostS.bind hE hp fun d st1 v H1 m1 e1 p1 s1 r1 hp1 => hp1 σ H1 m1 (.refl _) (List.prefix_refl _) s1 (hE.mono e1 p1)⟩
theorem set_of {i : Nat} {D : Ends} {σ : L2.St} {H : Hp} (h : rS X.K W (sSet i ga) D σ H) : tAsg (rE X.K W ga) (gName i) D σ H := by
  obtain ⟨env, m, st, hE, hS, hp⟩ := h
  exact ⟨env, m, st, hE, hS, PostS.bind hE hp fun d st1 v H1 m1 e1 p1 s1 r1 hp1 => hp1 _ H1 m1 (.refl _) (List.prefix_refl _) s1 ((hE.mono e1 p1).set r1)⟩
theorem s_set (i : Nat) {x : Str} {p : Pos} (ha : PE X a (rE X.K W ga)) (hN : X.N.Nodup) (hi : X.N[i]? = some x := by rfl) (hx : Loc X.env.scope x := by first | exact Or.inl rfl | exact Or.inr rfl) (hs : swapsWith a (some (.Name x p)) pos.line X.env = pure false := by rfl)
    (hf : X.fn x = true ∨ X.env.scope.names.lookup x = some .local := by first | exact .inl rfl | exact .inr rfl | assumption) : PS X (.Assign [.Name x p] a pos) (rS X.K W (sSet i ga)) := (ps_set hN hi hx ha hs hf).imp fun D σ H h => set_of h

abbrev GM := D → Ev → Sto → Option (Ev × Sto)
abbrev GMs := List D → Ev → Sto → Option (Ev × Sto)
def PostG (K : PySem.W.Frag) (m : Pl) (H : Hp) (Q : L2.St → Hp → Prop) : Option (Ev × Sto) → Prop
  | some (env, st) => ∀ σ H' m', Ext H H' → m <+: m' → SR K H' m' st → RE K H' m' env σ → Q σ H'
  | none => False
theorem PostG.up {K : PySem.W.Frag} {m m' : Pl} {H H' : Hp} {Q : L2.St → Hp → Prop} {r : Option (Ev × Sto)} (h : PostG K m H Q r) (e : Ext H H') (p : m <+: m') : PostG K m' H' Q r := by
  cases r with
  | none => exact h
  | some q => exact fun σ H2 m2 e2 p2 => h σ H2 m2 (e.trans e2) (p.trans p2)
def rG (K : PySem.W.Frag) (g : GM) : TG := fun v σ H Q => ∃ d env m st, RV K H m d v ∧ RE K H m env σ ∧ SR K H m st ∧ PostG K m H Q (g d env st)
def rGs (K : PySem.W.Frag) (g : GMs) : TGs := fun vs σ H Q => ∃ ds env m st, RVs K H m ds vs ∧ RE K H m env σ ∧ SR K H m st ∧ PostG K m H Q (g ds env st)
theorem _root_.L2.PG.imp {X : Cx} {e : Expr} {t t' : TG} (h : PG X e t) (i : ∀ v σ H Q, t' v σ H Q → t v σ H Q) : PG X e t' := ⟨fun pins s σ H v u Q I r q => h.run pins s σ H v u Q I r (i _ _ _ _ q)⟩
theorem _root_.L2.PGs.imp {X : Cx} {e : List Expr} {t t' : TGs} (h : PGs X e t) (i : ∀ v σ H Q, t' v σ H Q → t v σ H Q) : PGs X e t' := ⟨fun pins s σ H v u Q I r q => h.run pins s σ H v u Q I r (i _ _ _ _ q)⟩
def gN (i : Nat) : GM := fun d env st => some (env.set i (some d), st)
def gsNil : GMs := fun ds env st => match ds with
  | [] => some (env, st)
  | _ => none
def gsCons (g : GM) (gs : GMs) : GMs := fun ds env st => match ds with
  | d :: ds => match g d env st with
    | some (env, st) => gs ds env st
    | none => none
  | [] => none
def gT (n : Nat) (g : GMs) : GM := fun d env st => match d with
  | .tup xs => if xs.length = n then g xs env st else none
  | _ => none
variable {g : GM} {gs : GMs} {ts : List Expr}
theorem g_name (i : Nat) {x : Str} (hN : X.N.Nodup) (hi : X.N[i]? = some x := by rfl) (hx : Loc X.env.scope x := by first | exact Or.inl rfl | exact Or.inr rfl) (hf : X.fn x = true ∨ X.env.scope.names.lookup x = some .local := by first | exact .inl rfl | exact .inr rfl | assumption) :
    PG X (.Name x pos) (rG X.K (gN i)) := (pg_name hN hi hx hf).imp fun v σ H Q ⟨d, env, m, st, r, hE, hS, hp⟩ => hp _ H m (.refl _) (List.prefix_refl _) hS (hE.set r)
theorem gs_nil : PGs X [] (rGs X.K gsNil) := pgs_nil.imp fun vs σ H Q ⟨ds, env, m, st, r, hE, hS, hp⟩ => by
  cases r with
  | nil => exact ⟨rfl, hp σ H m (.refl _) (List.prefix_refl _) hS hE⟩
  | cons _ _ => exact hp.elim
theorem gs_cons (h1 : PG X a (rG X.K g)) (h2 : PGs X ts (rGs X.K gs)) (hs : (assignEach (a :: ts) X.env).map (·.2) = assign a X.env :: (assignEach ts X.env).map (·.2) := by rfl) : PGs X (a :: ts) (rGs X.K (gsCons g gs)) :=
  (pgs_cons h1 h2 hs).imp fun vs σ H Q ⟨ds, env, m, st, r, hE, hS, hp⟩ => by
  cases r with
  | nil => exact hp.elim
  | @cons d ds v vs r rs =>
    refine ⟨v, vs, rfl, d, env, m, st, r, hE, hS, ?_⟩
    have hp' : PostG X.K m H Q (match g d env st with | some (env, st) => gs ds env st | none => none) := hp
    cases q : g d env st with
    | none => rw [q] at hp'; exact hp'
    | some z =>
      obtain ⟨env1, st1⟩ := z
      rw [q] at hp'
      exact fun σ1 H1 m1 e1 p1 s1 r1 => ⟨ds, env1, m1, st1, rs.mono e1 p1, r1, s1, PostG.up (r := gs ds env1 st1) hp' e1 p1⟩
theorem g_tup (n : Nat) {k : Nat} (hc : X.calm = true) (h : PGs X ts (rGs X.K gs)) (hn : (assignEach ts X.env).length = n := by rfl) (hst : (assignEach ts X.env).findIdx? (·.1) = none := by rfl) : PG X (.Tuple ts k pos) (rG X.K (gT n gs)) :=
  (pg_tup hc h hn hst).imp fun v σ H Q ⟨d, env, m, st, r, hE, hS, hp⟩ => by
  cases d with
  | tup xs =>
    cases r with
    | @tup _ a vs hq rs =>
      have hp' : PostG X.K m H Q (if xs.length = n then gs xs env st else none) := hp
      by_cases hl : xs.length = n
      · rw [if_pos hl] at hp'
        exact ⟨a, vs, rfl, hq, by rw [← rs.length]; exact hl, xs, env, m, st, rs, hE, hS, hp'⟩
      · rw [if_neg hl] at hp'
        exact hp'.elim
  | _ => exact hp.elim
def sAsg (ga : EM) (g : GM) : SM := fun env st => (ga env st).then env fun d st => match g d env st with
  | some (env, st) => .nx env st
  | none => .fail
theorem s_asg {tg : Expr} (ha : PE X a (rE X.K W ga)) (hg : PG X tg (rG X.K g)) (hs : swapsWithSole [tg] a pos.line X.env = pure false := by rfl) (hw : swappedStores [tg] a X.env = pure none := by rfl)
    (h1 : (assignEach [tg] X.env).map (·.2) = [assign tg X.env] := by rfl) : PS X (.Assign [tg] a pos) (rS X.K W (sAsg ga g)) := (ps_asg ha hg hs hw h1).imp fun D σ H ⟨env, m, st, hE, hS, hp⟩ => by
  refine ⟨env, m, st, hE, hS, PostS.bind hE hp fun d st1 v H1 m1 e1 p1 s1 r1 hp1 => ⟨d, env, m1, st1, r1, hE.mono e1 p1, s1, ?_⟩⟩
  cases q : g d env st1 with
  | none => rw [q] at hp1; exact hp1.elim
  | some z => obtain ⟨env2, st2⟩ := z; rw [q] at hp1; exact hp1
def sPar (i j : Nat) (ga gb : EM) : SM := fun env st => (ga env st).then env fun x st => (gb env st).then env fun y st => .nx ((env.set i (some x)).set j (some y)) st
theorem s_par (i j : Nat) {x y : Str} {px py pt : Pos} {kt k2 : Nat} {pt2 : Pos} (hc : X.calm = true) (hN : X.N.Nodup) (ha : PE X a (rE X.K W ga)) (hb : PE X b (rE X.K W gb)) (hij : i ≠ j := by decide) (hi : X.N[i]? = some x := by rfl) (hj : X.N[j]? = some y := by rfl)
    (hx : X.env.scope.names.lookup x = some .local := by rfl) (hy : X.env.scope.names.lookup y = some .local := by rfl)
    (hw : swappedStores [.Tuple [.Name x px, .Name y py] kt pt] (.Tuple [a, b] k2 pt2) X.env = pure (some [x, y]) := by rfl)
    (hs : swapsWithSole [.Tuple [.Name x px, .Name y py] kt pt] (.Tuple [a, b] k2 pt2) pos.line X.env = pure false := by rfl)
    (h1 : starEach [a, b] X.env = (false, eval a X.env) :: starEach [b] X.env := by rfl) (h2 : starEach [b] X.env = (false, eval b X.env) :: starEach [] X.env := by rfl) :
    PS X (.Assign [.Tuple [.Name x px, .Name y py] kt pt] (.Tuple [a, b] k2 pt2) pos) (rS X.K W (sPar i j ga gb)) := (ps_par hc hN hi hj hij hx hy (pa_cons ha (pa_cons hb pa_nil h2) h1) hw hs).imp fun D σ H ⟨env, m, st, hE, hS, hp⟩ => by
  refine ⟨env, m, st, hE, hS, PostS.bind hE hp fun d st1 v H1 m1 e1 p1 s1 r1 hp1 => ⟨env, m1, st1, hE.mono e1 p1, s1, PostS.bind (hE.mono e1 p1) hp1 fun d2 st2 v2 H2 m2 e2 p2 s2 r2 hp2 => ⟨v, v2, rfl, ?_⟩⟩⟩
  exact hp2 _ H2 m2 (.refl _) (List.prefix_refl _) s2 ((((hE.mono e1 p1).mono e2 p2).set (r1.mono e2 p2)).set r2)
end
end U
set_option Elab.async false
set_option linter.all false
set_option maxRecDepth 100000
set_option maxHeartbeats 4000000
namespace U
open PySem PySem.Spec PyProof.Rows L2

def lstOf (st : Sto) (n : Nat) : Option (List D) := match st[n]? with
  | some (.lst xs) => some xs
  | some (.rol xs) => some xs
  | some (.kst xs) => some xs
  | _ => none
def pairD (x y : D) : D := .tup [x, y]
def enumFrom (k : Nat) : List D → List D
  | [] => []
  | x :: xs => .tup [.int (k : Int), x] :: enumFrom (k + 1) xs
inductive Src where
  | fix (xs : List D)
  | dyn (n : Nat)
  | zipL (a b : Nat)
  | enumL (a : Nat)
  | keys (n : Nat)
  | zipLT (a : Nat) (ys : List D)
  | zipTL (xs : List D) (b : Nat)
  | zip3 (xs : List D) (b : Nat) (zs : List D)
def zipD3 : List D → List D → List D → List D
  | x :: xs, y :: ys, z :: zs => .tup [x, y, z] :: zipD3 xs ys zs
  | _, _, _ => []
def Src.at (s : Src) (st : Sto) : Option (List D) := match s with
  | .fix xs => some xs
  | .dyn n => lstOf st n
  | .zipL a b => match lstOf st a, lstOf st b with
    | some xs, some ys => some (List.zipWith pairD xs ys)
    | _, _ => none
  | .enumL a => (lstOf st a).map (enumFrom 0)
  | .keys n => match st[n]? with
    | some (.dcl kvs) => some (kvs.map (·.1))
    | _ => none
  | .zipLT a ys => (lstOf st a).map fun xs => List.zipWith pairD xs ys
  | .zipTL xs b => (lstOf st b).map fun ys => List.zipWith pairD xs ys
  | .zip3 xs b zs => (lstOf st b).map fun ys => zipD3 xs ys zs
def okI (K : PySem.W.Frag) : Hp → Pl → Src → It → Prop := fun H0 m0 s J => ∀ (i : Nat) (H : Hp) (m : Pl) (st : Sto) (xs : List D), Ext H0 H → m0 <+: m → SR K H m st → s.at st = some xs →
  (xs[i]? = none → J.stop i H) ∧ ∀ d, xs[i]? = some d → J.go i H ∧ ∀ x H', J.yld i H x H' → Ext H H' ∧ SR K H' m st ∧ RV K H' m d x
abbrev IM := Ev → Sto → R Src
def rI (K : PySem.W.Frag) (W : WX) (g : IM) : TI := fun σ H Rr => ∃ env m st, RE K H m env σ ∧ SR K H m st ∧ Post K (okI K) (WE W σ) m H Rr (g env st)
theorem _root_.L2.PI.imp {X : Cx} {tg e : Expr} {t t' : TI} (h : PI X tg e t) (i : ∀ σ H R, t' σ H R → t σ H R) : PI X tg e t' := ⟨fun pins s σ H R I q => h.run pins s σ H R I (i _ _ _ q)⟩
theorem _root_.L2.PI.or {X : Cx} {tg e : Expr} {t t' : TI} (h : PI X tg e t) (h' : PI X tg e t') : PI X tg e (fun σ H R => t σ H R ∨ t' σ H R) := ⟨fun pins s σ H R I q => q.elim (h.run pins s σ H R I) (h'.run pins s σ H R I)⟩
section
variable {X : Cx} {W : WX} {a b c tg : Expr} {ga gb gc : EM} {es : List Expr} {gs : AM} {pos : Pos}
theorem SR.sqL {K : PySem.W.Frag} {H : Hp} {m : Pl} {st : Sto} (s : SR K H m st) {n : Nat} {p : Addr} {xs : List D} (hp : m[n]? = some p) (h : lstOf st n = some xs) : ∃ vs, SqL K H p vs ∧ RVs K H m xs vs := by
  unfold lstOf at h
  split at h
  · rename_i ys e
    cases h
    obtain ⟨vs, h1, r⟩ := s.ob n p _ hp e
    exact ⟨vs, .of h1, r⟩
  · rename_i ys e
    cases h
    obtain ⟨o, vs, h1, r⟩ := s.ob n p _ hp e
    exact ⟨vs, .inl (.inr ⟨o, h1⟩), r⟩
  · rename_i ys e
    cases h
    obtain ⟨vs, h1, r⟩ := s.ob n p _ hp e
    exact ⟨vs, h1 H, r⟩
  · cases h
theorem none_len {α β : Type} {xs : List α} {ys : List β} (h : xs.length = ys.length) {i : Nat} (e : xs[i]? = none) : ys.length ≤ i := by
  have := List.getElem?_eq_none_iff.mp e
  omega
theorem okI_tup {K : PySem.W.Frag} {H0 : Hp} {m0 : Pl} {p : Addr} {xs : List D} {vs : List V} (hq : SqT K H0 p vs) (r : RVs K H0 m0 xs vs) : okI K H0 m0 (.fix xs) (Itt K p) := fun i H m st ys e p s h => by
  cases (show some xs = some ys from h)
  have hq' := e.sqT hq
  have r' := r.mono e p
  refine ⟨fun h1 => ⟨vs, hq', none_len r.length h1⟩, fun d hd => ?_⟩
  obtain ⟨v, hv, rv⟩ := r'.get hd
  refine ⟨⟨vs, v, hq', hv⟩, fun x H' y => ?_⟩
  obtain ⟨rfl, hy⟩ := y
  have := hy vs hq'
  rw [hv] at this
  cases this
  exact ⟨.refl _, s, rv⟩
theorem okI_dyn {K : PySem.W.Frag} {H0 : Hp} {m0 : Pl} {p : Addr} {n : Nat} (hp : m0[n]? = some p) : okI K H0 m0 (.dyn n) (Itl K p) := fun i H m st xs e pr s h => by
  obtain ⟨vs, hq, r⟩ := s.sqL (pre_get pr hp) h
  refine ⟨fun h1 => ⟨vs, hq, none_len r.length h1⟩, fun d hd => ?_⟩
  obtain ⟨v, hv, rv⟩ := r.get hd
  refine ⟨⟨vs, v, hq, hv⟩, fun x H' y => ?_⟩
  obtain ⟨rfl, hy⟩ := y
  have := hy vs hq
  rw [hv] at this
  cases this
  exact ⟨.refl _, s, rv⟩
def rngL (lo : Int) (n : Nat) : List D := (List.range n).map fun (i : Nat) => D.int (lo + (i : Int))
theorem okI_rng {K : PySem.W.Frag} {H0 : Hp} {m0 : Pl} {lo : Int} {n : Nat} : okI K H0 m0 (.fix (rngL lo n)) (Itr lo n) := fun i H m st xs e pr s h => by
  cases (show some (rngL lo n) = some xs from h)
  refine ⟨fun h1 => ?_, fun d hd => ?_⟩
  · have := List.getElem?_eq_none_iff.mp h1
    show n ≤ i
    simpa [rngL] using this
  · unfold rngL at hd
    rw [List.getElem?_map] at hd
    obtain ⟨k, hk, rfl⟩ := Option.map_eq_some_iff.mp hd
    obtain ⟨hl, e2⟩ := List.getElem?_eq_some_iff.mp hk
    simp at hl e2
    subst e2
    refine ⟨hl, fun x H' y => ?_⟩
    obtain ⟨rfl, rfl⟩ := y
    exact ⟨.refl _, s, .int⟩
theorem zip_get {xs ys : List D} {i : Nat} {d : D} (h : (List.zipWith pairD xs ys)[i]? = some d) : ∃ x y, xs[i]? = some x ∧ ys[i]? = some y ∧ d = .tup [x, y] := by
  rw [List.getElem?_zipWith_eq_some] at h
  obtain ⟨x, y, h1, h2, h3⟩ := h
  exact ⟨x, y, h1, h2, h3.symm⟩
theorem zip_none {xs ys : List D} {i : Nat} (h : (List.zipWith pairD xs ys)[i]? = none) : xs.length ≤ i ∨ ys.length ≤ i := by
  have := List.getElem?_eq_none_iff.mp h
  rw [List.length_zipWith] at this
  omega
theorem new_pair {K : PySem.W.Frag} {H : Hp} {m : Pl} {st : Sto} (s : SR K H m st) {T : Addr} (nT : H T = none) {x y : D} {vx vy : V} (rx : RV K H m x vx) (ry : RV K H m y vy) :
    Ext H (upd H T (.tup [vx, vy])) ∧ SR K (upd H T (.tup [vx, vy])) m st ∧ RV K (upd H T (.tup [vx, vy])) m (.tup [x, y]) (.ref T) :=
  ⟨.new nT, s.tup nT, .tup (.of upd_same) (.cons (rx.mono (.new nT) (List.prefix_refl m)) (.cons (ry.mono (.new nT) (List.prefix_refl m)) .nil))⟩
theorem okI_zipT {K : PySem.W.Frag} {H0 : Hp} {m0 : Pl} {p q : Addr} {xs ys : List D} {vs ws : List V} (h1 : SqT K H0 p vs) (r1 : RVs K H0 m0 xs vs) (h2 : SqT K H0 q ws) (r2 : RVs K H0 m0 ys ws) :
    okI K H0 m0 (.fix (List.zipWith pairD xs ys)) (RZ.ItzT K p q) := fun i H m st zs e pr s h => by
  cases (show some (List.zipWith pairD xs ys) = some zs from h)
  have h1' := e.sqT h1
  have h2' := e.sqT h2
  refine ⟨fun hn => ⟨vs, ws, h1', h2', ?_⟩, fun d hd => ?_⟩
  · rw [← r1.length, ← r2.length]; exact zip_none hn
  · obtain ⟨x, y, e1, e2, rfl⟩ := zip_get hd
    obtain ⟨v, hv, rv⟩ := (r1.mono e pr).get e1
    obtain ⟨w, hw, rw'⟩ := (r2.mono e pr).get e2
    refine ⟨⟨vs, ws, v, w, h1', h2', hv, hw⟩, fun z H' yl => ?_⟩
    obtain ⟨T, x', y', rfl, nT, rfl, f1, f2⟩ := yl
    have a1 := f1 vs h1'
    have a2 := f2 ws h2'
    rw [hv] at a1
    rw [hw] at a2
    cases a1
    cases a2
    exact new_pair s nT rv rw'
theorem okI_zipL {K : PySem.W.Frag} {H0 : Hp} {m0 : Pl} {p q : Addr} {n k : Nat} (h1 : m0[n]? = some p) (h2 : m0[k]? = some q) : okI K H0 m0 (.zipL n k) (Itz K p q) := fun i H m st zs e pr s h => by
  have h' : (match lstOf st n, lstOf st k with | some xs, some ys => some (List.zipWith pairD xs ys) | _, _ => none) = some zs := h
  cases g1 : lstOf st n with
  | none => rw [g1] at h'; cases h'
  | some xs =>
    cases g2 : lstOf st k with
    | none => rw [g1, g2] at h'; cases h'
    | some ys =>
      rw [g1, g2] at h'
      cases h'
      obtain ⟨vs, hq1, r1⟩ := s.sqL (pre_get pr h1) g1
      obtain ⟨ws, hq2, r2⟩ := s.sqL (pre_get pr h2) g2
      refine ⟨fun hn => ⟨vs, ws, hq1, hq2, ?_⟩, fun d hd => ?_⟩
      · rw [← r1.length, ← r2.length]; exact zip_none hn
      · obtain ⟨x, y, e1, e2, rfl⟩ := zip_get hd
        obtain ⟨v, hv, rv⟩ := r1.get e1
        obtain ⟨w, hw, rw'⟩ := r2.get e2
        refine ⟨⟨vs, ws, v, w, hq1, hq2, hv, hw⟩, fun z H' yl => ?_⟩
        obtain ⟨T, x', y', rfl, nT, rfl, f1, f2⟩ := yl
        have a1 := f1 vs hq1
        have a2 := f2 ws hq2
        rw [hv] at a1
        rw [hw] at a2
        cases a1
        cases a2
        exact new_pair s nT rv rw'
def seqSrc (d : D) (st : Sto) : R Src := match d with
  | .tup xs => .ok (.fix xs) st
  | .ref n => match lstOf st n with
    | some _ => .ok (.dyn n) st
    | none => .fail
  | _ => .fail
theorem i_seq (ha : PE X a (rE X.K W ga)) : PI X tg a (rI X.K W (fun env st => (ga env st).bind seqSrc)) := ((pi_tup (tg := tg) ha).or (pi_list ha)).imp fun σ H Rr ⟨env, m, st, hE, hS, hp0⟩ => by
  have hp : Post X.K (okI X.K) (WE W σ) m H Rr ((ga env st).bind seqSrc) := hp0
  cases q : ga env st with
  | fail => rw [q] at hp; exact hp.elim
  | err cc fs st' => rw [q] at hp; exact .inl ⟨env, m, st, hE, hS, by rw [q]; exact hp⟩
  | ok d st' =>
    rw [q] at hp
    cases d with
    | tup xs =>
      refine .inl ⟨env, m, st, hE, hS, ?_⟩
      rw [q]
      intro v H1 m1 e1 p1 s1 r1
      cases r1 with
      | @tup _ p vs hq rs => exact ⟨p, rfl, ⟨vs, hq⟩, hp _ H1 m1 e1 p1 s1 (okI_tup hq rs)⟩
    | ref n =>
      refine .inr ⟨env, m, st, hE, hS, ?_⟩
      rw [q]
      intro v H1 m1 e1 p1 s1 r1
      cases r1 with
      | @ref _ p hn =>
        have hp' : Post X.K (okI X.K) (WE W σ) m H Rr (match lstOf st' n with | some _ => .ok (.dyn n) st' | none => .fail) := hp
        cases g : lstOf st' n with
        | none => rw [g] at hp'; exact hp'.elim
        | some xs =>
          rw [g] at hp'
          obtain ⟨vs, hq, _⟩ := s1.sqL hn g
          exact ⟨p, rfl, ⟨vs, hq⟩, hp' _ H1 m1 e1 p1 s1 (okI_dyn hn)⟩
    | _ => exact hp.elim
def rngSrc (d : D) (st : Sto) : R Src := match d with
  | .int j => if -(2 ^ 62) ≤ j ∧ j < 2 ^ 62 then .ok (.fix (rngL 0 j.toNat)) st else .fail
  | _ => .fail
def iSeq (g : EM) : IM := fun env st => (g env st).bind seqSrc
def iRng (g : EM) : IM := fun env st => (g env st).bind rngSrc
def iBin (f : D → D → Sto → R Src) (a b : EM) : IM := fun env st => (a env st).bind fun x st => (b env st).bind fun y st => f x y st
theorem args2 {σ : L2.St} {H : Hp} {Rr : It → Hp → Prop} {f : D → D → Sto → R Src} {Q : List V → Hp → Prop} (h : rI X.K W (iBin f ga gb) σ H Rr)
    (k : ∀ dx dy x y st H' m', SR X.K H' m' st → RV X.K H' m' dx x → RV X.K H' m' dy y → Post X.K (okI X.K) (WE W σ) m' H' Rr (f dx dy st) → Q [x, y] H') : rA X.K W (aCons ga (aCons gb aNil)) σ H Q := by
  obtain ⟨env, m, st, hE, hS, hp⟩ := h
  have hp' : Post X.K (okI X.K) (WE W σ) m H Rr ((ga env st).bind fun x st => (gb env st).bind fun y st => f x y st) := hp
  refine ⟨env, m, st, hE, hS, ?_⟩
  show Post X.K (okA X.K) (WE W σ) m H Q ((ga env st).bind fun x st => (((gb env st).bind fun y st => (R.ok ([] : List D) st).bind fun ys st => .ok (y :: ys) st)).bind fun xs st => .ok (x :: xs) st)
  cases q : ga env st with
  | fail => rw [q] at hp'; exact hp'
  | err c fs st1 => rw [q] at hp'; exact hp'
  | ok x st1 =>
    rw [q] at hp'
    have hp2 : Post X.K (okI X.K) (WE W σ) m H Rr ((gb env st1).bind fun y st => f x y st) := hp'
    show Post X.K (okA X.K) (WE W σ) m H Q (((gb env st1).bind fun y st => (R.ok ([] : List D) st).bind fun ys st => .ok (y :: ys) st).bind fun xs st => .ok (x :: xs) st)
    cases q2 : gb env st1 with
    | fail => rw [q2] at hp2; exact hp2
    | err c fs st2 => rw [q2] at hp2; exact hp2
    | ok y st2 =>
      rw [q2] at hp2
      intro vs H1 m1 e1 p1 s1 r1
      cases r1 with
      | cons rx rs =>
        cases rs with
        | cons ry rs2 =>
          cases rs2
          exact k x y _ _ st2 H1 m1 s1 rx ry (Post.up (r := f x y st2) hp2 e1 p1)
theorem i_rng1 {p : Pos} (hm : X.mg "range" = none) (ha : PE X a (rE X.K W ga)) (hg : Gl X "range" := by rfl) (hs : starEach [a] X.env = [(false, eval a X.env)] := by rfl) (hs2 : starEach [a] X.env = (false, eval a X.env) :: starEach [] X.env := by rfl) :
    PI X tg (.Call (.Name "range" p) [a] [] pos) (rI X.K W (iRng ga)) := (pi_range1 (tg := tg) hg hm (pa_cons ha pa_nil hs2) hs).imp fun σ H Rr ⟨env, m, st, hE, hS, hp⟩ => by
  refine ⟨env, m, st, hE, hS, hp.bind fun d st1 v H1 m1 e1 p1 s1 r1 hp1 => ?_⟩
  cases d with
  | int j =>
    cases r1
    by_cases hj : -(2 ^ 62) ≤ j ∧ j < 2 ^ 62
    · have hp2 : Post X.K (okI X.K) (WE W σ) m1 H1 Rr (if -(2 ^ 62) ≤ j ∧ j < 2 ^ 62 then .ok (.fix (rngL 0 j.toNat)) st1 else .fail) := hp1
      rw [if_pos hj] at hp2
      exact ⟨j, rfl, hj.1, hj.2, Post.here (v := Itr 0 j.toNat) hp2 s1 okI_rng⟩
    · have hp2 : Post X.K (okI X.K) (WE W σ) m1 H1 Rr (if -(2 ^ 62) ≤ j ∧ j < 2 ^ 62 then .ok (.fix (rngL 0 j.toNat)) st1 else .fail) := hp1
      rw [if_neg hj] at hp2
      exact hp2.elim
  | _ => exact hp1.elim
def zipSrc (d e : D) (st : Sto) : R Src := match d, e with
  | .tup xs, .tup ys => .ok (.fix (List.zipWith pairD xs ys)) st
  | .ref i, .ref j => match lstOf st i, lstOf st j with
    | some _, some _ => .ok (.zipL i j) st
    | _, _ => .fail
  | _, _ => .fail
theorem i_zip {p tpos : Pos} {elts : List Expr} {kk : Nat} (hm : X.mg "zip" = none) (ha : PE X a (rE X.K W ga)) (hb : PE X b (rE X.K W gb)) (hg : Gl X "zip" := by rfl)
    (h1 : starEach [a, b] X.env = (false, eval a X.env) :: starEach [b] X.env := by rfl) (h2 : starEach [b] X.env = (false, eval b X.env) :: starEach [] X.env := by rfl) (hpl : (backTo pos (starEach [b] X.env)).any (·.1) = false := by rfl) :
    PI X (.Tuple elts kk tpos) (.Call (.Name "zip" p) [a, b] [] pos) (rI X.K W (iBin zipSrc ga gb)) := (RZ.pi_zipA hg hm (a_cons ha (a_cons hb a_nil h2) h1) h1 hpl).imp fun σ H Rr h => by
  refine args2 h fun dx dy x y st1 H1 m1 s1 rx ry hp1 => ?_
  cases dx with
  | tup xs =>
    cases dy with
    | tup ys =>
      cases rx with
      | @tup _ p vs q1 r1 =>
        cases ry with
        | @tup _ q ws q2 r2 => exact ⟨p, q, vs, ws, rfl, .inr ⟨q1, q2, Post.here (v := RZ.ItzT X.K p q) hp1 s1 (okI_zipT q1 r1 q2 r2)⟩⟩
    | _ => exact hp1.elim
  | ref i =>
    cases dy with
    | ref j =>
      cases rx with
      | @ref _ p q1 =>
        cases ry with
        | @ref _ q q2 =>
          have hp2 : Post X.K (okI X.K) (WE W σ) m1 H1 Rr (match lstOf st1 i, lstOf st1 j with | some _, some _ => .ok (.zipL i j) st1 | _, _ => .fail) := hp1
          cases g1 : lstOf st1 i with
          | none => rw [g1] at hp2; exact hp2.elim
          | some xs =>
            cases g2 : lstOf st1 j with
            | none => rw [g1, g2] at hp2; exact hp2.elim
            | some ys =>
              rw [g1, g2] at hp2
              obtain ⟨vs, h1, _⟩ := s1.sqL q1 g1
              obtain ⟨ws, h2, _⟩ := s1.sqL q2 g2
              exact ⟨p, q, vs, ws, rfl, .inl ⟨h1, h2, Post.here (v := Itz X.K p q) hp2 s1 (okI_zipL q1 q2)⟩⟩
    | _ => exact hp1.elim
  | _ => exact hp1.elim
end
end U
set_option Elab.async false
set_option linter.all false
set_option maxRecDepth 100000
set_option maxHeartbeats 4000000
namespace U
open PySem PySem.Spec PyProof.Rows L2

def runFor (s : Src) (g : GM) (body : SM) : Nat → Nat → SM
  | 0, _ => fun _ _ => .fail
  | f + 1, i => fun env st => match s.at st with
    | none => .fail
    | some xs => match xs[i]? with
      | none => .nx env st
      | some d => match g d env st with
        | none => .fail
        | some (env1, st1) => match body env1 st1 with
          | .nx env2 st2 => runFor s g body f (i + 1) env2 st2
          | .ct env2 st2 => runFor s g body f (i + 1) env2 st2
          | .bk env2 st2 => .nx env2 st2
          | r => r
def startFor (g : GM) (body : SM) (env : Ev) (s : Src) (st : Sto) : RS := match s.at st with
  | none => .fail
  | some xs => runFor s g body (xs.length + 1) 0 env st
def sFor (src : IM) (g : GM) (body : SM) : SM := fun env st => (src env st).then env (startFor g body env)
section
variable {X : Cx} {W : WX} {tg iter c : Expr} {src : IM} {g : GM} {body : List Stmt} {gb : SM} {tc : TM} {pos : Pos}
theorem for_word {K : PySem.W.Frag} {D : Ends} {s : Src} {J : It} {H0 : Hp} {m0 : Pl} (hJ : okI K H0 m0 s J) {i f : Nat} {env : Ev} {m : Pl} {st : Sto} {σ : L2.St} {H : Hp} (e : Ext H0 H) (p : m0 <+: m) (hE : RE K H m env σ) (hS : SR K H m st)
    (hp : PostS K W m H D (runFor s g gb f i env st)) :
    (J.stop i H ∧ D.nx σ H) ∨ (J.go i H ∧ ∃ N : L2.St → Hp → Prop, (∀ σ' H', N σ' H' → ∃ f', f' < f ∧ ∃ env m st, Ext H0 H' ∧ m0 <+: m ∧ RE K H' m env σ' ∧ SR K H' m st ∧ PostS K W m H' D (runFor s g gb f' (i + 1) env st)) ∧
      ∀ x H', J.yld i H x H' → rG K g x σ H' fun σ2 H2 => rS K W gb { D with nx := N, ct := N, bk := D.nx } σ2 H2) := by
  cases f with
  | zero => exact hp.elim
  | succ f =>
    unfold runFor at hp
    cases q : s.at st with
    | none => rw [q] at hp; exact hp.elim
    | some xs =>
      rw [q] at hp
      obtain ⟨j1, j2⟩ := hJ i H m st xs e p hS q
      cases q2 : xs[i]? with
      | none =>
        simp only [q2] at hp
        exact .inl ⟨j1 q2, hp σ H m (.refl _) (List.prefix_refl _) hS hE⟩
      | some d =>
        simp only [q2] at hp
        obtain ⟨j3, j4⟩ := j2 d q2
        refine .inr ⟨j3, fun σ' H' => ∃ env m st, Ext H0 H' ∧ m0 <+: m ∧ RE K H' m env σ' ∧ SR K H' m st ∧ PostS K W m H' D (runFor s g gb f (i + 1) env st), fun σ' H' h => ⟨f, Nat.lt_succ_self f, h⟩, fun x H' y => ?_⟩
        obtain ⟨e1, s1, r1⟩ := j4 x H' y
        refine ⟨d, env, m, st, r1, hE.mono e1 (List.prefix_refl _), s1, ?_⟩
        cases q3 : g d env st with
        | none => simp only [q3] at hp; exact hp.elim
        | some z =>
          obtain ⟨env1, st1⟩ := z
          simp only [q3] at hp
          intro σ2 H2 m2 e2 p2 s2 r2
          refine ⟨env1, m2, st1, r2, s2, ?_⟩
          have up : ∀ {r : RS}, PostS K W m H D r → PostS K W m2 H2 D r := fun h => h.up (e1.trans e2) p2
          cases q4 : gb env1 st1 with
          | nx env2 st2 =>
            simp only [q4] at hp
            exact fun σ3 H3 m3 e3 p3 s3 r3 => ⟨env2, m3, st2, ((e.trans e1).trans e2).trans e3, (p.trans p2).trans p3, r3, s3, (up hp).up e3 p3⟩
          | ct env2 st2 =>
            simp only [q4] at hp
            exact fun σ3 H3 m3 e3 p3 s3 r3 => ⟨env2, m3, st2, ((e.trans e1).trans e2).trans e3, (p.trans p2).trans p3, r3, s3, (up hp).up e3 p3⟩
          | bk env2 st2 => simp only [q4] at hp; exact up hp
          | rt d2 st2 => simp only [q4] at hp; exact up hp
          | err cc fs env2 st2 => simp only [q4] at hp; exact up hp
          | fail => simp only [q4] at hp; exact hp
theorem s_for (hpass : PassesOwn (model X.prog X.w) X.A X.env X.xe) (hc : X.calm = true) (hi : PI X tg iter (rI X.K W src)) (hg : PG X tg (rG X.K g)) (hb : PSs X body (rS X.K W gb)) (hs : ∀ x, foldedSetIterable iter X.env x = pure x := by intro _; rfl) :
    PS X (.For tg iter body [] pos) (rS X.K W (sFor src g gb)) := (ps_for hpass hc hi hg hb hs).imp fun D σ H ⟨env, m, st, hE, hS, hp⟩ => by
  refine ⟨env, m, st, hE, hS, PostS.bind hE hp fun s st1 J H1 m1 e1 p1 s1 hJ hp1 => ?_⟩
  unfold startFor at hp1
  cases q : s.at st1 with
  | none => rw [q] at hp1; exact hp1.elim
  | some xs =>
    rw [q] at hp1
    refine ⟨fun i f σ H => ∃ env m st, Ext H1 H ∧ m1 <+: m ∧ RE X.K H m env σ ∧ SR X.K H m st ∧ PostS X.K W m H D (runFor s g gb f i env st), ⟨_, env, m1, st1, .refl _, List.prefix_refl _, hE.mono e1 p1, s1, hp1⟩, ?_⟩
    rintro i f σ2 H2 ⟨env2, m2, st2, e2, p2, r2, s2, hp2⟩
    exact for_word hJ e2 p2 r2 s2 hp2
end

def wipeE (env : Ev) : List Nat → Ev
  | [] => env
  | v :: vs => (wipeE env vs).set v none
theorem RE.wipe {K : PySem.W.Frag} {H : Hp} {m : Pl} {env : Ev} {σ : L2.St} (r : RE K H m env σ) : ∀ vs : List Nat, RE K H m (wipeE env vs) (L2.wipe σ vs)
  | [] => r
  | v :: vs => (RE.wipe r vs).forget
theorem wipe_set {σ : L2.St} {i : Nat} {x : Option V} : ∀ {vs : List Nat}, i ∈ vs → L2.wipe (σ.set i x) vs = L2.wipe σ vs
  | v :: vs, h => by
    unfold L2.wipe
    by_cases hi : i ∈ vs
    · rw [wipe_set hi]
    · have e : i = v := by
        rcases List.mem_cons.mp h with z | z
        · exact z
        · exact absurd z hi
      subst e
      have key : ∀ ws : List Nat, (L2.wipe (σ.set i x) ws).set i none = (L2.wipe σ ws).set i none := by
        intro ws
        induction ws with
        | nil => exact List.set_set ..
        | cons w ws ih =>
          unfold L2.wipe
          by_cases hw : w = i
          · subst hw; rw [ih]
          · rw [List.set_comm _ _ hw, ih, List.set_comm _ _ (Ne.symm hw)]
      exact key vs
def GOk (K : PySem.W.Frag) (vs : List Nat) (t : TG) (g : GM) : Prop :=
  ∀ (d : D) (v : V) (env env' : Ev) (σ : L2.St) (m : Pl) (H : Hp) (st st' : Sto) (Q : L2.St → Hp → Prop), RV K H m d v → RE K H m env σ → g d env st = some (env', st') → (st' = st → ∀ σ', L2.wipe σ' vs = L2.wipe σ vs → RE K H m env' σ' → Q σ' H) → t v σ H Q
def GsOk (K : PySem.W.Frag) (vs : List Nat) (t : TGs) (g : GMs) : Prop :=
  ∀ (d : List D) (v : List V) (env env' : Ev) (σ : L2.St) (m : Pl) (H : Hp) (st st' : Sto) (Q : L2.St → Hp → Prop), RVs K H m d v → RE K H m env σ → g d env st = some (env', st') → (st' = st → ∀ σ', L2.wipe σ' vs = L2.wipe σ vs → RE K H m env' σ' → Q σ' H) → t v σ H Q
section
variable {K : PySem.W.Frag} {vs : List Nat} {t : TG} {ts : TGs} {g : GM} {gs : GMs}
theorem go_name (i : Nat) (hi : i ∈ vs := by decide) : GOk K vs (gName i) (gN i) := fun d v env env' σ m H st st' Q r hE h k => by
  cases (show some (env.set i (some d), st) = some (env', st') from h)
  exact k rfl _ (wipe_set hi) (hE.set r)
theorem gos_nil : GsOk K vs gNil gsNil := fun d v env env' σ m H st st' Q r hE h k => by
  cases r with
  | nil => cases (show some (env, st) = some (env', st') from h); exact ⟨rfl, k rfl σ rfl hE⟩
  | cons _ _ => cases h
theorem gos_cons (h1 : GOk K vs t g) (h2 : GsOk K vs ts gs) : GsOk K vs (gCons t ts) (gsCons g gs) := fun d v env env' σ m H st st' Q r hE h k => by
  cases r with
  | nil => cases h
  | @cons x xs w ws r rs =>
    have h' : (match g x env st with | some (env, st) => gs xs env st | none => none) = some (env', st') := h
    cases q : g x env st with
    | none => rw [q] at h'; cases h'
    | some z =>
      obtain ⟨env1, st1⟩ := z
      rw [q] at h'
      refine ⟨w, ws, rfl, h1 x w env env1 σ m H st st1 _ r hE q fun e1 σ1 w1 r1 => ?_⟩
      exact h2 xs ws env1 env' σ1 m H st1 st' Q rs r1 h' fun e2 σ2 w2 r2 => k (e2.trans e1) σ2 (w2.trans w1) r2
theorem go_tup (n : Nat) (h : GsOk K vs ts gs) : GOk K vs (gTup K n ts) (gT n gs) := fun d v env env' σ m H st st' Q r hE h' k => by
  cases d with
  | tup xs =>
    cases r with
    | @tup _ a ws hq rs =>
      have h2 : (if xs.length = n then gs xs env st else none) = some (env', st') := h'
      by_cases hl : xs.length = n
      · rw [if_pos hl] at h2
        exact ⟨a, ws, rfl, hq, by rw [← rs.length]; exact hl, h xs ws env env' σ m H st st' Q rs hE h2 k⟩
      · rw [if_neg hl] at h2; cases h2
  | _ => cases h'
end
def runLc (s : Src) (g : GM) (t : TM) (e : EM) (k : Nat) (env : Ev) : Nat → Nat → Sto → R D
  | 0, _, _ => .fail
  | f + 1, i, st => match s.at st with
    | none => .fail
    | some xs => match xs[i]? with
      | none => .ok (.ref k) st
      | some d => match g d env st with
        | none => .fail
        | some (env1, _) => (t env1 st).bind fun b st => if b = true then (e env1 st).bind fun y st => (match st[k]? with
            | some (.lst acc) => if acc.length < most then runLc s g t e k env f (i + 1) (st.set k (.lst (acc ++ [y]))) else .fail
            | _ => .fail)
          else runLc s g t e k env f (i + 1) st
def startLc (g : GM) (t : TM) (e : EM) (env : Ev) (s : Src) (st : Sto) : R D := match s.at st with
  | none => .fail
  | some xs => runLc s g t e st.length env (xs.length + 1) 0 (st ++ [.lst []])
def tTrue : TM := fun _ st => .ok true st
abbrev W0 : WX := fun _ _ _ _ => False
section
variable {X : Cx} {W : WX} {tg iter elt : Expr} {ifs : List Expr} {src : IM} {g : GM} {tt : TM} {ge : EM} {scope : Scope} {own : List (Str × Nat)} {pos : Pos}
theorem src_at_app {s : Src} {st : Sto} {ob : Ob} {xs : List D} (h : s.at st = some xs) : s.at (st ++ [ob]) = some xs := by
  have key : ∀ {n : Nat} {ys : List D}, lstOf st n = some ys → lstOf (st ++ [ob]) n = some ys := by
    intro n ys h
    unfold lstOf at h ⊢
    by_cases hn : n < st.length
    · rw [List.getElem?_append_left hn]; exact h
    · rw [List.getElem?_eq_none (by omega)] at h; cases h
  cases s with
  | fix ys => exact h
  | dyn n => exact key h
  | zipL a b =>
    unfold Src.at at h ⊢
    simp only at h ⊢
    cases g1 : lstOf st a with
    | none => rw [g1] at h; cases h
    | some ys =>
      cases g2 : lstOf st b with
      | none => rw [g1, g2] at h; cases h
      | some zs => rw [g1, g2] at h; rw [key g1, key g2]; exact h
  | enumL a =>
    unfold Src.at at h ⊢
    simp only at h ⊢
    cases g1 : lstOf st a with
    | none => rw [g1] at h; cases h
    | some ys => rw [g1] at h; rw [key g1]; exact h
  | keys n =>
    unfold Src.at at h ⊢
    simp only at h ⊢
    by_cases hn : n < st.length
    · rw [List.getElem?_append_left hn]; exact h
    · rw [List.getElem?_eq_none (by omega)] at h; cases h
  | zipLT a ys =>
    unfold Src.at at h ⊢
    simp only at h ⊢
    cases g1 : lstOf st a with
    | none => rw [g1] at h; cases h
    | some zs => rw [g1] at h; rw [key g1]; exact h
  | zipTL ys a =>
    unfold Src.at at h ⊢
    simp only at h ⊢
    cases g1 : lstOf st a with
    | none => rw [g1] at h; cases h
    | some zs => rw [g1] at h; rw [key g1]; exact h
  | zip3 ys a us =>
    unfold Src.at at h ⊢
    simp only at h ⊢
    cases g1 : lstOf st a with
    | none => rw [g1] at h; cases h
    | some zs => rw [g1] at h; rw [key g1]; exact h
theorem lc_of {K : PySem.W.Frag} {tgt : TG} {tT : TT} {tE : TE} {σ : L2.St} {Q : VK} {vs : List Nat} {s : Src} {J : It} {H1 : Hp} {m1 : Pl} {st1 : Sto} {env : Ev} (hg : GOk K vs tgt g) (hJ : okI K H1 m1 s J) (hE : RE K H1 m1 env σ) (hS : SR K H1 m1 st1)
    (hT : ∀ σ H Q, rT K W0 tt σ H Q → tT σ H Q) (hEl : ∀ σ H Q, rE K W0 ge σ H Q → tE σ H Q)
    (hp : Post K (okV K) (fun _ _ _ => False) m1 H1 Q (startLc g tt ge (wipeE env vs) s st1)) (Da : Addr) (hD : H1 Da = none) :
    ∃ Wd : Nat → Nat → Hp → Prop, (∃ m, Wd 0 m (upd H1 Da (.lst []))) ∧ ∀ i m H, Wd i m H →
      (J.stop i H ∧ Q (.ref Da) H) ∨ (J.go i H ∧ ∃ Nx : Hp → Prop, (∀ H', Nx H' → ∃ m', m' < m ∧ Wd (i + 1) m' H') ∧ ∀ x H', J.yld i H x H' → tgt x (L2.wipe σ vs) H' fun σ2 H2 => L2.wipe σ2 vs = L2.wipe σ vs ∧ tT σ2 H2 fun b H3 =>
        if b = true then tE σ2 H3 fun y H4 => ∃ acc, H4 Da = some (.lst acc) ∧ acc.length < sizeLine ∧ Nx (upd H4 Da (.lst (acc ++ [y]))) else Nx H3) := by
  unfold startLc at hp
  cases q : s.at st1 with
  | none => rw [q] at hp; exact hp.elim
  | some xs =>
    rw [q] at hp
    have hk : (m1 ++ [Da])[st1.length]? = some Da := by rw [← hS.len]; simp
    refine ⟨fun i f H => ∃ m st, Ext H1 H ∧ (m1 ++ [Da]) <+: m ∧ SR K H m st ∧ Post K (okV K) (fun _ _ _ => False) m H Q (runLc s g tt ge st1.length (wipeE env vs) f i st),
      ⟨xs.length + 1, m1 ++ [Da], st1 ++ [.lst []], .new hD, List.prefix_refl _, hS.new (ob := .lst []) hD ⟨[], upd_same, .nil⟩, Post.up hp (.new hD) (List.prefix_append _ _)⟩, ?_⟩
    rintro i f H ⟨m, st, e, p, sS, hp⟩
    have pm : m1 <+: m := (List.prefix_append m1 [Da]).trans p
    cases f with
    | zero => exact hp.elim
    | succ f =>
      unfold runLc at hp
      cases q : s.at st with
      | none => rw [q] at hp; exact hp.elim
      | some ys =>
        rw [q] at hp
        obtain ⟨j1, j2⟩ := hJ i H m st ys e pm sS q
        cases q2 : ys[i]? with
        | none =>
          simp only [q2] at hp
          exact .inl ⟨j1 q2, Post.here (v := .ref Da) hp sS (.ref (pre_get p hk))⟩
        | some d =>
          simp only [q2] at hp
          obtain ⟨j3, j4⟩ := j2 d q2
          refine .inr ⟨j3, fun H' => ∃ m st, Ext H1 H' ∧ (m1 ++ [Da]) <+: m ∧ SR K H' m st ∧ Post K (okV K) (fun _ _ _ => False) m H' Q (runLc s g tt ge st1.length (wipeE env vs) f (i + 1) st), fun H' h => ⟨f, Nat.lt_succ_self f, h⟩, fun x H' y => ?_⟩
          obtain ⟨e1, s1, r1⟩ := j4 x H' y
          have hE1 : RE K H' m (wipeE env vs) (L2.wipe σ vs) := (hE.mono (e.trans e1) pm).wipe vs
          cases q3 : g d (wipeE env vs) st with
          | none => simp only [q3] at hp; exact hp.elim
          | some z =>
            obtain ⟨env1, st0⟩ := z
            simp only [q3] at hp
            refine hg d x (wipeE env vs) env1 (L2.wipe σ vs) m H' st st0 _ r1 hE1 q3 fun _ σ2 w2 r2 => ⟨?_, ?_⟩
            · rw [w2]
              have idem : ∀ ws : List Nat, (∀ w ∈ ws, w ∈ vs) → L2.wipe (L2.wipe σ vs) ws = L2.wipe σ vs := by
                intro ws
                induction ws with
                | nil => intro _; rfl
                | cons w ws ih =>
                  intro hw
                  show (L2.wipe (L2.wipe σ vs) ws).set w none = L2.wipe σ vs
                  rw [show L2.wipe (L2.wipe σ vs) ws = L2.wipe σ vs from ih fun z hz => hw z (List.mem_cons_of_mem _ hz)]
                  have none_at : ∀ (us : List Nat), w ∈ us → (L2.wipe σ us).set w none = L2.wipe σ us := by
                    intro us
                    induction us with
                    | nil => intro h; cases h
                    | cons u us ih2 =>
                      intro h
                      unfold L2.wipe
                      rcases List.mem_cons.mp h with z | z
                      · subst z; exact List.set_set ..
                      · by_cases hu : u = w
                        · subst hu; exact List.set_set ..
                        · rw [List.set_comm _ _ hu, ih2 z]
                  exact none_at vs (hw w List.mem_cons_self)
              exact idem vs fun _ h => h
            · have hp' := Post.up (m' := m) hp e1 (List.prefix_refl m)
              refine hT _ _ _ ⟨env1, m, st, r2, s1, hp'.bind fun b st2 b' H3 m3 e3 p3 s3 rb hp3 => ?_⟩
              cases (show b = b' from rb)
              cases b with
              | false =>
                refine iteF ⟨m3, st2, (e.trans e1).trans e3, p.trans p3, s3, ?_⟩
                simpa using hp3
              | true =>
                refine iteT ?_
                have hp4 : Post K (okV K) (fun _ _ _ => False) m3 H3 Q ((ge env1 st2).bind fun y st => (match st[st1.length]? with
                  | some (.lst acc) => if acc.length < most then runLc s g tt ge st1.length (wipeE env vs) f (i + 1) (st.set st1.length (.lst (acc ++ [y]))) else .fail
                  | _ => .fail)) := hp3
                refine hEl _ _ _ ⟨env1, m3, st2, r2.mono e3 p3, s3, hp4.bind fun y st4 vy H4 m4 e4 p4 s4 ry hp5 => ?_⟩
                have ha : m4[st1.length]? = some Da := pre_get p4 (pre_get p3 (pre_get p hk))
                split at hp5
                · rename_i acc qa
                  obtain ⟨va, h4, ra⟩ := s4.ob _ _ _ ha qa
                  by_cases hl : acc.length < most
                  · rw [if_pos hl] at hp5
                    have ew : Ext H4 (upd H4 Da (.lst (va ++ [vy]))) := .write h4 (fun _ z => by cases z) (fun _ _ z => by cases z)
                    refine ⟨va, h4, by rw [← ra.length]; exact most_lt hl, m4, st4.set st1.length (.lst (acc ++ [y])), (((e.trans e1).trans e3).trans e4).trans ew, (p.trans p3).trans p4, s4.write (ob := .lst (acc ++ [y])) ha qa rfl h4 (fun _ z => by cases z) (fun _ _ z => by cases z) ⟨va ++ [vy], upd_same, ?_⟩, Post.up hp5 ew (List.prefix_refl _)⟩
                    exact (ra.mono ew (List.prefix_refl _)).append (.one (ry.mono ew (List.prefix_refl _)))
                  · rw [if_neg hl] at hp5; exact hp5.elim
                · exact hp5.elim
end
end U
set_option Elab.async false
set_option linter.all false
set_option maxRecDepth 100000
set_option maxHeartbeats 4000000
namespace U
open PySem PySem.Spec PyProof.Rows L2

def R.hush {α : Type} : R α → R α
  | .err _ _ _ => .fail
  | r => r
theorem hush_of {α β : Type} {K : PySem.W.Frag} {ok : Hp → Pl → α → β → Prop} {E E' : XK} {m : Pl} {H : Hp} {Q : β → Hp → Prop} {r : R α} (h : Post K ok E m H Q r.hush) : Post K ok E' m H Q r := by
  cases r with
  | ok d st => exact h
  | err c fs st => exact h.elim
  | fail => exact h
def cLc (src : IM) (vs : List Nat) (g : GM) (t : TM) (e : EM) : EM := fun env st => (src env st).bind fun s st => (startLc g t e (wipeE env vs) s st).hush
theorem _root_.L2.PTs.imp {X : Cx} {e : List Expr} {t t' : TT} (h : PTs X e t) (i : ∀ σ H Q, t' σ H Q → t σ H Q) : PTs X e t' := ⟨fun pins s σ H Q I q => h.run pins s σ H Q I (i _ _ _ q)⟩
section
variable {X : Cx} {W : WX} {tg iter elt : Expr} {ifs : List Expr} {src : IM} {g : GM} {tt : TM} {ge : EM} {scope : Scope} {own : List (Str × Nat)} {pos spos : Pos} {tgt : TG}
theorem c_yes : PTs X [] (rT X.K W tTrue) := pts_nil.imp fun σ H Q ⟨env, m, st, hE, hS, hp⟩ => Post.here (v := true) hp hS rfl
theorem lc_read {vs : List Nat} (hg : GOk X.K vs tgt g) {σ : L2.St} {H : Hp} {Q : VK} (h : rE X.K W (cLc src vs g tt ge) σ H Q) : tLc (rI X.K W src) tgt (rT X.K W0 tt) (rE X.K W0 ge) vs σ H Q := by
  obtain ⟨env, m, st, hE, hS, hp⟩ := h
  refine ⟨env, m, st, hE, hS, hp.bind fun s st1 J H1 m1 e1 p1 s1 hJ hp1 => fun Da hD => ?_⟩
  exact lc_of hg hJ (hE.mono e1 p1) s1 (fun _ _ _ h => h) (fun _ _ _ h => h) (hush_of hp1) Da hD
theorem e_lc (own : List (Str × Nat)) (hc : X.calm = true) (hN : X.N.Nodup) (hgo : GOk X.K (own.map (·.2)) tgt g) (hi : PI X tg iter (rI X.K W src)) (ok : BlkOk X.N X.env.scope scope own)
    (hg : ∀ (s : Shared) (H : Hp) (C : Addr) (cl : List (Str × Addr)) (fp : List Addr), PG (X.blk s H scope (compEnvC scope cl C X.env) fp) tg tgt)
    (ht : ∀ (s : Shared) (H : Hp) (C : Addr) (cl : List (Str × Addr)) (fp : List Addr), PTs (X.blk s H scope (compEnvC scope cl C X.env) fp) ifs (rT X.K W0 tt))
    (he : ∀ (s : Shared) (H : Hp) (C : Addr) (cl : List (Str × Addr)) (fp : List Addr), PE (X.blk s H scope (compEnvC scope cl C X.env) fp) elt (rE X.K W0 ge))
    (hs : ∀ x, foldedSetIterable iter X.env x = pure x := by intro _; rfl) : PE X (.ListComp elt [⟨tg, iter, ifs, 0⟩] scope pos) (rE X.K W (cLc src (own.map (·.2)) g tt ge)) :=
  (pe_lc hc hN hi ok hg ht he hs).imp fun σ H Q h => lc_read hgo h
theorem s_setLc (i : Nat) (own : List (Str × Nat)) {y : Str} {py : Pos} (hc : X.calm = true) (hN : X.N.Nodup) (hgo : GOk X.K (own.map (·.2)) tgt g) (hi : PI X tg iter (rI X.K W src)) (ok : BlkOk X.N X.env.scope scope own)
    (hg : ∀ (s : Shared) (H : Hp) (C : Addr) (cl : List (Str × Addr)) (fp : List Addr), PG (X.blk s H scope (compEnvC scope cl C X.env) fp) tg tgt)
    (ht : ∀ (s : Shared) (H : Hp) (C : Addr) (cl : List (Str × Addr)) (fp : List Addr), PTs (X.blk s H scope (compEnvC scope cl C X.env) fp) ifs (rT X.K W0 tt))
    (he : ∀ (s : Shared) (H : Hp) (C : Addr) (cl : List (Str × Addr)) (fp : List Addr), PE (X.blk s H scope (compEnvC scope cl C X.env) fp) elt (rE X.K W0 ge))
    (hsw : swapsWith (.ListComp elt [⟨tg, iter, ifs, 0⟩] scope pos) (some (.Name y py)) spos.line X.env = pure true) (hy : X.N[i]? = some y := by rfl) (hyl : X.env.scope.names.lookup y = some .local := by rfl)
    (hs : ∀ x, foldedSetIterable iter X.env x = pure x := by intro _; rfl) : PS X (.Assign [.Name y py] (.ListComp elt [⟨tg, iter, ifs, 0⟩] scope pos) spos) (rS X.K W (sSet i (cLc src (own.map (·.2)) g tt ge))) :=
  (ps_setLc hc hN hy hyl hsw hi ok hg ht he hs).imp fun D σ H h => by
    have h2 := set_of h
    exact lc_read hgo h2
end

abbrev Fm := List D → Sto → R D
def env0 (n slots : Nat) (ds : List D) : Ev := ds.map some ++ List.replicate (slots - n) none
def endFn : RS → R D
  | .rt d st => .ok d st
  | .nx _ st => .ok .non st
  | .err c fs _ st => .err c fs st
  | _ => .fail
def mkFn (n slots : Nat) (body : SM) : Fm := fun ds st => if ds.length = n then endFn (body (env0 n slots ds) st) else .fail
def spF (K : PySem.W.Frag) (n : Nat) (f : Fm) : Sp := fun vs H Q E => vs.length = n ∧ ∃ ds m st, RVs K H m ds vs ∧ SR K H m st ∧ Post K (okV K) E m H Q (f ds st)
def Arity (n : Nat) (f : Fm) : Prop := ∀ ds st, ds.length ≠ n → f ds st = .fail
theorem mkFn_ar {n slots : Nat} {body : SM} : Arity n (mkFn n slots body) := fun ds st h => if_neg h
theorem spF_of {K : PySem.W.Frag} {n : Nat} {f : Fm} (ar : Arity n f) {E : XK} {m : Pl} {H : Hp} {st : Sto} {ds : List D} {vs : List V} {Q : VK} (s : SR K H m st) (r : RVs K H m ds vs) (hp : Post K (okV K) E m H Q (f ds st)) : spF K n f vs H Q E := by
  by_cases hl : ds.length = n
  · exact ⟨by rw [← r.length]; exact hl, ds, m, st, r, s, hp⟩
  · rw [ar ds st hl] at hp; exact hp.elim
theorem env0_re {K : PySem.W.Frag} {H : Hp} {m : Pl} {ds : List D} {vs : List V} {N : List Str} {n : Nat} (r : RVs K H m ds vs) (hl : ds.length = n) : RE K H m (env0 n N.length ds) (L2.start N vs) := by
  have hv : vs.length = n := by rw [← r.length]; exact hl
  refine ⟨by simp [env0, L2.start, hl, hv], fun i d h => ?_⟩
  unfold env0 at h
  by_cases hi : i < ds.length
  · rw [List.getElem?_append_left (by simpa using hi), List.getElem?_map] at h
    obtain ⟨x, hx, e⟩ := Option.map_eq_some_iff.mp h
    cases e
    obtain ⟨v, hv2, rv⟩ := r.get hx
    refine ⟨v, ?_, rv⟩
    unfold L2.start
    rw [List.getElem?_append_left (by simp; rw [← r.length]; exact hi), List.getElem?_map, hv2]
    rfl
  · rw [List.getElem?_append_right (by simp; omega)] at h
    obtain ⟨_, e⟩ := List.getElem?_eq_some_iff.mp h
    simp at e
abbrev WK (E : XK) : WX := fun c d _ H => E c d H
section
variable {P : Program} {w : World} {K : PySem.W.Frag} {mg : Str → Option Value} {base : Heap}
theorem fn_F {x qual : Str} {params : Arguments} {body : List Stmt} {scope : Scope} {dvs : List V} {kws : List (Str × V)} {f : Addr} {fd : FuncData} {N ps : List Str} {k : Nat} {gb : SM} (F : FunD K x qual params body scope dvs kws f fd) (S : FnScope N ps scope)
    (h : ∀ (cdv : Value) (A : Around) (outer : List Env) (s : Shared) (H : Hp) (E : XK), Room k (A.deeper (envOfC qual scope s.heap.objs.size f cdv)) → PSs (cxOf (L2.CX P w) P w K mg base N qual scope f cdv A outer s H E) body (rS K (WK E) gb)) :
    FnOk P w K mg base (L2.CX P w) (k + 1) f fd ps (spF K ps.length (mkFn ps.length N.length gb)) := by
  refine F.ok S (fun vs H Q E h => h.1) (fun cdv A outer s H vs Q E hr hsp => ⟨_, h cdv A outer s H E hr, ?_⟩)
  obtain ⟨hl, ds, m, st, r, sS, hp⟩ := hsp
  have hd : ds.length = ps.length := by rw [r.length]; exact hl
  unfold mkFn at hp
  rw [if_pos hd] at hp
  refine ⟨_, m, st, env0_re r hd, sS, ?_⟩
  cases q : gb (env0 ps.length N.length ds) st with
  | rt d st1 => rw [q] at hp; exact hp
  | nx env st1 => rw [q] at hp; exact fun σ H1 m1 e1 p1 s1 r1 => hp .non H1 m1 e1 p1 s1 .non
  | err c fs env st1 => rw [q] at hp; exact fun dO σ H1 m1 e1 p1 s1 x1 r1 => hp dO H1 m1 e1 p1 s1 x1
  | bk env st1 => rw [q] at hp; exact hp.elim
  | ct env st1 => rw [q] at hp; exact hp.elim
  | fail => rw [q] at hp; exact hp.elim
end
structure Fn (P : Program) (w : World) (K : PySem.W.Frag) (mg : Str → Option Value) (base : Heap) (k : Nat) (x : Str) (n : Nat) (f : Fm) : Prop where
  ex : ∃ (a : Addr) (fd : FuncData) (ps : List Str), FnOk P w K mg base (L2.CX P w) k a fd ps (spF K n f) ∧ mg x = some (.ref a) ∧ PySem.W.keepIn K (.ref a) = true ∧ Binds K fd ps []
  ar : Arity n f
section
variable {X : Cx} {W : WX} {a : Expr} {es : List Expr} {gs : AM} {pos p : Pos} {k n : Nat} {x : Str} {f : Fm}
theorem e_call (F : Fn X.prog X.w X.K X.mg X.base k x n f) (tk : Takes X W) (hr : Room k X.A) (ha : PA X (a :: es) (rA X.K W gs)) (hg : Gl X x := by rfl)
    (hdb : (x == ("__debug__" : Str)) = false := by decide) (he : starEach (a :: es) X.env = (false, eval a X.env) :: starEach es X.env := by rfl) (hpl : (backTo pos (starEach es X.env)).any (·.1) = false := by rfl) :
    PE X (.Call (.Name x p) (a :: es) [] pos) (rE X.K W (eFn f gs)) := by
  obtain ⟨ad, fd, ps, ok, hm, hk, hb⟩ := F.ex
  exact (pe_callS ok hr hg hm hk hb (fun σ => passAt tk σ) ha hdb he hpl).imp fun σ H Q h => by
    obtain ⟨env, m, st, hE, hS, hp⟩ := h
    exact ⟨env, m, st, hE, hS, hp.bind fun d st1 v H1 m1 e1 p1 s1 r1 hp1 => spF_of F.ar s1 r1 hp1⟩
end
end U
set_option Elab.async false
set_option linter.all false
set_option maxRecDepth 100000
set_option maxHeartbeats 4000000
namespace U
open PySem PySem.Spec PyProof.Rows L2

def mapO {α β : Type} (f : α → Option β) : List α → Option (List β)
  | [] => some []
  | x :: xs => match f x with
    | none => none
    | some y => match mapO f xs with
      | none => none
      | some ys => some (y :: ys)
def toP : Nat → Sto → D → Option PyData
  | _, _, .non => some .none
  | _, _, .bl b => some (.bool b)
  | _, _, .int i => some (.int i)
  | _, _, .str x => some (.str x)
  | 0, _, _ => none
  | n + 1, st, .tup xs => (mapO (toP n st) xs).map .tuple
  | n + 1, st, .ref i => match lstOf st i with
    | some xs => (mapO (toP n st) xs).map .list
    | none => none
section
variable {K : PySem.W.Frag} {H : Hp} {m : Pl} {st : Sto}
theorem mapO_dp {n : Nat} (ih : ∀ (d : D) (v : V) (p : PyData), RV K H m d v → toP n st d = some p → Dp K H v p) : ∀ (ds : List D) (vs : List V) (ps : List PyData), RVs K H m ds vs → mapO (toP n st) ds = some ps → DpAll K H vs ps
  | [], _, _, r, h => by
    cases r
    cases h
    exact .nil
  | d :: ds, _, ps, r, h => by
    cases r with
    | cons r1 r2 =>
      unfold mapO at h
      cases q : toP n st d with
      | none => rw [q] at h; cases h
      | some p =>
        rw [q] at h
        cases q2 : mapO (toP n st) ds with
        | none => simp only [q2] at h; cases h
        | some ps' =>
          simp only [q2] at h
          cases h
          exact .cons (ih d _ p r1 q) (mapO_dp ih ds _ ps' r2 q2)
theorem toP_dp (s : SR K H m st) : ∀ (n : Nat) (d : D) (v : V) (p : PyData), RV K H m d v → toP n st d = some p → Dp K H v p
  | n, .non, _, _, r, h => by cases r; cases n <;> (cases h; exact .non)
  | n, .bl b, _, _, r, h => by cases r; cases n <;> (cases h; exact .bl b)
  | n, .int i, _, _, r, h => by cases r; cases n <;> (cases h; exact .int i)
  | n, .str x, _, _, r, h => by cases r; cases n <;> (cases h; exact .str x)
  | 0, .tup _, _, _, _, h => by cases h
  | 0, .ref _, _, _, _, h => by cases h
  | n + 1, .tup xs, _, p, r, h => by
    cases r with
    | tup hq rs =>
      obtain ⟨ps, e, rfl⟩ := Option.map_eq_some_iff.mp (show (mapO (toP n st) xs).map PyData.tuple = some p from h)
      exact .tup hq (mapO_dp (toP_dp s n) xs _ ps rs e)
  | n + 1, .ref i, _, p, r, h => by
    cases r with
    | ref hi =>
      have h' : (match lstOf st i with | some xs => (mapO (toP n st) xs).map PyData.list | none => none) = some p := h
      cases q : lstOf st i with
      | none => rw [q] at h'; cases h'
      | some xs =>
        rw [q] at h'
        obtain ⟨ps, e, rfl⟩ := Option.map_eq_some_iff.mp (show (mapO (toP n st) xs).map PyData.list = some p from h')
        obtain ⟨vs, hq, rs⟩ := s.sqL hi q
        exact .lst hq (mapO_dp (toP_dp s n) xs _ ps rs e)
end
def toS (st : Sto) (d : D) : Option PyData := match toP 60 st d with
  | some p => if SeqAt.shaped p = true then some p else none
  | none => none
theorem toS_dp {K : PySem.W.Frag} {H : Hp} {m : Pl} {st : Sto} (s : SR K H m st) {d : D} {v : V} {p : PyData} (r : RV K H m d v) (h : toS st d = some p) : Dp K H v p ∧ SeqAt.shaped p = true := by
  unfold toS at h
  cases q : toP 60 st d with
  | none => rw [q] at h; cases h
  | some p' =>
    rw [q] at h
    simp only at h
    split at h
    · rename_i hs
      cases h
      exact ⟨toP_dp s 60 d v _ r q, hs⟩
    · cases h
def dEq (neg : Bool) (x y : D) (st : Sto) : R D := match toS st x, toS st y with
  | some p, some q => .ok (.bl (if neg then !PyData.eqv p q else PyData.eqv p q)) st
  | _, _ => .fail
def itemsP : PyData → Option (List PyData)
  | .tuple ps => some ps
  | .list ps => some ps
  | _ => none
def dIn (neg : Bool) (x y : D) (st : Sto) : R D := match toS st x, toS st y with
  | some p, some q => match itemsP q with
    | some ps => .ok (.bl (if neg then !ps.any (fun z => PyData.eqv z p) else ps.any (fun z => PyData.eqv z p))) st
    | none => .fail
  | _, _ => .fail
section
variable {X : Cx} {k : Nat}
theorem o_eq (hr : Room k X.A) : OpF X (compareOp .Eq) (dEq false) := ⟨_, op_eqD hr.units, fun E m H st dx dy x y Q s rx ry hp => by
  unfold dEq at hp
  cases q1 : toS st dx with
  | none => rw [q1] at hp; exact hp.elim
  | some p =>
    cases q2 : toS st dy with
    | none => rw [q1, q2] at hp; exact hp.elim
    | some q =>
      rw [q1, q2] at hp
      obtain ⟨h1, h2⟩ := toS_dp s rx q1
      obtain ⟨h3, h4⟩ := toS_dp s ry q2
      exact ⟨p, q, h1, h3, h2, h4, Post.here (v := .bl (PyData.eqv p q)) hp s .bl⟩⟩
theorem o_ne (hr : Room k X.A) : OpF X (compareOp .NotEq) (dEq true) := ⟨_, op_neD hr.units, fun E m H st dx dy x y Q s rx ry hp => by
  unfold dEq at hp
  cases q1 : toS st dx with
  | none => rw [q1] at hp; exact hp.elim
  | some p =>
    cases q2 : toS st dy with
    | none => rw [q1, q2] at hp; exact hp.elim
    | some q =>
      rw [q1, q2] at hp
      obtain ⟨h1, h2⟩ := toS_dp s rx q1
      obtain ⟨h3, h4⟩ := toS_dp s ry q2
      exact ⟨p, q, h1, h3, h2, h4, Post.here (v := .bl (!PyData.eqv p q)) hp s .bl⟩⟩
def rInA (K : PySem.W.Frag) (neg : Bool) : R2 := fun x y H Q => ∃ d e ds, Dp K H x d ∧ Dp K H y e ∧ itemsP e = some ds ∧ SeqAt.shaped d = true ∧ SeqAt.shaped e = true ∧ Q (.bl (if neg then !ds.any (fun z => PyData.eqv z d) else ds.any (fun z => PyData.eqv z d))) H
theorem shaped_items {e : PyData} {ds : List PyData} (h : itemsP e = some ds) (s : SeqAt.shaped e = true) : PyData.canLayAll0 ds = true := by
  have h2 := SeqAt.canLay_of_shaped s
  cases e with
  | tuple ps => cases h; simpa [PyData.canLay0] using h2
  | list ps => cases h; simpa [PyData.canLay0] using h2
  | _ => cases h
theorem or_in (hr : Room k X.A) : OpR X (compareOp .In) (rInA X.K false) := by
  intro pins s σ H x y v u Q I rx ry h
  obtain ⟨d, e, ds, hd, he, hi, sd, se, q⟩ := h
  have hu : X.A.units + 65 < cLine := by have := hr.un; omega
  obtain ⟨as, r1⟩ := Dp.reads I d x v hd rx
  obtain ⟨bs, r2⟩ := Dp.reads I e y u he ry
  have hl := shaped_items hi se
  cases e with
  | tuple ps => cases hi; exact SeqAt.in_tuple_reads r2 r1 hl (SeqAt.canLay_of_shaped sd) (room_in_shaped sd hu) ⟨.bl _, H, I, rfl, q⟩
  | list ps => cases hi; exact SeqAt.in_list_reads r2 r1 hl (SeqAt.canLay_of_shaped sd) (room_in_shaped sd hu) ⟨.bl _, H, I, rfl, q⟩
  | _ => cases hi
theorem in_read {neg : Bool} {E : XK} {m : Pl} {H : Hp} {st : Sto} {dx dy : D} {x y : V} {Q : VK} (s : SR X.K H m st) (rx : RV X.K H m dx x) (ry : RV X.K H m dy y) (hp : Post X.K (okV X.K) E m H Q (dIn neg dx dy st)) : rInA X.K neg x y H Q := by
  unfold dIn at hp
  cases q1 : toS st dx with
  | none => rw [q1] at hp; exact hp.elim
  | some p =>
    cases q2 : toS st dy with
    | none => rw [q1, q2] at hp; exact hp.elim
    | some q =>
      rw [q1, q2] at hp
      simp only at hp
      obtain ⟨h1, h2⟩ := toS_dp s rx q1
      obtain ⟨h3, h4⟩ := toS_dp s ry q2
      cases q3 : itemsP q with
      | none => rw [q3] at hp; exact hp.elim
      | some ps =>
        rw [q3] at hp
        exact ⟨p, q, ps, h1, h3, q3, h2, h4, Post.here (v := .bl _) hp s .bl⟩
theorem o_in (hr : Room k X.A) : OpF X (compareOp .In) (dIn false) := ⟨_, or_in hr, fun E m H st dx dy x y Q s rx ry hp => in_read s rx ry hp⟩
def dI (f : Int → Int → R D) (x y : D) : R D := match x, y with
  | .int i, .int j => f i j
  | _, _ => .fail
def dSub (x y : D) (st : Sto) : R D := dI (fun i j => .ok (.int (i - j)) st) x y
def dMod (x y : D) (st : Sto) : R D := dI (fun i j => if 0 < j then .ok (.int (i % j)) st else .fail) x y
def dDiv (x y : D) (st : Sto) : R D := dI (fun i j => if 0 < j ∧ j < 1000000000000000000000000000000000000000000000000000000000001 then .ok (.int (i / j)) st else .fail) x y
def dPow (x y : D) (st : Sto) : R D := dI (fun i j => if 0 ≤ j ∧ j ≤ 1000000 ∧ i.natAbs < 2 ^ 64 then .ok (.int (i ^ j.toNat)) st else .fail) x y
def dLt (x y : D) (st : Sto) : R D := dI (fun i j => .ok (.bl (decide (i < j))) st) x y
def dLe (x y : D) (st : Sto) : R D := dI (fun i j => .ok (.bl (decide (i ≤ j))) st) x y
def dGt (x y : D) (st : Sto) : R D := dI (fun i j => .ok (.bl (decide (j < i))) st) x y
def dGe (x y : D) (st : Sto) : R D := dI (fun i j => .ok (.bl (decide (j ≤ i))) st) x y
theorem dI_cases {K : PySem.W.Frag} {H : Hp} {m : Pl} {E : XK} {Q : VK} {f : Int → Int → R D} {dx dy : D} {x y : V} (rx : RV K H m dx x) (ry : RV K H m dy y) (hp : Post K (okV K) E m H Q (dI f dx dy)) : ∃ i j, x = .int i ∧ y = .int j ∧ Post K (okV K) E m H Q (f i j) := by
  cases dx with
  | int i =>
    cases dy with
    | int j => cases rx; cases ry; exact ⟨i, j, rfl, rfl, hp⟩
    | _ => exact hp.elim
  | _ => exact hp.elim
theorem o_sub : OpF X (binaryOp .Sub) dSub := ⟨_, op_sub, fun E m H st dx dy x y Q s rx ry hp => let ⟨i, j, e1, e2, h⟩ := dI_cases rx ry hp; ⟨i, j, e1, e2, Post.here (v := .int (i - j)) h s .int⟩⟩
theorem o_mod : OpF X (binaryOp .Mod) dMod := ⟨_, op_mod, fun E m H st dx dy x y Q s rx ry hp => by
  obtain ⟨i, j, e1, e2, h⟩ := dI_cases rx ry hp
  split at h
  · rename_i hj; exact ⟨i, j, e1, e2, hj, Post.here (v := .int (i % j)) h s .int⟩
  · exact h.elim⟩
theorem wide_ok {j : Int} (h0 : 0 < j) (h : j < 1000000000000000000000000000000000000000000000000000000000001) : j.natAbs.log2 < 9000 := by
  have h1 : j.natAbs < 2 ^ 200 := by
    have : (2 : Nat) ^ 200 = 1606938044258990275541962092341162602522202993782792835301376 := by decide
    omega
  have h2 : j.natAbs.log2 < 200 := (Nat.log2_lt (by omega)).mpr h1
  omega
theorem o_div : OpF X (binaryOp .FloorDiv) dDiv := ⟨_, op_fdivW, fun E m H st dx dy x y Q s rx ry hp => by
  obtain ⟨i, j, e1, e2, h⟩ := dI_cases rx ry hp
  split at h
  · rename_i hj; exact ⟨i, j, e1, e2, ⟨hj.1, wide_ok hj.1 hj.2⟩, Post.here (v := .int (i / j)) h s .int⟩
  · exact h.elim⟩
theorem o_pow : OpF X (binaryOp .Pow) dPow := ⟨_, op_pow, fun E m H st dx dy x y Q s rx ry hp => by
  obtain ⟨i, j, e1, e2, h⟩ := dI_cases rx ry hp
  split at h
  · rename_i hj; exact ⟨i, j, e1, e2, hj, Post.here (v := .int (i ^ j.toNat)) h s .int⟩
  · exact h.elim⟩
theorem o_lt : OpF X (compareOp .Lt) dLt := ⟨_, op_lt, fun E m H st dx dy x y Q s rx ry hp => let ⟨i, j, e1, e2, h⟩ := dI_cases rx ry hp; ⟨i, j, e1, e2, Post.here (v := .bl _) h s .bl⟩⟩
theorem o_le : OpF X (compareOp .LtE) dLe := ⟨_, op_le, fun E m H st dx dy x y Q s rx ry hp => let ⟨i, j, e1, e2, h⟩ := dI_cases rx ry hp; ⟨i, j, e1, e2, Post.here (v := .bl _) h s .bl⟩⟩
theorem o_gt : OpF X (compareOp .Gt) dGt := ⟨_, op_gt, fun E m H st dx dy x y Q s rx ry hp => let ⟨i, j, e1, e2, h⟩ := dI_cases rx ry hp; ⟨i, j, e1, e2, Post.here (v := .bl _) h s .bl⟩⟩
theorem o_ge : OpF X (compareOp .GtE) dGe := ⟨_, op_ge, fun E m H st dx dy x y Q s rx ry hp => let ⟨i, j, e1, e2, h⟩ := dI_cases rx ry hp; ⟨i, j, e1, e2, Post.here (v := .bl _) h s .bl⟩⟩
def dAdd (x y : D) (st : Sto) : R D := match x, y with
  | .int i, .int j => .ok (.int (i + j)) st
  | .tup xs, .tup ys => if xs.length + ys.length ≤ most then .ok (.tup (xs ++ ys)) st else .fail
  | .str a, .str b => if a.length + b.length ≤ most then .ok (.str (a ++ b)) st else .fail
  | .ref a, .ref b => match st[a]?, st[b]? with
    | some (.lst xs), some (.lst ys) => mkLst (xs ++ ys) st
    | _, _ => .fail
  | _, _ => .fail
theorem o_add : OpF X (binaryOp .Add) dAdd := ⟨_, op_add.or (op_catA.or (op_add_str.or op_cat)), fun E m H st dx dy x y Q s rx ry hp => by
  cases dx with
  | int i =>
    cases dy with
    | int j => cases rx; cases ry; exact .inl ⟨i, j, rfl, rfl, Post.here (v := .int (i + j)) hp s .int⟩
    | _ => exact hp.elim
  | tup xs =>
    cases dy with
    | tup ys =>
      cases rx with
      | @tup _ a vs hq rs =>
        cases ry with
        | @tup _ b ws hq2 rs2 =>
          have hp' : Post X.K (okV X.K) E m H Q (if xs.length + ys.length ≤ most then .ok (.tup (xs ++ ys)) st else .fail) := hp
          by_cases hl : xs.length + ys.length ≤ most
          · rw [if_pos hl] at hp'
            refine .inr (.inl ⟨a, b, vs, ws, rfl, rfl, hq, hq2, by rw [← rs.length, ← rs2.length]; exact most_le hl, fun e => ?_, fun e1 e2 => ?_, fun _ _ p h => new_tup hp' s (rs.append rs2) h⟩)
            · subst e
              cases rs
              exact Post.here (v := .ref b) hp' s (.tup hq2 (show RVs X.K H m ([] ++ ys) ws from rs2))
            · subst e2
              cases rs2
              exact Post.here (v := .ref a) hp' s (.tup hq (by rw [List.append_nil]; exact rs))
          · rw [if_neg hl] at hp'; exact hp'.elim
    | _ => exact hp.elim
  | str a =>
    cases dy with
    | str b =>
      cases rx; cases ry
      have hp' : Post X.K (okV X.K) E m H Q (if a.length + b.length ≤ most then .ok (.str (a ++ b)) st else .fail) := hp
      by_cases hl : a.length + b.length ≤ most
      · rw [if_pos hl] at hp'
        exact .inr (.inr (.inl ⟨a, b, rfl, rfl, most_le hl, Post.here (v := .str (a ++ b)) hp' s .str⟩))
      · rw [if_neg hl] at hp'; exact hp'.elim
    | _ => exact hp.elim
  | ref i =>
    cases dy with
    | ref j =>
      cases rx with
      | @ref _ a h1 =>
        cases ry with
        | @ref _ b h2 =>
          have hp' : Post X.K (okV X.K) E m H Q (match st[i]?, st[j]? with | some (.lst xs), some (.lst ys) => mkLst (xs ++ ys) st | _, _ => .fail) := hp
          split at hp'
          · rename_i xs ys g1 g2
            obtain ⟨vs, a1, r1⟩ := s.ob _ _ _ h1 g1
            obtain ⟨ws, a2, r2⟩ := s.ob _ _ _ h2 g2
            unfold mkLst at hp'
            split at hp'
            · rename_i hl
              exact .inr (.inr (.inr ⟨a, b, vs, ws, rfl, rfl, a1, a2, by rw [← r1.length, ← r2.length]; rw [List.length_append] at hl; exact most_le hl, fun p h => new_lst hp' s (r1.append r2) h⟩))
            · exact hp'.elim
          · exact hp'.elim
    | _ => exact hp.elim
  | _ => exact hp.elim⟩
theorem RVs.rep {K : PySem.W.Frag} {H : Hp} {m : Pl} {xs : List D} {vs : List V} (r : RVs K H m xs vs) : ∀ n : Nat, RVs K H m (List.replicate n xs).flatten (List.replicate n vs).flatten
  | 0 => .nil
  | n + 1 => by
    rw [List.replicate_succ, List.replicate_succ, List.flatten_cons, List.flatten_cons]
    exact r.append (RVs.rep r n)
def dMul (x y : D) (st : Sto) : R D := match x, y with
  | .int i, .int j => if (-(2 ^ 64) < i ∧ i < 2 ^ 64) ∨ (-(2 ^ 64) < j ∧ j < 2 ^ 64) then .ok (.int (i * j)) st else .fail
  | .tup xs, .int k => if xs ≠ [] ∧ 2 ≤ k ∧ k ≤ 1000 ∧ xs.length ≤ 1000 then .ok (.tup (List.replicate k.toNat xs).flatten) st else .fail
  | _, _ => .fail
theorem o_mul : OpF X (binaryOp .Mult) dMul := ⟨_, op_mul.or op_repT, fun E m H st dx dy x y Q s rx ry hp => by
  cases dx with
  | int i =>
    cases dy with
    | int j =>
      cases rx; cases ry
      have hp' : Post X.K (okV X.K) E m H Q (if (-(2 ^ 64) < i ∧ i < 2 ^ 64) ∨ (-(2 ^ 64) < j ∧ j < 2 ^ 64) then .ok (.int (i * j)) st else .fail) := hp
      by_cases hl : (-(2 ^ 64) < i ∧ i < 2 ^ 64) ∨ (-(2 ^ 64) < j ∧ j < 2 ^ 64)
      · rw [if_pos hl] at hp'
        exact .inl ⟨i, j, rfl, rfl, hl, Post.here (v := .int (i * j)) hp' s .int⟩
      · rw [if_neg hl] at hp'; exact hp'.elim
    | _ => exact hp.elim
  | tup xs =>
    cases dy with
    | int k =>
      cases rx with
      | @tup _ a vs hq rs =>
        cases ry
        have hp' : Post X.K (okV X.K) E m H Q (if xs ≠ [] ∧ 2 ≤ k ∧ k ≤ 1000 ∧ xs.length ≤ 1000 then .ok (.tup (List.replicate k.toNat xs).flatten) st else .fail) := hp
        by_cases hl : xs ≠ [] ∧ 2 ≤ k ∧ k ≤ 1000 ∧ xs.length ≤ 1000
        · rw [if_pos hl] at hp'
          refine .inr ⟨a, k, vs, rfl, rfl, hq, fun e => hl.1 ?_, hl.2.1, hl.2.2.1, by rw [← rs.length]; exact hl.2.2.2, fun p h => new_tup hp' s (rs.rep k.toNat) h⟩
          have := rs.length
          rw [e] at this
          exact List.eq_nil_of_length_eq_zero this
        · rw [if_neg hl] at hp'; exact hp'.elim
    | _ => exact hp.elim
  | _ => exact hp.elim⟩
end
def eChain (f g : D → D → Sto → R D) (a b c : EM) : EM := fun env st => (a env st).bind fun x st => (b env st).bind fun y st => (f x y st).bind fun k st => match k with
  | .bl true => (c env st).bind fun z st => g y z st
  | .bl false => .ok (.bl false) st
  | _ => .fail
section
variable {X : Cx} {W : WX} {a b c : Expr} {ga gb gc : EM} {pos : Pos}
theorem chain_of {r r' : R2} {f g : D → D → Sto → R D}
    (hf : ∀ (E : XK) (m : Pl) (H : Hp) (st : Sto) (dx dy : D) (x y : V) (Q : VK), SR X.K H m st → RV X.K H m dx x → RV X.K H m dy y → Post X.K (okV X.K) E m H Q (f dx dy st) → r x y H Q)
    (hg : ∀ (E : XK) (m : Pl) (H : Hp) (st : Sto) (dx dy : D) (x y : V) (Q : VK), SR X.K H m st → RV X.K H m dx x → RV X.K H m dy y → Post X.K (okV X.K) E m H Q (g dx dy st) → r' x y H Q)
    {σ : L2.St} {H : Hp} {Q : VK} (h : rE X.K W (eChain f g ga gb gc) σ H Q) : tChain r r' (rE X.K W ga) (rE X.K W gb) (rE X.K W gc) σ H Q := by
  obtain ⟨env, m, st, hE, hS, hp⟩ := h
  refine ⟨env, m, st, hE, hS, hp.bind fun dx st1 x H1 m1 e1 p1 s1 r1 hp1 => ⟨env, m1, st1, hE.mono e1 p1, s1, hp1.bind fun dy st2 y H2 m2 e2 p2 s2 r2 hp2 => ?_⟩⟩
  refine hf _ m2 H2 st2 dx dy x y _ s2 (r1.mono e2 p2) r2 (hp2.bind fun dk st3 z H3 m3 e3 p3 s3 r3 hp3 => ?_)
  cases dk with
  | bl k =>
    cases r3
    refine ⟨k, rfl, ?_⟩
    cases k with
    | false => exact iteF (Post.here (v := .bl false) hp3 s3 .bl)
    | true =>
      refine iteT ⟨env, m3, st3, ((hE.mono e1 p1).mono e2 p2).mono e3 p3, s3, Post.bind (f := fun z st => g dy z st) hp3 fun dz st4 w H4 m4 e4 p4 s4 r4 hp4 => ?_⟩
      exact hg _ m4 H4 st4 dy dz y w Q s4 ((r2.mono e3 p3).mono e4 p4) r4 hp4
  | _ => exact hp3.elim
theorem e_chain {op op' : CmpOp} {f g : D → D → Sto → R D} (ho : OpF X (compareOp op) f) (ho' : OpF X (compareOp op') g) (ha : PE X a (rE X.K W ga)) (hb : PE X b (rE X.K W gb)) (hc : PE X c (rE X.K W gc))
    (hm : lastMarks [op, op'] [b, c] = false := by with_unfolding_all rfl) : PE X (.Compare a [op, op'] [b, c] pos) (rE X.K W (eChain f g ga gb gc)) := by
  obtain ⟨r, h1, h2⟩ := ho
  obtain ⟨r', h1', h2'⟩ := ho'
  exact (pe_chain h1 h1' ha hb hc hm).imp fun σ H Q h => chain_of h2 h2' h
theorem t_chain {op op' : CmpOp} {f g : D → D → Sto → R D} (ho : OpF X (compareOp op) f) (ho' : OpF X (compareOp op') g) (ha : PE X a (rE X.K W ga)) (hb : PE X b (rE X.K W gb)) (hc : PE X c (rE X.K W gc))
    (hm : lastMarks [op, op'] [b, c] = false := by with_unfolding_all rfl) : PT X (.Compare a [op, op'] [b, c] pos) (rT X.K W (tOf (eChain f g ga gb gc))) := by
  obtain ⟨r, h1, h2⟩ := ho
  obtain ⟨r', h1', h2'⟩ := ho'
  exact (pt_chain h1 h1' ha hb hc hm).imp fun σ H Q h => chain_of h2 h2' (test_of h)
end
end U
set_option Elab.async false
set_option linter.all false
set_option maxRecDepth 100000
set_option maxHeartbeats 4000000
namespace U
open PySem PySem.Spec PyProof.Rows L2

def seqOf (st : Sto) (d : D) : Option (List D) := match d with
  | .tup xs => some xs
  | .ref n => lstOf st n
  | _ => none
theorem seqOf_sq {K : PySem.W.Frag} {H : Hp} {m : Pl} {st : Sto} (s : SR K H m st) {d : D} {v : V} {xs : List D} (r : RV K H m d v) (h : seqOf st d = some xs) : ∃ a vs, v = .ref a ∧ (SqL K H a vs ∨ SqT K H a vs) ∧ RVs K H m xs vs := by
  cases d with
  | tup ys =>
    cases h
    cases r with
    | tup hq rs => exact ⟨_, _, rfl, .inr hq, rs⟩
  | ref n =>
    cases r with
    | ref hn =>
      obtain ⟨vs, hq, rs⟩ := s.sqL hn h
      exact ⟨_, vs, rfl, .inl hq, rs⟩
  | _ => cases h
def fLen (ds : List D) (st : Sto) : R D := match ds with
  | [.str x] => if x.length ≤ most then .ok (.int x.length) st else .fail
  | [d] => match seqOf st d with
    | some xs => .ok (.int xs.length) st
    | none => .fail
  | _ => .fail
theorem len_read {K : PySem.W.Frag} : CallF K (fun xs H Q => ∃ x n, xs = [x] ∧ LenV K x H n ∧ Q (.int n) H) fLen := fun E m H st ds vs Q s r hp => by
  unfold fLen at hp
  split at hp
  · rename_i x
    cases r with
    | cons r1 r2 =>
      cases r2
      cases r1
      split at hp
      · rename_i hl
        exact ⟨.str x, x.length, rfl, ⟨most_le hl, rfl⟩, Post.here (v := .int x.length) hp s .int⟩
      · exact hp.elim
  · rename_i d hd
    cases r with
    | cons r1 r2 =>
      cases r2
      split at hp
      · rename_i xs q
        obtain ⟨a, vs, rfl, hq, rs⟩ := seqOf_sq s r1 q
        refine ⟨.ref a, vs.length, rfl, ?_, ?_⟩
        · rcases hq with hq | hq
          · exact .inl ⟨vs, hq, rfl⟩
          · exact .inr ⟨vs, hq, rfl⟩
        · rw [← rs.length]
          exact Post.here (v := .int xs.length) hp s .int
      · exact hp.elim
  · exact hp.elim
def tyD (st : Sto) : D → Option String
  | .non => some "NoneType"
  | .bl _ => some "bool"
  | .int _ => some "int"
  | .str _ => some "str"
  | .tup _ => some "tuple"
  | .ref n => match st[n]? with
    | some (.lst _) => some "list"
    | some (.rol _) => some "list"
    | some (.ins _ _) => some "own"
    | _ => none
def isiT (a b : String) : Bool := a == b || (a == "bool" && b == "int")
theorem isi_tab : ∀ a ∈ kinds, ∀ b ∈ askd, kitB a b = some (isiT a b) := by decide +kernel
theorem tyD_kit {K : PySem.W.Frag} {H : Hp} {m : Pl} {st : Sto} (s : SR K H m st) {d : D} {v : V} {q : String} (r : RV K H m d v) (h : tyD st d = some q) : ∃ t, TyX K H v t ∧ ∀ T ∈ askd, PySem.W.kitOne K t (.type T) = some (isiT q T) := by
  have plain : ∀ {q : String}, q ∈ kinds → TyX K H v (.type q) → ∃ t, TyX K H v t ∧ ∀ T ∈ askd, PySem.W.kitOne K t (.type T) = some (isiT q T) := fun {q} hq ty => ⟨_, ty, fun T hT => kit_ty (isi_tab q hq T hT)⟩
  cases d with
  | non => cases r; cases h; exact plain (by decide) (.base .non)
  | bl b => cases r; cases h; exact plain (by decide) (.base (.bl b))
  | int i => cases r; cases h; exact plain (by decide) (.base (.int i))
  | str x => cases r; cases h; exact plain (by decide) (.base (.str x))
  | tup xs =>
    cases h
    refine plain (by decide) ?_
    cases r with
    | tup hq rs =>
      rcases hq with (hq | ⟨o, hq⟩) | ⟨o, its, n, hk, hc, _⟩
      · exact .base (.tup hq)
      · exact .fTuple hq
      · exact .kTuple hk hc
  | ref n =>
    cases r with
    | ref hn =>
      unfold tyD at h
      simp only at h
      split at h
      · rename_i xs q
        cases h
        obtain ⟨vs, e, _⟩ := s.ob _ _ _ hn q
        exact plain (by decide) (.base (.lst e))
      · rename_i xs q
        cases h
        obtain ⟨o, vs, e, _⟩ := s.ob _ _ _ hn q
        exact plain (by decide) (.base (.frz e))
      · rename_i c fs q
        cases h
        obtain ⟨dx, vfs, e, _, _, _, C⟩ := s.ob _ _ _ hn q
        exact ⟨_, .base (.ins e C.cl C.own C.get C.tks C.obj), fun T hT => by rw [C.no T hT, (by decide : ∀ T ∈ askd, isiT "own" T = false) T hT]⟩
      · cases h
def dIsi (T : String) (d : D) (st : Sto) : R D := match tyD st d with
  | some a => .ok (.bl (isiT a T)) st
  | none => .fail
section
variable {X : Cx} {W : WX} {a b c : Expr} {ga gb gc : EM} {es : List Expr} {gs : AM} {pos p p2 : Pos}
theorem e_isi (T : String) {x : Str} (hm : X.mg "isinstance" = none) (hmT : X.mg x = none) (ha : PE X a (rE X.K W ga)) (hvT : bootBuiltins x = some (.type T) := by decide +kernel) (hT : T ∈ askd := by decide) (hg : Gl X "isinstance" := by rfl) (hgT : Gl X x := by rfl) (hn : x ≠ "__name__" := by decide) (hd : (x == ("__debug__" : Str)) = false := by decide)
    (h1 : starEach [a, .Name x p2] X.env = (false, eval a X.env) :: starEach [.Name x p2] X.env := by rfl) (h2 : starEach [.Name x p2] X.env = (false, eval (.Name x p2) X.env) :: starEach [] X.env := by rfl) (hpl : (backTo pos (starEach [.Name x p2] X.env)).any (·.1) = false := by rfl) :
    PE X (.Call (.Name "isinstance" p) [a, .Name x p2] [] pos) (rE X.K W (eUn (dIsi T) ga)) :=
  (pe_callB call_isi hg hm boot_isinstance (pa_cons ha (pa_cons (pe_bltn (v := .ty T) hgT hmT hvT rfl hn hd) pa_nil h2) h1) (by decide) (by decide) h1 hpl).imp fun σ H Q ⟨env, m, st, hE, hS, hp⟩ => by
    refine ⟨env, m, st, hE, hS, hp.bind fun d st1 v H1 m1 e1 p1 s1 r1 hp1 => ?_⟩
    unfold dIsi at hp1
    split at hp1
    · rename_i k q
      obtain ⟨t, ty, kt⟩ := tyD_kit s1 r1 q
      exact ⟨v, .ty T, t, .type T, isiT k T, rfl, .ty T, ty, kt T hT, Post.here (v := .bl _) hp1 s1 .bl⟩
    · exact hp1.elim
theorem e_len {x : Str} (hm : X.mg "len" = none) (ha : PE X a (rE X.K W ga)) (hg : Gl X "len" := by rfl) (he : starEach [a] X.env = (false, eval a X.env) :: starEach [] X.env := by rfl) (hpl : (backTo pos (starEach [] X.env)).any (·.1) = false := by rfl) :
    PE X (.Call (.Name "len" p) [a] [] pos) (rE X.K W (eFn fLen (aCons ga aNil))) := e_callB (call_len) len_read hm PySem.boot_len (a_cons ha a_nil he) hg (by decide) (by decide) he hpl
def bools : List D → Option (List Bool)
  | [] => some []
  | .bl b :: r => (bools r).map (b :: ·)
  | _ :: _ => none
theorem bools_rv {K : PySem.W.Frag} {H : Hp} {m : Pl} : ∀ {xs : List D} {vs : List V} {bs : List Bool}, RVs K H m xs vs → bools xs = some bs → vs = bs.map V.bl
  | [], _, _, r, h => by cases r; cases h; rfl
  | .bl b :: xs, _, bs, r, h => by
    cases r with
    | cons r1 r2 =>
      cases r1
      obtain ⟨cs, e, rfl⟩ := Option.map_eq_some_iff.mp (show (bools xs).map (b :: ·) = some bs from h)
      rw [bools_rv r2 e]
      rfl
  | .non :: _, _, _, _, h => by cases h
  | .int _ :: _, _, _, _, h => by cases h
  | .str _ :: _, _, _, _, h => by cases h
  | .tup _ :: _, _, _, _, h => by cases h
  | .ref _ :: _, _, _, _, h => by cases h
def fAA (f : List Bool → Bool) (ds : List D) (st : Sto) : R D := match ds with
  | [.ref n] => match lstOf st n with
    | some xs => match bools xs with
      | some bs => .ok (.bl (f bs)) st
      | none => .fail
    | none => .fail
  | _ => .fail
theorem aa_read {K : PySem.W.Frag} {f : List Bool → Bool} : CallF K (fun vs H Q => ∃ (a : Addr) (bs : List Bool), vs = [V.ref a] ∧ SqL K H a (bs.map V.bl) ∧ Q (.bl (f bs)) H) (fAA f) := fun E m H st ds vs Q s r hp => by
  unfold fAA at hp
  split at hp
  · rename_i n
    cases r with
    | cons r1 r2 =>
      cases r2
      cases r1 with
      | @ref _ a hn =>
        split at hp
        · rename_i xs q
          split at hp
          · rename_i bs q2
            obtain ⟨ws, hq, rs⟩ := s.sqL hn q
            rw [bools_rv rs q2] at hq
            exact ⟨a, bs, rfl, hq, Post.here (v := .bl _) hp s .bl⟩
          · exact hp.elim
        · exact hp.elim
  · exact hp.elim
theorem e_all (hc : X.calm = true) (hm : X.mg "all" = none) (ha : PE X a (rE X.K W ga)) (hg : Gl X "all" := by rfl) (he : starEach [a] X.env = (false, eval a X.env) :: starEach [] X.env := by rfl) (hpl : (backTo pos (starEach [] X.env)).any (·.1) = false := by rfl) :
    PE X (.Call (.Name "all" p) [a] [] pos) (rE X.K W (eFn (fAA fun bs => bs.all id) (aCons ga aNil))) := e_callB (cr_all hc) aa_read hm PyProof.Rows.boot_all (a_cons ha a_nil he) hg (by decide) (by decide) he hpl
theorem e_any (hc : X.calm = true) (hm : X.mg "any" = none) (ha : PE X a (rE X.K W ga)) (hg : Gl X "any" := by rfl) (he : starEach [a] X.env = (false, eval a X.env) :: starEach [] X.env := by rfl) (hpl : (backTo pos (starEach [] X.env)).any (·.1) = false := by rfl) :
    PE X (.Call (.Name "any" p) [a] [] pos) (rE X.K W (eFn (fAA fun bs => bs.any id) (aCons ga aNil))) := e_callB (cr_any hc) aa_read hm PyProof.Rows.boot_any (a_cons ha a_nil he) hg (by decide) (by decide) he hpl
def fTup (ds : List D) (st : Sto) : R D := match ds with
  | [d] => match seqOf st d with
    | some xs => .ok (.tup xs) st
    | none => .fail
  | _ => .fail
theorem tup_read {K : PySem.W.Frag} : CallF K (fun xs H Q => ∃ p ys, xs = [.ref p] ∧ ((SqL K H p ys ∧ ∀ l, H l = none → Q (.ref l) (upd H l (.tup ys))) ∨ (SqT K H p ys ∧ Q (.ref p) H))) fTup := fun E m H st ds vs Q s r hp => by
  unfold fTup at hp
  split at hp
  · rename_i d
    cases r with
    | cons r1 r2 =>
      cases r2
      split at hp
      · rename_i xs q
        obtain ⟨a, vs, rfl, hq, rs⟩ := seqOf_sq s r1 q
        refine ⟨a, vs, rfl, ?_⟩
        rcases hq with hq | hq
        · exact .inl ⟨hq, fun l h => new_tup hp s rs h⟩
        · exact .inr ⟨hq, Post.here (v := .ref a) hp s (.tup hq rs)⟩
      · exact hp.elim
  · exact hp.elim
theorem e_tuple (hm : X.mg "tuple" = none) (ha : PE X a (rE X.K W ga)) (hg : Gl X "tuple" := by rfl) (he : starEach [a] X.env = (false, eval a X.env) :: starEach [] X.env := by rfl) (hpl : (backTo pos (starEach [] X.env)).any (·.1) = false := by rfl) :
    PE X (.Call (.Name "tuple" p) [a] [] pos) (rE X.K W (eFn fTup (aCons ga aNil))) := e_callTy call_tuple_of tup_read hm PyProof.Rows.boot_tuple (a_cons ha a_nil he) hg (by decide) (by decide) he hpl
def fAbs (ds : List D) (st : Sto) : R D := match ds with
  | [.int i] => .ok (.int (if i < 0 then -i else i)) st
  | _ => .fail
def fI2 (f : Int → Int → Int) (ds : List D) (st : Sto) : R D := match ds with
  | [.int i, .int j] => .ok (.int (f i j)) st
  | _ => .fail
theorem abs_read {K : PySem.W.Frag} : CallF K (fun xs H Q => ∃ i, xs = [.int i] ∧ Q (.int (if i < 0 then -i else i)) H) fAbs := fun E m H st ds vs Q s r hp => by
  unfold fAbs at hp
  split at hp
  · cases r with
    | cons r1 r2 => cases r2; cases r1; exact ⟨_, rfl, Post.here (v := .int _) hp s .int⟩
  · exact hp.elim
theorem i2_read {K : PySem.W.Frag} {f : Int → Int → Int} : CallF K (fun xs H Q => ∃ i j, xs = [.int i, .int j] ∧ Q (.int (f i j)) H) (fI2 f) := fun E m H st ds vs Q s r hp => by
  unfold fI2 at hp
  split at hp
  · cases r with
    | cons r1 r2 =>
      cases r2 with
      | cons r3 r4 => cases r4; cases r1; cases r3; exact ⟨_, _, rfl, Post.here (v := .int _) hp s .int⟩
  · exact hp.elim
theorem e_abs (hm : X.mg "abs" = none) (ha : PE X a (rE X.K W ga)) (hg : Gl X "abs" := by rfl) (he : starEach [a] X.env = (false, eval a X.env) :: starEach [] X.env := by rfl) (hpl : (backTo pos (starEach [] X.env)).any (·.1) = false := by rfl) :
    PE X (.Call (.Name "abs" p) [a] [] pos) (rE X.K W (eFn fAbs (aCons ga aNil))) := e_callB call_abs abs_read hm boot_abs (a_cons ha a_nil he) hg (by decide) (by decide) he hpl
abbrev iMax : Int → Int → Int := fun i j => if j > i then j else i
abbrev iMin : Int → Int → Int := fun i j => if j < i then j else i
theorem e_max2 (hc : X.calm = true) (hm : X.mg "max" = none) (ha : PE X a (rE X.K W ga)) (hb : PE X b (rE X.K W gb)) (hg : Gl X "max" := by rfl) (he : starEach [a, b] X.env = (false, eval a X.env) :: starEach [b] X.env := by rfl)
    (he2 : starEach [b] X.env = (false, eval b X.env) :: starEach [] X.env := by rfl) (hpl : (backTo pos (starEach [b] X.env)).any (·.1) = false := by rfl) :
    PE X (.Call (.Name "max" p) [a, b] [] pos) (rE X.K W (eFn (fI2 iMax) (aCons ga (aCons gb aNil)))) := e_callB (call_max2 hc) i2_read hm PyProof.Rows.boot_max (a_cons ha (a_cons hb a_nil he2) he) hg (by decide) (by decide) he hpl
theorem e_min2 (hc : X.calm = true) (hm : X.mg "min" = none) (ha : PE X a (rE X.K W ga)) (hb : PE X b (rE X.K W gb)) (hg : Gl X "min" := by rfl) (he : starEach [a, b] X.env = (false, eval a X.env) :: starEach [b] X.env := by rfl)
    (he2 : starEach [b] X.env = (false, eval b X.env) :: starEach [] X.env := by rfl) (hpl : (backTo pos (starEach [b] X.env)).any (·.1) = false := by rfl) :
    PE X (.Call (.Name "min" p) [a, b] [] pos) (rE X.K W (eFn (fI2 iMin) (aCons ga (aCons gb aNil)))) := e_callB (call_min2 hc) i2_read hm PyProof.Rows.boot_min (a_cons ha (a_cons hb a_nil he2) he) hg (by decide) (by decide) he hpl
def dNeg (d : D) (st : Sto) : R D := match d with
  | .int i => .ok (.int (-i)) st
  | _ => .fail
theorem e_neg (ha : PE X a (rE X.K W ga)) : PE X (.UnaryOp .USub a pos) (rE X.K W (eUn dNeg ga)) := (pe_un un_neg ha).imp fun σ H Q ⟨env, m, st, hE, hS, hp⟩ => by
  refine ⟨env, m, st, hE, hS, hp.bind fun d st1 v H1 m1 e1 p1 s1 r1 hp1 => ?_⟩
  cases d with
  | int i => cases r1; exact ⟨i, rfl, Post.here (v := .int (-i)) hp1 s1 .int⟩
  | _ => exact hp1.elim
def dIx (x y : D) (st : Sto) : R D := match seqOf st x, y with
  | some xs, .int i => match atI xs i with
    | some d => .ok d st
    | none => .fail
  | _, _ => .fail
theorem atI_rv {K : PySem.W.Frag} {H : Hp} {m : Pl} {xs : List D} {vs : List V} {i : Int} {d : D} (r : RVs K H m xs vs) (h : atI xs i = some d) : ∃ v, atI vs i = some v ∧ RV K H m d v := by
  unfold atI at h ⊢
  rw [← r.length]
  cases q : ixN xs.length i with
  | none => rw [q] at h; cases h
  | some j =>
    rw [q] at h
    exact r.get h
theorem e_ix (ha : PE X a (rE X.K W ga)) (hb : PE X b (rE X.K W gb)) (hs : PlainIx b := by exact fun _ _ => rfl) : PE X (.Subscript a b pos) (rE X.K W (eBin dIx ga gb)) := (pe_ix ix_seq ha hb hs).imp fun σ H Q h => bin_of (fun E m H st dx dy x y Q s rx ry hp => by
  unfold dIx at hp
  split at hp
  · rename_i xs i q
    split at hp
    · rename_i d q2
      obtain ⟨p, vs, rfl, hq, rs⟩ := seqOf_sq s rx q
      cases ry
      obtain ⟨v, e, rv⟩ := atI_rv rs q2
      have fin := Post.here (v := v) hp s rv
      rcases hq with hq | hq
      · exact .inl ⟨p, vs, i, v, rfl, rfl, hq, e, fin⟩
      · exact .inr (.inl ⟨p, vs, i, v, rfl, rfl, hq, e, fin⟩)
    · exact hp.elim
  · exact hp.elim) h
def cutD (xs : List D) (lo hi : Option Int) : List D := (xs.drop (HT.sIx xs.length 0 lo)).take (HT.sIx xs.length xs.length hi - HT.sIx xs.length 0 lo)
theorem cutD_rv {K : PySem.W.Frag} {H : Hp} {m : Pl} {xs : List D} {vs : List V} (r : RVs K H m xs vs) (lo hi : Option Int) : RVs K H m (cutD xs lo hi) (cutV vs lo hi) := by
  unfold cutD cutV
  rw [← r.length]
  exact (r.drop _).take _
def oM := Ev → Sto → R (Option Int)
def oNone : oM := fun _ st => .ok none st
def oSome (g : EM) : oM := fun env st => (g env st).bind fun d st => match d with
  | .int i => .ok (some i) st
  | _ => .fail
abbrev okO : Hp → Pl → Option Int → Option Int → Prop := fun _ _ b c => b = c
def rO (K : PySem.W.Frag) (W : WX) (g : oM) : TO := fun σ H Q => ∃ env m st, RE K H m env σ ∧ SR K H m st ∧ Post K okO (WE W σ) m H Q (g env st)
theorem _root_.L2.PO.imp {X : Cx} {e : Option Expr} {t t' : TO} (h : PO X e t) (i : ∀ σ H Q, t' σ H Q → t σ H Q) : PO X e t' := ⟨fun pins s σ H Q I q => h.run pins s σ H Q I (i _ _ _ q)⟩
theorem p_none : PO X none (rO X.K W oNone) := po_none.imp fun σ H Q ⟨env, m, st, hE, hS, hp⟩ => Post.here (v := none) hp hS rfl
theorem p_some (ha : PE X a (rE X.K W ga)) : PO X (some a) (rO X.K W (oSome ga)) := (po_some ha).imp fun σ H Q ⟨env, m, st, hE, hS, hp⟩ => by
  refine ⟨env, m, st, hE, hS, hp.bind fun d st1 v H1 m1 e1 p1 s1 r1 hp1 => ?_⟩
  cases d with
  | int i => cases r1; exact ⟨i, rfl, Post.here (v := some i) hp1 s1 rfl⟩
  | _ => exact hp1.elim
def sliceD (d : D) (lo hi : Option Int) (st : Sto) : R D := match d with
  | .tup xs => .ok (.tup (cutD xs lo hi)) st
  | .ref n => match lstOf st n with
    | some xs => .ok (.ref st.length) (st ++ [.lst (cutD xs lo hi)])
    | none => .fail
  | _ => .fail
def eSlice (g : EM) (lo hi : oM) : EM := fun env st => (g env st).bind fun d st => (lo env st).bind fun l st => (hi env st).bind fun h st => sliceD d l h st
theorem whole_cut {xs : List D} {lo hi : Option Int} (h : HT.sIx xs.length 0 lo = 0 ∧ HT.sIx xs.length xs.length hi = xs.length) : cutD xs lo hi = xs := by
  unfold cutD
  rw [h.1, h.2]
  simp
theorem e_slice {lo hi : Option Expr} {gl gh : oM} (ha : PE X a (rE X.K W ga)) (hl : PO X lo (rO X.K W gl)) (hh : PO X hi (rO X.K W gh)) : PE X (.Subscript a (.Slice lo hi none p2) pos) (rE X.K W (eSlice ga gl gh)) :=
  (pe_slice (sl_tupA.or sl_list) ha hl hh).imp fun σ H Q ⟨env, m, st, hE, hS, hp⟩ => by
  refine ⟨env, m, st, hE, hS, hp.bind fun d st1 v H1 m1 e1 p1 s1 r1 hp1 => ⟨env, m1, st1, hE.mono e1 p1, s1, hp1.bind fun l st2 l' H2 m2 e2 p2 s2 r2 hp2 => ⟨env, m2, st2, (hE.mono e1 p1).mono e2 p2, s2, hp2.bind fun h st3 h' H3 m3 e3 p3 s3 r3 hp3 => ?_⟩⟩⟩
  cases (show l = l' from r2)
  cases (show h = h' from r3)
  have r := (r1.mono e2 p2).mono e3 p3
  cases d with
  | tup xs =>
    cases r with
    | @tup _ a vs hq rs =>
      refine .inl ⟨a, vs, rfl, hq, fun hw => ?_, fun _ p hp => new_tup hp3 s3 (cutD_rv rs l h) hp⟩
      rw [← rs.length] at hw
      have hp4 : Post X.K (okV X.K) (WE W σ) m3 H3 Q (.ok (.tup (cutD xs l h)) st3) := hp3
      rw [whole_cut hw] at hp4
      exact Post.here (v := .ref a) hp4 s3 (.tup hq rs)
  | ref n =>
    cases r with
    | @ref _ a hn =>
      have hp4 : Post X.K (okV X.K) (WE W σ) m3 H3 Q (match lstOf st3 n with | some xs => .ok (.ref st3.length) (st3 ++ [.lst (cutD xs l h)]) | none => .fail) := hp3
      cases q : lstOf st3 n with
      | none => rw [q] at hp4; exact hp4.elim
      | some xs =>
        rw [q] at hp4
        obtain ⟨vs, hq, rs⟩ := s3.sqL hn q
        exact .inr ⟨a, vs, rfl, hq, fun p hp => new_lst hp4 s3 (cutD_rv rs l h) hp⟩
  | _ => exact hp3.elim
end
end U
set_option Elab.async false
set_option linter.all false
set_option maxRecDepth 100000
set_option maxHeartbeats 4000000
namespace U
open PySem PySem.Spec PyProof.Rows L2

def isLst (x : D) (st : Sto) : Bool := match x with
  | .ref n => (lstOf st n).isSome
  | _ => false
def eMtL (f : D → List D → Sto → R D) (ga : EM) (gs : AM) : EM := fun env st => (ga env st).bind fun x st => if isLst x st = true then (gs env st).bind fun xs st => f x xs st else .fail
def MtF (K : PySem.W.Frag) (r : V → List V → Hp → VK → Prop) (f : D → List D → Sto → R D) : Prop :=
  ∀ (E : XK) (m : Pl) (H : Hp) (st : Sto) (dx : D) (ds : List D) (x : V) (vs : List V) (Q : VK), SR K H m st → RV K H m dx x → RVs K H m ds vs → Post K (okV K) E m H Q (f dx ds st) → r x vs H Q
theorem isLst_ty {K : PySem.W.Frag} {H : Hp} {m : Pl} {st : Sto} {d : D} {v : V} (s : SR K H m st) (r : RV K H m d v) (h : isLst d st = true) : tyV K "list" v H := by
  cases d with
  | ref n =>
    cases r with
    | ref hn =>
      cases q : lstOf st n with
      | none => simp [isLst, q] at h
      | some xs =>
        obtain ⟨vs, hq, _⟩ := s.sqL hn q
        exact .inl ⟨rfl, vs, hq⟩
  | _ => cases h
section
variable {X : Cx} {W : WX} {a b c : Expr} {ga gb gc : EM} {es : List Expr} {gs : AM} {pos p p2 apos : Pos}
theorem e_mtL {name : Str} {id : String} {r : V → List V → Hp → VK → Prop} {f : D → List D → Sto → R D} (slot : Slot "list" name id) (hty : typeOf (.builtin id) = pure (.type "method_descriptor")) (hm : MtR X id r) (hf : MtF X.K r f) (ha : PE X a (rE X.K W ga)) (hb : PA X (b :: es) (rA X.K W gs))
    (hbase : attributeBase a name X.env (eval a X.env) = eval a X.env := by rfl)
    (hfew : ((backTo pos (starEach (b :: es) X.env)).all (fun x => !x.1) && (backToKw pos (keywordEach [] X.env)).all (fun x => x.1.isSome) && decide ((b :: es).length + ([] : List Keyword).length + (if ([] : List Keyword).isEmpty then 0 else 1) < 30)) = true := by rfl)
    (hline : (apos.endLine == pos.line) = true := by rfl) (hs : starEach (b :: es) X.env = (false, eval b X.env) :: starEach es X.env := by rfl) (hplain : (backTo pos (starEach es X.env)).any (·.1) = false := by rfl) :
    PE X (.Call (.Attribute a name apos) (b :: es) [] pos) (rE X.K W (eMtL f ga gs)) :=
  (pe_bm PySem.F.plainAttrs_list slot hty hm ha hb hbase hfew hline hs hplain).imp fun σ H Q ⟨env, m, st, hE, hS, hp⟩ => by
  refine ⟨env, m, st, hE, hS, hp.bind fun d st1 v H1 m1 e1 p1 s1 r1 hp1 => ?_⟩
  split at hp1
  · rename_i hl
    exact ⟨isLst_ty s1 r1 hl, env, m1, st1, hE.mono e1 p1, s1, hp1.bind fun ds st2 vs H2 m2 e2 p2 s2 r2 hp2 => hf _ m2 H2 st2 d ds v vs Q s2 (r1.mono e2 p2) r2 hp2⟩
  · exact hp1.elim
def mAppend (x : D) (xs : List D) (st : Sto) : R D := match x, xs with
  | .ref n, [d] => match st[n]? with
    | some (.lst ys) => if ys.length < most then .ok .non (st.set n (.lst (ys ++ [d]))) else .fail
    | _ => .fail
  | _, _ => .fail
theorem write_lst {K : PySem.W.Frag} {E : XK} {m : Pl} {H : Hp} {st : Sto} {n : Nat} {p : Addr} {ys : List D} {vs ws : List V} {Q : VK} (s : SR K H m st) (hn : m[n]? = some p) {zs : List D} (h0 : st[n]? = some (.lst zs)) (e : H p = some (.lst vs)) (r : RVs K H m ys ws)
    (hp : Post K (okV K) E m H Q (.ok .non (st.set n (.lst ys)))) : Q .non (upd H p (.lst ws)) := by
  have ew : Ext H (upd H p (.lst ws)) := .write e (fun _ z => by cases z) (fun _ _ z => by cases z)
  exact hp .non _ m ew (List.prefix_refl m) (s.write (ob := .lst ys) hn h0 rfl e (fun _ z => by cases z) (fun _ _ z => by cases z) ⟨ws, upd_same, r.mono ew (List.prefix_refl m)⟩) .non
theorem append_read {K : PySem.W.Frag} : MtF K rAppend mAppend := fun E m H st dx ds x vs Q s rx rs hp => by
  unfold mAppend at hp
  split at hp
  · rename_i n d
    cases rx with
    | @ref _ a hn =>
      cases rs with
      | cons r1 r2 =>
        cases r2
        split at hp
        · rename_i ys q
          obtain ⟨ws, e, rw'⟩ := s.ob _ _ _ hn q
          split at hp
          · rename_i hl
            exact ⟨a, ws, _, rfl, rfl, e, by rw [← rw'.length]; exact most_lt hl, write_lst s hn q e (rw'.append (.one r1)) hp⟩
          · exact hp.elim
        · exact hp.elim
  · exact hp.elim
theorem e_append (ha : PE X a (rE X.K W ga)) (hb : PE X b (rE X.K W gb)) (hbase : attributeBase a "append" X.env (eval a X.env) = eval a X.env := by rfl)
    (hfew : ((backTo pos (starEach [b] X.env)).all (fun x => !x.1) && (backToKw pos (keywordEach [] X.env)).all (fun x => x.1.isSome) && decide ([b].length + ([] : List Keyword).length + (if ([] : List Keyword).isEmpty then 0 else 1) < 30)) = true := by rfl)
    (hline : (apos.endLine == pos.line) = true := by rfl) (hs : starEach [b] X.env = (false, eval b X.env) :: starEach [] X.env := by rfl) (hplain : (backTo pos (starEach [] X.env)).any (·.1) = false := by rfl) :
    PE X (.Call (.Attribute a "append" apos) [b] [] pos) (rE X.K W (eMtL mAppend ga (aCons gb aNil))) :=
  e_mtL PySem.F.slot_list_append PySem.F.type_list_append mt_append append_read ha (a_cons hb a_nil hs) hbase hfew hline hs hplain
def gSet (ga gb : EM) : D → Ev → Sto → Option (Ev × Sto) := fun d env st => match (ga env st).bind fun x st => (gb env st).bind fun y st => (match x, y with
    | .ref n, .int i => (match st[n]? with
      | some (.lst xs) => (match ixN xs.length i with
        | some j => .ok .non (st.set n (.lst (xs.set j d)))
        | none => .fail)
      | _ => .fail)
    | _, _ => .fail : R D) with
  | .ok _ st => some (env, st)
  | _ => none
theorem g_sub (ha : PE X a (rE X.K W ga)) (hb : PE X b (rE X.K W gb))
    (hasg : ∀ v, assign (.Subscript a b pos) X.env v = (do
      let ov ← holding [v] (eval a X.env)
      let iv ← holding [v, ov] (eval b X.env)
      standAt pos
      holding [v, ov, iv] (setItem ov iv v)
      release [v, ov, iv] []) := by intro _; rfl) : PG X (.Subscript a b pos) (rG X.K (gSet ga gb)) := (pg_sub ha hb set_list hasg).imp fun v σ H Q ⟨d, env, m, st, r, hE, hS, hp⟩ => by
  unfold gSet at hp
  refine ⟨env, m, st, hE, hS, ?_⟩
  cases q : ga env st with
  | fail => rw [q] at hp; exact hp.elim
  | err cc fs st1 => rw [q] at hp; exact hp.elim
  | ok x st1 =>
    rw [q] at hp
    intro vx H1 m1 e1 p1 s1 r1
    refine ⟨env, m1, st1, hE.mono e1 p1, s1, ?_⟩
    simp only [R.bind] at hp
    cases q2 : gb env st1 with
    | fail => rw [q2] at hp; exact hp.elim
    | err cc fs st2 => rw [q2] at hp; exact hp.elim
    | ok y st2 =>
      rw [q2] at hp
      intro vy H2 m2 e2 p2 s2 r2
      have rx := r1.mono e2 p2
      have rd := (r.mono e1 p1).mono e2 p2
      simp only at hp
      cases x with
      | ref n =>
        cases rx with
        | @ref _ ad hn =>
          cases y with
          | int i =>
            cases r2
            simp only at hp
            cases q3 : st2[n]? with
            | none => rw [q3] at hp; exact hp.elim
            | some o =>
              rw [q3] at hp
              cases o with
              | lst xs =>
                simp only at hp
                obtain ⟨ws, e, rw'⟩ := s2.ob _ _ _ hn q3
                cases q4 : ixN xs.length i with
                | none => rw [q4] at hp; exact hp.elim
                | some j =>
                  rw [q4] at hp
                  refine ⟨ad, ws, i, j, rfl, rfl, e, by rw [← rw'.length]; exact q4, ?_⟩
                  have ew : Ext H2 (upd H2 ad (.lst (ws.set j v))) := .write e (fun _ z => by cases z) (fun _ _ z => by cases z)
                  exact hp σ _ m2 ((e1.trans e2).trans ew) (p1.trans p2) (s2.write (ob := .lst (xs.set j d)) hn q3 rfl e (fun _ z => by cases z) (fun _ _ z => by cases z) ⟨_, upd_same, (rw'.set rd j).mono ew (List.prefix_refl _)⟩) (((hE.mono e1 p1).mono e2 p2).mono ew (List.prefix_refl _))
              | _ => exact hp.elim
          | _ => exact hp.elim
      | _ => exact hp.elim

def lookF (f : Str) : List (Str × D) → Option D
  | [] => none
  | (g, x) :: r => if g = f then some x else lookF f r
def putD (f : Str) (v : D) : List (Str × D) → List (Str × D)
  | [] => [(f, v)]
  | (g, x) :: r => if g = f then (g, v) :: r else (g, x) :: putD f v r
theorem look_rv {K : PySem.W.Frag} {H : Hp} {m : Pl} {f : Str} {d : D} : ∀ {fs : List (Str × D)} {vfs : List (Str × V)}, vfs.map (·.1) = fs.map (·.1) → RVs K H m (fs.map (·.2)) (vfs.map (·.2)) → lookF f fs = some d → ∃ v, vfs.lookup f = some v ∧ RV K H m d v
  | [], _, _, _, h => by cases h
  | (g, x) :: r, [], e, _, _ => by cases e
  | (g, x) :: r, (g', y) :: r', e, rs, h => by
    simp only [List.map_cons, List.cons.injEq] at e
    obtain ⟨e1, e2⟩ := e
    subst e1
    cases rs with
    | cons r1 r2 =>
      unfold lookF at h
      by_cases hg : g' = f
      · rw [if_pos hg] at h
        cases h
        subst hg
        exact ⟨y, by simp [List.lookup], r1⟩
      · rw [if_neg hg] at h
        obtain ⟨v, h1, h2⟩ := look_rv e2 r2 h
        refine ⟨v, ?_, h2⟩
        rw [List.lookup_cons, show (f == g') = false from beq_eq_false_iff_ne.mpr (Ne.symm hg)]
        exact h1
theorem put_rv {K : PySem.W.Frag} {H : Hp} {m : Pl} {f : Str} {d : D} {v : V} (rv : RV K H m d v) : ∀ {fs : List (Str × D)} {vfs : List (Str × V)}, vfs.map (·.1) = fs.map (·.1) → RVs K H m (fs.map (·.2)) (vfs.map (·.2)) →
    (putF f v vfs).map (·.1) = (putD f d fs).map (·.1) ∧ RVs K H m ((putD f d fs).map (·.2)) ((putF f v vfs).map (·.2))
  | [], [], _, _ => ⟨rfl, .one rv⟩
  | [], _ :: _, e, _ => by cases e
  | (g, x) :: r, [], e, _ => by cases e
  | (g, x) :: r, (g', y) :: r', e, rs => by
    simp only [List.map_cons, List.cons.injEq] at e
    obtain ⟨e1, e2⟩ := e
    subst e1
    cases rs with
    | cons r1 r2 =>
      unfold putF putD
      by_cases hg : g' = f
      · rw [if_pos hg, if_pos hg]
        exact ⟨by simp [e2], .cons rv r2⟩
      · rw [if_neg hg, if_neg hg]
        obtain ⟨h1, h2⟩ := put_rv (f := f) rv e2 r2
        exact ⟨by simp [h1], .cons r1 h2⟩
def dFld (c f : Str) (d : D) (st : Sto) : R D := match d with
  | .ref n => match st[n]? with
    | some (.ins c' fs) => if c' = c then (match lookF f fs with
      | some x => .ok x st
      | none => .fail) else .fail
    | _ => .fail
  | _ => .fail
theorem e_fld (c f : Str) (hc : Cls X.K (He.ga X.K c)) (hn : NoAttr X.K (He.ga X.K c) f) (ha : PE X a (rE X.K W ga)) (hb : attributeBase a f X.env (eval a X.env) = eval a X.env := by rfl) : PE X (.Attribute a f pos) (rE X.K W (eUn (dFld c f) ga)) :=
  (pe_fld ha hb).imp fun σ H Q ⟨env, m, st, hE, hS, hp⟩ => by
  refine ⟨env, m, st, hE, hS, hp.bind fun d st1 v H1 m1 e1 p1 s1 r1 hp1 => ?_⟩
  unfold dFld at hp1
  split at hp1
  · rename_i n
    cases r1 with
    | @ref _ ad hn' =>
      split at hp1
      · rename_i c' fs q
        by_cases hcc : c' = c
        · rw [if_pos hcc] at hp1
          subst hcc
          split at hp1
          · rename_i x q2
            obtain ⟨dx, vfs, h1, h2, h3, _⟩ := s1.ob _ _ _ hn' q
            obtain ⟨w, l, rw'⟩ := look_rv h2 h3 q2
            exact ⟨ad, _, dx, vfs, w, rfl, h1, hc, hn, l, Post.here (v := w) hp1 s1 rw'⟩
          · exact hp1.elim
        · rw [if_neg hcc] at hp1; exact hp1.elim
      · exact hp1.elim
  · exact hp1.elim
def setFld (c f : Str) (x d : D) (env : Ev) (st : Sto) : RS := match x with
  | .ref n => match st[n]? with
    | some (.ins c' fs) => if c' = c ∧ fs.length < 400 then .nx env (st.set n (.ins c (putD f d fs))) else .fail
    | _ => .fail
  | _ => .fail
def sFldM (c f : Str) (ga gv : EM) : SM := fun env st => (gv env st).then env fun d st => (ga env st).then env fun x st => setFld c f x d env st
theorem putD_len (f : Str) (d : D) : ∀ fs : List (Str × D), (putD f d fs).length ≤ fs.length + 1
  | [] => Nat.le_refl _
  | (g, x) :: r => by
    unfold putD
    split
    · simp
    · simp only [List.length_cons]
      have := putD_len f d r
      omega
theorem s_fld (c f : Str) {p' : Pos} (hc : Cls X.K (He.ga X.K c)) (hn : NoAttr X.K (He.ga X.K c) f) (ha : PE X a (rE X.K W ga)) (hb : PE X b (rE X.K W gb)) (hs : swapsWith b (some (.Attribute a f p')) pos.line X.env = pure false := by rfl) :
    PS X (.Assign [.Attribute a f p'] b pos) (rS X.K W (sFldM c f ga gb)) := (ps_fld ha hb hs).imp fun D σ H ⟨env, m, st, hE, hS, hp⟩ => by
  refine ⟨env, m, st, hE, hS, PostS.bind hE hp fun d st1 v H1 m1 e1 p1 s1 r1 hp1 => ⟨env, m1, st1, hE.mono e1 p1, s1, PostS.bind (hE.mono e1 p1) hp1 fun x st2 vx H2 m2 e2 p2 s2 r2 hp2 => ?_⟩⟩
  unfold setFld at hp2
  split at hp2
  · rename_i n
    cases r2 with
    | @ref _ ad hn' =>
      split at hp2
      · rename_i c' fs q
        by_cases hcc : c' = c ∧ fs.length < 400
        · rw [if_pos hcc] at hp2
          obtain ⟨hc1, hl⟩ := hcc
          subst hc1
          obtain ⟨dx, vfs, h1, h2, h3, h4⟩ := s2.ob _ _ _ hn' q
          have hv : vfs.length = fs.length := by
            have := congrArg List.length h2
            simpa using this
          refine ⟨ad, _, dx, vfs, rfl, h1, hc, hn, by omega, ?_⟩
          have ew : Ext H2 (upd H2 ad (.ins (He.ga X.K c') dx (putF f v vfs))) := .write h1 (fun _ z => by cases z) (fun _ _ z => by cases z)
          obtain ⟨g1, g2⟩ := put_rv (f := f) (r1.mono e2 p2) h2 h3
          refine hp2 σ _ m2 ew (List.prefix_refl _) (s2.write (ob := .ins c' (putD f d fs)) hn' q rfl h1 (fun _ z => by cases z) (fun _ _ z => by cases z) ⟨dx, _, upd_same, g1, g2.mono ew (List.prefix_refl _), ?_, h4.2⟩) (((hE.mono e1 p1).mono e2 p2).mono ew (List.prefix_refl _))
          have := putD_len f d fs
          omega
        · rw [if_neg hcc] at hp2; exact hp2.elim
      · exact hp2.elim
  · exact hp2.elim
structure Mkr (P : Program) (w : World) (K : PySem.W.Frag) (mg : Str → Option Value) (base : Heap) (k : Nat) (c : Str) (n : Nat) (f : Fm) : Prop where
  ex : ∃ (fa : Addr) (fd : FuncData) (ps : List Str), FnOk P w K mg base (L2.CX P w) k fa fd ps (spF K (n + 1) f) ∧ mg c = some (.ref (He.ga K c)) ∧ Mk K (He.ga K c) fa ∧ Binds K fd ps []
  isi : IsiC K (He.ga K c)
  ar : Arity (n + 1) f
def mkIns (c : Str) (f : Fm) : Fm := fun ds st => (f (.ref st.length :: ds) (st ++ [.ins c []])).bind fun d st' => match d with
  | .non => .ok (.ref st.length) st'
  | _ => .fail
theorem e_make {E : XK} {k n : Nat} {cn : Str} {f : Fm} (F : Mkr X.prog X.w X.K X.mg X.base k cn n f) (tk : Takes X (WK E)) (hr : Room (k + 1) X.A) (ha : PA X (a :: es) (rA X.K (WK E) gs)) (hg : Gl X cn := by rfl)
    (hdb : (cn == ("__debug__" : Str)) = false := by decide) (he : starEach (a :: es) X.env = (false, eval a X.env) :: starEach es X.env := by rfl) (hpl : (backTo pos (starEach es X.env)).any (·.1) = false := by rfl) :
    PE X (.Call (.Name cn p) (a :: es) [] pos) (rE X.K (WK E) (eFn (mkIns cn f) gs)) := by
  obtain ⟨fa, fd, ps, ok, hm, hM, hb⟩ := F.ex
  refine (pe_make hM ok hr hg hm hb .nil (passes_call tk fun _ _ _ _ h => h) ha hdb he hpl).imp fun σ H Q ⟨env, m, st, hE, hS, hp⟩ => ?_
  refine ⟨env, m, st, hE, hS, hp.bind fun ds st1 vs H1 m1 e1 p1 s1 r1 hp1 => ?_⟩
  intro x dx nx ndx ne
  have n1 : (upd H1 dx (.own x)) x = none := by rw [upd_ne (Ne.symm ne)]; exact nx
  have sA : SR X.K (upd H1 dx (.own x)) m1 st1 := s1.tup ndx
  have sB : SR X.K (upd (upd H1 dx (.own x)) x (.ins (He.ga X.K cn) dx [])) (m1 ++ [x]) (st1 ++ [.ins cn []]) := sA.new (ob := .ins cn []) n1 ⟨dx, [], upd_same, rfl, .nil, by decide, F.isi⟩
  have eB : Ext H1 (upd (upd H1 dx (.own x)) x (.ins (He.ga X.K cn) dx [])) := (Ext.new ndx).trans (.new n1)
  have pB : m1 <+: m1 ++ [x] := List.prefix_append _ _
  have hx : (m1 ++ [x])[st1.length]? = some x := by rw [← s1.len]; simp
  rw [List.append_nil]
  refine spF_of F.ar sB (.cons (.ref hx) (r1.mono eB pB)) ?_
  have hp2 : Post X.K (okV X.K) E m1 H1 Q ((f (.ref st1.length :: ds) (st1 ++ [.ins cn []])).bind fun d st' => match d with
    | .non => .ok (.ref st1.length) st'
    | _ => .fail) := hp1
  exact (Post.up hp2 eB pB).bind fun d st2 v H2 m2 e2 p2 s2 r2 hp3 => by
    cases d with
    | non => cases r2; exact ⟨rfl, Post.here (v := .ref x) hp3 s2 (.ref (pre_get p2 hx))⟩
    | _ => exact hp3.elim
end
end U
set_option Elab.async false
set_option linter.all false
set_option maxRecDepth 100000
set_option maxHeartbeats 4000000
namespace U
section
open PySem
open Sem (wp)
open AutoSeq1 (wpAny_loadPart')
abbrev tupIt (l : Addr) : Obj := { cls := .type "tuple_iterator", data := .fields #[.ref l, .int 0 0] }
abbrev enumO (i : Addr) : Obj := { cls := .type "enumerate", data := .fields #[.none, .bool false, .ref i, rawInt 0, .none, .none] }
theorem newT (l : Addr) (items : Array Value) (n : Nat) (dct : Option Addr) (sl : Array (Option Value)) :
    Meets (Builtin.«enumerate.__new__» ⟨[.type "enumerate", .ref l], []⟩) (fun _ Rr s => s.heap.get? l = some { cls := .type "tuple", dict := dct, data := .seq items n, slots := sl } ∧
      Rr (.ok (.ret (.ref (s.heap.push (tupIt l)).objs.size))) { s with heap := (s.heap.push (tupIt l)).push (enumO s.heap.objs.size) }) :=
  .of_wp fun prog w A Rr s h => by
    obtain ⟨hp, g, d, tk, os⟩ := s
    obtain ⟨hl, h⟩ := h
    have hsub := sub_enumerate
    have hT : Heap.IsTuple (Shared.heap ⟨hp, g, d, tk, os⟩) l items := ⟨_, hl, rfl, n, rfl⟩
    wp_walk using wpAny_loadPart' hl
    refine wpAny_stack_any fun st => wpAny_pure ?_
    split
    · rename_i c _ _ _ _ _
      cases (c == Value.type "enumerate")
      · wp_walk using wpAny_loadPart' hl, wpAny_pyIter_tuple hT
        exact ⟨_, rfl, h⟩
      · wp_walk using wpAny_loadPart' hl, wpAny_pyIter_tuple hT
        exact ⟨_, rfl, h⟩
    · wp_walk using wpAny_loadPart' hl, wpAny_pyIter_tuple hT
      exact ⟨_, rfl, h⟩
theorem call_enumT {prog : Program} {w : World} {A : Around} {E : Value → Shared → Prop} {s : Shared} {l : Addr} {items : Array Value} {Q : Value → Shared → Prop} (hT : s.heap.IsTuple l items)
    (h : ∀ h' : Heap, PySem.IsEnum h' (s.heap.objs.size + 1) s.heap.objs.size 0 .none → h'.IsTupleIter s.heap.objs.size l 0 → h'.objs.size = s.heap.objs.size + 2 → (∀ b o, s.heap.get? b = some o → h'.get? b = some o) → Q (.ref (s.heap.objs.size + 1)) { s with heap := h' }) :
    wpAny (model prog w) A (call (.type "enumerate") [.ref l]) Q E s := by
  obtain ⟨⟨c, dct, dt, sl⟩, hl, hc, n, hd⟩ := hT
  obtain rfl : c = .type "tuple" := hc
  obtain rfl : dt = .seq items n := hd
  refine callType_new F.called_enumerate (by decide) (F.typeCall_enumerate_1 _) (F.newCall_enumerate_1 _) (fun obj => F.args_object_init_2 obj _) F.entry_enumerate_new (newT l items n dct sl) ⟨hl, ?_⟩
  have hz : (s.heap.push (tupIt l)).objs.size = s.heap.objs.size + 1 := Heap.size_push ..
  have he : PySem.IsEnum ((s.heap.push (tupIt l)).push (enumO s.heap.objs.size)) (s.heap.objs.size + 1) s.heap.objs.size 0 .none := by
    have q := Heap.get?_push_size (s.heap.push (tupIt l)) (o := enumO s.heap.objs.size) rfl
    rw [hz] at q
    exact q
  show _ ∧ _
  rw [hz]
  exact ⟨⟨_, he, rfl⟩, h _ he ⟨_, Heap.get?_push_of_some _ (Heap.get?_push_size _ rfl), rfl, rfl⟩ (by rw [Heap.size_push, hz]) fun b o x => Heap.get?_push_of_some _ (Heap.get?_push_of_some _ x)⟩
theorem end_enumT {prog : Program} {w : World} {A : Around} {E : Value → Shared → Prop} {s : Shared} {e it t : Addr} {k : Nat} {items : Array Value} {old : Value} {Q : Option Value → Shared → Prop} (hh : A.in1.handled = none) (he : PySem.IsEnum s.heap e it k old)
    (hit : s.heap.IsTupleIter it t k) (ht : s.heap.IsTuple t items) (hx : items[k]? = none) (hQ : ∀ h', Heap.ExtBut it s.heap h' → Q none { s with heap := h' }) : wpAny (model prog w) A (pyNext (.ref e)) Q E s := by
  have tyE : s.TypeIs (.ref e) "enumerate" := ⟨_, he, rfl⟩
  unfold pyNext; refine wpAny_bind (wpAny_attempt (wpAny_callSpecial?_slot (name := Str.ofString "__next__") tyE F.slot_enumerate_next (wpAny_call_entry F.slot_enumerate_next tyE F.entry_enumerate_next ?_ (F.args_enumerate_next_1 _))))
  show wpAny _ _ (field (.ref e) 2 >>= _) _ _ s; refine wpAny_bind (wpAny_field he rfl (x := .ref it) rfl (wpAny_bind (wpAny_nextOf_tuple_end hh hit ht hx fun h2 x2 ext2 st2 => ?_)))
  obtain ⟨o2, g2, c2⟩ := st2
  exact wpAny_bind (wpAny_isInstance (T := "StopIteration") (b := true) ⟨o2, g2, c2⟩ isSubtype_stop (wpAny_pure (hQ _ ext2)))
end
open PySem PySem.Spec PyProof.Rows L2
def IteT (K : PySem.W.Frag) (a : Addr) : It where
  go := fun i H => ∃ (xs : List V) (x : V), SqT K H a xs ∧ xs[i]? = some x
  yld := fun i H v H' => ∃ T x, v = .ref T ∧ H T = none ∧ H' = upd H T (.tup [.int (i : Nat), x]) ∧ ∀ xs, SqT K H a xs → xs[i]? = some x
  stop := fun i H => ∃ xs : List V, SqT K H a xs ∧ xs.length ≤ i
theorem turn_enumT {P : Program} {w : World} {K : PySem.W.Frag} {elts : List Expr} {kk : Nat} {tpos : Pos} (a e it : Addr) :
    Turn P w K (.Tuple elts kk tpos) (IteT K a) [e, it] e (fun i h => (∃ old, PySem.IsEnum h e it ((i : Nat) : Int) old) ∧ h.IsTupleIter it a i ∧ e ≠ it ∧ a ≠ it ∧ e ≠ a) where
  mem := by simp
  obj := fun i h st b hb => by
    obtain ⟨⟨old, he⟩, ⟨o, ho, hc, hd⟩, _⟩ := st
    rcases (show b = e ∨ b = it by simpa using hb) with z | z
    · rw [z]; exact ⟨_, he, fun v q => nomatch q⟩
    · rw [z]; exact ⟨o, ho, fun v q => by rw [hd] at q; cases q⟩
  keep := fun i h h' st k => by
    obtain ⟨⟨old, he⟩, hi, hr⟩ := st
    exact ⟨⟨old, k e (by simp) _ he⟩, hi.at fun o q => k it (by simp) o q, hr⟩
  item := by
    intro X hP hw hK hc i pins s σ H E I hf st hg
    subst hP hw hK
    obtain ⟨⟨old, he⟩, hit, hne, hai, hea⟩ := st
    obtain ⟨xs, x, hq, hx⟩ := hg
    obtain ⟨its, rv, pT, hz⟩ := I.tuple hq
    obtain ⟨u, hu, ru⟩ := rv.get hx
    have hel : e < s.heap.objs.size := Heap.lt_size he
    have hil : it < s.heap.objs.size := by obtain ⟨_, q, _⟩ := hit; exact Heap.lt_size q
    have hpT : s.heap.IsTuple a its.toArray := pT
    have hlt : i < its.toArray.size := by
      obtain ⟨q, _⟩ := List.getElem?_eq_some_iff.mp hu
      simpa using q
    refine wpAny_pyNext_enum_itemD (Draws.tuple (A := X.A.in1) (show X.A.in1.handled = none from I.ok.hd hc) it a hai its.toArray) he ⟨hit, hpT⟩ hlt hne (by simp [hne, hea]) fun x' h' tk hP ho hst' hT hsz hk => ?_
    have ex' : x' = u := by
      have q1 : its.toArray[i]? = some x' := hP
      have q2 : its.toArray[i]? = some u := by simpa using hu
      rw [q2] at q1
      exact (Option.some.inj q1).symm
    subst ex'
    refine ⟨_, rfl, wpAny_letOwnedTupleGo_enum (s := { s with heap := h', toks := tk + 1 }) ho fun h2 he2 sb => ?_⟩
    have hT2 : h2.get? s.heap.objs.size = some { cls := .type "tuple", data := .seq #[.int i tk, x'] } := (sb.2 _ (Nat.ne_of_gt hel)).trans hT
    have new : ObjOk X.prog X.w (upd H s.heap.objs.size (.tup [.int (i : Nat), x])) h2 s.heap.objs.size (.tup [.int (i : Nat), x]) :=
      ⟨by show 2 ≤ sizeLine; decide, [.int i tk, x'], .cons ⟨_, rfl⟩ (.cons ru .nil), ⟨_, hT2, rfl, _, rfl⟩⟩
    have I1 : Inv X pins σ (upd H s.heap.objs.size (.tup [.int (i : Nat), x])) { s with heap := h2, toks := tk + 1 } :=
      I.turnedNew (ch := [e, it]) (fun b ob hb q => (sb.2 b (fun z => hb (by simp [z]))).trans (hk b ob (fun z => hb (by simp [z])) (fun z => hb (by simp [z])) q)) hf (Nat.le_refl _) new
    refine ⟨.ref s.heap.objs.size, _, I1, rfl, ⟨_, x, rfl, I.hok.fresh (Nat.le_refl _), rfl, fun ys hy => by rw [I.tuple_inj hy hq]; exact hx⟩, ⟨⟨x', ?_⟩, hst'.1.at fun o q => (sb.2 it (Ne.symm hne)).trans q, hne, hai, hea⟩, fun b hb => ?_⟩
    · rw [show ((i + 1 : Nat) : Int) = (i : Int) + 1 by omega]; exact he2
    · have hb' : b < s.heap.objs.size := by
        rcases (show b = e ∨ b = it by simpa using hb) with z | z
        · rw [z]; exact hel
        · rw [z]; exact hil
      rw [upd_ne (Nat.ne_of_lt hb')]
      exact (hf b hb).1
  done := by
    intro X hP hw hK hc i pins s σ H E I hf st hg
    subst hP hw hK
    obtain ⟨⟨old, he⟩, hit, hne, hai, hea⟩ := st
    obtain ⟨xs, hq, hx⟩ := hg
    obtain ⟨its, rv, pT, hz⟩ := I.tuple hq
    obtain ⟨f0, f1, f2, f3, f4, f5⟩ := hf it (by simp)
    have hl := rv.length
    exact end_enumT (show X.A.in1.handled = none from I.ok.hd hc) he hit (show s.heap.IsTuple a its.toArray from pT) (by simp; omega) fun h' eb => ⟨rfl, I.turned (t' := s.toks) (fun b o hb q => eb b o hb q) f0 f1 f3 f4 f5⟩
  self := fun A i s Q E st h => by
    obtain ⟨⟨_, he⟩, _⟩ := st
    exact wpAny_pyIter_enum he h
def iEnT (K : PySem.W.Frag) (ta : TA) : TI := fun σ H Rr => ta σ H fun vs H1 => ∃ a xs, vs = [.ref a] ∧ SqT K H1 a xs ∧ Rr (IteT K a) H1
theorem pi_enumT {X : Cx} {e : Expr} {ta : TA} {p pos tpos : Pos} {elts : List Expr} {kk : Nat} (hg : Gl X "enumerate") (hm : X.mg "enumerate" = none) (ha : PA X [e] ta) (hs : starEach [e] X.env = [(false, eval e X.env)]) :
    PI X (.Tuple elts kk tpos) (.Call (.Name "enumerate" p) [e] [] pos) (iEnT X.K ta) := by
  refine ⟨fun pins s σ H Rr I h => ?_⟩
  refine Call_ (ld_blt I hg hm boot_enumerate (PyProof.Rows.callWith_type1 (thn (ha.run pos pins s σ H _ I h) fun us s1 ⟨vs, H1, I1, r1, q1⟩ => ?_) hs rfl))
  obtain ⟨a, xs, ex, hq, q⟩ := q1
  subst ex
  obtain ⟨u0, rfl, r0⟩ := vals1 r1
  cases (show u0 = Value.ref a from r0)
  obtain ⟨its, rv, pT, hz⟩ := I1.tuple hq
  have aLt : a < s1.heap.objs.size := by
    obtain ⟨o, ho, _⟩ := pT
    exact Heap.lt_size ho
  refine call_enumT (show s1.heap.IsTuple a its.toArray from pT) fun h' he hit hsz hk => wpAny_pyIter_enum he ?_
  refine ⟨s1.heap.objs.size + 1, [s1.heap.objs.size + 1, s1.heap.objs.size], _, _, H1, rfl, I1.kept (h' := h') (t' := s1.toks) hk, turn_enumT a (s1.heap.objs.size + 1) s1.heap.objs.size, ⟨⟨.none, he⟩, hit, Nat.succ_ne_self _, Nat.ne_of_lt aLt, Nat.ne_of_gt (Nat.lt_succ_of_lt aLt)⟩, fun b hb => ?_, q⟩
  have hle : s1.heap.objs.size ≤ b := by
    rcases (show b = s1.heap.objs.size + 1 ∨ b = s1.heap.objs.size by simpa using hb) with z | z
    · rw [z]; exact Nat.le_succ _
    · rw [z]; exact Nat.le_refl _
  exact I1.fpOk hle (I1.hok.fresh hle)
theorem enum_get : ∀ {k : Nat} {xs : List D} {i : Nat} {d : D}, (enumFrom k xs)[i]? = some d → ∃ x, xs[i]? = some x ∧ d = .tup [.int ((k + i : Nat) : Int), x]
  | _, [], _, _, h => by simp [enumFrom] at h
  | k, x :: xs, 0, d, h => by
    simp [enumFrom] at h
    exact ⟨x, rfl, by rw [← h]; simp⟩
  | k, x :: xs, i + 1, d, h => by
    have h2 : (enumFrom (k + 1) xs)[i]? = some d := by simpa [enumFrom] using h
    obtain ⟨y, h3, h4⟩ := enum_get h2
    exact ⟨y, by simpa using h3, by rw [h4, show k + 1 + i = k + (i + 1) by omega]⟩
theorem enum_len : ∀ (k : Nat) (xs : List D), (enumFrom k xs).length = xs.length
  | _, [] => rfl
  | k, _ :: xs => by simp [enumFrom, enum_len (k + 1) xs]
theorem new_enum {K : PySem.W.Frag} {H : Hp} {m : Pl} {st : Sto} (s : SR K H m st) {T : Addr} (nT : H T = none) {i : Nat} {x : D} {vx : V} (rx : RV K H m x vx) :
    Ext H (upd H T (.tup [.int (i : Nat), vx])) ∧ SR K (upd H T (.tup [.int (i : Nat), vx])) m st ∧ RV K (upd H T (.tup [.int (i : Nat), vx])) m (.tup [.int ((0 + i : Nat) : Int), x]) (.ref T) :=
  ⟨.new nT, s.tup nT, .tup (.of upd_same) (.cons (by rw [Nat.zero_add]; exact .int) (.cons (rx.mono (.new nT) (List.prefix_refl m)) .nil))⟩
theorem okI_enumT {K : PySem.W.Frag} {H0 : Hp} {m0 : Pl} {p : Addr} {xs : List D} {vs : List V} (hq : SqT K H0 p vs) (r : RVs K H0 m0 xs vs) : okI K H0 m0 (.fix (enumFrom 0 xs)) (IteT K p) := fun i H m st ys e pr s h => by
  cases (show some (enumFrom 0 xs) = some ys from h)
  have hq' := e.sqT hq
  refine ⟨fun hn => ⟨vs, hq', none_len (by rw [enum_len]; exact r.length) hn⟩, fun d hd => ?_⟩
  obtain ⟨x, hx, rfl⟩ := enum_get hd
  obtain ⟨v, hv, rv⟩ := (r.mono e pr).get hx
  refine ⟨⟨vs, v, hq', hv⟩, fun z H' yl => ?_⟩
  obtain ⟨T, x', rfl, nT, rfl, f1⟩ := yl
  have a1 := f1 vs hq'
  rw [hv] at a1
  cases a1
  exact new_enum s nT rv
theorem okI_enumL {K : PySem.W.Frag} {H0 : Hp} {m0 : Pl} {p : Addr} {n : Nat} (hn : m0[n]? = some p) : okI K H0 m0 (.enumL n) (Ite K p) := fun i H m st ys e pr s h => by
  have h' : (lstOf st n).map (enumFrom 0) = some ys := h
  obtain ⟨xs, hl, rfl⟩ := Option.map_eq_some_iff.mp h'
  obtain ⟨vs, hq, r⟩ := s.sqL (pre_get pr hn) hl
  refine ⟨fun hn => ⟨vs, hq, none_len (by rw [enum_len]; exact r.length) hn⟩, fun d hd => ?_⟩
  obtain ⟨x, hx, rfl⟩ := enum_get hd
  obtain ⟨v, hv, rv⟩ := r.get hx
  refine ⟨⟨vs, v, hq, hv⟩, fun z H' yl => ?_⟩
  obtain ⟨T, x', rfl, nT, rfl, f1⟩ := yl
  have a1 := f1 vs hq
  rw [hv] at a1
  cases a1
  exact new_enum s nT rv
def enumSrc (d : D) (st : Sto) : R Src := match d with
  | .tup xs => .ok (.fix (enumFrom 0 xs)) st
  | .ref n => match lstOf st n with
    | some _ => .ok (.enumL n) st
    | none => .fail
  | _ => .fail
def iEnum (g : EM) : IM := fun env st => (g env st).bind enumSrc
theorem one_arg {X : Cx} {W : WX} {ga : EM} {σ : L2.St} {H : Hp} {Q : List V → Hp → Prop} (h : rE X.K W ga σ H fun x H1 => Q [x] H1) : tCons (rE X.K W ga) tNil σ H Q := h
theorem i_enum {X : Cx} {W : WX} {a : Expr} {ga : EM} {p pos tpos : Pos} {elts : List Expr} {kk : Nat} (hm : X.mg "enumerate" = none) (ha : PE X a (rE X.K W ga)) (hg : Gl X "enumerate" := by rfl) (hs : starEach [a] X.env = [(false, eval a X.env)] := by rfl)
    (hs2 : starEach [a] X.env = (false, eval a X.env) :: starEach [] X.env := by rfl) : PI X (.Tuple elts kk tpos) (.Call (.Name "enumerate" p) [a] [] pos) (rI X.K W (iEnum ga)) :=
  ((pi_enumT hg hm (pa_cons ha pa_nil hs2) hs).or (pi_enum hg hm (pa_cons ha pa_nil hs2) hs)).imp fun σ H Rr ⟨env, m, st, hE, hS, hp0⟩ => by
  have hp : Post X.K (okI X.K) (WE W σ) m H Rr ((ga env st).bind enumSrc) := hp0
  cases q : ga env st with
  | fail => rw [q] at hp; exact hp.elim
  | err cc fs st' => rw [q] at hp; exact .inl (one_arg ⟨env, m, st, hE, hS, by rw [q]; exact hp⟩)
  | ok d st' =>
    rw [q] at hp
    cases d with
    | tup xs =>
      refine .inl (one_arg ⟨env, m, st, hE, hS, ?_⟩)
      rw [q]
      intro v H1 m1 e1 p1 s1 r1
      cases r1 with
      | @tup _ ad vs hq rs => exact ⟨ad, vs, rfl, hq, hp _ H1 m1 e1 p1 s1 (okI_enumT hq rs)⟩
    | ref n =>
      refine .inr (one_arg ⟨env, m, st, hE, hS, ?_⟩)
      rw [q]
      intro v H1 m1 e1 p1 s1 r1
      cases r1 with
      | @ref _ ad hn =>
        have hp' : Post X.K (okI X.K) (WE W σ) m H Rr (match lstOf st' n with | some _ => .ok (.enumL n) st' | none => .fail) := hp
        cases g : lstOf st' n with
        | none => rw [g] at hp'; exact hp'.elim
        | some xs =>
          rw [g] at hp'
          obtain ⟨vs, hq, _⟩ := s1.sqL hn g
          exact ⟨ad, vs, rfl, hq, hp' _ H1 m1 e1 p1 s1 (okI_enumL hn)⟩
    | _ => exact hp.elim
end U
set_option Elab.async false
set_option linter.all false
set_option maxRecDepth 100000
set_option maxHeartbeats 4000000
namespace U
open PySem PySem.Spec PyProof.Rows L2
theorem binds_all {K : PySem.W.Frag} {x qual : Str} {params : Arguments} {body : List Stmt} {scope : Scope} {dvs : List V} {kws : List (Str × V)} {f : Addr} {fd : FuncData} {ps : List Str} (F : FunD K x qual params body scope dvs kws f fd) (hd : dvs ≠ []) {n : Nat} (hn : n = ps.length)
    (h : ∀ (T : Addr) (kV doc pm : Value) (an : Option Addr) (cdv ct : Value) (us its : List Value), us.length = n → its.length = dvs.length →
      ∃ k, bindArgs (PySem.W.fnOf x qual params body scope (.ref T) kV doc pm an cdv ct) ⟨us, []⟩ = seqItems? (.ref T) >>= k ∧ k (some its.toArray) = pure (ps.zip us)) : Binds K fd ps [] := by
  obtain ⟨ds, hv, hb⟩ := F.binds1 (ps := ps) n dvs.length hd (by omega) fun T kV doc pm an cdv ct us its hu hi => by
    obtain ⟨k, h1, h2⟩ := h T kV doc pm an cdv ct us its hu hi
    refine ⟨k, h1, ?_⟩
    rw [List.drop_eq_nil_of_le (by omega), List.append_nil]
    exact h2
  rw [List.drop_length] at hv
  cases hv
  exact hb
end U
set_option Elab.async false
set_option linter.all false
set_option maxRecDepth 100000
set_option maxHeartbeats 4000000
namespace U
open PySem PySem.Spec PyProof.Rows L2
mutual
def ren (ρ : Nat → Nat) : D → D
  | .tup xs => .tup (rens ρ xs)
  | .ref n => .ref (ρ n)
  | .non => .non
  | .bl b => .bl b
  | .int i => .int i
  | .str x => .str x
def rens (ρ : Nat → Nat) : List D → List D
  | [] => []
  | d :: ds => ren ρ d :: rens ρ ds
end
mutual
def Bnd (n : Nat) : D → Prop
  | .tup xs => Bnds n xs
  | .ref k => k < n
  | .non => True
  | .bl _ => True
  | .int _ => True
  | .str _ => True
def Bnds (n : Nat) : List D → Prop
  | [] => True
  | d :: ds => Bnd n d ∧ Bnds n ds
end
def renO (ρ : Nat → Nat) : Ob → Ob
  | .lst xs => .lst (rens ρ xs)
  | .rol xs => .rol (rens ρ xs)
  | .fzt xs => .fzt (rens ρ xs)
  | .tab P q => .tab P q
  | .exc p d cl c fs => .exc p d cl c (fs.map fun p => (p.1, ren ρ p.2))
  | .kst xs => .kst (rens ρ xs)
  | .ins c fs => .ins c (fs.map fun p => (p.1, ren ρ p.2))
  | .dct kvs => .dct (kvs.map fun p => (ren ρ p.1, ren ρ p.2))
  | .dcl kvs => .dcl (kvs.map fun p => (ren ρ p.1, ren ρ p.2))
def BndO (n : Nat) : Ob → Prop
  | .lst xs => Bnds n xs
  | .rol xs => Bnds n xs
  | .fzt xs => Bnds n xs
  | .tab _ _ => True
  | .exc _ _ _ _ fs => Bnds n (fs.map (·.2))
  | .kst xs => Bnds n xs
  | .ins _ fs => Bnds n (fs.map (·.2))
  | .dct kvs => Bnds n (kvs.map (·.1)) ∧ Bnds n (kvs.map (·.2))
  | .dcl kvs => Bnds n (kvs.map (·.1)) ∧ Bnds n (kvs.map (·.2))
section
variable {K : PySem.W.Frag} {H : Hp} {m ms : Pl} {ρ : Nat → Nat} {n : Nat}
mutual
theorem RV.back (hms : ∀ i, i < n → ∀ a, m[ρ i]? = some a → ms[i]? = some a) : ∀ {d : D} {v : V}, Bnd n d → RV K H m (ren ρ d) v → RV K H ms d v
  | .non, _, _, h => by simp only [ren] at h; cases h; exact .non
  | .bl _, _, _, h => by simp only [ren] at h; cases h; exact .bl
  | .int _, _, _, h => by simp only [ren] at h; cases h; exact .int
  | .str _, _, _, h => by simp only [ren] at h; cases h; exact .str
  | .tup xs, _, hb, h => by
    simp only [ren] at h
    simp only [Bnd] at hb
    cases h with
    | tup hq rs => exact .tup hq (RVs.back hms hb rs)
  | .ref k, _, hb, h => by
    simp only [ren] at h
    simp only [Bnd] at hb
    cases h with
    | ref hk => exact .ref (hms k hb _ hk)
theorem RVs.back (hms : ∀ i, i < n → ∀ a, m[ρ i]? = some a → ms[i]? = some a) : ∀ {ds : List D} {vs : List V}, Bnds n ds → RVs K H m (rens ρ ds) vs → RVs K H ms ds vs
  | [], _, _, h => by simp only [rens] at h; cases h; exact .nil
  | d :: ds, _, hb, h => by
    simp only [rens] at h
    simp only [Bnds] at hb
    cases h with
    | cons h1 h2 => exact .cons (RV.back hms hb.1 h1) (RVs.back hms hb.2 h2)
end
theorem rens_map : ∀ (fs : List (Str × D)), (fs.map fun p => (p.1, ren ρ p.2)).map (·.2) = rens ρ (fs.map (·.2))
  | [] => rfl
  | p :: fs => by simp only [List.map_cons, rens]; rw [← rens_map fs]
mutual
theorem keyD_ren : ∀ d : D, keyD (ren ρ d) = keyD d
  | .non => by simp only [ren]
  | .bl _ => by simp only [ren]
  | .int _ => by simp only [ren]
  | .str _ => by simp only [ren]
  | .ref _ => by simp only [ren, keyD]
  | .tup xs => by simp only [ren, keyD]; rw [keysD_ren xs]
theorem keysD_ren : ∀ ds : List D, keysD (rens ρ ds) = keysD ds
  | [] => by simp only [rens]
  | d :: ds => by simp only [rens, keysD]; rw [keyD_ren d, keysD_ren ds]
end
theorem rens_m1 : ∀ (kvs : List (D × D)), (kvs.map fun p => (ren ρ p.1, ren ρ p.2)).map (·.1) = rens ρ (kvs.map (·.1))
  | [] => rfl
  | p :: kvs => by simp only [List.map_cons, rens]; rw [← rens_m1 kvs]
theorem rens_m2 : ∀ (kvs : List (D × D)), (kvs.map fun p => (ren ρ p.1, ren ρ p.2)).map (·.2) = rens ρ (kvs.map (·.2))
  | [] => rfl
  | p :: kvs => by simp only [List.map_cons, rens]; rw [← rens_m2 kvs]
theorem OR.back (hms : ∀ i, i < n → ∀ a, m[ρ i]? = some a → ms[i]? = some a) {a : Addr} {o : Ob} (hb : BndO n o) (h : OR K H m a (renO ρ o)) : OR K H ms a o := by
  cases o with
  | lst xs => obtain ⟨vs, e, r⟩ := h; exact ⟨vs, e, r.back hms hb⟩
  | rol xs => obtain ⟨o, vs, e, r⟩ := h; exact ⟨o, vs, e, r.back hms hb⟩
  | fzt xs => obtain ⟨o, vs, e, r, hd⟩ := h; exact ⟨o, vs, e, r.back hms hb, hd⟩
  | tab P q => exact h
  | exc p d cl c fs =>
    obtain ⟨h1, h2, h3⟩ := h
    refine ⟨h1, h2, ?_⟩
    rcases h3 with ⟨z1, z2⟩ | ⟨dd, vfs, z1, z2, z3, z4⟩
    · exact .inl ⟨by simpa using z1, z2⟩
    · rw [rens_map] at z4
      exact .inr ⟨dd, vfs, z1, z2, by rw [z3]; simp, z4.back hms hb⟩
  | kst xs => obtain ⟨vs, e, r⟩ := h; exact ⟨vs, e, r.back hms hb⟩
  | ins c fs =>
    obtain ⟨dx, vfs, e, e2, r, l⟩ := h
    refine ⟨dx, vfs, e, by rw [e2]; simp, ?_, by simpa using l⟩
    rw [rens_map] at r
    exact r.back hms hb
  | dct kvs =>
    obtain ⟨xs, vs, h⟩ := h
    refine ⟨xs, vs, h.sys, h.at_, h.nd, ?_, h.dep, ?_, ?_, h.vv, by simpa using h.len⟩
    · rw [← h.key, List.map_map]
      apply List.map_congr_left
      intro p _
      exact (keyD_ren p.1).symm
    · have r := h.rk
      rw [rens_m1] at r
      exact r.back hms hb.1
    · have r := h.rv
      rw [rens_m2] at r
      exact r.back hms hb.2
  | dcl kvs =>
    obtain ⟨o, xs, vs, h⟩ := h
    refine ⟨o, xs, vs, h.sys, h.at_, h.obj, h.nd, ?_, h.dep, ?_, ?_, h.vv, by simpa using h.len⟩
    · rw [← h.key, List.map_map]
      apply List.map_congr_left
      intro p _
      exact (keyD_ren p.1).symm
    · have r := h.rk
      rw [rens_m1] at r
      exact r.back hms hb.1
    · have r := h.rv
      rw [rens_m2] at r
      exact r.back hms hb.2
theorem renO_trk (o : Ob) : (renO ρ o).trk = o.trk := by cases o <;> rfl
mutual
theorem RV.bnd : ∀ {d : D} {v : V}, RV K H m d v → Bnd m.length d
  | .non, _, _ => by simp only [Bnd]
  | .bl _, _, _ => by simp only [Bnd]
  | .int _, _, _ => by simp only [Bnd]
  | .str _, _, _ => by simp only [Bnd]
  | .tup xs, _, h => by
    simp only [Bnd]
    cases h with
    | tup hq rs => exact RVs.bnd rs
  | .ref k, _, h => by
    simp only [Bnd]
    cases h with
    | ref hk => exact (List.getElem?_eq_some_iff.mp hk).1
theorem RVs.bnd : ∀ {ds : List D} {vs : List V}, RVs K H m ds vs → Bnds m.length ds
  | [], _, _ => by simp only [Bnds]
  | _ :: _, _, h => by
    simp only [Bnds]
    cases h with
    | cons h1 h2 => exact ⟨RV.bnd h1, RVs.bnd h2⟩
end
theorem OR.bnd {a : Addr} {o : Ob} (h : OR K H m a o) : BndO m.length o := by
  cases o with
  | lst xs => obtain ⟨vs, e, r⟩ := h; exact r.bnd
  | rol xs => obtain ⟨o, vs, e, r⟩ := h; exact r.bnd
  | fzt xs => obtain ⟨o, vs, e, r, _⟩ := h; exact r.bnd
  | tab P q => trivial
  | exc p d cl c fs =>
    obtain ⟨_, _, h3⟩ := h
    rcases h3 with ⟨z1, _⟩ | ⟨dd, vfs, _, _, _, z4⟩
    · subst z1; trivial
    · exact z4.bnd
  | kst xs => obtain ⟨vs, e, r⟩ := h; exact r.bnd
  | ins c fs => obtain ⟨dx, vfs, e, e2, r, l⟩ := h; exact r.bnd
  | dct kvs => obtain ⟨xs, vs, h⟩ := h; exact ⟨h.rk.bnd, h.rv.bnd⟩
  | dcl kvs => obtain ⟨o, xs, vs, h⟩ := h; exact ⟨h.rk.bnd, h.rv.bnd⟩
theorem SR.bnd {st : Sto} (s : SR K H m st) {i : Nat} {o : Ob} (h : st[i]? = some o) : BndO st.length o := by
  obtain ⟨a, _, r⟩ := s.at h
  rw [← s.len]
  exact r.bnd
end
structure Fits (st st1 st' : Sto) (ρ : Nat → Nat) : Prop where
  len : st.length ≤ st1.length
  old : ∀ i, i < st.length → ρ i = i
  inj : ∀ i j, i < st1.length → j < st1.length → ρ i = ρ j → i = j
  ob : ∀ i o, st1[i]? = some o → st'[ρ i]? = some (renO ρ o)
def Good (st : Sto) : Prop := ∀ (i : Nat) (o : Ob), st[i]? = some o → BndO st.length o
structure Tells (m s : Fm) : Prop where
  ok : ∀ ds st d st1, Good st → Bnds st.length ds → s ds st = .ok d st1 → Good st1 ∧ Bnd st1.length d ∧ ∃ ρ st', m ds st = .ok (ren ρ d) st' ∧ Fits st st1 st' ρ
  err : ∀ ds st c fs st1, Good st → Bnds st.length ds → s ds st = .err c fs st1 → Good st1 ∧ Bnds st1.length (fs.map (·.2)) ∧ ∃ ρ st', m ds st = .err c (fs.map fun p => (p.1, ren ρ p.2)) st' ∧ Fits st st1 st' ρ
section
variable {K : PySem.W.Frag} {H H' : Hp} {m0 m' : Pl} {st st1 st' : Sto} {ρ : Nat → Nat}
def placed (m' : Pl) (ρ : Nat → Nat) (n : Nat) : Pl := (List.range n).map fun i => m'.getD (ρ i) 0
theorem placed_get (f : Fits st st1 st' ρ) (hl : m'.length = st'.length) {i : Nat} (hi : i < st1.length) : (placed m' ρ st1.length)[i]? = m'[ρ i]? := by
  unfold placed
  rw [List.getElem?_map, List.getElem?_range hi]
  have ho : st1[i]? = some st1[i] := by simp [hi]
  have h2 := f.ob i _ ho
  have h3 : ρ i < m'.length := by rw [hl]; exact (List.getElem?_eq_some_iff.mp h2).1
  simp [List.getD, h3]
theorem placed_ok (f : Fits st st1 st' ρ) (hl : m'.length = st'.length) : ∀ i, i < st1.length → ∀ a, m'[ρ i]? = some a → (placed m' ρ st1.length)[i]? = some a := fun i hi a e => by rw [placed_get f hl hi]; exact e
theorem placed_pre (f : Fits st st1 st' ρ) (hl : m'.length = st'.length) (h0 : m0.length = st.length) (p : m0 <+: m') : m0 <+: placed m' ρ st1.length := by
  have hlen : (placed m' ρ st1.length).length = st1.length := by simp [placed]
  rw [List.prefix_iff_eq_take]
  apply List.ext_getElem?
  intro i
  by_cases hi : i < m0.length
  · have hi1 : i < st1.length := by have := f.len; omega
    rw [List.getElem?_take, if_pos hi, placed_get f hl hi1, f.old i (by omega)]
    have e : m0[i]? = some m0[i] := by simp [hi]
    rw [e, pre_get p e]
  · rw [List.getElem?_eq_none (by omega), List.getElem?_eq_none (by rw [List.length_take]; omega)]
theorem placed_sr (f : Fits st st1 st' ρ) (g : Good st1) (s : SR K H' m' st') : SR K H' (placed m' ρ st1.length) st1 := by
  have back : ∀ {i : Nat} {a : Addr} {o : Ob}, (placed m' ρ st1.length)[i]? = some a → st1[i]? = some o → m'[ρ i]? = some a ∧ st'[ρ i]? = some (renO ρ o) ∧ i < st1.length := fun {i a o} h1 h2 => by
    have hi : i < st1.length := (List.getElem?_eq_some_iff.mp h2).1
    rw [placed_get f s.len hi] at h1
    exact ⟨h1, f.ob i o h2, hi⟩
  refine ⟨by simp [placed], fun i j a oi oj h1 h2 h3 h4 t1 t2 => ?_, fun i a o h1 h2 => ?_⟩
  · obtain ⟨x1, x2, x3⟩ := back h1 h3
    obtain ⟨y1, y2, y3⟩ := back h2 h4
    exact f.inj i j x3 y3 (s.nd _ _ a _ _ x1 y1 x2 y2 (by rw [renO_trk]; exact t1) (by rw [renO_trk]; exact t2))
  · obtain ⟨x1, x2, x3⟩ := back h1 h2
    exact (s.ob _ a _ x1 x2).back (placed_ok f s.len) (g i o h2)
end
theorem SR.good {K : PySem.W.Frag} {H : Hp} {m : Pl} {st : Sto} (s : SR K H m st) : Good st := fun i o h => s.bnd h
theorem spF_tells {K : PySem.W.Frag} {n : Nat} {m s : Fm} (t : Tells m s) {vs : List V} {H : Hp} {Q : VK} {E : XK} (h : spF K n s vs H Q E) : spF K n m vs H Q E := by
  obtain ⟨hl, ds, m0, st, r, sr, hp⟩ := h
  refine ⟨hl, ds, m0, st, r, sr, ?_⟩
  have hb : Bnds st.length ds := by rw [← sr.len]; exact r.bnd
  cases q : s ds st with
  | fail => rw [q] at hp; exact hp.elim
  | ok d st1 =>
    rw [q] at hp
    obtain ⟨g1, b1, ρ, st', e, f⟩ := t.ok ds st d st1 sr.good hb q
    rw [e]
    intro v H' m' x p s' rv
    exact hp v H' _ x (placed_pre f s'.len sr.len p) (placed_sr f g1 s') (rv.back (placed_ok f s'.len) b1)
  | err c fs st1 =>
    rw [q] at hp
    obtain ⟨g1, b1, ρ, st', e, f⟩ := t.err ds st c fs st1 sr.good hb q
    rw [e]
    intro dO H' m' x p s' xr
    refine hp dO H' _ x (placed_pre f s'.len sr.len p) (placed_sr f g1 s') ?_
    rcases xr with ⟨e1, e2⟩ | ⟨dd, vfs, e1, e2, e3, e4⟩
    · exact .inl ⟨by simpa using e1, e2⟩
    · rw [rens_map] at e4
      exact .inr ⟨dd, vfs, e1, e2, by rw [e3]; simp, e4.back (placed_ok f s'.len) b1⟩
theorem Fn.by {P : Program} {w : World} {K : PySem.W.Frag} {mg : Str → Option Value} {base : Heap} {k : Nat} {x : Str} {n : Nat} {m s : Fm} (F : Fn P w K mg base k x n m) (t : Tells m s) (ar : Arity n s) : Fn P w K mg base k x n s := by
  obtain ⟨a, fd, ps, ok, h1, h2, h3⟩ := F.ex
  exact ⟨⟨a, fd, ps, ok.imp fun vs H Q E h => spF_tells t h, h1, h2, h3⟩, ar⟩
theorem Mkr.by {P : Program} {w : World} {K : PySem.W.Frag} {mg : Str → Option Value} {base : Heap} {k : Nat} {x : Str} {n : Nat} {m s : Fm} (F : Mkr P w K mg base k x n m) (t : Tells m s) (ar : Arity (n + 1) s) : Mkr P w K mg base k x n s := by
  obtain ⟨a, fd, ps, ok, h1, h2, h3⟩ := F.ex
  exact ⟨⟨a, fd, ps, ok.imp fun vs H Q E h => spF_tells t h, h1, h2, h3⟩, F.isi, ar⟩
end U
set_option Elab.async false
set_option linter.all false
set_option maxRecDepth 100000
set_option maxHeartbeats 4000000
namespace U
open PySem PySem.Spec PyProof.Rows L2
mutual
theorem ren_id : ∀ d : D, ren id d = d
  | .tup xs => by simp only [ren]; rw [rens_id xs]
  | .ref n => by simp only [ren, id]
  | .non => by simp only [ren]
  | .bl b => by simp only [ren]
  | .int i => by simp only [ren]
  | .str x => by simp only [ren]
theorem rens_id : ∀ ds : List D, rens id ds = ds
  | [] => by simp only [rens]
  | d :: ds => by simp only [rens]; rw [ren_id d, rens_id ds]
end
theorem renO_id (o : Ob) : renO id o = o := by
  cases o with
  | lst xs => simp only [renO, rens_id]
  | rol xs => simp only [renO, rens_id]
  | fzt xs => simp only [renO, rens_id]
  | tab P q => rfl
  | exc p d cl c fs =>
    simp only [renO]
    congr 1
    induction fs with
    | nil => rfl
    | cons p fs ih => rw [List.map_cons, ren_id, ih]
  | kst xs => simp only [renO, rens_id]
  | ins c fs =>
    simp only [renO]
    congr 1
    induction fs with
    | nil => rfl
    | cons p fs ih => rw [List.map_cons, ren_id, ih]
  | dct kvs =>
    simp only [renO]
    congr 1
    induction kvs with
    | nil => rfl
    | cons p kvs ih => rw [List.map_cons, ren_id, ren_id, ih]
  | dcl kvs =>
    simp only [renO]
    congr 1
    induction kvs with
    | nil => rfl
    | cons p kvs ih => rw [List.map_cons, ren_id, ren_id, ih]
def obs (n : Nat) (f : List D → Sto → Option D) : Fm := fun ds st => if ds.length = n then (match f ds st with
  | some d => .ok d st
  | none => .fail) else .fail
theorem obs_ar {n : Nat} {f : List D → Sto → Option D} : Arity n (obs n f) := fun ds st h => if_neg h
theorem obs_ok {n : Nat} {f : List D → Sto → Option D} {ds : List D} {st : Sto} {d : D} (hl : ds.length = n) (h : f ds st = some d) : obs n f ds st = .ok d st := by
  unfold obs
  rw [if_pos hl, h]
theorem obs_inv {n : Nat} {f : List D → Sto → Option D} {ds : List D} {st st1 : Sto} {d : D} (h : obs n f ds st = .ok d st1) : ds.length = n ∧ f ds st = some d ∧ st1 = st := by
  unfold obs at h
  split at h
  · rename_i hl
    split at h
    · rename_i d' q
      cases h
      exact ⟨hl, q, rfl⟩
    · cases h
  · cases h
theorem obs_noerr {n : Nat} {f : List D → Sto → Option D} {ds : List D} {st st1 : Sto} {c : Str} {fs : List (Str × D)} (h : obs n f ds st = .err c fs st1) : False := by
  unfold obs at h
  split at h
  · split at h <;> cases h
  · cases h
theorem fits_app {st ex : Sto} : Fits st st (st ++ ex) id :=
  ⟨Nat.le_refl _, fun _ _ => rfl, fun _ _ _ _ h => h, fun i o h => by rw [renO_id]; show (st ++ ex)[i]? = some o; rw [List.getElem?_append_left (List.getElem?_eq_some_iff.mp h).1]; exact h⟩
theorem Tells.obs {m : Fm} {n : Nat} {f : List D → Sto → Option D} (h : ∀ ds st d, Good st → Bnds st.length ds → ds.length = n → f ds st = some d → Bnd st.length d ∧ ∃ ex, m ds st = .ok d (st ++ ex)) : Tells m (U.obs n f) where
  ok := fun ds st d st1 g b e => by
    obtain ⟨hl, hf, rfl⟩ := obs_inv e
    obtain ⟨h1, ex, h2⟩ := h ds st1 d g b hl hf
    exact ⟨g, h1, id, st1 ++ ex, by rw [ren_id]; exact h2, fits_app⟩
  err := fun ds st c fs st1 g b e => (obs_noerr e).elim
theorem get_end {st : Sto} {o : Ob} : (st ++ [o])[st.length]? = some o := by simp
theorem set_end {st : Sto} {o o' : Ob} : (st ++ [o]).set st.length o' = st ++ [o'] := by simp
theorem runLc_pure {s : Src} {g : GM} {t : TM} {e : EM} {env : Ev} {st : Sto} {xs : List D} {p : D → Bool} {f : D → D} (hs : ∀ acc, s.at (st ++ [.lst acc]) = some xs) (hm : xs.length ≤ most)
    (h : ∀ x ∈ xs, ∀ acc, ∃ env1, g x env (st ++ [.lst acc]) = some (env1, st ++ [.lst acc]) ∧ t env1 (st ++ [.lst acc]) = .ok (p x) (st ++ [.lst acc]) ∧ (p x = true → e env1 (st ++ [.lst acc]) = .ok (f x) (st ++ [.lst acc]))) :
    ∀ (k i : Nat) (acc : List D), xs.length = i + k → acc.length ≤ i → runLc s g t e st.length env (k + 1) i (st ++ [.lst acc]) = .ok (.ref st.length) (st ++ [.lst (acc ++ ((xs.drop i).filter p).map f)])
  | 0, i, acc, hk, ha => by
    unfold runLc
    simp only [hs]
    rw [List.getElem?_eq_none (by omega)]
    simp [List.drop_eq_nil_of_le (show xs.length ≤ i by omega)]
  | k + 1, i, acc, hk, ha => by
    have hi : i < xs.length := by omega
    obtain ⟨env1, h1, h2, h3⟩ := h xs[i] (List.getElem_mem hi) acc
    unfold runLc
    simp only [hs]
    rw [List.getElem?_eq_getElem hi]
    simp only [h1, h2, R.bind]
    have hd : xs.drop i = xs[i] :: xs.drop (i + 1) := (List.drop_eq_getElem_cons hi)
    cases hp : p xs[i] with
    | false =>
      simp only [Bool.false_eq_true, if_false]
      rw [runLc_pure hs hm h k (i + 1) acc (by omega) (by omega), hd, List.filter_cons_of_neg (by rw [hp]; decide)]
    | true =>
      simp only [if_true, h3 hp, get_end, set_end]
      rw [if_pos (by omega), runLc_pure hs hm h k (i + 1) _ (by omega) (by simp; omega), hd, List.filter_cons_of_pos hp, List.map_cons, List.append_assoc]
      rfl
theorem startLc_pure {s : Src} {g : GM} {t : TM} {e : EM} {env : Ev} {st : Sto} {xs : List D} {p : D → Bool} {f : D → D} (h0 : s.at st = some xs) (hm : xs.length ≤ most)
    (h : ∀ x ∈ xs, ∀ acc, ∃ env1, g x env (st ++ [.lst acc]) = some (env1, st ++ [.lst acc]) ∧ t env1 (st ++ [.lst acc]) = .ok (p x) (st ++ [.lst acc]) ∧ (p x = true → e env1 (st ++ [.lst acc]) = .ok (f x) (st ++ [.lst acc]))) :
    startLc g t e env s st = .ok (.ref st.length) (st ++ [.lst ((xs.filter p).map f)]) := by
  unfold startLc
  rw [h0]
  simp only
  rw [runLc_pure (fun acc => src_at_app h0) hm h xs.length 0 [] (by omega) (by simp)]
  simp
theorem startLc_map {s : Src} {g : GM} {e : EM} {env : Ev} {st : Sto} {xs : List D} {f : D → D} (h0 : s.at st = some xs) (hm : xs.length ≤ most)
    (h : ∀ x ∈ xs, ∀ acc, ∃ env1, g x env (st ++ [.lst acc]) = some (env1, st ++ [.lst acc]) ∧ e env1 (st ++ [.lst acc]) = .ok (f x) (st ++ [.lst acc])) :
    startLc g tTrue e env s st = .ok (.ref st.length) (st ++ [.lst (xs.map f)]) := by
  rw [startLc_pure (p := fun _ => true) (f := f) h0 hm fun x hx acc => ?_]
  · rw [List.filter_eq_self.mpr (by simp)]
  · obtain ⟨env1, h1, h2⟩ := h x hx acc
    exact ⟨env1, h1, rfl, fun _ => h2⟩
theorem lstOf_end {st : Sto} {xs : List D} : lstOf (st ++ [.lst xs]) st.length = some xs := by unfold lstOf; rw [get_end]
theorem bools_map : ∀ bs : List Bool, bools (bs.map D.bl) = some bs
  | [] => rfl
  | b :: bs => by simp only [List.map_cons, bools, bools_map bs, Option.map_some]
theorem bools_mapf {α : Type} (f : α → Bool) (xs : List α) : bools (xs.map fun x => D.bl (f x)) = some (xs.map f) := by
  have := bools_map (xs.map f)
  rw [List.map_map] at this
  exact this
theorem aa_end {F : List Bool → Bool} {α : Type} {f : α → Bool} {xs : List α} {st : Sto} : fAA F [.ref st.length] (st ++ [.lst (xs.map fun x => D.bl (f x))]) = .ok (.bl (F (xs.map f))) (st ++ [.lst (xs.map fun x => D.bl (f x))]) := by
  unfold fAA
  simp only [lstOf_end, bools_mapf]
theorem tyD_app {st ex : Sto} {d : D} {t : String} (h : tyD st d = some t) : tyD (st ++ ex) d = some t := by
  cases d with
  | ref n =>
    have hn : n < st.length := by
      by_cases hn : n < st.length
      · exact hn
      · unfold tyD at h; simp only at h; rw [List.getElem?_eq_none (by omega)] at h; cases h
    unfold tyD at h ⊢
    simp only at h ⊢
    rw [List.getElem?_append_left hn]
    exact h
  | _ => exact h
def kn (st : Sto) (d : D) : Bool := (tyD st d).isSome
theorem kn_app {st ex : Sto} {d : D} (h : kn st d = true) : kn (st ++ ex) d = true := by
  obtain ⟨t, e⟩ := Option.isSome_iff_exists.mp h
  unfold kn
  rw [tyD_app e]
  rfl
end U
set_option Elab.async false
set_option linter.all false
set_option maxRecDepth 100000
set_option maxHeartbeats 4000000
namespace U
open PySem
section
variable {f h : D → D → Sto → R D} {f1 : D → Sto → R D} {fm : Fm} {a b c : EM} {t t2 : TM} {as : AM} {s s2 : SM} {src : IM} {g g' : GM} {gs : GMs} {env : Ev} {st : Sto} {i j n k slots : Nat} {d : D} {ds : List D} {vs : List Nat} {α β : Type} {r : R α} {x : α} {cn fd : Str} {fs : List (Str × D)}
theorem ev_var : eVar i env st = (match env[i]? with | some (some d) => .ok d st | _ => .fail) := rfl
theorem ev_c : eC d env st = .ok d st := rfl
theorem ev_un : eUn f1 a env st = (a env st).bind f1 := rfl
theorem ev_bin : eBin f a b env st = (a env st).bind fun x st => (b env st).bind fun y st => f x y st := rfl
theorem ev_anil : aNil env st = .ok [] st := rfl
theorem ev_acons : aCons a as env st = (a env st).bind fun x st => (as env st).bind fun xs st => .ok (x :: xs) st := rfl
theorem ev_fn : eFn fm as env st = (as env st).bind fm := rfl
theorem ev_tof : tOf a env st = (a env st).bind toB := rfl
theorem ev_tob {q : Bool} : toB (.bl q) st = .ok q st := rfl
theorem ev_tand : tAnd t t2 env st = (t env st).bind fun c st => if c = true then t2 env st else .ok false st := rfl
theorem ev_tor : tOr t t2 env st = (t env st).bind fun c st => if c = true then .ok true st else t2 env st := rfl
theorem ev_tnot : tNot t env st = (t env st).bind fun c st => .ok (!c) st := rfl
theorem ev_and : eAnd a b env st = (a env st).bind fun x st => match x with | .bl c => if c = true then b env st else .ok (.bl false) st | _ => .fail := rfl
theorem ev_or : eOr a b env st = (a env st).bind fun x st => match x with | .bl c => if c = true then .ok (.bl true) st else b env st | _ => .fail := rfl
theorem ev_not : eNot a env st = (a env st).bind fun x st => match x with | .bl c => .ok (.bl (!c)) st | _ => .fail := rfl
theorem ev_if : eIf t a b env st = (t env st).bind fun k st => if k = true then a env st else b env st := rfl
theorem ev_chain : eChain f h a b c env st = (a env st).bind fun x st => (b env st).bind fun y st => (f x y st).bind fun k st => match k with | .bl true => (c env st).bind fun z st => h y z st | .bl false => .ok (.bl false) st | _ => .fail := rfl
theorem ev_true : tTrue env st = .ok true st := rfl
theorem ev_slice {lo hi : oM} : eSlice a lo hi env st = (a env st).bind fun d st => (lo env st).bind fun l st => (hi env st).bind fun h st => sliceD d l h st := rfl
theorem ev_onone : oNone env st = .ok none st := rfl
theorem ev_osome : oSome a env st = (a env st).bind fun d st => match d with | .int i => .ok (some i) st | _ => .fail := rfl
theorem ev_iseq : iSeq a env st = (a env st).bind seqSrc := rfl
theorem ev_irng : iRng a env st = (a env st).bind rngSrc := rfl
theorem ev_ienum : iEnum a env st = (a env st).bind enumSrc := rfl
theorem ev_ibin {fz : D → D → Sto → R Src} : iBin fz a b env st = (a env st).bind fun x st => (b env st).bind fun y st => fz x y st := rfl
theorem ev_lc {e : EM} : cLc src vs g t e env st = (src env st).bind fun s st => (startLc g t e (wipeE env vs) s st).hush := rfl
theorem ev_skip : sSkip env st = .nx env st := rfl
theorem ev_never : sNever env st = .fail := rfl
theorem ev_seq : sSeq s s2 env st = (match s env st with | .nx env st => s2 env st | r => r) := rfl
theorem ev_ret : sRet a env st = (a env st).then env fun d st => .rt d st := rfl
theorem ev_sif : sIf t s s2 env st = (t env st).then env fun c st => if c = true then s env st else s2 env st := rfl
theorem ev_set : sSet i a env st = (a env st).then env fun d st => .nx (env.set i (some d)) st := rfl
theorem ev_expr : sExpr a env st = (a env st).then env fun _ st => .nx env st := rfl
theorem ev_asg : sAsg a g env st = (a env st).then env fun d st => match g d env st with | some (env, st) => .nx env st | none => .fail := rfl
theorem ev_par : sPar i j a b env st = (a env st).then env fun x st => (b env st).then env fun y st => .nx ((env.set i (some x)).set j (some y)) st := rfl
theorem ev_for : sFor src g s env st = (src env st).then env (startFor g s env) := rfl
theorem ev_fld : sFldM cn fd a b env st = (b env st).then env fun d st => (a env st).then env fun x st => setFld cn fd x d env st := rfl
theorem ev_gn : gN i d env st = some (env.set i (some d), st) := rfl
theorem ev_gsnil : gsNil [] env st = some (env, st) := rfl
theorem ev_gscons : gsCons g gs (d :: ds) env st = (match g d env st with | some (env, st) => gs ds env st | none => none) := rfl
theorem ev_gt : gT n gs (.tup ds) env st = if ds.length = n then gs ds env st else none := rfl
theorem ev_mkfn : mkFn n slots s ds st = if ds.length = n then endFn (s (env0 n slots ds) st) else .fail := rfl
theorem ev_bok {q : α → Sto → R β} : (R.ok x st).bind q = q x st := rfl
theorem ev_berr {q : α → Sto → R β} : (R.err cn fs st : R α).bind q = .err cn fs st := rfl
theorem ev_bfail {q : α → Sto → R β} : (R.fail : R α).bind q = .fail := rfl
theorem ev_tok {q : α → Sto → RS} : (R.ok x st).then env q = q x st := rfl
theorem ev_hok : (R.ok x st).hush = .ok x st := rfl
theorem ev_ert : endFn (.rt d st) = .ok d st := rfl
theorem ev_enx : endFn (.nx env st) = .ok .non st := rfl
theorem ev_wn : wipeE env [] = env := rfl
theorem ev_wc : wipeE env (i :: vs) = (wipeE env vs).set i none := rfl
theorem ev_e0 : env0 n slots ds = ds.map some ++ List.replicate (slots - n) none := rfl
theorem ev_sseq {xs : List D} : seqSrc (.tup xs) st = .ok (.fix xs) st := rfl
theorem ev_senum {xs : List D} : enumSrc (.tup xs) st = .ok (.fix (enumFrom 0 xs)) st := rfl
theorem ev_szip {xs ys : List D} : zipSrc (.tup xs) (.tup ys) st = .ok (.fix (List.zipWith pairD xs ys)) st := rfl
theorem ev_sltup {xs : List D} {lo hi : Option Int} : sliceD (.tup xs) lo hi st = .ok (.tup (cutD xs lo hi)) st := rfl
theorem ev_ltI {i j : Int} : dLt (.int i) (.int j) st = .ok (.bl (decide (i < j))) st := rfl
theorem ev_leI {i j : Int} : dLe (.int i) (.int j) st = .ok (.bl (decide (i ≤ j))) st := rfl
theorem ev_gtI {i j : Int} : dGt (.int i) (.int j) st = .ok (.bl (decide (j < i))) st := rfl
theorem ev_geI {i j : Int} : dGe (.int i) (.int j) st = .ok (.bl (decide (j ≤ i))) st := rfl
theorem ev_subI {i j : Int} : dSub (.int i) (.int j) st = .ok (.int (i - j)) st := rfl
theorem ev_addI {i j : Int} : dAdd (.int i) (.int j) st = .ok (.int (i + j)) st := rfl
theorem ev_lenT {xs : List D} : fLen [.tup xs] st = .ok (.int xs.length) st := rfl
theorem ev_isi {T : String} : dIsi T d st = (match tyD st d with | some q => .ok (.bl (isiT q T)) st | none => .fail) := rfl
theorem isi_tup {xs : List D} : dIsi "tuple" (.tup xs) st = .ok (.bl true) st := rfl
theorem eqI {i j : Int} {neg : Bool} : dEq neg (.int i) (.int j) st = .ok (.bl (if neg then !(i == j) else i == j)) st := by
  unfold dEq toS
  simp only [toP]
  rw [if_pos (show SeqAt.shaped (.int i) = true from rfl), if_pos (show SeqAt.shaped (.int j) = true from rfl)]
  simp only [PyData.eqv]
theorem isi_tupD (h : kn st d = true) : dIsi "tuple" d st = .ok (.bl (match d with | .tup _ => true | _ => false)) st := by
  obtain ⟨t, e⟩ := Option.isSome_iff_exists.mp h
  unfold dIsi
  rw [e]
  cases d with
  | ref n =>
    unfold tyD at e
    simp only at e
    split at e
    · cases e; rfl
    · cases e; rfl
    · cases e; rfl
    · cases e
  | _ => cases e; rfl
end
open PySem PySem.Spec PyProof.Rows L2 in
theorem cut1 (xs : List D) : cutD xs (some 1) none = xs.drop 1 := by
  unfold cutD
  rw [show HT.sIx xs.length 0 (some 1) = min 1 xs.length from HT.sIx_nat xs.length 0 1, HT.sIx_none]
  cases xs with
  | nil => rfl
  | cons x r =>
    have e : min 1 (x :: r).length = 1 := by simp
    rw [e]
    show List.take ((x :: r).length - 1) r = r
    simp
end U
set_option Elab.async false
set_option linter.all false
set_option maxRecDepth 100000
set_option maxHeartbeats 4000000
namespace U
open PySem PySem.Spec PyProof.Rows L2
def withinD (lo hi : Int) : D → Bool
  | .int i => decide (lo ≤ i) && decide (i ≤ hi)
  | _ => false
def prodD : List D → Int
  | [] => 1
  | .int i :: r => i * prodD r
  | _ :: r => prodD r
def wheelsD (d : D) : Bool := match d with
  | .tup xs => decide (1 ≤ xs.length) && decide (xs.length ≤ 3) && xs.all (withinD 2 4) && decide (prodD xs ≤ 24)
  | _ => false
def wI : D → Int
  | .int i => i
  | _ => 0
def risingD (n : Int) (d : D) : Bool := match d with
  | .tup xs => xs.all (withinD 0 (n - 1)) && (List.zipWith (fun x y => decide (wI x < wI y)) xs (xs.drop 1)).all id
  | _ => false
mutual
def dk (st : Sto) : D → Bool
  | .tup xs => dks st xs
  | .ref n => kn st (.ref n)
  | .non => true
  | .bl _ => true
  | .int _ => true
  | .str _ => true
def dks (st : Sto) : List D → Bool
  | [] => true
  | d :: ds => dk st d && dks st ds
end
theorem dk_kn {st : Sto} : ∀ {d : D}, dk st d = true → kn st d = true
  | .tup xs, _ => rfl
  | .ref n, h => by simpa only [dk] using h
  | .non, _ => rfl
  | .bl _, _ => rfl
  | .int _, _ => rfl
  | .str _, _ => rfl
theorem dks_mem {st : Sto} : ∀ {ds : List D}, dks st ds = true → ∀ x ∈ ds, dk st x = true
  | d :: ds, h, x, hx => by
    simp only [dks, Bool.and_eq_true] at h
    rcases List.mem_cons.mp hx with e | hx
    · rw [e]; exact h.1
    · exact dks_mem h.2 x hx
theorem dk_tup {st : Sto} {xs : List D} (h : dk st (.tup xs) = true) : ∀ x ∈ xs, dk st x = true := dks_mem (by simpa only [dk] using h)
mutual
theorem dk_app {st ex : Sto} : ∀ {d : D}, dk st d = true → dk (st ++ ex) d = true
  | .tup xs, h => by simp only [dk] at h ⊢; exact dks_app h
  | .ref n, h => by simp only [dk] at h ⊢; exact kn_app h
  | .non, _ => by simp only [dk]
  | .bl _, _ => by simp only [dk]
  | .int _, _ => by simp only [dk]
  | .str _, _ => by simp only [dk]
theorem dks_app {st ex : Sto} : ∀ {ds : List D}, dks st ds = true → dks (st ++ ex) ds = true
  | [], _ => by simp only [dks]
  | d :: ds, h => by simp only [dks, Bool.and_eq_true] at h ⊢; exact ⟨dk_app h.1, dks_app h.2⟩
end
def scalD : D → Bool
  | .tup _ => false
  | .ref _ => false
  | .str x => SeqAt.shaped (.str x)
  | _ => true
def wordIn (ws : List Str) : D → Bool
  | .str x => ws.any (· == x)
  | _ => false
theorem toS_scal {st : Sto} {d : D} (h : scalD d = true) : ∃ p, toS st d = some p ∧ ∀ a : Str, PyData.eqv (.str a) p = wordIn [a] d := by
  cases d with
  | tup xs => cases h
  | ref n => cases h
  | str x =>
    have hs : SeqAt.shaped (.str x) = true := h
    refine ⟨.str x, by unfold toS; simp only [toP, hs, if_true], fun a => ?_⟩
    simp [PyData.eqv, wordIn]
  | non => exact ⟨.none, rfl, fun a => by simp [PyData.eqv, wordIn]⟩
  | bl b => exact ⟨.bool b, rfl, fun a => by simp [PyData.eqv, wordIn]⟩
  | int i => exact ⟨.int i, rfl, fun a => by simp [PyData.eqv, wordIn]⟩
theorem mapO_strs {n : Nat} {st : Sto} : ∀ ws : List Str, mapO (toP n st) (ws.map D.str) = some (ws.map PyData.str)
  | [] => rfl
  | w :: ws => by
    simp only [List.map_cons, mapO]
    rw [show toP n st (.str w) = some (.str w) by cases n <;> rfl, mapO_strs ws]
theorem in_words {st : Sto} {d : D} (ws : List Str) (h : scalD d = true) (hw : SeqAt.shaped (.tuple (ws.map PyData.str)) = true) : dIn false d (.tup (ws.map D.str)) st = .ok (.bl (wordIn ws d)) st := by
  obtain ⟨p, e, he⟩ := toS_scal (st := st) h
  have e2 : toS st (.tup (ws.map D.str)) = some (.tuple (ws.map PyData.str)) := by
    unfold toS
    simp only [toP, mapO_strs, Option.map_some, hw, if_true]
  unfold dIn
  rw [e, e2]
  simp only [itemsP]
  congr 2
  simp only [Bool.false_eq_true, if_false, List.any_map]
  clear e e2 hw
  induction ws with
  | nil => cases d <;> rfl
  | cons w ws ih =>
    simp only [List.any_cons, Function.comp_apply, he w]
    rw [ih]
    cases d <;> simp [wordIn]
def spotD (ws : List D) (words : List Str) : D → Bool
  | .tup [word, wheel, place] => wordIn words word && withinD 0 (ws.length - 1) wheel && withinD 0 (wI (ws.getD (wI wheel).toNat .non) - 1) place
  | _ => false
def momentD (n : Int) : D → Bool
  | .tup [word, rule] => wordIn ["hushed", "awake"] word && withinD 0 (n - 1) rule
  | _ => false
def condD (ws : List D) (n : Int) (d : D) : Bool := spotD ws ["is", "not", "below"] d || momentD n d
def changeD (ws : List D) (d : D) : Bool := spotD ws ["put", "turn"] d
def hushD : D → Bool
  | .tup [_, beats] => withinD 1 3 beats
  | _ => false
def fstD : D → D
  | .tup (x :: _) => x
  | _ => .non
def sndD : D → D
  | .tup (_ :: y :: _) => y
  | _ => .non
def isI : D → Bool
  | .int _ => true
  | _ => false
theorem isI_eq {d : D} (h : isI d = true) : d = .int (wI d) := by cases d <;> first | rfl | cases h
theorem all_id {α : Type} {f : α → Bool} {xs : List α} : (xs.map f).all id = xs.all f := by rw [List.all_map]; rfl
theorem atI2_1 {x y : D} : L2.atI [x, y] 1 = some y := rfl
def hushesD (n : Int) (d : D) : Bool := match d with
  | .tup xs => decide (xs.length ≤ 5) && xs.all hushD && risingD n (.tup (xs.map fstD))
  | _ => false
def memI (d : D) (xs : List D) : Bool := xs.any fun y => wI y == wI d
def wakesD (n : Int) (d : D) (hs : List D) : Bool := match d with
  | .tup xs => decide (xs.length ≤ 5) && risingD n d && !(hs.any fun h => memI (fstD h) xs)
  | _ => false
def rowD (most : Nat) : D → Bool
  | .tup xs => decide (xs.length ≤ most)
  | _ => false
theorem len2 {xs : List D} (h : xs.length = 2) : ∃ x y, xs = [x, y] := match xs, h with | [x, y], _ => ⟨x, y, rfl⟩
theorem len3 {xs : List D} (h : xs.length = 3) : ∃ x y z, xs = [x, y, z] := match xs, h with | [x, y, z], _ => ⟨x, y, z, rfl⟩
theorem len4 {xs : List D} (h : xs.length = 4) : ∃ x y z w, xs = [x, y, z, w] := match xs, h with | [x, y, z, w], _ => ⟨x, y, z, w, rfl⟩
theorem eqN {st : Sto} {n : Nat} {k : Int} {neg : Bool} : dEq neg (.int (n : Int)) (.int k) st = .ok (.bl (if neg then !decide ((n : Int) = k) else decide ((n : Int) = k))) st := by
  rw [eqI]
  congr 2
def rowI (n : Int) : D → Bool
  | .tup xs => decide ((xs.length : Int) ≤ n)
  | _ => false
def tupsD : D → List D
  | .tup xs => xs
  | _ => []
def ruleD (ws : List D) (n : Int) (d : D) : Bool := match d with
  | .tup [test, changes, hushes, wakes] => rowD 4 test && rowD 3 changes && (tupsD test).all (condD ws n) && (tupsD changes).all (changeD ws) && hushesD n hushes && wakesD n wakes (tupsD hushes)
  | _ => false
def wordsD (d : D) : Bool := match d with
  | .tup (w :: _) => scalD w
  | _ => true
def twoT : Option D → Option D → Option (List D × List D)
  | some (.tup ws), some (.tup rs) => some (ws, rs)
  | _, _ => none
def bookD (st : Sto) (d : D) : Option (List D × List D) := match d with
  | .ref n => match st[n]? with
    | some (.ins c fs) => if c = "Book" then twoT (lookF "wheels" fs) (lookF "rules" fs) else none
    | _ => none
  | _ => none
theorem twoT_inv {a b : Option D} {ws rs : List D} (h : twoT a b = some (ws, rs)) : a = some (.tup ws) ∧ b = some (.tup rs) := by
  unfold twoT at h
  split at h
  · cases h; exact ⟨rfl, rfl⟩
  · cases h
theorem bookD_at {st : Sto} {d : D} {ws rs : List D} (h : bookD st d = some (ws, rs)) : ∃ n fs, d = .ref n ∧ st[n]? = some (.ins "Book" fs) ∧ lookF "wheels" fs = some (.tup ws) ∧ lookF "rules" fs = some (.tup rs) := by
  unfold bookD at h
  split at h
  · rename_i n
    split at h
    · rename_i c fs q
      split at h
      · rename_i hc
        subst hc
        obtain ⟨h1, h2⟩ := twoT_inv h
        exact ⟨n, fs, rfl, q, h1, h2⟩
      · cases h
    · cases h
  · cases h
theorem book_wheels {st : Sto} {d : D} {ws rs : List D} (h : bookD st d = some (ws, rs)) : dFld "Book" "wheels" d st = .ok (.tup ws) st := by
  obtain ⟨n, fs, rfl, e, h1, h2⟩ := bookD_at h
  unfold dFld
  simp only [e, if_true, h1]
theorem book_rules {st : Sto} {d : D} {ws rs : List D} (h : bookD st d = some (ws, rs)) : dFld "Book" "rules" d st = .ok (.tup rs) st := by
  obtain ⟨n, fs, rfl, e, h1, h2⟩ := bookD_at h
  unfold dFld
  simp only [e, if_true, h2]
theorem atI2_0 {x y : D} : L2.atI [x, y] 0 = some x := rfl
theorem mulI {st : Sto} {i j : Int} (h0 : 0 ≤ i) (h1 : i < 18446744073709551616) : dMul (.int i) (.int j) st = .ok (.int (i * j)) st := by
  unfold dMul
  simp only
  rw [if_pos (.inl ⟨by omega, by omega⟩)]
theorem walk_prod {st : Sto} {a b : Option D} : ∀ {xs : List D}, xs.length ≤ 3 → xs.all (withinD 2 4) = true → ∃ c, startFor (gN 2) (sSet 1 (eBin dMul (eVar 1) (eVar 2))) [a, some (.int 1), b] (.fix xs) st = .nx [a, some (.int (prodD xs)), c] st
  | [], _, _ => ⟨b, rfl⟩
  | [.int i], _, h => ⟨some (.int i), by simp [startFor, runFor, Src.at, ev_gn, ev_set, ev_bin, ev_var, ev_bok, ev_tok, mulI, prodD]⟩
  | [.int i, .int j], _, h => by
    simp only [List.all_cons, List.all_nil, withinD, Bool.and_true, Bool.and_eq_true, decide_eq_true_eq] at h
    exact ⟨some (.int j), by simp [startFor, runFor, Src.at, ev_gn, ev_set, ev_bin, ev_var, ev_bok, ev_tok, mulI, mulI (i := i) (by omega) (by omega), prodD]⟩
  | [.int i, .int j, .int k], _, h => by
    simp only [List.all_cons, List.all_nil, withinD, Bool.and_true, Bool.and_eq_true, decide_eq_true_eq] at h
    have hij : 0 ≤ i * j ∧ i * j < 18446744073709551616 := by
      obtain ⟨⟨a1, a2⟩, ⟨b1, b2⟩, _⟩ := h
      have : i = 2 ∨ i = 3 ∨ i = 4 := by omega
      rcases this with rfl | rfl | rfl <;> omega
    exact ⟨some (.int k), by simp [startFor, runFor, Src.at, ev_gn, ev_set, ev_bin, ev_var, ev_bok, ev_tok, mulI, mulI (i := i) (by omega) (by omega), mulI (i := i * j) hij.1 hij.2, prodD, Int.mul_assoc]⟩
  | _ :: _ :: _ :: _ :: _, h, _ => by simp at h
  | .non :: _, _, h => by simp [withinD] at h
  | .bl _ :: _, _, h => by simp [withinD] at h
  | .str _ :: _, _, h => by simp [withinD] at h
  | .tup _ :: _, _, h => by simp [withinD] at h
  | .ref _ :: _, _, h => by simp [withinD] at h
  | [_, .non], _, h => by simp [withinD] at h
  | [_, .bl _], _, h => by simp [withinD] at h
  | [_, .str _], _, h => by simp [withinD] at h
  | [_, .tup _], _, h => by simp [withinD] at h
  | [_, .ref _], _, h => by simp [withinD] at h
  | [_, .non, _], _, h => by simp [withinD] at h
  | [_, .bl _, _], _, h => by simp [withinD] at h
  | [_, .str _, _], _, h => by simp [withinD] at h
  | [_, .tup _, _], _, h => by simp [withinD] at h
  | [_, .ref _, _], _, h => by simp [withinD] at h
  | [_, _, .non], _, h => by simp [withinD] at h
  | [_, _, .bl _], _, h => by simp [withinD] at h
  | [_, _, .str _], _, h => by simp [withinD] at h
  | [_, _, .tup _], _, h => by simp [withinD] at h
  | [_, _, .ref _], _, h => by simp [withinD] at h
theorem mk2 {st : Sto} {a b : D} : mkTup [a, b] st = .ok (.tup [a, b]) st := if_pos (show 2 ≤ most by decide)
theorem mk3 {st : Sto} {a b c : D} : mkTup [a, b, c] st = .ok (.tup [a, b, c]) st := if_pos (show 3 ≤ most by decide)
def strsOf : List D → Option (List Str)
  | [] => some []
  | .str x :: r => (strsOf r).map (x :: ·)
  | _ :: _ => none
theorem strsOf_eq : ∀ {xs : List D} {ws : List Str}, strsOf xs = some ws → xs = ws.map D.str
  | [], _, h => by cases h; rfl
  | .str x :: r, ws, h => by
    obtain ⟨vs, e, rfl⟩ := Option.map_eq_some_iff.mp (show (strsOf r).map (x :: ·) = some ws from h)
    rw [strsOf_eq e]
    rfl
  | .non :: _, _, h => by cases h
  | .bl _ :: _, _, h => by cases h
  | .int _ :: _, _, h => by cases h
  | .tup _ :: _, _, h => by cases h
  | .ref _ :: _, _, h => by cases h
theorem within_ix {n : Nat} {d : D} (h : withinD 0 ((n : Int) - 1) d = true) : ∃ j : Nat, d = .int (j : Int) ∧ j < n := by
  cases d with
  | int i =>
    simp only [withinD, Bool.and_eq_true, decide_eq_true_eq] at h
    obtain ⟨k, rfl⟩ := Int.eq_ofNat_of_zero_le h.1
    exact ⟨k, rfl, by omega⟩
  | _ => cases h
theorem hush_pair {d : D} (h : hushD d = true) : ∃ a b, d = .tup [a, b] := by
  unfold hushD at h
  split at h
  · exact ⟨_, _, rfl⟩
  · cases h
theorem any_id {α : Type} {f : α → Bool} {xs : List α} : (xs.map f).any id = xs.any f := by rw [List.any_map]; rfl
theorem dks_of {st : Sto} : ∀ {ds : List D}, (∀ x ∈ ds, dk st x = true) → dks st ds = true
  | [], _ => by simp only [dks]
  | d :: ds, h => by simp only [dks, Bool.and_eq_true]; exact ⟨h d List.mem_cons_self, dks_of fun x hx => h x (List.mem_cons_of_mem _ hx)⟩
theorem dk_of {st : Sto} {ds : List D} (h : ∀ x ∈ ds, dk st x = true) : dk st (.tup ds) = true := by simp only [dk]; exact dks_of h
theorem dk_fsts {st : Sto} {xs : List D} (hx : ∀ x ∈ xs, dk st x = true) (ha : xs.all hushD = true) : dk st (.tup (xs.map fstD)) = true := dk_of fun y hy => by
  obtain ⟨x, h1, rfl⟩ := List.mem_map.mp hy
  obtain ⟨a, b, rfl⟩ := hush_pair (List.all_eq_true.mp ha x h1)
  exact dk_tup (hx _ h1) a (by simp)
theorem rising_ints {n : Int} {xs : List D} (h : risingD n (.tup xs) = true) : xs.all isI = true := by
  simp only [risingD, Bool.and_eq_true] at h
  refine List.all_eq_true.mpr fun x hx => ?_
  have := List.all_eq_true.mp h.1 x hx
  cases x with
  | int i => rfl
  | _ => cases this
theorem mapO_ints {n : Nat} {st : Sto} : ∀ {xs : List D}, xs.all isI = true → mapO (toP n st) xs = some (xs.map fun x => PyData.int (wI x))
  | [], _ => rfl
  | x :: xs, h => by
    simp only [List.all_cons, Bool.and_eq_true] at h
    cases x with
    | int i =>
      have e : toP n st (.int i) = some (.int i) := by cases n <;> rfl
      simp only [List.map_cons, mapO, e, mapO_ints h.2]
      rfl
    | _ => cases h.1
theorem shaped_ints : ∀ (xs : List D), PyData.canLayAll0 (xs.map fun x => PyData.int (wI x)) = true ∧ PyData.depthAll (xs.map fun x => PyData.int (wI x)) = 0
  | [] => ⟨by simp [PyData.canLayAll0], by simp [PyData.depthAll]⟩
  | x :: xs => by
    obtain ⟨h1, h2⟩ := shaped_ints xs
    exact ⟨by simp [PyData.canLayAll0, PyData.canLay0, h1], by simp [PyData.depthAll, PyData.depth, h2]⟩
theorem toS_ints {st : Sto} {xs : List D} (h : xs.all isI = true) : toS st (.tup xs) = some (.tuple (xs.map fun x => PyData.int (wI x))) := by
  obtain ⟨h1, h2⟩ := shaped_ints xs
  have hs : SeqAt.shaped (.tuple (xs.map fun x => PyData.int (wI x))) = true := by
    unfold SeqAt.shaped
    simp [PyData.canLay0, h1, PyData.depth, h2]
  unfold toS
  simp only [toP, mapO_ints h, Option.map_some, hs, if_true]
theorem in_ints {st : Sto} {xs : List D} {i : Int} (h : xs.all isI = true) : dIn false (.int i) (.tup xs) st = .ok (.bl (memI (.int i) xs)) st := by
  unfold dIn
  rw [toS_ints h, show toS st (.int i) = some (.int i) from rfl]
  simp only [itemsP, memI, wI, Bool.false_eq_true, if_false, List.any_map]
  congr 2
def ruleWords : D → Bool
  | .tup [ts, cs, _, _] => (tupsD ts).all wordsD && (tupsD cs).all wordsD
  | _ => true
theorem row_inv {n : Nat} {d : D} (h : rowD n d = true) : ∃ xs, d = .tup xs ∧ xs.length ≤ n := by
  cases d with
  | tup xs => exact ⟨xs, rfl, of_decide_eq_true h⟩
  | _ => cases h
theorem hushes_inv {n : Int} {d : D} (h : hushesD n d = true) : ∃ xs, d = .tup xs ∧ xs.length ≤ most ∧ (xs.all fun h => hushD h && isI (fstD h)) = true := by
  cases d with
  | tup xs =>
    simp only [hushesD, Bool.and_eq_true, decide_eq_true_eq] at h
    obtain ⟨⟨h1, h2⟩, h3⟩ := h
    refine ⟨xs, rfl, Nat.le_trans h1 (by decide), List.all_eq_true.mpr fun x hx => ?_⟩
    have q1 := List.all_eq_true.mp h2 x hx
    have q2 := List.all_eq_true.mp (rising_ints h3) (fstD x) (List.mem_map_of_mem hx)
    rw [q1, q2]
    rfl
  | _ => cases h
end U
set_option Elab.async false
set_option linter.all false
set_option maxRecDepth 100000
set_option maxHeartbeats 1000000
namespace U
open PySem
def wr (n : Nat) (f : List D → Sto → Option (D × Sto)) : Fm := fun ds st => if ds.length = n then (match f ds st with
  | some (d, st1) => .ok d st1
  | none => .fail) else .fail
theorem wr_ar {n : Nat} {f : List D → Sto → Option (D × Sto)} : Arity n (wr n f) := fun ds st h => if_neg h
theorem wr_ok {n : Nat} {f : List D → Sto → Option (D × Sto)} {ds : List D} {st st1 : Sto} {d : D} (hl : ds.length = n) (h : f ds st = some (d, st1)) : wr n f ds st = .ok d st1 := by
  unfold wr
  rw [if_pos hl, h]
theorem Tells.wr {m : Fm} {n : Nat} {f : List D → Sto → Option (D × Sto)} (h : ∀ ds st d st1, Good st → Bnds st.length ds → ds.length = n → f ds st = some (d, st1) → st1.length = st.length ∧ Good st1 ∧ Bnd st1.length d ∧ ∃ ex, m ds st = .ok d (st1 ++ ex)) : Tells m (U.wr n f) where
  ok := fun ds st d st1 g b e => by
    unfold U.wr at e
    split at e
    · rename_i hl
      split at e
      · rename_i d' st1' q
        cases e
        obtain ⟨h0, h1, h2, ex, h3⟩ := h ds st d st1 g b hl q
        refine ⟨h1, h2, id, st1 ++ ex, by rw [ren_id]; exact h3, by omega, fun _ _ => rfl, fun _ _ _ _ h => h, fun i o h => ?_⟩
        rw [renO_id]
        show (st1 ++ ex)[i]? = some o
        rw [List.getElem?_append_left (List.getElem?_eq_some_iff.mp h).1]
        exact h
      · cases e
    · cases e
  err := fun ds st c fs st1 g b e => by
    unfold U.wr at e
    split at e
    · split at e <;> cases e
    · cases e
theorem good_set {st : Sto} {k : Nat} {o : Ob} (g : Good st) (h : BndO st.length o) : Good (st.set k o) := fun i p e => by
  rw [List.length_set]
  by_cases hi : k = i
  · subst hi
    by_cases hl : k < st.length
    · rw [List.getElem?_set_self hl] at e; cases e; exact h
    · rw [List.getElem?_eq_none (by simp; omega)] at e; cases e
  · rw [List.getElem?_set_ne hi] at e
    exact g i p e
def bookO (ws rs : List D) : Ob := .ins "Book" [("wheels", .tup ws), ("rules", .tup rs)]
theorem wheels_ints {ws : List D} (h : wheelsD (.tup ws) = true) : ws.all isI = true := by
  simp only [wheelsD, Bool.and_eq_true] at h
  refine List.all_eq_true.mpr fun x hx => ?_
  have := List.all_eq_true.mp h.1.2 x hx
  cases x with
  | int i => rfl
  | _ => cases this
theorem runFor_J {s : Src} {g : GM} {body : SM} {xs : List D} (J : Nat → Ev → Sto → Prop) (hat : ∀ i env st, J i env st → s.at st = some xs)
    (h : ∀ i x env st, xs[i]? = some x → J i env st → ∃ env1 st1 env2 st2, g x env st = some (env1, st1) ∧ body env1 st1 = .nx env2 st2 ∧ J (i + 1) env2 st2) :
    ∀ (k i : Nat) (env : Ev) (st : Sto), xs.length = i + k → J i env st → ∃ env' st', runFor s g body (k + 1) i env st = .nx env' st' ∧ J xs.length env' st'
  | 0, i, env, st, hk, hJ => by
    have e : i = xs.length := by omega
    subst e
    refine ⟨env, st, ?_, hJ⟩
    unfold runFor
    simp only [hat _ _ _ hJ]
    rw [List.getElem?_eq_none (Nat.le_refl _)]
  | k + 1, i, env, st, hk, hJ => by
    have hi : i < xs.length := by omega
    obtain ⟨env1, st1, env2, st2, h1, h2, h3⟩ := h i xs[i] env st (List.getElem?_eq_getElem hi) hJ
    obtain ⟨env', st', h4, h5⟩ := runFor_J J hat h k (i + 1) env2 st2 (by omega) h3
    refine ⟨env', st', ?_, h5⟩
    unfold runFor
    simp only [hat _ _ _ hJ]
    rw [List.getElem?_eq_getElem hi]
    simp only [h1, h2]
    exact h4
theorem startFor_J {s : Src} {g : GM} {body : SM} {xs : List D} {env : Ev} {st : Sto} (J : Nat → Ev → Sto → Prop) (hat : ∀ i env st, J i env st → s.at st = some xs) (h0 : J 0 env st)
    (h : ∀ i x env st, xs[i]? = some x → J i env st → ∃ env1 st1 env2 st2, g x env st = some (env1, st1) ∧ body env1 st1 = .nx env2 st2 ∧ J (i + 1) env2 st2) : ∃ env' st', startFor g body env s st = .nx env' st' ∧ J xs.length env' st' := by
  unfold startFor
  rw [hat 0 env st h0]
  exact runFor_J J hat h xs.length 0 env st (by omega) h0
theorem startFor_inv {s : Src} {g : GM} {body : SM} {st : Sto} {xs : List D} {env : Ev} (hs : s.at st = some xs) (I : Ev → Prop) (h0 : I env)
    (h : ∀ x ∈ xs, ∀ env, I env → ∃ env1 env2, g x env st = some (env1, st) ∧ body env1 st = .nx env2 st ∧ I env2) : ∃ env', startFor g body env s st = .nx env' st ∧ I env' := by
  obtain ⟨env', st', h1, h2, h3⟩ := startFor_J (s := s) (g := g) (body := body) (xs := xs) (env := env) (st := st) (fun _ e s' => I e ∧ s' = st) (fun _ _ _ hJ => by rw [hJ.2]; exact hs) ⟨h0, rfl⟩ fun i x e s' hx hJ => by
    obtain ⟨hI, rfl⟩ := hJ
    obtain ⟨env1, env2, q1, q2, q3⟩ := h x (List.mem_of_getElem? hx) e hI
    exact ⟨env1, s', env2, s', q1, q2, q3, rfl⟩
  subst h3
  exact ⟨env', h1, h2⟩
theorem setFld_ok {st : Sto} {k : Nat} {c f : Str} {fs : List (Str × D)} {d : D} {env : Ev} (h : st[k]? = some (.ins c fs)) (hl : fs.length < 400) : setFld c f (.ref k) d env st = .nx env (st.set k (.ins c (putD f d fs))) := by
  unfold setFld
  simp only [h]
  rw [if_pos (by simp [hl])]
theorem get_set {st : Sto} {k : Nat} {o : Ob} (h : k < st.length) : (st.set k o)[k]? = some o := List.getElem?_set_self h
theorem book_put (ws rs : List D) : Ob.ins "Book" (putD "rules" (.tup rs) (putD "wheels" (.tup ws) [])) = bookO ws rs := by
  unfold bookO
  simp only [putD]
  rw [if_neg (by decide)]
theorem bookO_at {st : Sto} {k : Nat} {ws rs : List D} (h : st[k]? = some (bookO ws rs)) : bookD st (.ref k) = some (ws, rs) := by
  unfold bookD
  simp only [h, bookO, if_true, lookF]
  rw [if_neg (by decide)]
  rfl
end U
set_option Elab.async false
set_option linter.all false
set_option maxRecDepth 100000
set_option maxHeartbeats 1000000
namespace U
open PySem
mutual
theorem ren_old {n : Nat} {ρ : Nat → Nat} (h : ∀ i, i < n → ρ i = i) : ∀ {d : D}, Bnd n d → ren ρ d = d
  | .tup xs, b => by simp only [Bnd] at b; simp only [ren]; rw [rens_old h b]
  | .ref k, b => by simp only [Bnd] at b; simp only [ren]; rw [h k b]
  | .non, _ => by simp only [ren]
  | .bl _, _ => by simp only [ren]
  | .int _, _ => by simp only [ren]
  | .str _, _ => by simp only [ren]
theorem rens_old {n : Nat} {ρ : Nat → Nat} (h : ∀ i, i < n → ρ i = i) : ∀ {ds : List D}, Bnds n ds → rens ρ ds = ds
  | [], _ => by simp only [rens]
  | d :: ds, b => by simp only [Bnds] at b; simp only [rens]; rw [ren_old h b.1, rens_old h b.2]
end
theorem renO_old {n : Nat} {ρ : Nat → Nat} (h : ∀ i, i < n → ρ i = i) {o : Ob} (b : BndO n o) : renO ρ o = o := by
  cases o with
  | lst xs => simp only [renO]; rw [rens_old h b]
  | rol xs => simp only [renO]; rw [rens_old h b]
  | fzt xs => simp only [renO]; rw [rens_old h b]
  | tab P q => rfl
  | exc p d cl c fs =>
    simp only [renO]
    congr 1
    have b' : Bnds n (fs.map (·.2)) := b
    clear b
    induction fs with
    | nil => rfl
    | cons p fs ih =>
      simp only [List.map_cons, Bnds] at b'
      rw [List.map_cons, ren_old h b'.1, ih b'.2]
  | kst xs => simp only [renO]; rw [rens_old h b]
  | ins c fs =>
    simp only [renO]
    congr 1
    have b' : Bnds n (fs.map (·.2)) := b
    clear b
    induction fs with
    | nil => rfl
    | cons p fs ih =>
      simp only [List.map_cons, Bnds] at b'
      rw [List.map_cons, ren_old h b'.1, ih b'.2]
  | dct kvs =>
    simp only [renO]
    congr 1
    obtain ⟨b1, b2⟩ := b
    induction kvs with
    | nil => rfl
    | cons p kvs ih =>
      simp only [List.map_cons, Bnds] at b1 b2
      rw [List.map_cons, ren_old h b1.1, ren_old h b2.1, ih b1.2 b2.2]
  | dcl kvs =>
    simp only [renO]
    congr 1
    obtain ⟨b1, b2⟩ := b
    induction kvs with
    | nil => rfl
    | cons p kvs ih =>
      simp only [List.map_cons, Bnds] at b1 b2
      rw [List.map_cons, ren_old h b1.1, ren_old h b2.1, ih b1.2 b2.2]
mutual
theorem Bnd.mono {n k : Nat} (h : n ≤ k) : ∀ {d : D}, Bnd n d → Bnd k d
  | .tup xs, b => by simp only [Bnd] at b ⊢; exact Bnds.mono h b
  | .ref i, b => by simp only [Bnd] at b ⊢; omega
  | .non, _ => by simp only [Bnd]
  | .bl _, _ => by simp only [Bnd]
  | .int _, _ => by simp only [Bnd]
  | .str _, _ => by simp only [Bnd]
theorem Bnds.mono {n k : Nat} (h : n ≤ k) : ∀ {ds : List D}, Bnds n ds → Bnds k ds
  | [], _ => by simp only [Bnds]
  | d :: ds, b => by simp only [Bnds] at b ⊢; exact ⟨Bnd.mono h b.1, Bnds.mono h b.2⟩
end
theorem BndO.mono {n k : Nat} (h : n ≤ k) {o : Ob} (b : BndO n o) : BndO k o := by
  cases o with
  | lst xs => exact Bnds.mono h b
  | rol xs => exact Bnds.mono h b
  | fzt xs => exact Bnds.mono h b
  | tab P q => trivial
  | exc p d cl c fs => exact Bnds.mono h b
  | kst xs => exact Bnds.mono h b
  | ins c fs => exact Bnds.mono h b
  | dct kvs => exact ⟨Bnds.mono h b.1, Bnds.mono h b.2⟩
  | dcl kvs => exact ⟨Bnds.mono h b.1, Bnds.mono h b.2⟩
def nw (n : Nat) (f : List D → Sto → Option Ob) : Fm := fun ds st => if ds.length = n then (match f ds st with
  | some o => .ok (.ref st.length) (st ++ [o])
  | none => .fail) else .fail
theorem nw_ar {n : Nat} {f : List D → Sto → Option Ob} : Arity n (nw n f) := fun ds st h => if_neg h
theorem nw_ok {n : Nat} {f : List D → Sto → Option Ob} {ds : List D} {st : Sto} {o : Ob} (hl : ds.length = n) (h : f ds st = some o) : nw n f ds st = .ok (.ref st.length) (st ++ [o]) := by
  unfold nw
  rw [if_pos hl, h]
theorem Tells.nw {m : Fm} {n : Nat} {f : List D → Sto → Option Ob} (h : ∀ ds st o, Good st → Bnds st.length ds → ds.length = n → f ds st = some o → BndO st.length o ∧ ∃ ex j, ex[j]? = some o ∧ m ds st = .ok (.ref (st.length + j)) (st ++ ex)) : Tells m (U.nw n f) where
  ok := fun ds st d st1 g b e => by
    unfold U.nw at e
    split at e
    · rename_i hl
      split at e
      · rename_i o q
        cases e
        obtain ⟨h1, ex, j, h2, h3⟩ := h ds st o g b hl q
        have old : ∀ i, i < st.length → (fun i => if i < st.length then i else st.length + j) i = i := fun i hi => if_pos hi
        refine ⟨fun i p e => ?_, by simp only [Bnd]; simp, fun i => if i < st.length then i else st.length + j, st ++ ex, ?_, ?_⟩
        · by_cases hi : i < st.length
          · rw [List.getElem?_append_left hi] at e
            exact (g i p e).mono (by simp)
          · have hi2 : i < (st ++ [o]).length := (List.getElem?_eq_some_iff.mp e).1
            have : i = st.length := by simp at hi2; omega
            subst this
            simp at e
            subst e
            exact h1.mono (by simp)
        · simp only [ren]
          rw [if_neg (Nat.lt_irrefl _)]
          exact h3
        · refine ⟨by simp, old, fun i k hi hk e => ?_, fun i p e => ?_⟩
          · simp at hi hk
            have e' : (if i < st.length then i else st.length + j) = (if k < st.length then k else st.length + j) := e
            split at e' <;> split at e' <;> omega
          · by_cases hi : i < st.length
            · rw [List.getElem?_append_left hi] at e
              show (st ++ ex)[if i < st.length then i else st.length + j]? = _
              rw [if_pos hi, List.getElem?_append_left hi, e, renO_old old (g i p e)]
            · have hi2 : i < (st ++ [o]).length := (List.getElem?_eq_some_iff.mp e).1
              have : i = st.length := by simp at hi2; omega
              subst this
              simp at e
              subst e
              show (st ++ ex)[if st.length < st.length then st.length else st.length + j]? = _
              rw [if_neg (Nat.lt_irrefl _), List.getElem?_append_right (by omega), renO_old old h1]
              simpa using h2
      · cases e
    · cases e
  err := fun ds st c fs st1 g b e => by
    unfold U.nw at e
    split at e
    · split at e <;> cases e
    · cases e
theorem ixS {st : Sto} {v d : D} {vs : List D} {i : Int} (h : seqOf st v = some vs) (ha : L2.atI vs i = some d) : dIx v (.int i) st = .ok d st := by
  unfold dIx
  rw [h]
  simp only [ha]
def soO (c : D) (vs ls : List D) : Option Bool := match c with
  | .tup [.str w, .int r] => match L2.atI ls r with
    | some (.int i) => if w = "hushed" then some (decide (0 < i)) else if w = "awake" then some (i == 0) else none
    | _ => none
  | .tup [.str w, .int x, .int p] => match L2.atI vs x with
    | some (.int i) => if w = "is" then some (i == p) else if w = "not" then some (!(i == p)) else if w = "below" then some (decide (i < p)) else none
    | _ => none
  | _ => none
theorem strEq {st : Sto} (a b : Str) (ha : SeqAt.shaped (.str a) = true) (hb : SeqAt.shaped (.str b) = true) : dEq false (.str a) (.str b) st = .ok (.bl (a == b)) st := by
  unfold dEq toS
  simp only [toP, ha, hb, if_true, PyData.eqv, Bool.false_eq_true, if_false]
def readyO (rs : List D) (r : Int) (vs ls : List D) : Option Bool := match L2.atI ls r, L2.atI rs r with
  | some (.int i), some (.tup [.tup cs, _, _, _]) => if 0 < i then some false else if (cs.all fun c => (soO c vs ls).isSome) = true then some (cs.all fun c => soO c vs ls == some true) else none
  | _, _ => none
end U
set_option Elab.async false
set_option linter.all false
set_option maxRecDepth 100000
set_option maxHeartbeats 1000000
namespace U
open PySem
def lst3 (g x c : Int) : Ob := .lst [.int g, .int x, .int c]
def takeX (x c : Int) : Int := (x * 48271 + 7919 * (c + 1) * (c + 1) + 11) % 2147483647
def takeD (g x c many : Int) : Int := if 0 < g then g % many else (takeX x c / 8) ^ 3 % 2147483629 % many
def takeO (g x c many : Int) : Ob := if 0 < g then lst3 (g / many) x c else lst3 g (takeX x c) (c + 1)
def int3 (o : Ob) : Option (Int × Int × Int) := match o with
  | .lst [.int g, .int x, .int c] => some (g, x, c)
  | _ => none
theorem int3_eq {o : Ob} {g x c : Int} (h : int3 o = some (g, x, c)) : o = lst3 g x c := by
  unfold int3 at h
  split at h
  · cases h; rfl
  · cases h
def CtOk (x c : Int) : Prop := 0 ≤ x ∧ x < 2147483647 ∧ 0 ≤ c ∧ c < 1000000000
instance (x c : Int) : Decidable (CtOk x c) := inferInstanceAs (Decidable (_ ∧ _ ∧ _ ∧ _))
def s_take : Fm := wr 2 fun ds st => match ds with
  | [.ref k, .int many] => match (st[k]?).bind int3 with
    | some (g, x, c) => if CtOk x c ∧ 0 < many ∧ many < 1000000000000000000000000000000000000000000000000000000000001 then some (.int (takeD g x c many), st.set k (takeO g x c many)) else none
    | none => none
  | _ => none
theorem take_of {st : Sto} {k : Nat} {g x c many : Int} (h : st[k]? = some (lst3 g x c)) (hc : CtOk x c) (h0 : 0 < many) (h1 : many < 1000000000000000000000000000000000000000000000000000000000001) : s_take [.ref k, .int many] st = .ok (.int (takeD g x c many)) (st.set k (takeO g x c many)) := by
  refine wr_ok rfl ?_
  show (match (st[k]?).bind int3 with | some (g, x, c) => if CtOk x c ∧ 0 < many ∧ many < 1000000000000000000000000000000000000000000000000000000000001 then some (D.int (takeD g x c many), st.set k (takeO g x c many)) else none | none => none) = _
  rw [h]
  show (if CtOk x c ∧ 0 < many ∧ many < 1000000000000000000000000000000000000000000000000000000000001 then some (D.int (takeD g x c many), st.set k (takeO g x c many)) else none) = _
  rw [if_pos ⟨hc, h0, h1⟩]
theorem take_range {g x c many : Int} (h0 : 0 < many) : 0 ≤ takeD g x c many ∧ takeD g x c many < many := by
  unfold takeD
  split
  · exact ⟨Int.emod_nonneg _ (by omega), Int.emod_lt_of_pos _ h0⟩
  · exact ⟨Int.emod_nonneg _ (by omega), Int.emod_lt_of_pos _ h0⟩
theorem takeX_range {x c : Int} : 0 ≤ takeX x c ∧ takeX x c < 2147483647 := ⟨Int.emod_nonneg _ (by decide), Int.emod_lt_of_pos _ (by decide)⟩
theorem take_next {g x c many : Int} (hc : CtOk x c) (h : c + 1 < 1000000000) : ∃ g' x' c', takeO g x c many = lst3 g' x' c' ∧ CtOk x' c' ∧ c' ≤ c + 1 := by
  unfold takeO
  split
  · exact ⟨_, _, _, rfl, hc, by omega⟩
  · exact ⟨_, _, _, rfl, ⟨takeX_range.1, takeX_range.2, by have := hc.2.2.1; omega, h⟩, Int.le_refl _⟩
theorem ev_gset {env : Ev} {st : Sto} {i k jn : Nat} {xs : List D} {j : Int} {d : D} (he : env[i]? = some (some (.ref k))) (hk : st[k]? = some (.lst xs)) (hj : L2.ixN xs.length j = some jn) :
    gSet (eVar i) (eC (.int j)) d env st = some (env, st.set k (.lst (xs.set jn d))) := by
  unfold gSet eVar eC
  rw [he]
  simp only [R.bind, hk, hj]
theorem lst_at {st : Sto} {k : Nat} {xs : List D} (h : st[k]? = some (.lst xs)) : seqOf st (.ref k) = some xs := by
  unfold seqOf lstOf
  simp only [h]
theorem modI {st : Sto} {i j : Int} (h : 0 < j) : dMod (.int i) (.int j) st = .ok (.int (i % j)) st := if_pos h
theorem divI {st : Sto} {i j : Int} (h : 0 < j) (h2 : j < 1000000000000000000000000000000000000000000000000000000000001) : dDiv (.int i) (.int j) st = .ok (.int (i / j)) st := if_pos ⟨h, h2⟩
theorem powI {st : Sto} {i j : Int} (h : 0 ≤ j) (h2 : j ≤ 1000000) (h3 : i.natAbs < 18446744073709551616) : dPow (.int i) (.int j) st = .ok (.int (i ^ j.toNat)) st := if_pos ⟨h, h2, h3⟩
theorem bag_take {st : Sto} {k : Nat} {g x c many : Int} {m : Fm}
    (body : SM) (hm : m = mkFn 2 3 body)
    (hb : body = sSeq (sIf (tOf (eBin dGt (eBin dIx (eVar 0) (eC (.int 0))) (eC (.int 0)))) (sSeq (sSet 2 (eBin dMod (eBin dIx (eVar 0) (eC (.int 0))) (eVar 1))) (sSeq (sAsg (eBin dDiv (eBin dIx (eVar 0) (eC (.int 0))) (eVar 1)) (gSet (eVar 0) (eC (.int 0)))) (sRet (eVar 2)))) sSkip)
      (sSeq (sAsg (eBin dAdd (eBin dIx (eVar 0) (eC (.int 2))) (eC (.int 1))) (gSet (eVar 0) (eC (.int 2))))
      (sSeq (sAsg (eBin dMod (eBin dAdd (eBin dAdd (eBin dMul (eBin dIx (eVar 0) (eC (.int 1))) (eC (.int 48271))) (eBin dMul (eBin dMul (eC (.int 7919)) (eBin dIx (eVar 0) (eC (.int 2)))) (eBin dIx (eVar 0) (eC (.int 2))))) (eC (.int 11))) (eC (.int 2147483647))) (gSet (eVar 0) (eC (.int 1))))
      (sRet (eBin dMod (eBin dMod (eBin dPow (eBin dDiv (eBin dIx (eVar 0) (eC (.int 1))) (eC (.int 8))) (eC (.int 3))) (eC (.int 2147483629))) (eVar 1))))))
    (h : st[k]? = some (lst3 g x c)) (hc : CtOk x c) (h0 : 0 < many) (h1 : many < 1000000000000000000000000000000000000000000000000000000000001) : m [.ref k, .int many] st = .ok (.int (takeD g x c many)) (st.set k (takeO g x c many)) := by
  have hk : k < st.length := (List.getElem?_eq_some_iff.mp h).1
  have a0 := ixS (st := st) (v := .ref k) (i := 0) (d := .int g) (lst_at h) rfl
  have a2 := ixS (st := st) (v := .ref k) (i := 2) (d := .int c) (lst_at h) rfl
  subst hm hb
  by_cases hg : 0 < g
  · simp only [ev_var, ev_c, ev_un, ev_bin, ev_anil, ev_acons, ev_fn, ev_tof, ev_tob, ev_tand, ev_tor, ev_tnot, ev_and, ev_or, ev_not, ev_if, ev_chain, ev_true, ev_slice, ev_onone, ev_osome, ev_iseq, ev_irng, ev_ienum, ev_ibin, ev_lc, ev_skip, ev_never, ev_seq, ev_ret, ev_sif, ev_set, ev_expr, ev_asg, ev_par, ev_for, ev_fld, ev_gn, ev_gsnil, ev_gscons, ev_gt, ev_mkfn, ev_bok, ev_berr, ev_bfail, ev_tok, ev_hok, ev_ert, ev_enx, ev_wn, ev_wc, ev_e0, ev_sseq, ev_senum, ev_szip, ev_sltup, ev_ltI, ev_leI, ev_gtI, ev_geI, ev_subI, ev_addI, ev_lenT, List.map_cons, List.map_nil, List.length_cons, List.length_nil, List.cons_append, List.nil_append, List.append_nil, List.getElem?_cons_zero, List.getElem?_cons_succ, List.set_cons_zero, List.set_cons_succ, List.replicate_succ, List.replicate_zero, Nat.reduceAdd, Nat.reduceSub, Nat.reduceEqDiff, reduceIte, Bool.true_eq_false, Bool.false_eq_true, if_true, if_false, a0, decide_eq_true hg, modI h0, divI h0 h1]
    rw [ev_gset rfl h (jn := 0) rfl]
    simp only [ev_var, ev_c, ev_un, ev_bin, ev_anil, ev_acons, ev_fn, ev_tof, ev_tob, ev_tand, ev_tor, ev_tnot, ev_and, ev_or, ev_not, ev_if, ev_chain, ev_true, ev_slice, ev_onone, ev_osome, ev_iseq, ev_irng, ev_ienum, ev_ibin, ev_lc, ev_skip, ev_never, ev_seq, ev_ret, ev_sif, ev_set, ev_expr, ev_asg, ev_par, ev_for, ev_fld, ev_gn, ev_gsnil, ev_gscons, ev_gt, ev_mkfn, ev_bok, ev_berr, ev_bfail, ev_tok, ev_hok, ev_ert, ev_enx, ev_wn, ev_wc, ev_e0, ev_sseq, ev_senum, ev_szip, ev_sltup, ev_ltI, ev_leI, ev_gtI, ev_geI, ev_subI, ev_addI, ev_lenT, List.map_cons, List.map_nil, List.length_cons, List.length_nil, List.cons_append, List.nil_append, List.append_nil, List.getElem?_cons_zero, List.getElem?_cons_succ, List.set_cons_zero, List.set_cons_succ, List.replicate_succ, List.replicate_zero, Nat.reduceAdd, Nat.reduceSub, Nat.reduceEqDiff, reduceIte, Bool.true_eq_false, Bool.false_eq_true, if_true, if_false]
    unfold takeD takeO
    rw [if_pos hg, if_pos hg]
    rfl
  · obtain ⟨c1, c2, c3, c4⟩ := hc
    simp only [ev_var, ev_c, ev_un, ev_bin, ev_anil, ev_acons, ev_fn, ev_tof, ev_tob, ev_tand, ev_tor, ev_tnot, ev_and, ev_or, ev_not, ev_if, ev_chain, ev_true, ev_slice, ev_onone, ev_osome, ev_iseq, ev_irng, ev_ienum, ev_ibin, ev_lc, ev_skip, ev_never, ev_seq, ev_ret, ev_sif, ev_set, ev_expr, ev_asg, ev_par, ev_for, ev_fld, ev_gn, ev_gsnil, ev_gscons, ev_gt, ev_mkfn, ev_bok, ev_berr, ev_bfail, ev_tok, ev_hok, ev_ert, ev_enx, ev_wn, ev_wc, ev_e0, ev_sseq, ev_senum, ev_szip, ev_sltup, ev_ltI, ev_leI, ev_gtI, ev_geI, ev_subI, ev_addI, ev_lenT, List.map_cons, List.map_nil, List.length_cons, List.length_nil, List.cons_append, List.nil_append, List.append_nil, List.getElem?_cons_zero, List.getElem?_cons_succ, List.set_cons_zero, List.set_cons_succ, List.replicate_succ, List.replicate_zero, Nat.reduceAdd, Nat.reduceSub, Nat.reduceEqDiff, reduceIte, Bool.true_eq_false, Bool.false_eq_true, if_true, if_false, a0, decide_eq_false hg, a2]
    rw [ev_gset rfl h (jn := 2) rfl]
    simp only [ev_var, ev_c, ev_un, ev_bin, ev_anil, ev_acons, ev_fn, ev_tof, ev_tob, ev_tand, ev_tor, ev_tnot, ev_and, ev_or, ev_not, ev_if, ev_chain, ev_true, ev_slice, ev_onone, ev_osome, ev_iseq, ev_irng, ev_ienum, ev_ibin, ev_lc, ev_skip, ev_never, ev_seq, ev_ret, ev_sif, ev_set, ev_expr, ev_asg, ev_par, ev_for, ev_fld, ev_gn, ev_gsnil, ev_gscons, ev_gt, ev_mkfn, ev_bok, ev_berr, ev_bfail, ev_tok, ev_hok, ev_ert, ev_enx, ev_wn, ev_wc, ev_e0, ev_sseq, ev_senum, ev_szip, ev_sltup, ev_ltI, ev_leI, ev_gtI, ev_geI, ev_subI, ev_addI, ev_lenT, List.map_cons, List.map_nil, List.length_cons, List.length_nil, List.cons_append, List.nil_append, List.append_nil, List.getElem?_cons_zero, List.getElem?_cons_succ, List.set_cons_zero, List.set_cons_succ, List.replicate_succ, List.replicate_zero, Nat.reduceAdd, Nat.reduceSub, Nat.reduceEqDiff, reduceIte, Bool.true_eq_false, Bool.false_eq_true, if_true, if_false]
    obtain ⟨st1, hs1⟩ : ∃ s, s = st.set k (.lst [D.int g, .int x, .int (c + 1)]) := ⟨_, rfl⟩
    rw [← hs1]
    have hk1 : k < st1.length := by rw [hs1, List.length_set]; exact hk
    have e1 : st1[k]? = some (.lst [D.int g, .int x, .int (c + 1)]) := by rw [hs1]; exact get_set hk
    have b1 := ixS (st := st1) (v := .ref k) (i := 1) (d := .int x) (lst_at e1) rfl
    have b2 := ixS (st := st1) (v := .ref k) (i := 2) (d := .int (c + 1)) (lst_at e1) rfl
    simp only [ev_var, ev_c, ev_un, ev_bin, ev_anil, ev_acons, ev_fn, ev_tof, ev_tob, ev_tand, ev_tor, ev_tnot, ev_and, ev_or, ev_not, ev_if, ev_chain, ev_true, ev_slice, ev_onone, ev_osome, ev_iseq, ev_irng, ev_ienum, ev_ibin, ev_lc, ev_skip, ev_never, ev_seq, ev_ret, ev_sif, ev_set, ev_expr, ev_asg, ev_par, ev_for, ev_fld, ev_gn, ev_gsnil, ev_gscons, ev_gt, ev_mkfn, ev_bok, ev_berr, ev_bfail, ev_tok, ev_hok, ev_ert, ev_enx, ev_wn, ev_wc, ev_e0, ev_sseq, ev_senum, ev_szip, ev_sltup, ev_ltI, ev_leI, ev_gtI, ev_geI, ev_subI, ev_addI, ev_lenT, List.map_cons, List.map_nil, List.length_cons, List.length_nil, List.cons_append, List.nil_append, List.append_nil, List.getElem?_cons_zero, List.getElem?_cons_succ, List.set_cons_zero, List.set_cons_succ, List.replicate_succ, List.replicate_zero, Nat.reduceAdd, Nat.reduceSub, Nat.reduceEqDiff, reduceIte, Bool.true_eq_false, Bool.false_eq_true, if_true, if_false, b1, b2, mulI (i := x) (j := 48271) c1 (by omega), mulI (i := 7919) (j := c + 1) (by omega) (by omega), mulI (i := 7919 * (c + 1)) (j := c + 1) (by omega) (by omega), modI (j := 2147483647) (by decide)]
    rw [ev_gset rfl e1 (jn := 1) rfl]
    simp only [ev_var, ev_c, ev_un, ev_bin, ev_anil, ev_acons, ev_fn, ev_tof, ev_tob, ev_tand, ev_tor, ev_tnot, ev_and, ev_or, ev_not, ev_if, ev_chain, ev_true, ev_slice, ev_onone, ev_osome, ev_iseq, ev_irng, ev_ienum, ev_ibin, ev_lc, ev_skip, ev_never, ev_seq, ev_ret, ev_sif, ev_set, ev_expr, ev_asg, ev_par, ev_for, ev_fld, ev_gn, ev_gsnil, ev_gscons, ev_gt, ev_mkfn, ev_bok, ev_berr, ev_bfail, ev_tok, ev_hok, ev_ert, ev_enx, ev_wn, ev_wc, ev_e0, ev_sseq, ev_senum, ev_szip, ev_sltup, ev_ltI, ev_leI, ev_gtI, ev_geI, ev_subI, ev_addI, ev_lenT, List.map_cons, List.map_nil, List.length_cons, List.length_nil, List.cons_append, List.nil_append, List.append_nil, List.getElem?_cons_zero, List.getElem?_cons_succ, List.set_cons_zero, List.set_cons_succ, List.replicate_succ, List.replicate_zero, Nat.reduceAdd, Nat.reduceSub, Nat.reduceEqDiff, reduceIte, Bool.true_eq_false, Bool.false_eq_true, if_true, if_false]
    obtain ⟨st2, hs2⟩ : ∃ s, s = st1.set k (.lst [D.int g, .int ((x * 48271 + 7919 * (c + 1) * (c + 1) + 11) % 2147483647), .int (c + 1)]) := ⟨_, rfl⟩
    rw [← hs2]
    have e2 : st2[k]? = some (.lst [D.int g, .int (takeX x c), .int (c + 1)]) := by rw [hs2]; exact get_set hk1
    have b3 := ixS (st := st2) (v := .ref k) (i := 1) (d := .int (takeX x c)) (lst_at e2) rfl
    have hx := takeX_range (x := x) (c := c)
    have hx8 : (takeX x c / 8).natAbs < 18446744073709551616 := by omega
    simp only [ev_var, ev_c, ev_un, ev_bin, ev_anil, ev_acons, ev_fn, ev_tof, ev_tob, ev_tand, ev_tor, ev_tnot, ev_and, ev_or, ev_not, ev_if, ev_chain, ev_true, ev_slice, ev_onone, ev_osome, ev_iseq, ev_irng, ev_ienum, ev_ibin, ev_lc, ev_skip, ev_never, ev_seq, ev_ret, ev_sif, ev_set, ev_expr, ev_asg, ev_par, ev_for, ev_fld, ev_gn, ev_gsnil, ev_gscons, ev_gt, ev_mkfn, ev_bok, ev_berr, ev_bfail, ev_tok, ev_hok, ev_ert, ev_enx, ev_wn, ev_wc, ev_e0, ev_sseq, ev_senum, ev_szip, ev_sltup, ev_ltI, ev_leI, ev_gtI, ev_geI, ev_subI, ev_addI, ev_lenT, List.map_cons, List.map_nil, List.length_cons, List.length_nil, List.cons_append, List.nil_append, List.append_nil, List.getElem?_cons_zero, List.getElem?_cons_succ, List.set_cons_zero, List.set_cons_succ, List.replicate_succ, List.replicate_zero, Nat.reduceAdd, Nat.reduceSub, Nat.reduceEqDiff, reduceIte, Bool.true_eq_false, Bool.false_eq_true, if_true, if_false, b3, divI (i := takeX x c) (j := 8) (by decide) (by decide), powI (j := 3) (by decide) (by decide) hx8, modI (j := 2147483629) (by decide), modI h0]
    unfold takeD takeO
    rw [if_neg hg, if_neg hg, hs2, hs1, List.set_set]
    rfl
theorem good3 {st : Sto} {k : Nat} {g x c : Int} (gd : Good st) : Good (st.set k (lst3 g x c)) := good_set gd (by simp [lst3, BndO, Bnds, Bnd])
theorem s_take_tells {m : Fm} (h : ∀ {st : Sto} {k : Nat} {g x c many : Int}, st[k]? = some (lst3 g x c) → CtOk x c → 0 < many → many < 1000000000000000000000000000000000000000000000000000000000001 → m [.ref k, .int many] st = .ok (.int (takeD g x c many)) (st.set k (takeO g x c many))) : Tells m s_take := .wr fun ds st d st1 gd b hl hf => by
  match ds, hl, hf with
  | [.ref k, .int many], _, hf =>
    have h' : (match (st[k]?).bind int3 with | some (g, x, c) => if CtOk x c ∧ 0 < many ∧ many < 1000000000000000000000000000000000000000000000000000000000001 then some (D.int (takeD g x c many), st.set k (takeO g x c many)) else none | none => none) = some (d, st1) := hf
    split at h'
    · rename_i g x c q
      obtain ⟨o, ho, hi⟩ := Option.bind_eq_some_iff.mp q
      have e := int3_eq hi
      subst e
      split at h'
      · rename_i hc
        cases h'
        refine ⟨by simp, ?_, by simp only [Bnd], [], by rw [List.append_nil]; exact h ho hc.1 hc.2.1 hc.2.2⟩
        unfold takeO
        split <;> exact good3 gd
      · cases h'
    · cases h'
def cellI (ns : List Int) (k : Nat) : Int := ns.getD k 0
def absI (i : Int) : Int := if i < 0 then -i else i
def bagG (c : Int) : Int := if 1000000000000000000 ≤ absI c then absI c else 0
def primes : List Int := [2147483629, 2147483587, 2147483579, 2147483563, 2147483549, 2147483543, 2147483497, 2147483489]
def bagX (c : Int) (k : Nat) : Int := (c % 2147483647 + 104729 * (k : Int) + 7) ^ 5 % primes.getD (k % 8) 1
theorem bagX_range (c : Int) (k : Nat) : 0 ≤ bagX c k ∧ bagX c k < 2147483647 := by
  have h : ∀ j, j < 8 → 0 < primes.getD j 1 ∧ primes.getD j 1 < 2147483647 := by decide
  obtain ⟨h1, h2⟩ := h (k % 8) (Nat.mod_lt _ (by decide))
  unfold bagX
  exact ⟨Int.emod_nonneg _ (by omega), Int.lt_trans (Int.emod_lt_of_pos _ h1) h2⟩
def intsOf : List D → Option (List Int)
  | [] => some []
  | .int i :: r => (intsOf r).map (i :: ·)
  | _ :: _ => none
theorem intsOf_map : ∀ ns : List Int, intsOf (ns.map D.int) = some ns
  | [] => rfl
  | i :: ns => by simp only [List.map_cons, intsOf, intsOf_map ns, Option.map_some]
theorem intsOf_eq : ∀ {xs : List D} {ns : List Int}, intsOf xs = some ns → xs = ns.map D.int
  | [], _, h => by cases h; rfl
  | .int i :: r, ns, h => by
    obtain ⟨vs, e, rfl⟩ := Option.map_eq_some_iff.mp (show (intsOf r).map (i :: ·) = some ns from h)
    rw [intsOf_eq e]
    rfl
  | .non :: _, _, h => by cases h
  | .bl _ :: _, _, h => by cases h
  | .str _ :: _, _, h => by cases h
  | .tup _ :: _, _, h => by cases h
  | .ref _ :: _, _, h => by cases h
def s_bag : Fm := nw 2 fun ds st => match ds with
  | [.ref n, .int k] => match (lstOf st n).bind intsOf with
    | some ns => if 0 ≤ k ∧ k < 1000000 ∧ ns.length ≤ 1000000 then some (lst3 (bagG (cellI ns k.toNat)) (bagX (cellI ns k.toNat) k.toNat) 0) else none
    | none => none
  | _ => none
theorem bag_of {st : Sto} {n k : Nat} {ns : List Int} (h : lstOf st n = some (ns.map D.int)) (hk : k < 1000000) (hn : ns.length ≤ 1000000) : s_bag [.ref n, .int k] st = .ok (.ref st.length) (st ++ [lst3 (bagG (cellI ns k)) (bagX (cellI ns k) k) 0]) := by
  refine nw_ok rfl ?_
  show (match (lstOf st n).bind intsOf with | some ns => if 0 ≤ (k : Int) ∧ (k : Int) < 1000000 ∧ ns.length ≤ 1000000 then some (lst3 (bagG (cellI ns (k : Int).toNat)) (bagX (cellI ns (k : Int).toNat) (k : Int).toNat) 0) else none | none => none) = _
  rw [h, Option.bind_some, intsOf_map]
  show (if 0 ≤ (k : Int) ∧ (k : Int) < 1000000 ∧ ns.length ≤ 1000000 then some (lst3 (bagG (cellI ns (k : Int).toNat)) (bagX (cellI ns (k : Int).toNat) (k : Int).toNat) 0) else none) = _
  rw [if_pos ⟨by omega, by omega, hn⟩, Int.toNat_natCast]
def bagT : SM := sSeq (sSet 4 (eFn mkLst (aCons (eC (.int 2147483629)) (aCons (eC (.int 2147483587)) (aCons (eC (.int 2147483579)) (aCons (eC (.int 2147483563)) (aCons (eC (.int 2147483549)) (aCons (eC (.int 2147483543)) (aCons (eC (.int 2147483497)) (aCons (eC (.int 2147483489)) aNil))))))))))
  (sRet (eFn mkLst (aCons (eVar 3) (aCons (eBin dMod (eBin dPow (eBin dAdd (eBin dAdd (eBin dMod (eVar 2) (eC (.int 2147483647))) (eBin dMul (eC (.int 104729)) (eVar 1))) (eC (.int 7))) (eC (.int 5))) (eBin dIx (eVar 4) (eBin dMod (eVar 1) (eC (.int 8))))) (aCons (eC (.int 0)) aNil)))))
def bagM : SM := sSeq (sSet 3 (eC (.int 0)))
  (sSeq (sIf (tOf (eBin dGe (eFn fAbs (aCons (eVar 2) aNil)) (eBin dPow (eC (.int 10)) (eC (.int 18))))) (sSet 3 (eFn fAbs (aCons (eVar 2) aNil))) sSkip) bagT)
def bagB : SM := sSeq (sSet 2 (eC (.int 0)))
  (sSeq (sIf (tOf (eBin dLt (eVar 1) (eFn fLen (aCons (eVar 0) aNil)))) (sSet 2 (eBin dIx (eVar 0) (eVar 1))) sSkip) bagM)
section
variable {st : Sto} {n j : Nat} {ns : List Int}
theorem bagT_ev {cell gg : Int} (hj : (j : Int) < 1000000) (hc : cell = cellI ns j) (hgg : gg = bagG (cellI ns j)) : endFn (bagT [some (.ref n), some (.int j), some (.int cell), some (.int gg), none] st) = .ok (.ref (st.length + 1)) (st ++ [.lst (primes.map D.int), lst3 (bagG (cellI ns j)) (bagX (cellI ns j) j) 0]) := by
  have hmod : 0 ≤ cell % 2147483647 ∧ cell % 2147483647 < 2147483647 := ⟨Int.emod_nonneg _ (by decide), Int.emod_lt_of_pos _ (by decide)⟩
  have hl8 : ∀ s : Sto, mkLst [.int 2147483629, .int 2147483587, .int 2147483579, .int 2147483563, .int 2147483549, .int 2147483543, .int 2147483497, .int 2147483489] s = .ok (.ref s.length) (s ++ [.lst (primes.map D.int)]) := fun s => if_pos (show 8 ≤ most by decide)
  have hl3 : ∀ (a b c : D) (s : Sto), mkLst [a, b, c] s = .ok (.ref s.length) (s ++ [.lst [a, b, c]]) := fun a b c s => if_pos (show 3 ≤ most by decide)
  have hj8 : (j : Int) % 8 = ((j % 8 : Nat) : Int) := by omega
  have hpr : dIx (.ref st.length) (.int ((j : Int) % 8)) (st ++ [.lst (primes.map D.int)]) = .ok (.int (primes.getD (j % 8) 1)) (st ++ [.lst (primes.map D.int)]) := by
    refine ixS (vs := primes.map D.int) (by unfold seqOf; simp only [lstOf_end]) ?_
    rw [hj8]
    refine L2.atI_nat ?_
    have h8 : j % 8 < primes.length := Nat.mod_lt _ (by decide)
    rw [List.getElem?_map, List.getElem?_eq_getElem h8, List.getD, List.getElem?_eq_getElem h8]
    rfl
  have hpp : 0 < primes.getD (j % 8) 1 := by
    have h : ∀ j, j < 8 → 0 < primes.getD j 1 := by decide
    exact h (j % 8) (Nat.mod_lt _ (by decide))
  simp only [bagT, ev_var, ev_c, ev_un, ev_bin, ev_anil, ev_acons, ev_fn, ev_tof, ev_tob, ev_tand, ev_tor, ev_tnot, ev_and, ev_or, ev_not, ev_if, ev_chain, ev_true, ev_slice, ev_onone, ev_osome, ev_iseq, ev_irng, ev_ienum, ev_ibin, ev_lc, ev_skip, ev_never, ev_seq, ev_ret, ev_sif, ev_set, ev_expr, ev_asg, ev_par, ev_for, ev_fld, ev_gn, ev_gsnil, ev_gscons, ev_gt, ev_mkfn, ev_bok, ev_berr, ev_bfail, ev_tok, ev_hok, ev_ert, ev_enx, ev_wn, ev_wc, ev_e0, ev_sseq, ev_senum, ev_szip, ev_sltup, ev_ltI, ev_leI, ev_gtI, ev_geI, ev_subI, ev_addI, ev_lenT, List.map_cons, List.map_nil, List.length_cons, List.length_nil, List.cons_append, List.nil_append, List.append_nil, List.getElem?_cons_zero, List.getElem?_cons_succ, List.set_cons_zero, List.set_cons_succ, List.replicate_succ, List.replicate_zero, Nat.reduceAdd, Nat.reduceSub, Nat.reduceEqDiff, reduceIte, Bool.true_eq_false, Bool.false_eq_true, if_true, if_false, hl8, modI (j := 2147483647) (by decide), mulI (i := 104729) (j := (j : Int)) (by decide) (by omega), powI (j := 5) (by decide) (by decide) (show (cell % 2147483647 + 104729 * (j : Int) + 7).natAbs < 18446744073709551616 by omega), modI (j := 8) (by decide), hpr, modI hpp, hl3]
  rw [hgg, hc]
  simp only [List.length_append, List.length_cons, List.length_nil, List.append_assoc, List.cons_append, List.nil_append]
  rfl
theorem bagM_ev {cell : Int} (hj : (j : Int) < 1000000) (hc : cell = cellI ns j) : endFn (bagM [some (.ref n), some (.int j), some (.int cell), none, none] st) = .ok (.ref (st.length + 1)) (st ++ [.lst (primes.map D.int), lst3 (bagG (cellI ns j)) (bagX (cellI ns j) j) 0]) := by
  have hp : ∀ (s : Sto), dPow (.int 10) (.int 18) s = .ok (.int 1000000000000000000) s := fun s => by rw [powI (by decide) (by decide) (by decide)]; rfl
  have ha : ∀ (s : Sto), fAbs [.int cell] s = .ok (.int (absI cell)) s := fun s => rfl
  by_cases hb : 1000000000000000000 ≤ absI cell
  · have := bagT_ev (st := st) (n := n) (gg := absI cell) hj hc (by rw [← hc]; unfold bagG; rw [if_pos hb])
    simp only [bagM, ev_var, ev_c, ev_un, ev_bin, ev_anil, ev_acons, ev_fn, ev_tof, ev_tob, ev_tand, ev_tor, ev_tnot, ev_and, ev_or, ev_not, ev_if, ev_chain, ev_true, ev_slice, ev_onone, ev_osome, ev_iseq, ev_irng, ev_ienum, ev_ibin, ev_lc, ev_skip, ev_never, ev_seq, ev_ret, ev_sif, ev_set, ev_expr, ev_asg, ev_par, ev_for, ev_fld, ev_gn, ev_gsnil, ev_gscons, ev_gt, ev_mkfn, ev_bok, ev_berr, ev_bfail, ev_tok, ev_hok, ev_ert, ev_enx, ev_wn, ev_wc, ev_e0, ev_sseq, ev_senum, ev_szip, ev_sltup, ev_ltI, ev_leI, ev_gtI, ev_geI, ev_subI, ev_addI, ev_lenT, List.map_cons, List.map_nil, List.length_cons, List.length_nil, List.cons_append, List.nil_append, List.append_nil, List.getElem?_cons_zero, List.getElem?_cons_succ, List.set_cons_zero, List.set_cons_succ, List.replicate_succ, List.replicate_zero, Nat.reduceAdd, Nat.reduceSub, Nat.reduceEqDiff, reduceIte, Bool.true_eq_false, Bool.false_eq_true, if_true, if_false, ha, hp, decide_eq_true hb]
    exact this
  · have := bagT_ev (st := st) (n := n) (gg := 0) hj hc (by rw [← hc]; unfold bagG; rw [if_neg hb])
    simp only [bagM, ev_var, ev_c, ev_un, ev_bin, ev_anil, ev_acons, ev_fn, ev_tof, ev_tob, ev_tand, ev_tor, ev_tnot, ev_and, ev_or, ev_not, ev_if, ev_chain, ev_true, ev_slice, ev_onone, ev_osome, ev_iseq, ev_irng, ev_ienum, ev_ibin, ev_lc, ev_skip, ev_never, ev_seq, ev_ret, ev_sif, ev_set, ev_expr, ev_asg, ev_par, ev_for, ev_fld, ev_gn, ev_gsnil, ev_gscons, ev_gt, ev_mkfn, ev_bok, ev_berr, ev_bfail, ev_tok, ev_hok, ev_ert, ev_enx, ev_wn, ev_wc, ev_e0, ev_sseq, ev_senum, ev_szip, ev_sltup, ev_ltI, ev_leI, ev_gtI, ev_geI, ev_subI, ev_addI, ev_lenT, List.map_cons, List.map_nil, List.length_cons, List.length_nil, List.cons_append, List.nil_append, List.append_nil, List.getElem?_cons_zero, List.getElem?_cons_succ, List.set_cons_zero, List.set_cons_succ, List.replicate_succ, List.replicate_zero, Nat.reduceAdd, Nat.reduceSub, Nat.reduceEqDiff, reduceIte, Bool.true_eq_false, Bool.false_eq_true, if_true, if_false, ha, hp, decide_eq_false hb]
    exact this
end
theorem s_bag_tells {m : Fm} (hm : m = mkFn 2 5 bagB) : Tells m s_bag := .nw fun ds st o g b hl h => by
  subst hm
  match ds, hl, h with
  | [.ref n, .int k], _, h =>
    have h' : (match (lstOf st n).bind intsOf with | some ns => if 0 ≤ k ∧ k < 1000000 ∧ ns.length ≤ 1000000 then some (lst3 (bagG (cellI ns k.toNat)) (bagX (cellI ns k.toNat) k.toNat) 0) else none | none => none) = some o := h
    split at h'
    · rename_i ns q
      split at h'
      · rename_i hk
        cases h'
        obtain ⟨xs, hx, hi⟩ := Option.bind_eq_some_iff.mp q
        have ex := intsOf_eq hi
        subst ex
        obtain ⟨hk0, hk1, hn⟩ := hk
        obtain ⟨j, rfl⟩ := Int.eq_ofNat_of_zero_le hk0
        simp only [Int.toNat_natCast]
        refine ⟨by simp [lst3, BndO, Bnds, Bnd], [.lst (primes.map D.int), lst3 (bagG (cellI ns j)) (bagX (cellI ns j) j) 0], 1, rfl, ?_⟩
        have hlen : fLen [.ref n] st = .ok (.int ns.length) st := by
          unfold fLen seqOf
          simp only [hx, List.length_map]
        by_cases hj : j < ns.length
        · have hix : dIx (.ref n) (.int j) st = .ok (.int (cellI ns j)) st := by
            refine ixS (vs := ns.map D.int) (by unfold seqOf; exact hx) (L2.atI_nat ?_)
            rw [List.getElem?_map, List.getElem?_eq_getElem hj]
            unfold cellI
            rw [List.getD, List.getElem?_eq_getElem hj]
            rfl
          have hd : decide ((j : Int) < (ns.length : Int)) = true := decide_eq_true (by omega)
          simp only [bagB, ev_var, ev_c, ev_un, ev_bin, ev_anil, ev_acons, ev_fn, ev_tof, ev_tob, ev_tand, ev_tor, ev_tnot, ev_and, ev_or, ev_not, ev_if, ev_chain, ev_true, ev_slice, ev_onone, ev_osome, ev_iseq, ev_irng, ev_ienum, ev_ibin, ev_lc, ev_skip, ev_never, ev_seq, ev_ret, ev_sif, ev_set, ev_expr, ev_asg, ev_par, ev_for, ev_fld, ev_gn, ev_gsnil, ev_gscons, ev_gt, ev_mkfn, ev_bok, ev_berr, ev_bfail, ev_tok, ev_hok, ev_ert, ev_enx, ev_wn, ev_wc, ev_e0, ev_sseq, ev_senum, ev_szip, ev_sltup, ev_ltI, ev_leI, ev_gtI, ev_geI, ev_subI, ev_addI, ev_lenT, List.map_cons, List.map_nil, List.length_cons, List.length_nil, List.cons_append, List.nil_append, List.append_nil, List.getElem?_cons_zero, List.getElem?_cons_succ, List.set_cons_zero, List.set_cons_succ, List.replicate_succ, List.replicate_zero, Nat.reduceAdd, Nat.reduceSub, Nat.reduceEqDiff, reduceIte, Bool.true_eq_false, Bool.false_eq_true, if_true, if_false, hlen, hd, hix]
          exact bagM_ev hk1 rfl
        · have hd : decide ((j : Int) < (ns.length : Int)) = false := decide_eq_false (by omega)
          simp only [bagB, ev_var, ev_c, ev_un, ev_bin, ev_anil, ev_acons, ev_fn, ev_tof, ev_tob, ev_tand, ev_tor, ev_tnot, ev_and, ev_or, ev_not, ev_if, ev_chain, ev_true, ev_slice, ev_onone, ev_osome, ev_iseq, ev_irng, ev_ienum, ev_ibin, ev_lc, ev_skip, ev_never, ev_seq, ev_ret, ev_sif, ev_set, ev_expr, ev_asg, ev_par, ev_for, ev_fld, ev_gn, ev_gsnil, ev_gscons, ev_gt, ev_mkfn, ev_bok, ev_berr, ev_bfail, ev_tok, ev_hok, ev_ert, ev_enx, ev_wn, ev_wc, ev_e0, ev_sseq, ev_senum, ev_szip, ev_sltup, ev_ltI, ev_leI, ev_gtI, ev_geI, ev_subI, ev_addI, ev_lenT, List.map_cons, List.map_nil, List.length_cons, List.length_nil, List.cons_append, List.nil_append, List.append_nil, List.getElem?_cons_zero, List.getElem?_cons_succ, List.set_cons_zero, List.set_cons_succ, List.replicate_succ, List.replicate_zero, Nat.reduceAdd, Nat.reduceSub, Nat.reduceEqDiff, reduceIte, Bool.true_eq_false, Bool.false_eq_true, if_true, if_false, hlen, hd]
          exact bagM_ev hk1 (by unfold cellI; rw [List.getD, List.getElem?_eq_none (by omega)]; rfl)
      · cases h'
    · cases h'
theorem rngL_length {lo : Int} {n : Nat} : (rngL lo n).length = n := by simp [rngL]
theorem rngL_get {n i : Nat} {x : D} (h : (rngL 0 n)[i]? = some x) : i < n ∧ x = .int (i : Int) := by
  have hi : i < (rngL 0 n).length := (List.getElem?_eq_some_iff.mp h).1
  rw [rngL_length] at hi
  unfold rngL at h
  rw [List.getElem?_map, List.getElem?_range hi] at h
  simp only [Option.map_some, Option.some.injEq, Int.zero_add] at h
  exact ⟨hi, h.symm⟩
theorem rng_src {st : Sto} {n : Nat} (h : n ≤ most) : rngSrc (.int (n : Int)) st = .ok (.fix (rngL 0 n)) st := by
  have : n ≤ 4000000 := h
  unfold rngSrc
  simp only
  rw [if_pos (by omega)]
  rfl
theorem irng_of {a : EM} {env : Ev} {st st1 : Sto} {n : Nat} (h : a env st = .ok (.int (n : Int)) st1) (hn : n ≤ most) : iRng a env st = .ok (.fix (rngL 0 n)) st1 := by
  unfold iRng
  rw [h, ev_bok]
  exact rng_src hn
end U
set_option Elab.async false
set_option linter.all false
set_option maxRecDepth 100000
set_option maxHeartbeats 1000000
namespace U
open PySem PySem.Spec PyProof.Rows L2
theorem RVs_ints {K : PySem.W.Frag} {H : Hp} {m : Pl} : ∀ ns : List Int, RVs K H m (ns.map D.int) (ns.map V.int)
  | [] => .nil
  | n :: ns => .cons .int (RVs_ints ns)
def Script (ob : Ob) (ns : List Int) : Prop := ob = .rol (ns.map D.int) ∨ ob = .kst (ns.map D.int)
theorem Script.at {ob : Ob} {ns : List Int} (h : Script ob ns) {st : Sto} (e : st[0]? = some ob) : lstOf st 0 = some (ns.map D.int) := by
  unfold lstOf
  rw [e]
  rcases h with rfl | rfl <;> rfl
theorem one_store {K : PySem.W.Frag} {H : Hp} {a : Addr} {ob : Ob} (h : OR K H [a] a ob) : SR K H [a] [ob] :=
  ⟨rfl, fun i j _ _ _ hi hj _ _ _ _ => by
    have h1 : i < [a].length := (List.getElem?_eq_some_iff.mp hi).1
    have h2 : j < [a].length := (List.getElem?_eq_some_iff.mp hj).1
    simp at h1 h2
    omega, fun i b o hb ho => by
    have h1 : i < [a].length := (List.getElem?_eq_some_iff.mp hb).1
    have : i = 0 := by simp at h1; omega
    subst this
    cases hb
    cases ho
    exact h⟩
theorem ends {K : PySem.W.Frag} {f : Fm} {H : Hp} {a : Addr} {ns : List Int} (hf : ∀ ob, Script ob ns → ∃ st, f [.ref 0] [ob] = .ok (.bl true) st) (hO : Only H) (hS : SqL K H a (ns.map V.int)) :
    spF K 1 f [.ref a] H (fun v _ => v = .bl true) fun _ _ _ => False := by
  have key : ∀ ob, Script ob ns → OR K H [a] a ob → spF K 1 f [.ref a] H (fun v _ => v = .bl true) fun _ _ _ => False := fun ob hs h => by
    obtain ⟨st, e⟩ := hf ob hs
    refine ⟨rfl, [.ref 0], [a], [ob], .cons (.ref rfl) .nil, one_store h, ?_⟩
    rw [e]
    intro v H' m' _ _ _ r
    cases r
    rfl
  rcases hS with hR | hK
  · rcases hO a with h0 | ⟨o, xs, h0⟩
    · rcases hR with r | ⟨o, r⟩ <;> rw [h0] at r <;> cases r
    · have e : xs = ns.map V.int := by
        rcases hR with r | ⟨o', r⟩
        · rw [h0] at r; cases r
        · rw [h0] at r; cases r; rfl
      subst e
      exact key _ (.inl rfl) ⟨o, _, h0, RVs_ints ns⟩
  · exact key _ (.inr rfl) ⟨_, fun _ => .inr hK, RVs_ints ns⟩
theorem noCX {P : Program} {w : World} (H : Hp) (s : Shared) (e : Value) (s' : Shared) (h : L2.CX P w [] H s (fun _ _ _ => False) e s') : False := by
  obtain ⟨_, _, _, _, _, _, _, _, _, _, _, _, z⟩ := h
  exact z
theorem walkW {law : PySem.W.OpenLaw} {n k : Nat} {q : Program} {loose : List Str} {XP : (Str → Option Value) → Heap → Prop} {YP : World → Heap → Prop} {d : DefRec} {x : Str} (h1 : law.most = some n) (h2 : n ≤ sizeLine) (h3 : d.params.defaults = []) (h4 : Room k callerA)
    (F : ∀ (w : World) (mg : Str → Option Value) (fa : Addr) (h : Heap), YP w h → h.Ns mainGlobals mg → mg d.name = some (.ref fa) → ∃ (K : PySem.W.Frag) (fd : FuncData) (f : Fm), K.In h ∧ (∀ (s : Shared) (u : Value), BindsTo s fd ⟨[u], []⟩ [(x, u)]) ∧ (∀ (ob : Ob) (ns : List Int), ns.length ≤ n → Script ob ns → ∃ st, f [.ref 0] [ob] = .ok (.bl true) st) ∧ ∀ base : Heap, FnOk law.prog w K mg base (L2.CX law.prog w) k fa fd [x] (spF K 1 f)) :
    PySem.W.WalkO q loose XP YP law.row.toRowW d [] (fun f vs => PySem.call f vs) := by
  refine Att.attach_call h1 h3 fun w s0 s1 mg mb fa o pm cd doc a vs ns G Y _ _ _ q1 q2 q3 q4 q5 => ?_
  obtain ⟨K, fd, f, KX, hb, hf, hF⟩ := F w mg fa _ Y G.T.g q1
  exact law_call KX G.T.g G.T.b G.T.builtins G.T.nolimit q5 q2 q3 (Nat.le_trans q4 h2) h4 (fun base _ _ => hF base) hb (fun H hO hS => ends (fun ob hs => hf ob ns q4 hs) hO hS) fun H e s' z => noCX H s1 e s' z
end U
set_option Elab.async false
set_option linter.all false
set_option maxRecDepth 100000
set_option maxHeartbeats 4000000
namespace U
open PySem PySem.Spec PyProof.Rows L2
inductive Arg where
  | at (i : Nat)
  | df (d : D)
def pick : List Arg → List D → Option (List D)
  | [], _ => some []
  | .at i :: l, ds => match ds[i]? with
    | some d => (pick l ds).map (d :: ·)
    | none => none
  | .df d :: l, ds => (pick l ds).map (d :: ·)
def via (l : List Arg) (f : Fm) : Fm := fun ds st => match pick l ds with
  | some es => f es st
  | none => .fail
def aApp (ga gk : AM) : AM := fun env st => (ga env st).bind fun xs st => (gk env st).bind fun ys st => .ok (xs ++ ys) st
section
variable {X : Cx} {W : WX} {a e : Expr} {es : List Expr} {kws : List Keyword} {ga gs gk : AM} {ge : EM} {pos p kpos : Pos} {k n np : Nat} {x : Str} {f : Fm} {nm : Option Str}
theorem _root_.L2.PK.imp {X : Cx} {kws : List Keyword} {t t' : TA} (h : PK X kws t) (i : ∀ σ H Q, t' σ H Q → t σ H Q) : PK X kws t' := ⟨fun pos pins s σ H Q I q => h.run pos pins s σ H Q I (i _ _ _ q)⟩
structure FnS (P : Program) (w : World) (K : PySem.W.Frag) (mg : Str → Option Value) (base : Heap) (k : Nat) (x : Str) (n : Nat) (f : Fm) (np : Nat) (ks : List Str) (l : List Arg) : Prop where
  ex : ∃ (a : Addr) (fd : FuncData) (ps : List Str) (g : List Value → List Value → List Value) (gV : List V → List V → List V), FnOk P w K mg base (L2.CX P w) k a fd ps (spF K n f) ∧ mg x = some (.ref a) ∧ PySem.W.keepIn K (.ref a) = true ∧ KBn K fd ps np ks g gV ∧
    ∀ (H : Hp) (m : Pl) (ds es : List D) (vs zs : List V), RVs K H m ds vs → RVs K H m es zs → vs.length = np → zs.length = ks.length → ∃ fs, pick l (ds ++ es) = some fs ∧ RVs K H m fs (gV vs zs)
  ar : Arity n f
end
section
variable {K : PySem.W.Frag} {x qual : Str} {params : Arguments} {body : List Stmt} {scope : Scope} {dvs : List V} {kws : List (Str × V)} {f : Addr} {fd : FuncData} {ps : List Str}
end
end U
set_option Elab.async false
set_option linter.all false
set_option maxRecDepth 100000
set_option maxHeartbeats 4000000
namespace U
open PySem PySem.Spec PyProof.Rows L2
end U
namespace U
open PySem PySem.Spec PyProof.Rows L2
theorem RVs.ints {K : PySem.W.Frag} {H : Hp} {m : Pl} : ∀ {ns : List Int} {vs : List V}, RVs K H m (ns.map D.int) vs → vs = ns.map V.int
  | [], _, h => by cases h; rfl
  | n :: ns, _, h => by
    cases h with
    | cons h1 h2 =>
      cases h1
      rw [RVs.ints h2]
      rfl
section
variable {X : Cx} {W : WX} {a : Expr} {ga : EM} {p pos pos2 p2 : Pos}
end
end U
set_option Elab.async false
set_option linter.all false
set_option maxRecDepth 100000
set_option maxHeartbeats 1000000
namespace U
open PySem PySem.Spec PyProof.Rows L2
def noText : NestedKey → Bool
  | .none => true
  | .num _ => true
  | .text _ => false
  | .tup ks => go ks
where go : List NestedKey → Bool
  | [] => true
  | k :: ks => noText k && go ks
mutual
theorem hash_any (w w' : World) : ∀ k : NestedKey, noText k = true → k.hash w = k.hash w'
  | .none, _ => by simp only [NestedKey.hash]
  | .num _, _ => by simp only [NestedKey.hash]
  | .text _, h => by simp [noText] at h
  | .tup ks, h => by
    simp only [noText] at h
    simp only [NestedKey.hash]
    rw [hashes_any w w' ks h]
theorem hashes_any (w w' : World) : ∀ ks : List NestedKey, noText.go ks = true → NestedKey.hashes w ks = NestedKey.hashes w' ks
  | [], _ => by simp only [NestedKey.hashes]
  | k :: ks, h => by
    simp only [noText.go, Bool.and_eq_true] at h
    simp only [NestedKey.hashes]
    rw [hash_any w w' k h.1, hashes_any w w' ks h.2]
end
mutual
theorem keyD_noText : ∀ {d : D} {k : NestedKey}, keyD d = some k → noText k = true
  | .non, _, h => by simp only [keyD] at h; cases h; simp only [noText]
  | .bl _, _, h => by simp only [keyD] at h; cases h; simp only [noText]
  | .int _, _, h => by simp only [keyD] at h; cases h; simp only [noText]
  | .str _, _, h => by simp only [keyD] at h; cases h
  | .ref _, _, h => by simp only [keyD] at h; cases h
  | .tup xs, _, h => by
    simp only [keyD] at h
    cases q : keysD xs with
    | none => rw [q] at h; cases h
    | some ks =>
      rw [q] at h
      cases h
      simp only [noText]
      exact keysD_noText q
theorem keysD_noText : ∀ {ds : List D} {ks : List NestedKey}, keysD ds = some ks → noText.go ks = true
  | [], _, h => by simp only [keysD] at h; cases h; simp only [noText.go]
  | d :: ds, _, h => by
    simp only [keysD] at h
    split at h
    · rename_i k ks h1 h2
      cases h
      simp only [noText.go, Bool.and_eq_true]
      exact ⟨keyD_noText h1, keysD_noText h2⟩
    · cases h
end
section
variable {X : Cx} {pins : List (Addr × Obj)} {σ : L2.St} {H : Hp} {s : Shared} {m : Pl}
mutual
theorem key_in (I : Inv X pins σ H s) : ∀ {d : D} {v : V} {u : Value} {k : NestedKey}, RV X.K H m d v → RelV v u → keyD d = some k → NestedIs s.heap k u
  | .non, _, _, _, r, rv, h => by
    simp only [keyD] at h; cases h; cases r
    cases (show _ = Value.none from rv)
    exact .none
  | .bl b, _, _, _, r, rv, h => by
    simp only [keyD] at h; cases h; cases r
    cases (show _ = Value.bool b from rv)
    exact .bool rfl
  | .int i, _, _, _, r, rv, h => by
    simp only [keyD] at h; cases h; cases r
    obtain ⟨t, rfl⟩ := rv
    exact .int i t
  | .str _, _, _, _, _, _, h => by simp only [keyD] at h; cases h
  | .ref _, _, _, _, _, _, h => by simp only [keyD] at h; cases h
  | .tup xs, _, _, _, r, rv, h => by
    simp only [keyD] at h
    cases q : keysD xs with
    | none => rw [q] at h; cases h
    | some ks =>
      rw [q] at h
      cases h
      cases r with
      | tup hq rs =>
        cases (show _ = Value.ref _ from rv)
        obtain ⟨its, r1, ⟨o, ho, hc, n, hd⟩, _⟩ := I.tuple hq
        exact .tup ho hc hd (by simpa using keys_in I rs r1 q)
theorem keys_in (I : Inv X pins σ H s) : ∀ {ds : List D} {vs : List V} {us : List Value} {ks : List NestedKey}, RVs X.K H m ds vs → Vals vs us → keysD ds = some ks → NestedAll s.heap ks us
  | [], _, _, _, r, rv, h => by
    simp only [keysD] at h; cases h; cases r; cases rv
    exact .nil
  | d :: ds, _, _, _, r, rv, h => by
    simp only [keysD] at h
    split at h
    · rename_i k ks h1 h2
      cases h
      cases r with
      | cons r1 r2 =>
        cases rv with
        | cons v1 v2 => exact .cons (key_in I r1 v1 h1) (keys_in I r2 v2 h2)
    · cases h
end
theorem DR.dict (I : Inv X pins σ H s) {a : Addr} {kvs : List (D × D)} {xs : List DEn} {vs : List V} (h : DR X.K H m a kvs xs vs) : s.heap.DictOfH (nestedKind X.prog X.w) a xs := by
  obtain ⟨⟨w0, o, es, ep, h1, h2, h3, h4⟩, _⟩ := (show ObjOk X.prog X.w H s.heap a (dObj a xs) from I.hok a _ h.at_)
  have hx : ∀ (i : Nat) (x : DEn), xs[i]? = some x → ∃ d : D, keyD d = some x.1 ∧ RV X.K H m d (.ref x.2.1) := fun i x hi => by
    obtain ⟨d, hd, r⟩ := h.rk.getv (i := i) (v := .ref x.2.1) (by rw [List.getElem?_map, hi]; rfl)
    rw [List.getElem?_map] at hd
    obtain ⟨p, hp, rfl⟩ := Option.map_eq_some_iff.mp hd
    have e := congrArg (fun l => l[i]?) h.key
    simp only [List.getElem?_map, hp, hi, Option.map_some] at e
    exact ⟨p.1, by injection e, r⟩
  refine ⟨o, es, ep, h1, h2, h3, ?_, fun x hm => ?_, h.nd⟩
  · rw [h4]
    apply List.map_congr_left
    intro x hm
    obtain ⟨i, hi⟩ := List.getElem?_of_mem hm
    obtain ⟨d, hd, _⟩ := hx i x hi
    show (⟨x.1.hash w0, _, _⟩ : DictEntry) = ⟨x.1.hash X.w, _, _⟩
    rw [hash_any w0 X.w _ (keyD_noText hd)]
  · obtain ⟨i, hi⟩ := List.getElem?_of_mem hm
    obtain ⟨d, hd, r⟩ := hx i x hi
    exact ⟨key_in I r rfl hd, h.dep x hm⟩
end
def getK (kvs : List (D × D)) (k : NestedKey) : Option D := match kvs with
  | [] => none
  | p :: r => if keyD p.1 = some k then some p.2 else getK r k
def putK (kvs : List (D × D)) (kd : D) (k : NestedKey) (v : D) : List (D × D) := if (getK kvs k).isSome then kvs.map (fun p => if keyD p.1 = some k then (p.1, v) else p) else kvs ++ [(kd, v)]
section
variable {K : PySem.W.Frag} {H : Hp} {m : Pl} {a : Addr}
theorem get_rel {k : NestedKey} : ∀ {kvs : List (D × D)} {xs : List DEn} {vs : List V}, kvs.map (fun p => keyD p.1) = xs.map (fun x => some x.1) → RVs K H m (kvs.map (·.2)) vs → Vals vs (xs.map (·.2.2)) →
    (getK kvs k = none ∧ atKey xs k = none) ∨ ∃ d v p, getK kvs k = some d ∧ atKey xs k = some p ∧ RV K H m d v ∧ RelV v p.2
  | [], [], _, _, _, _ => .inl ⟨rfl, rfl⟩
  | [], _ :: _, _, e, _, _ => by cases e
  | _ :: _, [], _, e, _, _ => by cases e
  | p :: kvs, x :: xs, _, e, r, rv => by
    simp only [List.map_cons, List.cons.injEq] at e
    cases r with
    | @cons _ _ v vs r1 r2 =>
      cases rv with
      | cons v1 v2 =>
        unfold getK atKey
        rw [List.find?_cons]
        by_cases hk : x.1 = k
        · rw [if_pos (by rw [e.1, hk]), hk]
          simp only [decide_true, Option.map_some]
          exact .inr ⟨_, _, _, rfl, rfl, r1, v1⟩
        · rw [if_neg (by rw [e.1]; intro z; exact hk (Option.some.inj z))]
          simp only [hk, decide_false]
          exact get_rel e.2 r2 v2
end
section
variable {X : Cx} {W : WX} {k : Nat}
theorem get_some {K : PySem.W.Frag} {H : Hp} {m : Pl} {a : Addr} {kvs : List (D × D)} {xs : List DEn} {vs : List V} (h : DR K H m a kvs xs vs) (k : NestedKey) : (atKey xs k).isSome = (getK kvs k).isSome := by
  rcases get_rel (k := k) h.key h.rv h.vv with ⟨h1, h2⟩ | ⟨d, v, p, h1, h2, _, _⟩ <;> rw [h1, h2] <;> rfl
end
end U
set_option Elab.async false
set_option linter.all false
set_option maxRecDepth 100000
set_option maxHeartbeats 1000000
namespace U
open PySem PySem.Spec PyProof.Rows L2
section
variable {X : Cx} {W : WX} {k : Nat} {a b c : Expr} {ga gb gc : EM} {pos p p2 : Pos}
theorem RVs.map_if {K : PySem.W.Frag} {H : Hp} {m : Pl} {q : NestedKey} {dv : D} {v : V} (r : RV K H m dv v) : ∀ {kvs : List (D × D)} {xs : List DEn} {vs : List V}, kvs.map (fun p => keyD p.1) = xs.map (fun x => some x.1) → RVs K H m (kvs.map (·.2)) vs → vs.length = xs.length →
    RVs K H m ((kvs.map fun p => if keyD p.1 = some q then (p.1, dv) else p).map (·.2)) (List.zipWith (fun (x : DEn) w => if x.1 = q then v else w) xs vs)
  | [], [], _, _, h, _ => by cases h; exact .nil
  | [], _ :: _, _, e, _, _ => by cases e
  | _ :: _, [], _, e, _, _ => by cases e
  | p :: kvs, x :: xs, _, e, h, l => by
    simp only [List.map_cons, List.cons.injEq] at e
    cases h with
    | @cons _ _ w ws h1 h2 =>
      simp only [List.map_cons, List.zipWith_cons_cons]
      refine .cons ?_ (RVs.map_if r e.2 h2 (by simpa using l))
      by_cases hk : x.1 = q
      · rw [if_pos hk, if_pos (by rw [e.1, hk])]; exact r
      · rw [if_neg hk, if_neg (by rw [e.1]; intro z; exact hk (Option.some.inj z))]; exact h1
theorem vals_if {q : NestedKey} {v : V} {u : Value} (rv : RelV v u) : ∀ {xs : List DEn} {vs : List V}, Vals vs (xs.map (·.2.2)) → Vals (List.zipWith (fun (x : DEn) w => if x.1 = q then v else w) xs vs) ((xs.map (putAt q u)).map (·.2.2))
  | [], _, h => by cases h; exact .nil
  | x :: xs, _, h => by
    cases h with
    | cons h1 h2 =>
      simp only [List.map_cons, List.zipWith_cons_cons]
      refine .cons ?_ (vals_if rv h2)
      unfold putAt
      by_cases hk : x.1 = q
      · rw [if_pos hk, if_pos hk]; exact rv
      · rw [if_neg hk, if_neg hk]; exact h1
theorem put_keys (q : NestedKey) (u : Value) : ∀ xs : List DEn, (xs.map (putAt q u)).map (·.1) = xs.map (·.1)
  | [] => rfl
  | x :: xs => by
    simp only [List.map_cons]
    rw [put_keys q u xs]
    unfold putAt
    by_cases hk : x.1 = q
    · rw [if_pos hk]
    · rw [if_neg hk]
theorem put_adr (q : NestedKey) (u : Value) : ∀ xs : List DEn, (xs.map (putAt q u)).map (fun x => V.ref x.2.1) = xs.map (fun x => V.ref x.2.1)
  | [] => rfl
  | x :: xs => by
    simp only [List.map_cons]
    rw [put_adr q u xs]
    unfold putAt
    by_cases hk : x.1 = q
    · rw [if_pos hk]
    · rw [if_neg hk]
theorem putD_keys (q : NestedKey) (dv : D) : ∀ kvs : List (D × D), (kvs.map fun p => if keyD p.1 = some q then (p.1, dv) else p).map (·.1) = kvs.map (·.1)
  | [] => rfl
  | p :: kvs => by
    simp only [List.map_cons]
    rw [putD_keys q dv kvs]
    by_cases hk : keyD p.1 = some q
    · rw [if_pos hk]
    · rw [if_neg hk]
theorem key1 {kvs : List (D × D)} : kvs.map (fun p => keyD p.1) = (kvs.map (·.1)).map keyD := by rw [List.map_map]; rfl
theorem key2 {xs : List DEn} : xs.map (fun x => some x.1) = (xs.map (·.1)).map some := by rw [List.map_map]; rfl
theorem DR.put {K : PySem.W.Frag} {H H' : Hp} {m : Pl} {a b : Addr} {kvs : List (D × D)} {xs : List DEn} {vs : List V} (h : DR K H m a kvs xs vs) {yd dv : D} {k : NestedKey} {v : V} {u : Value} (hk : keyD yd = some k) (hk2 : k.depth ≤ 8) (hl : kvs.length < most)
    (e : Ext H H') (ry : RV K H' m yd (.ref b)) (rv : RV K H' m dv v) (ru : RelV v u) (at' : H' a = some (dObj a (storedH xs k b u))) : ∃ vs', DR K H' m a (putK kvs yd k dv) (storedH xs k b u) vs' := by
  have hlen : vs.length = xs.length := by have := h.vv.length; simpa using this
  have gs := get_some h k
  unfold putK storedH at *
  by_cases hs : (getK kvs k).isSome = true
  · rw [if_pos hs]
    rw [gs, if_pos hs] at at' ⊢
    refine ⟨List.zipWith (fun (x : DEn) w => if x.1 = k then v else w) xs vs, h.sys, at', by rw [put_keys]; exact h.nd, ?_, fun x hx => ?_, ?_, RVs.map_if rv h.key (h.rv.mono e (List.prefix_refl m)) hlen, vals_if ru h.vv, by rw [List.length_map]; exact h.len⟩
    · rw [key1, key2, putD_keys, put_keys, ← key1, ← key2]; exact h.key
    · obtain ⟨y, hy, rfl⟩ := List.mem_map.mp hx
      unfold putAt
      by_cases hk : y.1 = k
      · rw [if_pos hk]; exact h.dep y hy
      · rw [if_neg hk]; exact h.dep y hy
    · rw [putD_keys, put_adr]; exact h.rk.mono e (List.prefix_refl m)
  · rw [if_neg hs]
    rw [gs, if_neg hs] at at' ⊢
    have hno : ∀ x ∈ xs, x.1 ≠ k := fun x hx ex => by
      have h1 : (atKey xs k).isSome = true := by
        unfold atKey
        rw [Option.isSome_map, List.find?_isSome]
        exact ⟨x, hx, by simp [ex]⟩
      rw [gs] at h1
      exact hs h1
    refine ⟨vs ++ [v], h.sys, at', ?_, ?_, ?_, ?_, ?_, ?_, ?_⟩
    · rw [List.map_append, List.nodup_append]
      refine ⟨h.nd, by simp, fun x hx y hy => ?_⟩
      obtain ⟨z, hz, rfl⟩ := List.mem_map.mp hx
      simp only [List.map_cons, List.map_nil, List.mem_singleton] at hy
      rw [hy]
      exact hno z hz
    · rw [List.map_append, List.map_append, h.key]; simp [hk]
    · intro x hx
      rcases List.mem_append.mp hx with hx | hx
      · exact h.dep x hx
      · simp only [List.mem_singleton] at hx; subst hx; exact hk2
    · rw [List.map_append, List.map_append]; exact (h.rk.mono e (List.prefix_refl m)).append (.one ry)
    · rw [List.map_append]; exact (h.rv.mono e (List.prefix_refl m)).append (.one rv)
    · rw [List.map_append]; exact h.vv.append (.cons ru .nil)
    · rw [List.length_append]; exact most_lt (n := kvs.length) hl
end
end U
set_option Elab.async false
set_option linter.all false
set_option maxRecDepth 100000
set_option maxHeartbeats 1000000
namespace U
open PySem PySem.Spec PyProof.Rows L2
section
variable {X : Cx} {W : WX} {k : Nat} {a b c : Expr} {ga gb gc : EM} {pos p p2 : Pos}
def sPar3 (i j l : Nat) (ga gb gc : EM) : SM := fun env st => (ga env st).then env fun x st => (gb env st).then env fun y st => (gc env st).then env fun z st => .nx (((env.set i (some x)).set j (some y)).set l (some z)) st
end
end U
set_option Elab.async false
set_option linter.all false
set_option maxRecDepth 100000
set_option maxHeartbeats 1000000
namespace U
open PySem PySem.Spec PyProof.Rows L2
section
variable {X : Cx} {W : WX} {k : Nat} {a : Expr} {ga : EM} {p pos : Pos}
end
end U
set_option Elab.async false
set_option linter.all false
set_option maxRecDepth 100000
set_option maxHeartbeats 4000000
namespace U
open PySem PySem.Spec PyProof.Rows L2

def dIsi2 (S T : String) (d : D) (st : Sto) : R D := match tyD st d with
  | some q => .ok (.bl (isiT q S || isiT q T)) st
  | none => .fail
section
variable {X : Cx} {W : WX} {a b c : Expr} {ga gb gc : EM} {es : List Expr} {gs : AM} {pos p p2 p3 pt apos : Pos}
end
def runIn (s : Src) (g : GM) (t : TM) (e : EM) (k : Nat) (env : Ev) (cont : Sto → R D) : Nat → Nat → Sto → R D
  | 0, _, _ => .fail
  | f + 1, j, st => match s.at st with
    | none => .fail
    | some ys => match ys[j]? with
      | none => cont st
      | some d => match g d env st with
        | none => .fail
        | some (env1, _) => (t env1 st).bind fun b st => if b = true then (e env1 st).bind fun y st => (match st[k]? with
            | some (.lst acc) => if acc.length < most then runIn s g t e k env cont f (j + 1) (st.set k (.lst (acc ++ [y]))) else .fail
            | _ => .fail) else runIn s g t e k env cont f (j + 1) st
def startIn (g : GM) (t : TM) (e : EM) (k : Nat) (env : Ev) (cont : Sto → R D) (s : Src) (st : Sto) : R D := match s.at st with
  | none => .fail
  | some ys => runIn s g t e k env cont (ys.length + 1) 0 st
def runLc2 (s : Src) (g : GM) (t : TM) (src1 : IM) (vs1 : List Nat) (g1 : GM) (t1 : TM) (e : EM) (k : Nat) (env : Ev) : Nat → Nat → Sto → R D
  | 0, _, _ => .fail
  | f + 1, i, st => match s.at st with
    | none => .fail
    | some xs => match xs[i]? with
      | none => .ok (.ref k) st
      | some d => match g d env st with
        | none => .fail
        | some (env1, _) => (t env1 st).bind fun b st => if b = true then (src1 env1 st).bind (startIn g1 t1 e k (wipeE env1 vs1) fun st => runLc2 s g t src1 vs1 g1 t1 e k env f (i + 1) st)
          else runLc2 s g t src1 vs1 g1 t1 e k env f (i + 1) st
def startLc2 (g : GM) (t : TM) (src1 : IM) (vs1 : List Nat) (g1 : GM) (t1 : TM) (e : EM) (env : Ev) (s : Src) (st : Sto) : R D := match s.at st with
  | none => .fail
  | some xs => runLc2 s g t src1 vs1 g1 t1 e st.length env (xs.length + 1) 0 (st ++ [.lst []])
def cLc2 (src : IM) (vs : List Nat) (g : GM) (t : TM) (src1 : IM) (vs1 : List Nat) (g1 : GM) (t1 : TM) (e : EM) : EM := fun env st => (src env st).bind fun s st => (startLc2 g t src1 vs1 g1 t1 e (wipeE env vs) s st).hush
section
variable {X : Cx} {W : WX} {tg iter elt tg1 iter1 : Expr} {ifs ifs1 : List Expr} {src src1 : IM} {g g1 : GM} {tt tt1 : TM} {ge : EM} {scope : Scope} {own : List (Str × Nat)} {vs1 : List Nat} {pos spos : Pos} {tgt tgt1 : TG}
end
end U
set_option Elab.async false
set_option linter.all false
set_option maxRecDepth 100000
set_option maxHeartbeats 4000000
namespace U
open PySem PySem.Spec PyProof.Rows L2

section
variable {X : Cx}
end
end U
set_option Elab.async false
set_option linter.all false
set_option maxRecDepth 100000
set_option maxHeartbeats 1000000
namespace U
open PySem PySem.Spec PySem.Calls PyProof.Rows PyProof.V L2
mutual
theorem reads_there {h : Heap} : ∀ {v : Value} {d : PyData} {as : List Addr}, Reads h v d as → ∀ a ∈ as, ∃ o, h.get? a = some o
  | _, _, _, .none => fun a ha => by cases ha
  | _, _, _, .bool _ => fun a ha => by cases ha
  | _, _, _, .int _ _ => fun a ha => by cases ha
  | _, _, _, .str _ _ => fun a ha => by cases ha
  | _, _, _, .list h1 _ _ r => fun a ha => by
    rcases List.mem_cons.mp ha with rfl | ha
    · exact ⟨_, h1⟩
    · exact readsAll_there r a ha
  | _, _, _, .tuple _ _ _ r => fun a ha => readsAll_there r a ha
  | _, _, _, .dict h1 _ _ r1 r2 => fun a ha => by
    rcases List.mem_append.mp ha with ha | ha
    · rcases List.mem_cons.mp ha with rfl | ha
      · exact ⟨_, h1⟩
      · exact readsAll_there r1 a ha
    · exact readsAll_there r2 a ha
theorem readsAll_there {h : Heap} : ∀ {vs : List Value} {ds : List PyData} {as : List Addr}, ReadsAll h vs ds as → ∀ a ∈ as, ∃ o, h.get? a = some o
  | _, _, _, .nil => fun a ha => by cases ha
  | _, _, _, .cons r1 r2 => fun a ha => by
    rcases List.mem_append.mp ha with ha | ha
    · exact reads_there r1 a ha
    · exact readsAll_there r2 a ha
end
section
variable {X : Cx} {W : WX} {k : Nat} {a b : Expr} {ga gb : EM} {p pos apos : Pos}
end
end U
set_option Elab.async false
set_option linter.all false
set_option maxRecDepth 100000
set_option maxHeartbeats 1000000
namespace U
open PySem PySem.Spec PySem.Calls PyProof.Rows PyProof.V L2
section
variable {X : Cx} {CX : CXT} {k n : Nat} {f : Addr} {fd : FuncData} {ps ks : List Str} {sp : Sp} {E : XK} {x : Str} {p pos : Pos} {kws : List Keyword} {tk : TA} {g : List Value → List Value → List Value} {gV : List V → List V → List V}
end
section
variable {X : Cx} {W : WX} {k n : Nat} {x : Str} {f : Fm} {p pos : Pos} {kws : List Keyword} {gk : AM}
end
end U
namespace U
open PySem PySem.Spec PySem.Calls PyProof.Rows PyProof.V L2
end U
set_option Elab.async false
set_option linter.all false
set_option maxRecDepth 100000
set_option maxHeartbeats 1000000
namespace U
open PySem PySem.Spec PySem.Calls PyProof.Rows PyProof.V L2
section
variable {X : Cx} {W : WX} {k : Nat} {a b : Expr} {ga gb : EM} {p pos apos : Pos}
end
end U
set_option Elab.async false
set_option linter.all false
set_option maxRecDepth 100000
set_option maxHeartbeats 3200000
namespace U
open PySem PySem.Spec PySem.Calls PyProof.Rows PyProof.V L2
def nSet (w : World) : Obj := { cls := .type "set", dict := none, data := .set #[] 0 (.fresh 0 0 (!w.params.followText "set-order")) }
def hSet (w : World) (h : Heap) : Heap := h.push (nSet w)
theorem hSet_at {w : World} {h : Heap} : (hSet w h).get? h.objs.size = some (nSet w) := Heap.get?_push_size _ rfl
theorem hSet_old {w : World} {h : Heap} {b : Addr} {o : Obj} (e : h.get? b = some o) : (hSet w h).get? b = some o := Heap.get?_push_of_some _ e
theorem hSet_size {w : World} {h : Heap} : (hSet w h).objs.size = h.objs.size + 1 := Heap.size_push ..
section
variable {P : Program} {w : World} {A : Around} {E : Value → Shared → Prop} {s : Shared}
theorem fill_list {l : Addr} {its : Array Value} {ns : List Int} {R : Result → Shared → Prop} (hA : A.handled = none) (hl : (hSet w s.heap).IsList l its) (hls : l < s.heap.objs.size) (hi : IntsAre its.toList ns) (hb : ns.length + 1 < scanBound)
    (hR : ∀ (h' : Heap) (tk c : Nat), SetR w h' s.heap.objs.size (fun j => decide (j ∈ ns)) c → c ≤ ns.length → (∀ b o, s.heap.get? b = some o → h'.get? b = some o) → R (.ok (.ret .none)) { s with heap := h', toks := tk }) :
    codeAny (model P w) A (.builtin "set.update.loop" ⟨[.ref s.heap.objs.size, .ref (hSet w s.heap).objs.size], []⟩) R { s with heap := (hSet w s.heap).push { cls := .type "list_iterator", data := .fields #[.ref l, .int 0 0] } } := by
  have hz : its.size = ns.length := by have := IntsAre.length hi; rwa [Array.length_toList] at this
  have n1 : l ≠ (hSet w s.heap).objs.size := by rw [hSet_size]; exact Nat.ne_of_lt (Nat.lt_succ_of_lt hls)
  have n2 : s.heap.objs.size ∉ [(hSet w s.heap).objs.size, l] := by
    rw [hSet_size]
    simp only [List.mem_cons, List.not_mem_nil, or_false, not_or]
    exact ⟨Nat.ne_of_lt (Nat.lt_succ_self _), Nat.ne_of_gt hls⟩
  have hv : ∀ (i : Nat) (v : Value), its[i]? = some v → ∃ k t, ns[i]? = some k ∧ v = .int k t := fun i v e => by
    obtain ⟨t, rfl⟩ := IntsAre.int_at hi i v (by rwa [Array.getElem?_toList])
    have lt : i < ns.length := by rw [← hz]; exact (Array.getElem?_eq_some_iff.mp e).1
    exact ⟨ns[i], t, List.getElem?_eq_getElem lt, by rw [List.getD_eq_getElem?_getD, List.getElem?_eq_getElem lt] <;> rfl⟩
  refine set_update_ints ((Walks.list (A := A.in1) (by simpa using hA) _ l n1 its).toS) _ n2 ns hz hb hv its.size 0 _ (by omega) (Nat.zero_le _) ⟨⟨_, Heap.get?_push_size _ rfl, rfl, rfl⟩, hl.push _⟩ ⟨0, Nat.le_refl 0, setR_new_at (Heap.get?_push_of_some _ hSet_at)⟩ ?_
  rintro ⟨h', g, d, tk, os⟩ c hm hc S
  obtain rfl : g = s.gens := hm.gens
  obtain rfl : d = s.drawn := hm.drawn
  obtain rfl : os = s.os := hm.os
  refine hR h' tk c S (by omega) fun b o e => hm.heap b o ?_ (Heap.get?_push_of_some _ (hSet_old e))
  have lt := Heap.lt_size e
  rw [hSet_size]
  simp only [List.mem_cons, List.not_mem_nil, or_false, not_or]
  exact ⟨Nat.ne_of_lt lt, Nat.ne_of_lt (Nat.lt_succ_of_lt lt)⟩
theorem set_list {l : Addr} {its : Array Value} {ns : List Int} {Q : Value → Shared → Prop} (hA : A.handled = none) (hl : s.heap.IsList l its) (hi : IntsAre its.toList ns) (hb : ns.length + 1 < scanBound)
    (hQ : ∀ (h' : Heap) (tk c : Nat), SetR w h' s.heap.objs.size (fun j => decide (j ∈ ns)) c → c ≤ ns.length → (∀ b o, s.heap.get? b = some o → h'.get? b = some o) → Q (.ref s.heap.objs.size) { s with heap := h', toks := tk }) :
    wpAny (model P w) A (call (.type "set") [.ref l]) Q E s := by
  have hT : Shared.TypeIs { s with heap := hSet w s.heap } (.ref s.heap.objs.size) "set" := ⟨_, hSet_at, rfl⟩
  have hll : l < s.heap.objs.size := by obtain ⟨o, e, _⟩ := hl; exact Heap.lt_size e
  have hl1 : (hSet w s.heap).IsList l its := by
    obtain ⟨o, e, r⟩ := hl
    exact ⟨o, hSet_old e, r⟩
  have init : codeAny (model P w) A.in1 (.call (.builtin "set.__init__") ⟨[.ref s.heap.objs.size, .ref l], []⟩) (wants (fun r s₂ => r = .none ∧ Q (.ref s.heap.objs.size) s₂) E) { s with heap := hSet w s.heap } := by
    refine codeAny_call_builtin F.called_set.init.plain F.entry_set_init (check_set_init_1 hT ?_)
    have hl2 := hl1
    obtain ⟨⟨cl, dd, data, sl⟩, e, hc, n, hd⟩ := hl1
    simp only at hc hd
    subst hc hd
    have m1 := F.sub_list_set
    have m2 := F.sub_list_frozenset
    have m3 : (Value.type "list" == Value.type "dict") = false := by decide
    have m4 := hSet_at (w := w) (h := s.heap)
    unfold Builtin.«set.__init__» noKeywords Builtin.Frozenset.updateFrom
    generalize hF : pyIter = F'
    wp_walk
    subst hF
    refine wpAny_pyIter_list hl2 (wpAny_bind (wpAny_runValue ?_))
    refine fill_list (by simpa using hA) hl2 hll hi hb fun h' tk c r1 r2 r3 => ?_
    show wpAny _ _ (pure ()) _ _ _
    refine wpAny_pure (?_ : wpAny _ _ (ret Value.none) _ _ _)
    exact wpAny_pure ⟨rfl, hQ h' tk c r1 r2 r3⟩
  obtain ⟨cc, tl, k1⟩ := F.called_set.mro
  have k2 := F.called_set.made
  have k3 := F.called_set.sub
  have k4 := F.called_set.notType
  have k5 := F.called_set.canCreate
  have k6 := F.typeCall_set_1 (.ref l)
  refine wpAny_call (codeAny_of_tree (?_ : wpAny _ _ (callAny (.type "set") _) _ _ _))
  refine wpAny_pure ⟨Code.quiet_builtin _ (by decide +kernel), ?_⟩
  refine codeAny_builtin F.entry_type_call ?_
  rw [Around.under_plain (weight_type_call_type "set" [.ref l] []) rfl]
  repeat (any_goals (first | assumption | wp_step))
  refine codeAny_mono (code_set_led1 (.ref l) (E := E) (Q₁ := fun obj s₁ => obj = .ref s.heap.objs.size ∧ s₁ = { s with heap := hSet w s.heap }) ⟨rfl, rfl⟩) fun r s₁ hr => ?_
  cases r with
  | error e => exact hr
  | ok fl =>
    cases fl <;> first | exact hr.elim | skip
    obtain ⟨rfl, rfl⟩ := hr
    have k7 := F.called_set.init.lookup
    have k8 := F.called_set.init.bind (.ref s.heap.objs.size)
    repeat (any_goals (first | assumption | wp_step))
    refine codeAny_mono init fun r₂ s₂ h₂ => ?_
    cases r₂ with
    | error e => exact h₂
    | ok f₂ =>
      cases f₂ <;> first | exact h₂.elim | skip
      obtain ⟨rfl, hq⟩ := h₂
      repeat (any_goals (first | assumption | wp_step))
end
section
variable {X : Cx} {W : WX} {k : Nat} {a : Expr} {ga : EM} {p p2 q pos : Pos}
end
end U
set_option Elab.async false
set_option linter.all false
set_option maxRecDepth 100000
set_option maxHeartbeats 1000000
namespace U
open PySem PySem.Spec PySem.Calls PyProof.Rows PyProof.V L2
theorem pick_rev (its : List Value) : slicePick its.toArray none none (some (-1)) = its.reverse.toArray := by
  have h1 : sliceBounds none none (some (-1)) its.toArray.size = ((its.length : Int) - 1, -1, -1) := by
    unfold sliceBounds
    simp
  unfold slicePick
  rw [h1]
  simp only
  congr 1
  unfold sliceRange
  have hc : (if (-1 : Int) > 0 then (if (its.length : Int) - 1 < -1 then (-1 - ((its.length : Int) - 1) + -1 - 1) / -1 else 0) else (if (its.length : Int) - 1 > -1 then ((its.length : Int) - 1 - -1 - -1 - 1) / (- -1) else 0)).toNat = its.length := by
    rw [if_neg (by decide)]
    split
    · rw [show (-(-1 : Int)) = 1 by decide, Int.ediv_one]
      omega
    · omega
  simp only [hc]
  rw [List.filterMap_map]
  refine List.ext_getElem? fun i => ?_
  have key : ∀ k : Nat, k < its.length → ((fun x : Nat => its.toArray[x]?) ∘ fun k : Nat => ((its.length : Int) - 1 + -1 * (k : Int)).toNat) k = some (its.reverse.getD k .none) := fun k hk => by
    have e : ((its.length : Int) - 1 + -1 * (k : Int)).toNat = its.length - 1 - k := by omega
    simp only [Function.comp, e, List.getElem?_toArray]
    rw [List.getD_eq_getElem?_getD, List.getElem?_reverse hk, List.getElem?_eq_getElem (by omega)]
    rfl
  have hf : (List.range its.length).filterMap ((fun x : Nat => its.toArray[x]?) ∘ fun k : Nat => ((its.length : Int) - 1 + -1 * (k : Int)).toNat) = (List.range its.length).map fun k => its.reverse.getD k .none := by
    have gen : ∀ l : List Nat, (∀ k ∈ l, k < its.length) → l.filterMap ((fun x : Nat => its.toArray[x]?) ∘ fun k : Nat => ((its.length : Int) - 1 + -1 * (k : Int)).toNat) = l.map fun k => its.reverse.getD k .none := fun l => by
      induction l with
      | nil => intro _; rfl
      | cons a l ih =>
        intro h
        rw [List.filterMap_cons, key a (h a List.mem_cons_self)]
        simp only
        rw [ih fun k hk => h k (List.mem_cons_of_mem _ hk), List.map_cons]
    exact gen _ fun k hk => List.mem_range.mp hk
  rw [hf, List.getElem?_map]
  by_cases hi : i < its.length
  · rw [List.getElem?_range hi]
    simp only [Option.map_some]
    rw [List.getD_eq_getElem?_getD, List.getElem?_eq_getElem (by simpa using hi)]
    rfl
  · rw [List.getElem?_eq_none (by simpa using hi), List.getElem?_eq_none (by simpa using hi)]
    rfl
section
variable {X : Cx} {W : WX} {k : Nat} {a b : Expr} {ga gb : EM} {p p2 pos : Pos}
theorem rvs_rev {K : PySem.W.Frag} {H : Hp} {m : Pl} : ∀ {xs : List D} {vs : List V}, RVs K H m xs vs → RVs K H m xs.reverse vs.reverse
  | _, _, .nil => .nil
  | _, _, .cons r1 r2 => by
    rw [List.reverse_cons, List.reverse_cons]
    exact (rvs_rev r2).append (.cons r1 .nil)
end
end U
set_option Elab.async false
set_option linter.all false
set_option maxRecDepth 100000
set_option maxHeartbeats 1000000
namespace U
open PySem PySem.Spec PySem.Calls PyProof.Rows PyProof.V L2
section
variable {X : Cx} {pins : List (Addr × Obj)} {σ : L2.St} {H H' : Hp} {s : Shared} {m : Pl} {K : PySem.W.Frag} {a : Addr} {o : Obj} {kvs : List (D × D)} {xs : List DEn} {vs : List V}
theorem lock_obj (I : Inv X pins σ H s) (h : H a = some (.frz o (dObj a xs))) : s.heap.get? a = some o ∧ ObjD o xs := by
  obtain ⟨hg, ⟨w0, o2, es, ep, h1, h2, h3, h4⟩, _⟩ := (show ObjOk X.prog X.w H s.heap a (.frz o (dObj a xs)) from I.hok a _ h)
  obtain rfl : o = o2 := by rw [hg] at h1; injection h1
  exact ⟨hg, h2, w0, es, ep, h3, h4⟩
theorem DL.dict (I : Inv X pins σ H s) (h : DL X.K H m a o kvs xs vs) : s.heap.DictOfH (nestedKind X.prog X.w) a xs := by
  obtain ⟨hg, hx0, w0, es, ep, h3, h4⟩ := lock_obj I h.at_
  have hx : ∀ (i : Nat) (x : DEn), xs[i]? = some x → ∃ d : D, keyD d = some x.1 ∧ RV X.K H m d (.ref x.2.1) := fun i x hi => by
    obtain ⟨d, hd, r⟩ := h.rk.getv (i := i) (v := .ref x.2.1) (by rw [List.getElem?_map, hi]; rfl)
    rw [List.getElem?_map] at hd
    obtain ⟨p, hp, rfl⟩ := Option.map_eq_some_iff.mp hd
    have e := congrArg (fun l => l[i]?) h.key
    simp only [List.getElem?_map, hp, hi, Option.map_some] at e
    exact ⟨p.1, by injection e, r⟩
  refine ⟨o, es, ep, hg, hx0, h3, ?_, fun x hm => ?_, h.nd⟩
  · rw [h4]
    apply List.map_congr_left
    intro x hm
    obtain ⟨i, hi⟩ := List.getElem?_of_mem hm
    obtain ⟨d, hd, _⟩ := hx i x hi
    show (⟨x.1.hash w0, _, _⟩ : DictEntry) = ⟨x.1.hash X.w, _, _⟩
    rw [hash_any w0 X.w _ (keyD_noText hd)]
  · obtain ⟨i, hi⟩ := List.getElem?_of_mem hm
    obtain ⟨d, hd, r⟩ := hx i x hi
    exact ⟨key_in I r rfl hd, h.dep x hm⟩
mutual
theorem RV.mono2 (hq : ∀ b vs, SqT K H b vs → SqT K H' b vs) : ∀ {d : D} {v : V}, RV K H m d v → RV K H' m d v
  | .non, _, h => by cases h; exact .non
  | .bl _, _, h => by cases h; exact .bl
  | .int _, _, h => by cases h; exact .int
  | .str _, _, h => by cases h; exact .str
  | .tup _, _, h => by
    cases h with
    | tup h1 h2 => exact .tup (hq _ _ h1) (RVs.mono2 hq h2)
  | .ref _, _, h => by
    cases h with
    | ref h1 => exact .ref h1
theorem RVs.mono2 (hq : ∀ b vs, SqT K H b vs → SqT K H' b vs) : ∀ {ds : List D} {us : List V}, RVs K H m ds us → RVs K H' m ds us
  | [], _, h => by cases h; exact .nil
  | _ :: _, _, h => by
    cases h with
    | cons h1 h2 => exact .cons (RV.mono2 hq h1) (RVs.mono2 hq h2)
end
theorem OR.mono2 {b : Addr} {ob : Ob} (hx : ∀ b fs, H b = some (.xd fs) → H' b = some (.xd fs)) (hc : ∀ b q, H b = some (LamX.CodeO b q) → H' b = some (LamX.CodeO b q)) (hq : ∀ b vs, SqT K H b vs → SqT K H' b vs) (k : ob.trk = true → ∀ u, H b = some u → H' b = some u) (h : OR K H m b ob) : OR K H' m b ob := by
  cases ob with
  | lst xs => obtain ⟨vs, h, r⟩ := h; exact ⟨vs, k rfl _ h, r.mono2 hq⟩
  | rol xs => obtain ⟨o, vs, h, r⟩ := h; exact ⟨o, vs, k rfl _ h, r.mono2 hq⟩
  | fzt xs => obtain ⟨o, vs, h, r, hd⟩ := h; exact ⟨o, vs, k rfl _ h, r.mono2 hq, hd⟩
  | tab P q => obtain ⟨ha, ps, h, h2, h3⟩ := h; exact ⟨ha, ps, k rfl _ h, h2, fun pos cv hcv => let ⟨c, e1, e2⟩ := h3 pos cv hcv; ⟨c, e1, hc c q e2⟩⟩
  | exc q d cl c fs => obtain ⟨h1, h2, h3⟩ := h; exact ⟨h1, h2, h3.elim (fun z => .inl z) fun ⟨dd, vfs, z1, z2, z3, z4⟩ => .inr ⟨dd, vfs, z1, hx _ _ z2, z3, z4.mono2 hq⟩⟩
  | kst xs => obtain ⟨vs, h, r⟩ := h; exact ⟨vs, h, r.mono2 hq⟩
  | ins c fs => obtain ⟨dx, vfs, h, h2, r, l⟩ := h; exact ⟨dx, vfs, k rfl _ h, h2, r.mono2 hq, l⟩
  | dct kvs => obtain ⟨xs, vs, h⟩ := h; exact ⟨xs, vs, h.sys, k rfl _ h.at_, h.nd, h.key, h.dep, h.rk.mono2 hq, h.rv.mono2 hq, h.vv, h.len⟩
  | dcl kvs => obtain ⟨o, xs, vs, h⟩ := h; exact ⟨o, xs, vs, h.sys, k rfl _ h.at_, h.obj, h.nd, h.key, h.dep, h.rk.mono2 hq, h.rv.mono2 hq, h.vv, h.len⟩
end
end U
set_option Elab.async false
set_option linter.all false
set_option maxRecDepth 100000
set_option maxHeartbeats 1000000
namespace U
open PySem PySem.Spec PySem.Calls PyProof.Rows PyProof.V L2
open PySem.Sem (wp)
section
variable {prog : Program} {w : World} {A : Around} {E : Value → Shared → Prop} {s : Shared} {k k1 k2 : Bool} {h h' : Heap} {l it b z TI TO i1 i2 l1 l2 : Addr} {i n1 n2 : Nat} {xs ys : Array Value} {x y va vb : Value}
end
end U
set_option Elab.async false
set_option linter.all false
set_option maxRecDepth 100000
set_option maxHeartbeats 1000000
namespace U
open PySem PySem.Spec PySem.Calls PyProof.Rows PyProof.V L2
section
variable {X : Cx} {W : WX} {pins : List (Addr × Obj)} {σ : L2.St} {H : Hp} {s : Shared} {m : Pl} {K : PySem.W.Frag} {k k1 k2 : Bool} {a b : Addr} {xs ys : List V}
end
end U
set_option Elab.async false
set_option linter.all false
set_option maxRecDepth 100000
set_option maxHeartbeats 1000000
namespace U
open PySem PySem.Spec PySem.Calls PyProof.Rows PyProof.V L2
section
variable {X : Cx}
end
section
variable {prog : Program} {w : World} {A : Around} {E : Value → Shared → Prop} {s : Shared}
theorem rev_places (n : Nat) (hn : 0 < n) : Builtin.Slice.sliceAdjust none none (-1) (n : Int) = ((n : Int) - 1, -1) ∧ Builtin.Slice.slicePlaces ((n : Int) - 1) (-1) (-1) = n := by
  constructor
  · unfold Builtin.Slice.sliceAdjust
    simp
  · unfold Builtin.Slice.slicePlaces
    simp
    omega
theorem rev_pick (xs : List Value) : ((List.range xs.length).filterMap fun (k : Nat) => xs.toArray[((xs.length : Int) - 1 + (k : Int) * -1).toNat]?).toArray = xs.reverse.toArray := by
  have := pick_rev xs
  rw [← this]
  unfold slicePick
  have h1 : sliceBounds none none (some (-1)) xs.toArray.size = ((xs.length : Int) - 1, -1, -1) := by
    unfold sliceBounds
    simp
  rw [h1]
  simp only
  congr 1
  unfold sliceRange
  have hc : (if (-1 : Int) > 0 then (if (xs.length : Int) - 1 < -1 then (-1 - ((xs.length : Int) - 1) + -1 - 1) / -1 else 0) else (if (xs.length : Int) - 1 > -1 then ((xs.length : Int) - 1 - -1 - -1 - 1) / (- -1) else 0)).toNat = xs.length := by
    rw [if_neg (by decide)]
    split
    · rw [show (-(-1 : Int)) = 1 by decide, Int.ediv_one]
      omega
    · omega
  simp only [hc]
  rw [List.filterMap_map]
  congr 1
  funext k
  show xs.toArray[((xs.length : Int) - 1 + (k : Int) * -1).toNat]? = xs.toArray[((xs.length : Int) - 1 + -1 * (k : Int)).toNat]?
  rw [Int.mul_comm]
end
section
variable {X : Cx} {W : WX} {a b : Expr} {ga gb : EM} {p2 pos : Pos}
end
end U
set_option Elab.async false
set_option linter.all false
set_option maxRecDepth 100000
set_option maxHeartbeats 1000000
namespace U
open PySem PySem.Spec PySem.Calls PyProof.Rows PyProof.V L2
def sAug (i : Nat) (g : EM) : SM := fun env st => match env[i]? with
  | some (some (.int a)) => (g env st).then env fun d st => match d with
    | .int b => .nx (env.set i (some (.int (a + b)))) st
    | _ => .fail
  | _ => .fail
section
variable {X : Cx} {W : WX} {a : Expr} {ga : EM} {pos : Pos}
end
end U
set_option Elab.async false
set_option linter.all false
set_option maxRecDepth 100000
set_option maxHeartbeats 4000000
namespace U
open PySem PySem.Spec PySem.Calls PyProof.Rows PyProof.V L2
section
variable {X : Cx} {kx vx tg iter : Expr} {ifs : List Expr} {scope : Scope} {own : List (Str × Nat)} {pos pos' : Pos} {wi : TI} {g : TG} {tt : TT} {tk tv : TE}
end
section
variable {X : Cx} {W : WX} {kx vx tg iter : Expr} {ifs : List Expr} {src : IM} {g : GM} {tt : TM} {gk gv : EM} {scope : Scope} {pos : Pos} {tgt : TG} {k : Nat}
end
end U
set_option Elab.async false
set_option linter.all false
set_option maxRecDepth 100000
set_option maxHeartbeats 1000000
namespace U
open PySem PySem.Spec PySem.Calls PyProof.Rows PyProof.V L2
section
variable {X : Cx} {pins : List (Addr × Obj)} {σ : L2.St} {H : Hp} {s : Shared} {m : Pl}
end
section
variable {X : Cx} {W : WX} {k : Nat} {a : Expr} {ga : EM} {p pos : Pos}
end
theorem RVs.erase {K : PySem.W.Frag} {H : Hp} {m : Pl} {ds : List D} {vs : List V} (r : RVs K H m ds vs) (i : Nat) : RVs K H m (ds.eraseIdx i) (vs.eraseIdx i) := by
  rw [List.eraseIdx_eq_take_drop_succ, List.eraseIdx_eq_take_drop_succ]
  exact (r.take i).append (r.drop (i + 1))
section
variable {X : Cx} {W : WX} {k : Nat} {a b : Expr} {ga gb : EM} {p pos apos : Pos}
end
end U
set_option Elab.async false
set_option linter.all false
set_option maxRecDepth 100000
set_option maxHeartbeats 1000000
namespace U
open PySem PySem.Spec PySem.Calls PyProof.Rows PyProof.V L2
section
variable {prog : Program} {w : World} {A : Around} {E : Value → Shared → Prop} {s : Shared} {K : PySem.W.Frag} {x C f : Addr} {ox : Obj} {odd : Option Obj}
theorem len_own {Q : Value → Shared → Prop} (X : K.In s.heap) (I : PySem.W.InstAt s.heap x ox C odd) (hs : PySem.W.findIn K (.ref C) "__len__" = some (some (.ref f))) (hf : PySem.W.isFn K (.ref f) = true)
    (h : wpAny (model prog w) A.in1 (call (.ref f) [.ref x]) (fun r s₁ => ∃ n t, r = Value.int n t ∧ 0 ≤ n ∧ n < 2 ^ 63 ∧ ∀ t tk, Q (.int n t) { s₁ with toks := tk }) E s) : wpAny (model prog w) A (call (.builtin "len") [.ref x]) Q E s := by
  refine Calls.call_function_entry kind_len plain_len entry_len (args_len1 _) ?_
  unfold Builtin.«len»
  refine wpAny_bind (m := oneArg "len" _) (wpAny_pure ?_)
  refine wpAny_bind (m := callSpecial? (.ref x) (PySem.Str.ofString "__len__")) (PySem.W.special_fn X I hs (beq_iff_eq.mp hf) (wpAny_mono h (fun r s' hr => ?_) fun _ _ y => y))
  obtain ⟨n, t, rfl, h0, h1, hq⟩ := hr
  refine wpAny_bind (wpAny_holding (wpAny_pure ?_))
  refine wpAny_bind (wpAny_letGo ?_)
  show wpAny _ _ (if n < 0 then _ else _) _ _ _
  rw [if_neg (by omega)]
  show wpAny _ _ (if n ≥ 2 ^ 63 then _ else _) _ _ _
  rw [if_neg (by omega)]
  exact wpAny_bind (wpAny_mkInt (wpAny_pure ⟨_, rfl, hq _ _⟩))
end
section
variable {X : Cx} {W : WX} {k : Nat} {a : Expr} {ga : EM} {p pos : Pos} {C g : Addr} {fd : FuncData} {ps : List Str} {sp : Sp} {E : L2.St → XK} {ta : TE}
theorem run_in1 {A : Around} {σ : L2.St} {pins : List (Addr × Obj)} {H : Hp} {s : Shared} {Q : VK} {us : List Value} {vs : List V} (F : FnOk X.prog X.w X.K X.mg X.base (L2.CX X.prog X.w) k g fd ps sp) (hr : Room k A) (e0 : Env0 X.prog X.w X.K X.mg X.base A X.stack s H) (hb : Binds X.K fd ps []) (hx : PassesAt (L2.CX X.prog X.w) X σ (E σ))
    (I : Inv X pins σ H s) (r : Vals vs us) (h : sp vs H Q (E σ)) : wpAny (model X.prog X.w) A (call (.ref g) us) (EP X pins σ Q) X.xe s := by
  have hl : us.length = ps.length := by rw [← r.length]; exact F.len _ _ _ _ h
  have b := hb s us I.kIn (by rw [List.append_nil]; exact hl)
  rw [List.append_nil] at b
  refine wpAny_call (codeAny_mono (F.run A X.stack s H ⟨us, []⟩ us vs Q (E σ) hr e0 b r h) fun r s' hq => ?_)
  cases r with
  | error e => exact hx pins H s e s' I hq
  | ok fl =>
    cases fl with
    | ret u => exact I.after hq
    | next => exact False.elim hq
    | brk => exact False.elim hq
    | cont => exact False.elim hq
theorem pe_lenOwn (F : FnOk X.prog X.w X.K X.mg X.base (L2.CX X.prog X.w) k g fd ps sp) (hr : Room (k + 1) X.A) (hb : Binds X.K fd ps []) (Me : Meth X.K C "__len__" g) (hx : ∀ σ, PassesAt (L2.CX X.prog X.w) X σ (E σ)) (hm : X.mg "len" = none) (ha : PE X a ta) (hg : Gl X "len")
    (na : starEach [a] X.env = (false, eval a X.env) :: starEach [] X.env := by rfl) : PE X (.Call (.Name "len" p) [a] [] pos) (fun σ H Q => ta σ H fun x H1 => ∃ (r dx : Addr) (fs : List (Str × V)), x = .ref r ∧ H1 r = some (.ins C dx fs) ∧
      sp [.ref r] H1 (fun z H' => ∃ i : Int, z = .int i ∧ 0 ≤ i ∧ i < 2 ^ 63 ∧ Q (.int i) H') (E σ)) := by
  refine ⟨fun pins s σ H Q I h => Call_ (ld_blt I hg hm boot_len (callWith_builtin1 (args_cons (thn (ha.run pins s σ H _ I h) fun v s1 ⟨x, H1, I1, r1, q1⟩ => args_nil ?_) na) na rfl))⟩
  obtain ⟨r, dx, fs, rfl, hi, q⟩ := q1
  cases r1
  obtain ⟨mA, O, _⟩ := ins_get I1.hok hi
  obtain ⟨od, J, _⟩ := O.look
  refine len_own I1.kIn J Me.at_ Me.fn (wpAny_mono (run_in1 (us := [.ref r]) (vs := [.ref r]) F hr.in1 I1.env0.in1 hb (hx σ) I1 (.cons rfl .nil) q) (fun v s' z => ?_) fun _ _ y => y)
  obtain ⟨z', H', I', rz, i, ei, h0, h1, qz⟩ := z
  subst ei
  obtain ⟨t, e⟩ := (show ∃ t, v = Value.int i t from rz)
  exact ⟨i, t, e, h0, h1, fun t tk => ⟨.int i, H', I'.tok _, ⟨t, rfl⟩, qz⟩⟩
end
def fLenI (c : Str) (f : Fm) (ds : List D) (st : Sto) : R D := match ds with
  | [.ref n] => match st[n]? with
    | some (.ins c' _) => if c' = c then (match f [.ref n] st with
      | .ok (.int i) st' => if 0 ≤ i ∧ i < 1000000000 then .ok (.int i) st' else .fail
      | .ok _ _ => .fail
      | .err c fs st' => .err c fs st'
      | .fail => .fail) else .fail
    | _ => .fail
  | _ => .fail
structure Mlen (P : Program) (w : World) (K : PySem.W.Frag) (mg : Str → Option Value) (base : Heap) (k : Nat) (c : Str) (f : Fm) : Prop where
  ex : ∃ (a : Addr) (fd : FuncData) (ps : List Str), FnOk P w K mg base (L2.CX P w) k a fd ps (spF K 1 f) ∧ Meth K (He.ga K c) "__len__" a ∧ Binds K fd ps []
  ar : Arity 1 f
section
variable {X : Cx} {W : WX} {k : Nat} {a : Expr} {ga : EM} {p pos : Pos} {c : Str} {f : Fm}
theorem e_lenI (F : Mlen X.prog X.w X.K X.mg X.base k c f) (tk : Takes X W) (hr : Room (k + 1) X.A) (hm : X.mg "len" = none) (ha : PE X a (rE X.K W ga)) (hg : Gl X "len" := by rfl)
    (na : starEach [a] X.env = (false, eval a X.env) :: starEach [] X.env := by rfl) :
    PE X (.Call (.Name "len" p) [a] [] pos) (rE X.K W (eFn (fLenI c f) (aCons ga aNil))) := by
  obtain ⟨ad, fd, ps, ok, hme, hb⟩ := F.ex
  refine (pe_lenOwn ok hr hb hme (fun σ => passAt tk σ) hm ha hg na).imp fun σ H Q ⟨env, m, st, hE, hS, hp⟩ => ?_
  have hp' : Post X.K (okV X.K) (WE W σ) m H Q ((ga env st).bind fun d st => fLenI c f [d] st) := by
    have e : eFn (fLenI c f) (aCons ga aNil) env st = ((ga env st).bind fun d st => fLenI c f [d] st) := by
      unfold eFn aCons aNil
      cases ga env st <;> rfl
    rw [← e]
    exact hp
  refine ⟨env, m, st, hE, hS, hp'.bind fun d st1 v H1 m1 e1 p1 s1 r1 hp1 => ?_⟩
  unfold fLenI at hp1
  split at hp1
  · rename_i n hd
    cases hd
    split at hp1
    · rename_i c' fs q
      by_cases hcc : c' = c
      · rw [if_pos hcc] at hp1
        subst hcc
        cases r1 with
        | @ref _ b hn =>
          obtain ⟨dx, vfs, h1, _⟩ := s1.ob _ _ _ hn q
          refine ⟨b, dx, vfs, rfl, h1, spF_of F.ar s1 (.cons (.ref hn) .nil) ?_⟩
          cases q2 : f [.ref n] st1 with
          | ok d st' =>
            rw [q2] at hp1
            cases d with
            | int i =>
              simp only at hp1
              split at hp1
              · rename_i hi
                intro v H' m' e' p' s' r'
                have r2 := r'
                cases r2
                exact ⟨i, rfl, hi.1, by omega, hp1 _ _ m' e' p' s' r'⟩
              · exact hp1.elim
            | non => exact hp1.elim
            | bl _ => exact hp1.elim
            | str _ => exact hp1.elim
            | tup _ => exact hp1.elim
            | ref _ => exact hp1.elim
          | err c fs st' => rw [q2] at hp1; exact hp1
          | fail => rw [q2] at hp1; exact hp1.elim
      · rw [if_neg hcc] at hp1
        exact hp1.elim
    · exact hp1.elim
  · exact hp1.elim
end
end U
set_option Elab.async false
set_option linter.all false
set_option maxRecDepth 100000
set_option maxHeartbeats 1000000
namespace U
open PySem PySem.Spec PySem.Calls PyProof.Rows PyProof.V L2
def words : List D → Option (List Str)
  | [] => some []
  | .str b :: r => (words r).map (b :: ·)
  | _ :: _ => none
theorem words_rv {K : PySem.W.Frag} {H : Hp} {m : Pl} : ∀ {xs : List D} {vs : List V} {bs : List Str}, RVs K H m xs vs → words xs = some bs → vs = bs.map V.str
  | [], _, _, r, h => by cases r; cases h; rfl
  | .str b :: xs, _, bs, r, h => by
    cases r with
    | cons r1 r2 =>
      cases r1
      obtain ⟨cs, e, rfl⟩ := Option.map_eq_some_iff.mp (show (words xs).map (b :: ·) = some bs from h)
      rw [words_rv r2 e]
      rfl
  | .non :: _, _, _, _, h => by cases h
  | .int _ :: _, _, _, _, h => by cases h
  | .bl _ :: _, _, _, _, h => by cases h
  | .tup _ :: _, _, _, _, h => by cases h
  | .ref _ :: _, _, _, _, h => by cases h
section
variable {X : Cx} {W : WX} {k : Nat} {a b : Expr} {ga gb : EM} {p pos apos : Pos}
end
end U
set_option Elab.async false
set_option linter.all false
set_option maxRecDepth 100000
set_option maxHeartbeats 1000000
namespace U
open PySem PySem.Spec PyProof.Rows L2
section
variable {X : Cx} {W : WX} {k : Nat} {a : Expr} {ga : EM} {p pos : Pos}
end
def dNeS (x y : D) (st : Sto) : R D := match x, y with
  | .str a, .str b => .ok (.bl (!decide (a = b))) st
  | _, _ => .fail
theorem o_neS {X : Cx} : OpF X (compareOp .NotEq) dNeS := ⟨_, op_ne, fun E m H st dx dy x y Q s rx ry hp => by
  unfold dNeS at hp
  split at hp
  · rename_i a b
    cases rx
    cases ry
    refine ⟨rfl, ?_⟩
    have e : decide (V.str a = V.str b) = decide (a = b) := by rw [Bool.eq_iff_iff]; simp
    rw [e]
    exact Post.here (v := .bl _) hp s .bl
  · exact hp.elim⟩
structure FnG (P : Program) (w : World) (K : PySem.W.Frag) (mg : Str → Option Value) (base : Heap) (k : Nat) (f : Addr) (fd : FuncData) (ps : List Str) (sp : Sp) : Prop where
  go : ∀ (A : Around) (outer : List Env) (s : Shared) (H : Hp) (args : Args) (us : List Value) (vs : List V) (Q : VK) (E : XK),
    A.guards = some [] → Room k A → Env0 P w K mg base A outer s H → BindsTo s fd args (ps.zip us) → Vals vs us → sp vs H Q E →
    codeAny (model P w) A (.call (.ref f) args) (CR (L2.CX P w) outer P w H s Q E) s
section
variable {P : Program} {w : World} {K : PySem.W.Frag} {mg : Str → Option Value} {base : Heap}
end
section
variable {X : Cx} {W : WX} {a b c tg : Expr} {ga gb gc : EM} {pos : Pos}
end
end U
set_option Elab.async false
set_option linter.all false
set_option maxRecDepth 100000
set_option maxHeartbeats 1000000
namespace U
open PySem PySem.Spec PySem.Calls PyProof.Rows PyProof.V L2
section
variable {prog : Program} {w : World} {A : Around} {E : Value → Shared → Prop} {s : Shared}
theorem rev_placesU (n : Nat) : Builtin.Slice.sliceAdjust none none (-1) (n : Int) = ((n : Int) - 1, -1) ∧ Builtin.Slice.slicePlaces ((n : Int) - 1) (-1) (-1) = n := by
  by_cases hn : 0 < n
  · exact rev_places n hn
  · obtain rfl : n = 0 := by omega
    exact ⟨by decide +kernel, by decide +kernel⟩
theorem get_revU {t sl : Addr} {xs : List Value} {vk : Value} {Q : Value → Shared → Prop} (ht : IsTup s.heap t xs.toArray) (hs : s.heap.IsSliceOf sl .none .none vk) (pk : IsPart vk (some (-1))) (hz : xs.length ≤ sizeLine)
    (h : Q (.ref s.heap.objs.size) { s with heap := s.heap.push { cls := .type "tuple", data := .seq xs.reverse.toArray } }) : wpAny (model prog w) A (getItem (.ref t) (.ref sl)) Q E s := by
  obtain ⟨os, hos, hcs, hds⟩ := id hs
  have ty : s.TypeIs (.ref sl) "slice" := ⟨os, hos, hcs⟩
  have hok : sizeOk (.seq xs.reverse.toArray) := by
    show xs.reverse.toArray.size ≤ sizeLine
    rw [List.size_toArray, List.length_reverse]
    exact hz
  unfold getItem
  try with_reducible refine wpAny_holding ?_
  first | refine wpAny_bind (wpAny_pure ?_) | skip
  refine wpAny_bind (wpAny_sequenceKey ht.typeIs (by decide) (wpAny_bind (wpAny_callSpecial?_slot (name := Str.ofString "__getitem__") ht.typeIs PyProof.Rows.slot_tuple_getitem (wpAny_call_entry PyProof.Rows.slot_tuple_getitem ht.typeIs entry_tuple_getitem ?_ (args_tuple_getitem _ _)))))
  change wpAny _ _ (Builtin.Tuple.tupleItemsOf (.ref t) >>= _) _ _ s; refine wpAny_bind (tupleItemsOf_ ht (wpAny_bind (wpAny_typeOf ty ?_)))
  rw [if_pos (by decide)]; refine wpAny_bind ?_
  unfold Builtin.Slice.sliceApplied Builtin.Slice.sliceFields
  refine wpAny_bind (wpAny_bind (wpAny_field hos hds (x := .none) rfl (wpAny_bind (wpAny_field hos hds (x := .none) rfl (wpAny_bind (wpAny_field hos hds (x := vk) rfl (wpAny_pure (wpAny_bind (HT.slicePart_ pk ?_)))))))))
  change wpAny _ _ (if ((-1 : Int) == 0) = true then _ else _) _ _ s; rw [if_neg (by decide)]
  refine wpAny_bind (slicePart_none (wpAny_bind (slicePart_none (wpAny_bind (wpAny_pure ?_)))))
  obtain ⟨r1, r2⟩ := rev_placesU xs.length
  change wpAny _ _ (match Builtin.Slice.sliceAdjust none none (-1) (xs.toArray.size : Int) with | (lo, hi) => pure (lo, (-1 : Int), Builtin.Slice.slicePlaces lo hi (-1))) _ _ s
  rw [List.size_toArray, r1]
  change wpAny _ _ (pure ((xs.length : Int) - 1, (-1 : Int), Builtin.Slice.slicePlaces ((xs.length : Int) - 1) (-1) (-1))) _ _ s
  rw [r2]
  refine wpAny_pure ?_
  have hno : ¬ ((((xs.length : Int) - 1 == 0) && ((-1 : Int) == 1) && (xs.length == xs.toArray.size)) = true) := by simp
  change wpAny _ _ (if (((xs.length : Int) - 1 == 0) && ((-1 : Int) == 1) && (xs.length == xs.toArray.size)) = true then _ else _) _ _ s; rw [if_neg hno, rev_pick]
  first | exact wpAny_bind (m := Builtin.Tuple.tupleExact _) (wpAny_newObj_type (wpAny_pure ⟨_, rfl, wpAny_pure h⟩) hok) | exact wpAny_bind (m := Builtin.Tuple.tupleExact _) (wpAny_newObj_type (wpAny_bind (wpAny_pure (wpAny_pure ⟨_, rfl, wpAny_pure h⟩))) hok) | exact wpAny_bind (wpAny_bind (m := Builtin.Tuple.tupleExact _) (wpAny_newObj_type (wpAny_pure (wpAny_pure ⟨_, rfl, wpAny_pure h⟩)) hok)) | exact wpAny_bind (wpAny_bind (m := Builtin.Tuple.tupleExact _) (wpAny_newObj_type (wpAny_pure ⟨_, rfl, wpAny_pure h⟩) hok))
end
section
variable {X : Cx} {W : WX} {a b : Expr} {ga gb : EM} {p2 pos : Pos}
def tRevU (K : PySem.W.Frag) (te : TE) (ts : TO) : TE := fun σ H Q => te σ H fun x H1 => ts σ H1 fun z H2 => z = some (-1) ∧ ∃ (l : Addr) (xs : List V), x = .ref l ∧ SqT K H2 l xs ∧ ∀ r, H2 r = none → Q (.ref r) (upd H2 r (.tup xs.reverse))
theorem pe_revU {te : TE} {ts : TO} (he : PE X a te) (hs : PO X (some b) ts) : PE X (.Subscript a (.Slice none none (some b) p2) pos) (tRevU X.K te ts) := by
  refine ⟨fun pins s σ H Q I h => Subscript_ (thn (he.run pins s σ H _ I h) fun v s1 ⟨x, H1, I1, r1, q1⟩ => wpAny_Slice ?_)⟩
  rw [evalPart_none]
  refine wpAny_pure (wpAny_pure (thn (hs.run pins s1 σ H1 _ I1 q1) fun vz s2 ⟨z, H2, I2, pz, q2⟩ => ?_))
  obtain ⟨rfl, l, xs, rfl, hx, q⟩ := q2
  have I3 : Inv X pins σ H2 { s2 with heap := s2.heap.push { cls := .type "slice", data := .fields #[.none, .none, vz] } } := I2.kept (t' := s2.toks) fun c o e => Heap.get?_push_of_some _ e
  cases r1
  obtain ⟨its, r, ht, hz⟩ := I3.tuple hx
  have hl := r.length
  refine tail_any (T := "tuple") (ops := [.ref l, .ref s2.heap.objs.size]) ht.typeIs PyProof.Rows.slot_tuple_getitem.lookup ?_ (by with_unfolding_all rfl)
  refine get_revU ht (Heap.IsSliceOf.new ..) pz (by omega) ?_
  refine ⟨.ref _, _, I3.laid (t' := s2.toks) (o := .tup xs.reverse) (fun c o e => Heap.get?_push_of_some _ e) (Nat.le_refl _) ?_, rfl, q _ (I3.hok.fresh (Nat.le_refl _))⟩
  exact ⟨by rw [List.length_reverse]; omega, _, r.reverse, ⟨_, Heap.get?_push_size _ rfl, rfl, _, rfl⟩⟩
def fRevU (ds : List D) (st : Sto) : R D := match ds with
  | [.tup xs, .int (-1)] => .ok (.tup xs.reverse) st
  | _ => .fail
theorem e_revU (ha : PE X a (rE X.K W ga)) (hb : PE X b (rE X.K W gb)) : PE X (.Subscript a (.Slice none none (some b) p2) pos) (rE X.K W (eFn fRevU (aCons ga (aCons gb aNil)))) := by
  refine (pe_revU ha (p_some hb)).imp fun σ H Q ⟨env, m, st, hE, hS, hp⟩ => ?_
  have hp' : Post X.K (okV X.K) (WE W σ) m H Q ((ga env st).bind fun d st => (gb env st).bind fun e st => fRevU [d, e] st) := by
    have e : eFn fRevU (aCons ga (aCons gb aNil)) env st = ((ga env st).bind fun d st => (gb env st).bind fun e st => fRevU [d, e] st) := by
      unfold eFn aCons aNil
      cases ga env st with
      | ok d s2 =>
        simp only [R.bind]
        cases gb env s2 <;> rfl
      | err => rfl
      | fail => rfl
    rw [← e]
    exact hp
  refine ⟨env, m, st, hE, hS, hp'.bind fun d st1 v H1 m1 e1 p1 s1 r1 hp1 => ⟨env, m1, st1, hE.mono e1 p1, s1, ?_⟩⟩
  unfold oSome
  have hp2 : Post X.K (okV X.K) (WE W σ) m1 H1 Q ((gb env st1).bind fun e st => fRevU [d, e] st) := hp1
  cases q : gb env st1 with
  | err c fs s2 => rw [q] at hp2; exact hp2
  | fail => rw [q] at hp2; exact hp2.elim
  | ok e st2 =>
    rw [q] at hp2
    have hp3 : Post X.K (okV X.K) (WE W σ) m1 H1 Q (fRevU [d, e] st2) := hp2
    simp only [R.bind]
    unfold fRevU at hp3
    split at hp3
    · rename_i ys hde
      cases hde
      simp only
      intro z H2 m2 e2 p2 s2 r2
      cases r2
      refine ⟨rfl, ?_⟩
      have hp4 := Post.up hp3 e2 p2
      have r1' := r1.mono e2 p2
      cases r1' with
      | @tup _ b vs hq rv =>
        refine ⟨b, vs, rfl, hq, fun r hr => ?_⟩
        exact hp4 _ _ m2 (.new hr) (List.prefix_refl m2) (s2.tup hr) (.tup (.of upd_same) (rvs_rev (rv.mono (.new hr) (List.prefix_refl m2))))
    · exact hp3.elim
end
end U
set_option Elab.async false
set_option linter.all false
set_option maxRecDepth 100000
set_option maxHeartbeats 1000000
namespace U
open PySem PySem.Spec PySem.Calls PyProof.Rows PyProof.V L2
section
variable {X : Cx} {W : WX} {pins : List (Addr × Obj)} {σ : L2.St} {H : Hp} {s : Shared} {m : Pl} {K : PySem.W.Frag} {k k1 k2 k3 : Bool} {a b c : Addr} {xs ys zs : List V}
end
end U
set_option Elab.async false
set_option linter.all false
set_option maxRecDepth 100000
set_option maxHeartbeats 1000000
namespace U
open PySem PySem.Spec PySem.Calls PyProof.Rows PyProof.V L2
def ftOf (st : Sto) (n : Nat) : Option (List D) := match st[n]? with
  | some (.fzt xs) => some xs
  | _ => none
theorem ft_at {st : Sto} {n : Nat} {xs : List D} (h : st[n]? = some (.fzt xs)) : ftOf st n = some xs := by unfold ftOf; rw [h]
def eThaw (g : EM) : EM := fun env st => (g env st).bind fun d st => match d with
  | .ref n => match ftOf st n with
    | some xs => .ok (.tup xs) st
    | none => .fail
  | _ => .fail
def mIdxZ (x : D) (ys : List D) (st : Sto) : R D := match x, ys with
  | .ref n, [.int k] => match ftOf st n with
    | some xs => if xs.all isI = true ∧ (xs.map wI).contains k = true then .ok (.int (((xs.map wI).idxOf k : Nat) : Int)) st else .fail
    | none => .fail
  | _, _ => .fail
def eIdxZ (ga : EM) (gs : AM) : EM := fun env st => (ga env st).bind fun x st => match x with
  | .ref n => match ftOf st n with
    | some _ => (gs env st).bind fun ys st => mIdxZ x ys st
    | none => .fail
  | _ => .fail
section
variable {X : Cx} {W : WX}
variable {a b : Expr} {ga gb : EM} {p pos apos : Pos}
end
end U
set_option Elab.async false
set_option linter.all false
set_option maxRecDepth 100000
set_option maxHeartbeats 1000000
namespace U
open PySem PySem.Spec PySem.Calls PyProof.Rows PyProof.V L2
section
variable {X : Cx} {W : WX} {es : List Expr} {gs : AM} {pos : Pos}
def gL (n : Nat) (g : GMs) : GM := fun d env st => match d with
  | .ref k => match lstOf st k with
    | some xs => if xs.length = n then g xs env st else none
    | none => none
  | _ => none
end
end U
set_option Elab.async false
set_option linter.all false
set_option maxRecDepth 100000
set_option maxHeartbeats 1000000
namespace U
open PySem PySem.Spec PySem.Calls PyProof.Rows PyProof.V L2
section
variable {K : PySem.W.Frag} {H H1 : Hp} {m : Pl}
end
end U
set_option Elab.async false
set_option linter.all false
set_option maxRecDepth 100000
set_option maxHeartbeats 1000000
namespace U
open PySem PySem.Spec PySem.Calls PyProof.Rows PyProof.V L2
structure Mth (P : Program) (w : World) (K : PySem.W.Frag) (mg : Str → Option Value) (base : Heap) (k : Nat) (c m : Str) (n : Nat) (f : Fm) (dds : List D) : Prop where
  ex : ∃ (a : Addr) (fd : FuncData) (ps : List Str) (us : List Value) (dvs : List V), FnOk P w K mg base (L2.CX P w) k a fd ps (spF K n f) ∧ Cls K (He.ga K c) ∧ Meth K (He.ga K c) m a ∧ Binds K fd ps us ∧ Vals dvs us ∧ ∀ (H : Hp) (pl : Pl), RVs K H pl dds dvs
  ar : Arity n f
section
variable {X : Cx} {k n : Nat} {o e : Expr} {es : List Expr} {ga : EM} {gs : AM} {apos pos : Pos} {c m : Str} {f : Fm} {dds : List D} {E : XK}
end
structure MkS (P : Program) (w : World) (K : PySem.W.Frag) (mg : Str → Option Value) (base : Heap) (k : Nat) (c : Str) (n : Nat) (f : Fm) (np : Nat) (ks : List Str) (l : List Arg) : Prop where
  ex : ∃ (a : Addr) (fd : FuncData) (ps : List Str) (g : List Value → List Value → List Value) (gV : List V → List V → List V), FnOk P w K mg base (L2.CX P w) k a fd ps (spF K n f) ∧ mg c = some (.ref (He.ga K c)) ∧ Mk K (He.ga K c) a ∧ KBn K fd ps (np + 1) ks g gV ∧
    ∀ (H : Hp) (m : Pl) (ds es : List D) (vs zs : List V), RVs K H m ds vs → RVs K H m es zs → vs.length = np + 1 → zs.length = ks.length → ∃ fs, pick l (ds ++ es) = some fs ∧ RVs K H m fs (gV vs zs)
  isi : IsiC K (He.ga K c)
  ar : Arity n f
section
variable {X : Cx} {k n np : Nat} {a : Expr} {es : List Expr} {kws : List Keyword} {ga gk : AM} {p pos : Pos} {c : Str} {f : Fm} {E : XK} {ks : List Str} {l : List Arg}
end
end U
set_option Elab.async false
set_option linter.all false
set_option maxRecDepth 100000
set_option maxHeartbeats 1000000
namespace U
open PySem PySem.Spec PySem.Calls PyProof.Rows PyProof.V L2
def kinds2 : List String := ["NoneType", "bool", "int", "str", "tuple", "list", "own"]
theorem tyD_mem {st : Sto} {d : D} {T : String} (h : tyD st d = some T) : T ∈ kinds2 := by
  cases d with
  | ref n =>
    unfold tyD at h
    simp only at h
    split at h
    · cases h; decide
    · cases h; decide
    · cases h; decide
    · cases h
  | _ => cases h; decide
section
variable {X : Cx}
end
end U
set_option Elab.async false
set_option linter.all false
set_option maxRecDepth 100000
set_option maxHeartbeats 1000000
namespace U
open PySem PySem.Spec PySem.Calls PyProof.Rows PyProof.V L2
structure RsC (K : PySem.W.Frag) (mg : Str → Option Value) (c : Str) : Prop where
  gl : mg c = some (.ref (He.ga K c))
  ok : rscB c K = true
section
variable {X : Cx} {W : WX} {c m : Str} {j : Nat} {p p2 p3 pos : Pos}
end
abbrev Ans := D ⊕ (Str × List (Str × D))
def obsE (n : Nat) (f : List D → Sto → Option Ans) : Fm := fun ds st => if ds.length = n then (match f ds st with
  | some (.inl d) => .ok d st
  | some (.inr (c, fs)) => .err c fs st
  | none => .fail) else .fail
theorem Tells.obsE {m : Fm} {n : Nat} {f : List D → Sto → Option Ans} (h1 : ∀ ds st d, Good st → Bnds st.length ds → ds.length = n → f ds st = some (.inl d) → Bnd st.length d ∧ ∃ ex, m ds st = .ok d (st ++ ex))
    (h2 : ∀ ds st c fs, Good st → Bnds st.length ds → ds.length = n → f ds st = some (.inr (c, fs)) → Bnds st.length (fs.map (·.2)) ∧ ∃ ex, m ds st = .err c fs (st ++ ex)) : Tells m (U.obsE n f) where
  ok := fun ds st d st1 g b e => by
    unfold U.obsE at e
    split at e
    · rename_i hl
      split at e
      · rename_i d' q
        cases e
        obtain ⟨z1, ex, z2⟩ := h1 ds st d g b hl q
        exact ⟨g, z1, id, st ++ ex, by rw [ren_id]; exact z2, fits_app⟩
      · cases e
      · cases e
    · cases e
  err := fun ds st c fs st1 g b e => by
    unfold U.obsE at e
    split at e
    · rename_i hl
      split at e
      · cases e
      · rename_i c' fs' q
        cases e
        obtain ⟨z1, ex, z2⟩ := h2 ds st c fs g b hl q
        refine ⟨g, z1, id, st ++ ex, ?_, fits_app⟩
        have e1 : (fs.map fun p => (p.1, ren id p.2)) = fs := by
          have e2 : (fun p : Str × D => (p.1, ren id p.2)) = id := funext fun p => by rw [ren_id]; rfl
          rw [e2, List.map_id]
        rw [e1]
        exact z2
      · cases e
    · cases e
end U
set_option Elab.async false
set_option linter.all false
set_option maxRecDepth 100000
set_option maxHeartbeats 1000000
namespace U
open PySem PySem.Spec PySem.Calls PyProof.Rows PyProof.V L2
structure Ec where
  p : Addr
  d : Option Addr
  cl : Value
structure HasE (X : Cx) (z : Ec) : Prop where
  ex : ∃ (oe : Obj) (vs : Array Value), (z.p, oe) ∈ X.pn ∧ Zc z.cl z.d oe ∧ oe.data = .fields vs
section
variable {K : PySem.W.Frag} {H : Hp} {m : Pl} {st : Sto}
end
section
variable {X : Cx} {z : Ec}
variable {W : WX} {e0 : Expr} {ga : EM} {pos p p2 : Pos}
end
end U
set_option Elab.async false
set_option linter.all false
set_option maxRecDepth 100000
set_option maxHeartbeats 1000000
namespace U
open PySem PySem.Spec PySem.Calls PyProof.Rows PyProof.V L2
abbrev NoX : XK := fun _ _ _ => False
def RunE (P : Program) (w : World) (K : PySem.W.Frag) (mg : Str → Option Value) (base : Heap) (k : Nat) (f : Addr) (fd : FuncData) (ps : List Str) (g : Ec → Fm) : Prop :=
  ∀ (A : Around) (outer : List Env) (s : Shared) (H : Hp) (args : Args) (us : List Value) (vs : List V) (Q : VK) (z : Ec) (oe : Obj), L2H.RoomH k A → L2H.PinOk outer H s (z.p, oe) → Zc z.cl z.d oe → (∃ ws, oe.data = .fields ws) →
    Env0 P w K mg base A outer s H → BindsTo s fd args (ps.zip us) → Vals vs us → spF K 1 (g z) vs H Q NoX → codeAny (model P w) A (.call (.ref f) args) (CR (L2.CX P w) outer P w H s Q NoX) s
section
variable {P : Program} {w : World} {K : PySem.W.Frag} {mg : Str → Option Value} {base : Heap}
end
structure FnE (P : Program) (w : World) (K : PySem.W.Frag) (mg : Str → Option Value) (base : Heap) (k : Nat) (x : Str) (g : Ec → Fm) : Prop where
  ex : ∃ (a : Addr) (fd : FuncData) (ps : List Str), RunE P w K mg base k a fd ps g ∧ mg x = some (.ref a) ∧ PySem.W.keepIn K (.ref a) = true ∧ Binds K fd ps [] ∧ ps.length = 1
  ar : ∀ z, Arity 1 (g z)
section
variable {X : Cx} {W : WX} {a : Expr} {ga : EM} {pos p : Pos} {k : Nat} {x : Str} {g : Ec → Fm} {z : Ec}
end
end U
set_option Elab.async false
set_option linter.all false
set_option maxRecDepth 100000
set_option maxHeartbeats 1000000
namespace U
open PySem PySem.Spec PySem.Calls PyProof.Rows PyProof.V L2
section
open PySem.W
variable {M : Model} {A : Around} {E : Value → Shared → Prop} {s : Shared}
end
inductive NamesC (X : Cx) : List Expr → List Value → Prop
  | nil : NamesC X [] []
  | cons {x : Str} {p : Pos} {c : Value} {es : List Expr} {cs : List Value} (hg : Gl X x) (hd : (x == ("__debug__" : Str)) = false) (hm : X.mg x = some c) (he : starEach (.Name x p :: es) X.env = (false, eval (.Name x p) X.env) :: starEach es X.env) (r : NamesC X es cs) : NamesC X (.Name x p :: es) (c :: cs)
section
variable {X Y : Cx}
end
end U
set_option Elab.async false
set_option linter.all false
set_option maxRecDepth 100000
set_option maxHeartbeats 1000000
namespace U
open PySem PySem.Spec PySem.Calls PyProof.Rows PyProof.V L2
section
variable {X : Cx} {pins : List (Addr × Obj)} {σ : L2.St} {H : Hp} {s : Shared}
end
end U
set_option Elab.async false
set_option linter.all false
set_option maxRecDepth 100000
set_option maxHeartbeats 1000000
namespace U
open PySem PySem.Spec PySem.Calls PyProof.Rows PyProof.V L2
section
variable {K : PySem.W.Frag} {H : Hp} {m : Pl} {st ex : Sto}
theorem take_at {n : Nat} : ∀ i, i < n → ∀ a : Addr, m[i]? = some a → (m.take n)[i]? = some a := fun i hi a e => by
  rw [List.getElem?_take_of_lt hi]
  exact e
theorem SR.cut (s : SR K H m (st ++ ex)) (g : Good st) : SR K H (m.take st.length) st := by
  have hl : st.length ≤ m.length := by rw [s.len, List.length_append]; omega
  have back : ∀ {i : Nat} {a : Addr} {o : Ob}, (m.take st.length)[i]? = some a → st[i]? = some o → m[i]? = some a ∧ (st ++ ex)[i]? = some o := fun {i a o} h1 h2 => by
    have hi := (List.getElem?_eq_some_iff.mp h2).1
    rw [List.getElem?_take_of_lt hi] at h1
    exact ⟨h1, by rw [List.getElem?_append_left hi]; exact h2⟩
  refine ⟨by rw [List.length_take]; omega, fun i j a o1 o2 h1 h2 h3 h4 t1 t2 => ?_, fun i a o h1 h2 => ?_⟩
  · obtain ⟨x1, x2⟩ := back h1 h3
    obtain ⟨y1, y2⟩ := back h2 h4
    exact s.nd i j a o1 o2 x1 y1 x2 y2 t1 t2
  · obtain ⟨x1, x2⟩ := back h1 h2
    have r := s.ob i a o x1 x2
    rw [← renO_id o] at r
    exact r.back (ρ := id) (n := st.length) (fun i hi a e => take_at i hi a e) (g i o h2)
theorem RV.cut {n : Nat} {d : D} {v : V} (r : RV K H m d v) (b : Bnd n d) : RV K H (m.take n) d v := by
  rw [← ren_id d] at r
  exact r.back (ρ := id) (fun i hi a e => take_at i hi a e) b
theorem SR.exc {z : Ec} {c : Str} {fs : List (Str × D)} (s : SR K H m st) (hc : z.cl = .ref (He.ga K c)) (x : XR K H m fs z.d) : SR K H (m ++ [z.p]) (st ++ [.exc z.p z.d z.cl c fs]) := by
  have look : ∀ {i : Nat} {a : Addr} {q : Ob}, (m ++ [z.p])[i]? = some a → (st ++ [.exc z.p z.d z.cl c fs])[i]? = some q → (m[i]? = some a ∧ st[i]? = some q) ∨ (a = z.p ∧ q = .exc z.p z.d z.cl c fs) := fun {i a q} h1 h2 => by
    by_cases hi : i < m.length
    · rw [List.getElem?_append_left hi] at h1
      rw [List.getElem?_append_left (by rw [← s.len]; exact hi)] at h2
      exact .inl ⟨h1, h2⟩
    · have hl := (List.getElem?_eq_some_iff.mp h1).1
      have hi2 : i = m.length := by simp at hl; omega
      subst hi2
      simp at h1
      rw [s.len] at h2
      simp at h2
      exact .inr ⟨h1.symm, h2.symm⟩
  refine ⟨by simp [s.len], fun i j a o1 o2 h1 h2 h3 h4 t1 t2 => ?_, fun i a o h1 h2 => ?_⟩
  · rcases look h1 h3 with ⟨x1, x2⟩ | ⟨_, x2⟩
    · rcases look h2 h4 with ⟨y1, y2⟩ | ⟨_, y2⟩
      · exact s.nd i j a o1 o2 x1 y1 x2 y2 t1 t2
      · subst y2; cases t2
    · subst x2; cases t1
  · have p : m <+: m ++ [z.p] := List.prefix_append _ _
    rcases look h1 h2 with ⟨x1, x2⟩ | ⟨x1, x2⟩
    · exact (s.ob i a o x1 x2).mono (.refl H) p fun _ u e => e
    · subst x1 x2
      exact ⟨rfl, hc, x.elim (fun z => .inl z) fun ⟨dd, vfs, z1, z2, z3, z4⟩ => .inr ⟨dd, vfs, z1, z2, z3, z4.mono (.refl H) p⟩⟩
end
def knownE (raised : List Str) (c : Str) (fs : List (Str × D)) : Prop := raised.contains c = true ∧ fs.map (·.1) = fieldsOf c
instance {raised : List Str} {c : Str} {fs : List (Str × D)} : Decidable (knownE raised c fs) := by unfold knownE; infer_instance
section
variable {X : Cx} {sg : Scope} {g : Addr} {cdg : Value} {q : Str} {raised : List Str}
end
end U
set_option Elab.async false
set_option linter.all false
set_option maxRecDepth 100000
set_option maxHeartbeats 1000000
namespace U
open PySem PySem.Spec PySem.Calls PyProof.Rows PyProof.V L2
section
variable {X : Cx} {W : WX} {k : Nat} {a b : Expr} {ga gb : EM} {p pos apos : Pos}
end
section
variable {K : PySem.W.Frag} {raised : List Str}
end
section
variable {X : Cx} {W : WX} {raised : List Str} {n : Str × Option Str} {q : Str} {i k : Nat} {params : Arguments} {body : Expr} {scope : Scope} {p lpos pos : Pos} {ge : EM}
end
end U
set_option Elab.async false
set_option linter.all false
set_option maxRecDepth 100000
set_option maxHeartbeats 3200000
namespace U
open PySem PySem.Spec PySem.Calls PyProof.Rows PyProof.V L2
section
variable {X : Cx} {W : WX} {k : Nat} {a : Expr} {ga : EM} {p p2 q pos : Pos}
end
end U
set_option Elab.async false
set_option linter.all false
set_option maxRecDepth 100000
set_option maxHeartbeats 1000000
namespace U
open PySem PySem.Spec PySem.Calls PyProof.Rows PyProof.V L2
section
variable {P : Program} {w : World} {K : PySem.W.Frag} {mg : Str → Option Value} {base : Heap}
end
end U
set_option Elab.async false
set_option linter.all false
set_option maxRecDepth 100000
set_option maxHeartbeats 1000000
namespace U
open PySem PySem.Spec PyProof.Rows PyProof.V L2
section
variable {X : Cx} {W : WX} {a : Expr} {ga : EM} {pos apos : Pos}
end
end U
set_option Elab.async false
set_option linter.all false
set_option maxRecDepth 100000
set_option maxHeartbeats 1000000
namespace U
open PySem PySem.Spec PyProof.Rows PyProof.V L2
def rowR (d : Nat) (x : D) : Bool := match x with
  | .tup ys => ys.all (withinD 0 63) && decide (ys.length = d)
  | _ => false
def codeR (x : D) : Int := TS.code 64 ((tupsD x).map wI)
def rowsD (xs : List D) : Nat := match xs with
  | x :: _ => (tupsD x).length
  | [] => 1
def riseP (xs : List D) : Prop := xs.all (rowR (rowsD xs)) = true ∧ 1 ≤ rowsD xs ∧ xs.length < 64 ∧ (xs.map codeR).Pairwise (· < ·)
instance {xs : List D} : Decidable (riseP xs) := by unfold riseP; infer_instance
section
variable {X : Cx} {W : WX} {a : Expr} {ga : EM} {p p2 q pos : Pos}
end
end U
set_option Elab.async false
set_option linter.all false
set_option maxRecDepth 100000
set_option maxHeartbeats 1000000
namespace U
open PySem PySem.Spec PyProof.Rows L2
section
variable {X : Cx} {W : WX} {k : Nat} {a : Expr} {ga : EM} {p pos : Pos}
end
end U
set_option Elab.async false
set_option linter.all false
set_option maxRecDepth 100000
set_option maxHeartbeats 1000000
namespace PySem
namespace UX
open Builtin Builtin.ObjectAttr PySem.W PySem.Calls PyProof.Rows PySem.HandSPX
section
variable {prog : Program} {w : World} {A : Around} {R : Result → Shared → Prop} {hp : Heap} {g : Array GenState} {d : Drawn} {t : Nat} {os : OsState}
end
end UX
end PySem
namespace U
open PySem PySem.Spec PySem.Calls PyProof.Rows PyProof.V L2
structure ExB (B newId initId : String) (tl : List Value) : Prop where
  base : ExcBaseFacts B newId initId tl
  pass : ∀ self : Value, refuseLoop self "__setattr__" tl = pure ()
  obj : tl.contains (.type "object") = true
structure OexB (K : PySem.W.Frag) (newId : String) (tl : List Value) (C : Addr) : Prop where
  cls : ∃ nm q N bs sn sub ab col dd k0 k1 k2 k3 k5, K.lookup C = some (excClassObj nm q C N bs tl true sn sub ab col dd k0 k1 k2 k3 k5 newId)
  sa : PySem.W.findIn K (.ref C) "__setattr__" = some (some (.builtin "object.__setattr__"))
  exC : PySem.W.subIn K (.ref C) (.type "BaseException") = some true
  tyC : PySem.W.typeIn K (.ref C) = some (.type "type")
  kC : PySem.W.keepIn K (.ref C) = true
section
variable {X : Cx} {pins : List (Addr × Obj)} {σ : L2.St} {H : Hp} {s : Shared} {a C : Addr} {f : Str} {y : V} {u : Value} {A : Around} {B newId initId : String} {tl : List Value}
end
section
variable {X : Cx} {o e : Expr} {es : List Expr} {to te : TE} {ta : TA} {f : Str} {p p' p1 p2 pos : Pos} {B newId initId : String} {tl : List Value}
end
end U
set_option Elab.async false
set_option linter.all false
set_option maxRecDepth 100000
set_option maxHeartbeats 1000000
namespace U
open PySem PySem.Spec PySem.Calls PyProof.Rows PyProof.V L2
structure RxC (K : PySem.W.Frag) (mg : Str → Option Value) (newId : String) (tl : List Value) (c f : Str) : Prop where
  gl : mg c = some (.ref (He.ga K c))
  oex : OexB K newId tl (He.ga K c)
  own : PySem.W.findIn K (.ref (He.ga K c)) "__init__" = some (some (.ref (He.fAd K (c, some "__init__"))))
  isF : PySem.W.typeIn K (.ref (He.fAd K (c, some "__init__"))) = some (.type "function")
  no : PySem.W.findIn K (.ref (He.ga K c)) f = some none
section
variable {X : Cx} {W : WX} {c f : Str} {e : Expr} {ge : EM} {p p3 pos : Pos} {B newId initId : String} {tl : List Value} {k : Nat} {fd : FuncData} {ps : List Str}
end
end U
set_option Elab.async false
set_option linter.all false
set_option maxRecDepth 100000
set_option maxHeartbeats 1000000
namespace U
open PySem PySem.Spec PySem.Calls PyProof.Rows PyProof.V L2
section
variable {X : Cx} {W : WX} {k : Nat} {kx vx a : Expr} {gk gv ga : EM} {p pos : Pos}
end
section
variable {X : Cx} {W : WX} {k : Nat} {a : Expr} {ga : EM} {p pos : Pos}
end
section
variable {X : Cx} {m : Pl} {K : PySem.W.Frag}
end
end U
set_option Elab.async false
set_option linter.all false
set_option maxRecDepth 100000
set_option maxHeartbeats 1000000
namespace U
open PySem PySem.Spec PySem.Calls PyProof.Rows PyProof.V L2
section
variable {X : Cx} {pins : List (Addr × Obj)} {σ : L2.St} {H H' : Hp} {s : Shared} {m : Pl} {K : PySem.W.Frag} {a : Addr} {o : Obj} {kvs : List (D × D)} {xs : List DEn} {vs : List V}
end
end U
set_option Elab.async false
set_option linter.all false
set_option maxRecDepth 100000
set_option maxHeartbeats 1000000
namespace U
open PySem PySem.Spec PySem.Calls PyProof.Rows PyProof.V L2
section
variable {prog : Program} {w : World} {A : Around} {E : Value → Shared → Prop} {s : Shared} {l : Addr} {xs : Array (Int × Tok)} {its : List Value} {ns : List Int} {Q : Value → Shared → Prop}
end
section
variable {X : Cx} {W : WX} {k : Nat} {a : Expr} {ga : EM} {p pos : Pos}
end
end U
set_option Elab.async false
set_option linter.all false
set_option maxRecDepth 100000
set_option maxHeartbeats 1000000
namespace U
open PySem PySem.Spec PySem.Calls PyProof.Rows PyProof.V L2
section
variable {X : Cx} {W : WX} {k : Nat}
end
end U
set_option Elab.async false
set_option linter.all false
set_option maxRecDepth 100000
set_option maxHeartbeats 1000000
namespace U
open PySem PySem.Spec PySem.Calls PyProof.Rows PyProof.V L2
section
variable {X : Cx} {W : WX} {k : Nat} {a : Expr} {ga : EM} {p pos : Pos}
end
end U
set_option Elab.async false
set_option linter.all false
set_option maxRecDepth 100000
set_option maxHeartbeats 1000000
namespace U
open PySem PySem.Spec PySem.Calls PyProof.Rows PyProof.V L2
def fStrI (ds : List D) (st : Sto) : R D := match ds with
  | [.int i] => if i.natAbs.log2 < 1920 then .ok (.str (toString i)) st else .fail
  | [.str y] => .ok (.str y) st
  | _ => .fail
def rStrI (xs : List V) (H : Hp) (Q : VK) : Prop := (∃ i : Int, xs = [.int i] ∧ i.natAbs.log2 < 1920 ∧ Q (.str (toString i)) H) ∨ ∃ a : Str, xs = [.str a] ∧ Q (.str a) H
theorem call_strI {X : Cx} : CallR X (.type "str") rStrI := by
  intro pins s σ H xs us Q I r h
  rcases h with h | h
  · exact call_str_int pins s σ H xs us Q I r h
  · exact SkE.call_str_str pins s σ H xs us Q I r h
theorem strI_read {K : PySem.W.Frag} : CallF K rStrI fStrI := fun E m H st ds vs Q s r hp => by
  unfold fStrI at hp
  split at hp
  · rename_i i
    by_cases h : i.natAbs.log2 < 1920
    · rw [if_pos h] at hp
      cases r with
      | cons r1 r2 => cases r2; cases r1; exact .inl ⟨i, rfl, h, Post.here (v := .str _) hp s .str⟩
    · rw [if_neg h] at hp; exact hp.elim
  · rename_i y
    cases r with
    | cons r1 r2 => cases r2; cases r1; exact .inr ⟨y, rfl, Post.here (v := .str _) hp s .str⟩
  · exact hp.elim
def eFmt (g : EM) : EM := fun env st => (g env st).bind fun d st => match d with
  | .str y => if y.length ≤ sizeLine then .ok (.str y) st else .fail
  | .int i => if i.natAbs.log2 < 1920 then .ok (.str (toString i)) st else .fail
  | _ => .fail
def joinEs : List EM → Str → EM
  | [], acc => fun _ st => .ok (.str acc) st
  | g :: gs, acc => fun env st => (g env st).bind fun d st => match d with
    | .str y => if (acc ++ y).length ≤ sizeLine then joinEs gs (acc ++ y) env st else .fail
    | _ => .fail
def dJoin (a : Str) (d : D) (st : Sto) : R D := match seqOf st d with
  | some xs => match words xs with
    | some ys => if (ys.map (·.length)).sum + ys.length * a.length ≤ 16777216 then .ok (.str (Txt.join a ys)) st else .fail
    | none => .fail
  | none => .fail
section
variable {X : Cx} {W : WX} {k : Nat} {a : Expr} {ga : EM} {p pos apos cpos : Pos}
theorem e_strI (hm : X.mg "str" = none) (ha : PE X a (rE X.K W ga)) (hg : Gl X "str" := by rfl) (he : starEach [a] X.env = (false, eval a X.env) :: starEach [] X.env := by rfl) (hpl : (backTo pos (starEach [] X.env)).any (·.1) = false := by rfl) :
    PE X (.Call (.Name "str" p) [a] [] pos) (rE X.K W (eFn fStrI (aCons ga aNil))) := e_callTy call_strI strI_read hm PyProof.Rows.boot_str (a_cons ha a_nil he) hg (by decide) (by decide) he hpl
theorem e_fmt (ha : PE X a (rE X.K W ga)) : PE X (.FormattedValue a (-1) none pos) (rE X.K W (eFmt ga)) := (pe_fmt ha).imp fun σ H Q ⟨env, m, st, hE, hS, hp⟩ => by
  have hp' : Post X.K (okV X.K) (WE W σ) m H Q ((ga env st).bind fun d st => match d with
    | .str y => if y.length ≤ sizeLine then .ok (.str y) st else .fail
    | .int i => if i.natAbs.log2 < 1920 then .ok (.str (toString i)) st else .fail
    | _ => .fail) := hp
  refine ⟨env, m, st, hE, hS, hp'.bind fun d st1 v H1 m1 e1 p1 s1 r1 hp1 => ?_⟩
  cases d with
  | str y =>
    cases r1
    have hp2 : Post X.K (okV X.K) (WE W σ) m1 H1 Q (if y.length ≤ sizeLine then .ok (.str y) st1 else .fail) := hp1
    by_cases h : y.length ≤ sizeLine
    · rw [if_pos h] at hp2
      exact .inl ⟨y, rfl, h, Post.here (v := .str _) hp2 s1 .str⟩
    · rw [if_neg h] at hp2; exact hp2.elim
  | int i =>
    cases r1
    have hp2 : Post X.K (okV X.K) (WE W σ) m1 H1 Q (if i.natAbs.log2 < 1920 then .ok (.str (toString i)) st1 else .fail) := hp1
    by_cases h : i.natAbs.log2 < 1920
    · rw [if_pos h] at hp2
      exact .inr ⟨i, rfl, h, Post.here (v := .str _) hp2 s1 .str⟩
    · rw [if_neg h] at hp2; exact hp2.elim
  | non => exact False.elim hp1
  | bl _ => exact False.elim hp1
  | tup _ => exact False.elim hp1
  | ref _ => exact False.elim hp1
theorem joins_read {W : WX} {σ : L2.St} : ∀ {gs : List EM} {acc : Str} {env : Ev} {m : Pl} {st : Sto} {H : Hp} {Q : VK}, RE X.K H m env σ → SR X.K H m st → Post X.K (okV X.K) (WE W σ) m H Q (joinEs gs acc env st) → tJs (gs.map (rE X.K W)) acc σ H (fun out H1 => Q (.str out) H1)
  | [], acc, env, m, st, H, Q, hE, hS, hp => by
    show Q (.str acc) H
    exact Post.here (v := .str acc) hp hS .str
  | g :: gs, acc, env, m, st, H, Q, hE, hS, hp => by
    have hp' : Post X.K (okV X.K) (WE W σ) m H Q ((g env st).bind fun d st => match d with
      | .str y => if (acc ++ y).length ≤ sizeLine then joinEs gs (acc ++ y) env st else .fail
      | _ => .fail) := hp
    refine ⟨env, m, st, hE, hS, hp'.bind fun d st1 v H1 m1 e1 p1 s1 r1 hp1 => ?_⟩
    cases d with
    | str y =>
      cases r1
      have hp2 : Post X.K (okV X.K) (WE W σ) m1 H1 Q (if (acc ++ y).length ≤ sizeLine then joinEs gs (acc ++ y) env st1 else .fail) := hp1
      by_cases h : (acc ++ y).length ≤ sizeLine
      · rw [if_pos h] at hp2
        exact ⟨y, rfl, h, joins_read (hE.mono e1 p1) s1 hp2⟩
      · rw [if_neg h] at hp2; exact hp2.elim
    | int _ => exact False.elim hp1
    | non => exact False.elim hp1
    | bl _ => exact False.elim hp1
    | tup _ => exact False.elim hp1
    | ref _ => exact False.elim hp1
theorem e_joined {v1 v2 : Expr} {rest : List Expr} {gs : List EM} (h : PJ X (v1 :: v2 :: rest) (gs.map (rE X.K W))) : PE X (.JoinedStr (v1 :: v2 :: rest) pos) (rE X.K W (joinEs gs Str.empty)) :=
  (pe_joined h).imp fun σ H Q ⟨env, m, st, hE, hS, hp⟩ => joins_read hE hS hp
theorem words_sq {K : PySem.W.Frag} {H : Hp} {m : Pl} {st : Sto} {d : D} {v : V} {xs : List D} {ys : List Str} (s : SR K H m st) (r : RV K H m d v) (hx : seqOf st d = some xs) (hw : words xs = some ys) : ∃ q, v = .ref q ∧ (SqL K H q (ys.map V.str) ∨ SqT K H q (ys.map V.str)) := by
  cases d with
  | tup zs =>
    cases hx
    cases r with
    | @tup _ p vs h1 r2 =>
      have := words_rv r2 hw
      subst this
      exact ⟨p, rfl, .inr h1⟩
  | ref n =>
    cases r with
    | @ref _ p hn =>
      obtain ⟨vs, hq, rs⟩ := s.sqL hn hx
      have := words_rv rs hw
      subst this
      exact ⟨p, rfl, .inl hq⟩
  | str _ => cases hx
  | int _ => cases hx
  | non => cases hx
  | bl _ => cases hx
theorem e_join {b : Str} {j : Nat} (ha : PE X a (rE X.K W ga)) (hs : starEach [a] X.env = [(false, eval a X.env)] := by rfl) (hbase : attributeBase (.Constant (.str b) j cpos) "join" X.env (eval (.Constant (.str b) j cpos) X.env) = eval (.Constant (.str b) j cpos) X.env := by rfl) (hline : (apos.endLine == pos.line) = true := by rfl) :
    PE X (.Call (.Attribute (.Constant (.str b) j cpos) "join" apos) [a] [] pos) (rE X.K W (eUn (dJoin b) ga)) :=
  (pe_join pe_str ha hs hbase hline).imp fun σ H Q ⟨env, m, st, hE, hS, hp⟩ => by
    have hp' : Post X.K (okV X.K) (WE W σ) m H Q ((ga env st).bind fun d st => dJoin b d st) := hp
    refine ⟨⟨b, rfl⟩, env, m, st, hE, hS, hp'.bind fun d st1 v H1 m1 e1 p1 s1 r1 hp1 => ?_⟩
    unfold dJoin at hp1
    split at hp1
    · rename_i xs hx
      split at hp1
      · rename_i ys hw
        by_cases h : (ys.map (·.length)).sum + ys.length * b.length ≤ 16777216
        · rw [if_pos h] at hp1
          obtain ⟨q, rfl, hq⟩ := words_sq s1 r1 hx hw
          exact ⟨b, q, ys, rfl, rfl, hq, h, Post.here (v := .str _) hp1 s1 .str⟩
        · rw [if_neg h] at hp1; exact hp1.elim
      · exact hp1.elim
    · exact hp1.elim
end
end U
set_option Elab.async false
set_option linter.all false
set_option maxRecDepth 100000
set_option maxHeartbeats 1000000
namespace U
open PySem PySem.Spec PySem.Calls PyProof.Rows PyProof.V L2
section
variable {prog : Program} {w : World} {A : Around} {E : Value → Shared → Prop} {s : Shared} {K : PySem.W.Frag} {x C f : Addr} {ox : Obj} {odd : Option Obj}
theorem strOf_own {Q : Value → Shared → Prop} (X : K.In s.heap) (I : PySem.W.InstAt s.heap x ox C odd) (hs : PySem.W.findIn K (.ref C) "__str__" = some (some (.ref f))) (hf : PySem.W.isFn K (.ref f) = true) (hu : A.units < cLine)
    (h : wpAny (model prog w) A (call (.ref f) [.ref x]) (fun r s₁ => ∃ y t, r = Value.str y t ∧ Q r s₁) E s) : wpAny (model prog w) A (Builtin.Str.strOf (.ref x)) Q E s := by
  unfold Builtin.Str.strOf
  rw [show Builtin.Str.isExactStr (.ref x) = false from rfl]
  refine wpAny_bind (m := cRoomFor _ _) (wpAny_cRoomFor hu ?_)
  refine wpAny_bind (m := callSpecial? (.ref x) (PySem.Str.ofString "__str__")) (PySem.W.special_fn X I hs (beq_iff_eq.mp hf) (wpAny_mono h (fun r s' hr => ?_) fun _ _ y => y))
  obtain ⟨y, t, rfl, hq⟩ := hr
  exact wpAny_pure hq
theorem str_own {Q : Value → Shared → Prop} (X : K.In s.heap) (I : PySem.W.InstAt s.heap x ox C odd) (hs : PySem.W.findIn K (.ref C) "__str__" = some (some (.ref f))) (hf : PySem.W.isFn K (.ref f) = true) (hu : A.units + 2 < cLine)
    (h : wpAny (model prog w) A.in1.in1 (call (.ref f) [.ref x]) (fun r s₁ => ∃ y t, r = Value.str y t ∧ Q (.str y t) s₁) E s) : wpAny (model prog w) A (call (.type "str") [.ref x]) Q E s := by
  refine callType_newIn PySem.F.called_str (by decide) (PySem.F.typeCall_str_1 _) (PySem.F.newCall_str_1 _) (fun obj => PySem.F.args_object_init_2 obj _) PySem.F.entry_str_new
    (S := fun A R s => K.In s.heap ∧ PySem.W.InstAt s.heap x ox C odd ∧ A.units + 1 < cLine ∧ wpAny (model prog w) A.in1 (call (.ref f) [.ref x]) (fun r s₁ => ∃ y t, r = Value.str y t ∧ R (.ok (.ret r)) s₁) (fun e s₁ => R (.error e) s₁) s) ?_
    ⟨X, I, (by show A.units + 1 + 1 < cLine; omega), wpAny_mono h (fun r s1 hr => ?_) fun e s1 he => he⟩
  · refine PySem.MeetsIn.of_wp fun A R s h => ?_
    obtain ⟨h1, h2, h3, h4⟩ := h
    rw [str_new_tree (.ref x)]
    refine wpAny_bind (wpAny_pure ?_)
    refine wpAny_bind (wpAny_of_eq isSubtype_str_str ?_)
    exact wpAny_bind (wpAny_mono (strOf_own (Q := fun r s' => R (.ok (.ret r)) s') h1 h2 hs hf (by show A.units + 1 < cLine; omega) h4) (fun r s' h' => wpAny_pure ⟨_, rfl, h'⟩) fun _ _ e => e)
  · obtain ⟨y, t, rfl, hq⟩ := hr
    exact ⟨y, t, rfl, typeIs_str _ _ _, hq⟩
end
section
variable {X : Cx} {W : WX} {k : Nat} {a : Expr} {ga : EM} {p pos : Pos} {C g : Addr} {fd : FuncData} {ps : List Str} {sp : Sp} {E : L2.St → XK} {ta : TE}
theorem Room.in2 {k : Nat} {A : Around} (r : Room (k + 1) A) : Room k A.in1.in1 :=
  ⟨r.hd, by have := r.dp; show A.depth + 3 * k + 5 < _; omega, by have := r.un; show A.units + 1 + 1 + 16 * k + 200 < _; omega⟩
theorem pe_strOwn (F : FnOk X.prog X.w X.K X.mg X.base (L2.CX X.prog X.w) k g fd ps sp) (hr : Room (k + 1) X.A) (hb : Binds X.K fd ps []) (Me : Meth X.K C "__str__" g) (hx : ∀ σ, PassesAt (L2.CX X.prog X.w) X σ (E σ)) (hm : X.mg "str" = none) (ha : PE X a ta) (hg : Gl X "str")
    (na : starEach [a] X.env = (false, eval a X.env) :: starEach [] X.env := by rfl) : PE X (.Call (.Name "str" p) [a] [] pos) (fun σ H Q => ta σ H fun x H1 => ∃ (r dx : Addr) (fs : List (Str × V)), x = .ref r ∧ H1 r = some (.ins C dx fs) ∧
      sp [.ref r] H1 (fun z H' => ∃ y : Str, z = .str y ∧ Q (.str y) H') (E σ)) := by
  refine ⟨fun pins s σ H Q I h => ?_⟩
  refine wpAny_Call_Name_kw (ld_blt I hg hm PyProof.Rows.boot_str ?_ (by decide) (by decide))
  refine PyProof.Rows.callWith_type1 (args_cons (thn (ha.run pins s σ H _ I h) fun v s1 ⟨x, H1, I1, r1, q1⟩ => args_nil ?_) na) na rfl
  obtain ⟨r, dx, fs, rfl, hi, q⟩ := q1
  cases r1
  obtain ⟨mA, O, _⟩ := ins_get I1.hok hi
  obtain ⟨od, J, _⟩ := O.look
  refine str_own I1.kIn J Me.at_ Me.fn (by have := hr.un; omega) (wpAny_mono (run_in1 (us := [.ref r]) (vs := [.ref r]) F (Room.in2 hr) I1.env0.in1.in1 hb (hx σ) I1 (.cons rfl .nil) q) (fun v s' z => ?_) fun _ _ y => y)
  obtain ⟨z', H', I', rz, y, ey, qz⟩ := z
  subst ey
  obtain ⟨t, e⟩ := (show ∃ t, v = Value.str y t from rz)
  exact ⟨y, t, e, .str y, H', I', ⟨t, rfl⟩, qz⟩
end
def fStrO (c : Str) (f : Fm) (ds : List D) (st : Sto) : R D := match ds with
  | [.ref n] => match st[n]? with
    | some (.ins c' _) => if c' = c then (match f [.ref n] st with
      | .ok (.str y) st' => .ok (.str y) st'
      | .ok _ _ => .fail
      | .err c fs st' => .err c fs st'
      | .fail => .fail) else .fail
    | _ => .fail
  | _ => .fail
structure Mstr (P : Program) (w : World) (K : PySem.W.Frag) (mg : Str → Option Value) (base : Heap) (k : Nat) (c : Str) (f : Fm) : Prop where
  ex : ∃ (a : Addr) (fd : FuncData) (ps : List Str), FnOk P w K mg base (L2.CX P w) k a fd ps (spF K 1 f) ∧ Meth K (He.ga K c) "__str__" a ∧ Binds K fd ps []
  ar : Arity 1 f
section
variable {X : Cx} {W : WX} {k : Nat} {a : Expr} {ga : EM} {p pos : Pos} {c : Str} {f : Fm}
theorem e_strO (F : Mstr X.prog X.w X.K X.mg X.base k c f) (tk : Takes X W) (hr : Room (k + 1) X.A) (hm : X.mg "str" = none) (ha : PE X a (rE X.K W ga)) (hg : Gl X "str" := by rfl)
    (na : starEach [a] X.env = (false, eval a X.env) :: starEach [] X.env := by rfl) :
    PE X (.Call (.Name "str" p) [a] [] pos) (rE X.K W (eFn (fStrO c f) (aCons ga aNil))) := by
  obtain ⟨ad, fd, ps, ok, hme, hb⟩ := F.ex
  refine (pe_strOwn ok hr hb hme (fun σ => passAt tk σ) hm ha hg na).imp fun σ H Q ⟨env, m, st, hE, hS, hp⟩ => ?_
  have hp' : Post X.K (okV X.K) (WE W σ) m H Q ((ga env st).bind fun d st => fStrO c f [d] st) := by
    have e : eFn (fStrO c f) (aCons ga aNil) env st = ((ga env st).bind fun d st => fStrO c f [d] st) := by
      unfold eFn aCons aNil
      cases ga env st <;> rfl
    rw [← e]
    exact hp
  refine ⟨env, m, st, hE, hS, hp'.bind fun d st1 v H1 m1 e1 p1 s1 r1 hp1 => ?_⟩
  unfold fStrO at hp1
  split at hp1
  · rename_i n hd
    cases hd
    split at hp1
    · rename_i c' fs q
      by_cases hcc : c' = c
      · rw [if_pos hcc] at hp1
        subst hcc
        cases r1 with
        | @ref _ b hn =>
          obtain ⟨dx, vfs, h1, _⟩ := s1.ob _ _ _ hn q
          refine ⟨b, dx, vfs, rfl, h1, spF_of F.ar s1 (.cons (.ref hn) .nil) ?_⟩
          cases q2 : f [.ref n] st1 with
          | ok d st' =>
            rw [q2] at hp1
            cases d with
            | str y =>
              intro v H' m' e' p' s' r'
              have r2 := r'
              cases r2
              exact ⟨y, rfl, hp1 _ _ m' e' p' s' r'⟩
            | non => exact hp1.elim
            | bl _ => exact hp1.elim
            | int _ => exact hp1.elim
            | tup _ => exact hp1.elim
            | ref _ => exact hp1.elim
          | err c fs st' => rw [q2] at hp1; exact hp1
          | fail => rw [q2] at hp1; exact hp1.elim
      · rw [if_neg hcc] at hp1
        exact hp1.elim
    · exact hp1.elim
  · exact hp1.elim
end
end U
set_option Elab.async false
set_option linter.all false
set_option maxRecDepth 100000
set_option maxHeartbeats 1000000
namespace U
open PySem PySem.Spec PySem.Calls PyProof.Rows PyProof.V L2
def dEqO (c : Str) (f : Fm) (x y : D) (st : Sto) : R D := match x, y with
  | .ref i, .ref j => match st[i]?, st[j]? with
    | some (.ins c1 _), some (.ins c2 _) => if c1 = c ∧ c2 = c then (match f [.ref i, .ref j] st with
      | .ok (.bl b) st' => .ok (.bl b) st'
      | _ => .fail) else .fail
    | _, _ => .fail
  | _, _ => .fail
def noE : XK := fun _ _ _ => False
def rEqO (K : PySem.W.Frag) (c : Str) (f : Fm) : R2 := fun x y H Q => ∃ (a b dx dy : Addr) (fs gs : List (Str × V)), x = .ref a ∧ y = .ref b ∧ H a = some (.ins (He.ga K c) dx fs) ∧ H b = some (.ins (He.ga K c) dy gs) ∧ spF K 2 f [.ref a, .ref b] H (fun z H' => ∃ t, z = .bl t ∧ Q (.bl t) H') noE
structure Meq (P : Program) (w : World) (K : PySem.W.Frag) (mg : Str → Option Value) (base : Heap) (k : Nat) (c : Str) (f : Fm) : Prop where
  ex : ∃ (a : Addr) (fd : FuncData) (ps : List Str), FnOk P w K mg base (L2.CX P w) k a fd ps (spF K 2 f) ∧ Meth K (He.ga K c) "__eq__" a ∧ Binds K fd ps []
  ar : Arity 2 f
section
variable {X : Cx} {W : WX} {k : Nat} {c : Str} {f : Fm}
theorem or_eqO (F : Meq X.prog X.w X.K X.mg X.base k c f) (tk : Takes X W) (hr : Room k X.A) : OpR X (compareOp .Eq) (rEqO X.K c f) := by
  obtain ⟨g, fd, ps, ok, hme, hbd⟩ := F.ex
  intro pins s σ H x y v u Q I rx ry hq
  obtain ⟨a, b, dx, dy, fs, gs, rfl, rfl, ha, hb, hsp⟩ := hq
  cases (show v = Value.ref a from rx)
  cases (show u = Value.ref b from ry)
  show wpAny (model X.prog X.w) X.A (richCompare .Eq (.ref a) (.ref b)) (EP X pins σ Q) X.xe s
  obtain ⟨mA, J, _⟩ := ins_get I.hok ha
  obtain ⟨mB, J', _⟩ := ins_get I.hok hb
  obtain ⟨od, J, _⟩ := J.look
  obtain ⟨od', J', _⟩ := J'.look
  obtain ⟨m, hF⟩ := I.fr
  refine PySem.W.cmp_K (op := .Eq) (tb := .ref (He.ga X.K c)) hr.units0 hF I.ok.mod.kin J J'.type (by simp [PySem.W.notFirst]) hme.at_ hme.fn ?_
  have hl := ok.len _ _ _ _ hsp
  have r2 : Vals [V.ref a, V.ref b] [Value.ref a, Value.ref b] := .cons rfl (.cons rfl .nil)
  refine wpAny_call (codeAny_mono (ok.run X.A X.stack s H ⟨[.ref a, .ref b], []⟩ [.ref a, .ref b] [.ref a, .ref b] _ noE hr I.env0 (by
    have := hbd s [.ref a, .ref b] I.kIn (by simpa using hl)
    simpa using this) r2 hsp) fun r s' hq => ?_)
  cases r with
  | error e => exact tk e s' (XE.of_call I (fun cls d H1 (z : False) => z.elim) hq)
  | ok fl =>
    cases fl with
    | ret w =>
      obtain ⟨z, H', I', rz, t, ez, qz⟩ := I.after hq
      subst ez
      cases rz
      exact ⟨.bl t, H', I', rfl, qz⟩
    | next => exact False.elim hq
    | brk => exact False.elim hq
    | cont => exact False.elim hq
theorem eqO_read (ar : Arity 2 f) {E : XK} {m : Pl} {H : Hp} {st : Sto} {dx dy : D} {x y : V} {Q : VK} (s : SR X.K H m st) (rx : RV X.K H m dx x) (ry : RV X.K H m dy y) (hp : Post X.K (okV X.K) E m H Q (dEqO c f dx dy st)) : rEqO X.K c f x y H Q := by
  unfold dEqO at hp
  split at hp
  · rename_i i j
    split at hp
    · rename_i c1 f1 c2 f2 h1 h2
      by_cases hc : c1 = c ∧ c2 = c
      · rw [if_pos hc] at hp
        obtain ⟨rfl, hc2⟩ := hc
        subst hc2
        cases rx with
        | @ref _ a hna =>
          cases ry with
          | @ref _ b hnb =>
            obtain ⟨dx, fs, q1, _⟩ := s.ob _ _ _ hna h1
            obtain ⟨dy, gs, q2, _⟩ := s.ob _ _ _ hnb h2
            refine ⟨a, b, dx, dy, fs, gs, rfl, rfl, q1, q2, spF_of ar s (.cons (.ref hna) (.cons (.ref hnb) .nil)) ?_⟩
            cases q : f [.ref i, .ref j] st with
            | ok d st' =>
              rw [q] at hp
              cases d with
              | bl t =>
                intro v H' m' e' p' s' r'
                have r2 := r'
                cases r2
                exact ⟨t, rfl, hp _ _ m' e' p' s' r'⟩
              | non => exact hp.elim
              | str _ => exact hp.elim
              | int _ => exact hp.elim
              | tup _ => exact hp.elim
              | ref _ => exact hp.elim
            | err c fs st' => rw [q] at hp; exact hp.elim
            | fail => rw [q] at hp; exact hp.elim
      · rw [if_neg hc] at hp; exact hp.elim
    · exact hp.elim
  · exact hp.elim
theorem o_eqO (F : Meq X.prog X.w X.K X.mg X.base k c f) (tk : Takes X W) (hr : Room k X.A) : OpF X (compareOp .Eq) (dEqO c f) := ⟨_, or_eqO F tk hr, fun E m H st dx dy x y Q s rx ry hp => eqO_read F.ar s rx ry hp⟩
end
end U
set_option Elab.async false
set_option linter.all false
set_option maxRecDepth 100000
set_option maxHeartbeats 1000000
namespace U
open PySem PySem.Spec PySem.Calls PyProof.Rows PyProof.V L2
def dIsiC (c : Str) (d : D) (st : Sto) : R D := match d with
  | .ref n => match st[n]? with
    | some (.ins c' _) => if c' = c then .ok (.bl true) st else .fail
    | _ => .fail
  | _ => .fail
section
variable {X : Cx} {W : WX} {e0 : Expr} {ga : EM} {pos p p2 : Pos}
end
end U
set_option Elab.async false
set_option linter.all false
set_option maxRecDepth 100000
set_option maxHeartbeats 1000000
namespace U
open PySem PySem.Spec PySem.Calls PyProof.Rows PyProof.V L2 Builtin
section
variable {prog : Program} {w : World} {A : Around} {E : Value → Shared → Prop} {s : Shared} {K : PySem.W.Frag} {x C f L : Addr} {ox : Obj} {odd : Option Obj} {b tb : Value} {h₀ : Heap} {m : Str → Option Value}
theorem ne_entry {Q : Fin → Shared → Prop} (X : K.In s.heap) (I : PySem.W.InstAt s.heap x ox C odd) (hs : PySem.W.findIn K (.ref C) "__eq__" = some (some (.ref f))) (hf : PySem.W.isFn K (.ref f) = true) (hu : A.units < cLine)
    (h : wpAny (model prog w) A (call (.ref f) [.ref x, b]) (fun v s' => ∃ t, v = .bool t ∧ Q (.done (.ret (.bool (!t)))) s') E s) : wpAny (model prog w) A (Builtin.«object.__ne__» ⟨[.ref x, b], []⟩) Q E s := by
  unfold Builtin.«object.__ne__»
  refine wpAny_bind (m := slotArgs _ _ _) (wpAny_pure ?_)
  refine wpAny_bind (m := cRoomFor _ _) (wpAny_cRoomFor hu ?_)
  refine wpAny_bind (PySem.W.ifBound_K X I hs hf (wpAny_mono h (fun v s' hv => ?_) fun _ _ e => e))
  obtain ⟨t, rfl, hq⟩ := hv
  show wpAny _ _ (truthy (.bool t) >>= fun r => ret (.bool (!r))) _ _ _
  repeat wp_step
  exact hq
theorem ne_call {Q : Value → Shared → Prop} (X : K.In s.heap) (I : PySem.W.InstAt s.heap x ox C odd) (hs : PySem.W.findIn K (.ref C) "__eq__" = some (some (.ref f))) (hf : PySem.W.isFn K (.ref f) = true) (hm : PySem.W.mroIn K C (.type "object") = some true) (hu : A.units + 1 < cLine)
    (h : wpAny (model prog w) A.in1 (call (.ref f) [.ref x, b]) (fun v s' => ∃ t, v = .bool t ∧ Q (.bool (!t)) s') E s) : wpAny (model prog w) A (call (.builtin "object.__ne__") [.ref x, b]) Q E s := by
  refine wpAny_call (codeAny_call_builtin PySem.F.cmp_object.ne.plain PySem.F.cmpEntry_ne ?_)
  simp only [checkBuiltinCall, PySem.F.cmpKind_ne, PySem.F.cmpSplit_ne]
  have L0 := I.type (M := model prog w)
  have L1 := PySem.W.looks_mroIn (M := model prog w) X hm
  refine wpAny_bind ?_
  unfold isInstance
  refine wpAny_bind (L0.here ?_)
  refine L1.here ?_
  have sig : ∀ {R : Unit → Shared → Prop} {s : Shared}, R () s → wpAny (model prog w) A.in1 (match Manifest.signature? "object.__ne__" with | some sig => Bind.checkArgs "object.__ne__" sig { pos := [Value.ref x, b] } | none => pure ()) R (fun e s' => E e s') s := fun {R s} hR => by
    have ha := PySem.F.cmpArgs_ne (.ref x) b
    cases hsig : Manifest.signature? "object.__ne__" with
    | none => exact wpAny_pure hR
    | some sg =>
      simp only [argsOk, hsig] at ha
      have h2 : Bind.checkArgs "object.__ne__" sg ⟨[Value.ref x, b], []⟩ = pure () := ha
      show wpAny _ _ (Bind.checkArgs "object.__ne__" sg ⟨[Value.ref x, b], []⟩) _ _ _
      rw [h2]
      exact wpAny_pure hR
  have body := ne_entry (A := A.in1) (E := fun e s' => E e s') (Q := fun fin s' => match fin with
      | Fin.done f => match (Except.ok f : Except Value Flow) with
        | Except.ok (Flow.ret v) => Q v s'
        | Except.ok _ => False
        | Except.error e => E e s'
      | Fin.again c' => c'.quiet = true ∧ codeAny (model prog w) A c' (fun r s' => match r with
          | Except.ok (Flow.ret v) => Q v s'
          | Except.ok _ => False
          | Except.error e => E e s') s') X I hs hf hu (wpAny_mono h (fun v s' ⟨t, e, q⟩ => ⟨t, e, q⟩) fun _ _ e => e)
  exact sig body
theorem ne_own {Q : Value → Shared → Prop} (hu : A.units + 1 < cLine) (X : K.In s.heap) (I : PySem.W.InstAt s.heap x ox C odd) (hb : PySem.W.Looks (model prog w) s.heap (typeOf b) tb) (hn : PySem.W.notFirst K C tb = true)
    (hne : PySem.W.findIn K (.ref C) "__ne__" = some (some (.builtin "object.__ne__"))) (hs : PySem.W.findIn K (.ref C) "__eq__" = some (some (.ref f))) (hf : PySem.W.isFn K (.ref f) = true) (hm : PySem.W.mroIn K C (.type "object") = some true)
    (h : wpAny (model prog w) A.in1 (call (.ref f) [.ref x, b]) (fun v s' => ∃ t, v = .bool t ∧ Q (.bool (!t)) s') E s) : wpAny (model prog w) A (richCompare .NotEq (.ref x) b) Q E s := by
  have one : wpAny (model prog w) A (tryCompare (.ref x) (cmpInfo .NotEq).2.1 b) (fun r s' => ∃ v, r = some v ∧ Q v s') E s := by
    unfold tryCompare
    have hc : wpAny (model prog w) A (call (.builtin "object.__ne__") [.ref x, b]) (fun v s' => ∃ t, v = .bool t ∧ Q (.bool t) s') E s := ne_call X I hs hf hm hu (wpAny_mono h (fun v s' ⟨t, e, q⟩ => ⟨t, e, _, rfl, q⟩) fun _ _ e => e)
    refine wpAny_bind (m := callSpecialIfBound? (.ref x) _ [b]) ?_
    simp only [callSpecialIfBound?, bindSpecialIfBound?]
    refine wpAny_holding (wpAny_bind (wpAny_bind (wpAny_bind (I.type.here ((PySem.W.looks_findIn X hne).here ?_)))))
    simp only [PySem.F.cmp_object.ne.bind]
    refine wpAny_bind (wpAny_askSetting (wpAny_ite ?_))
    have fin2 : wpAny (model prog w) A (call (.builtin "object.__ne__") ([.ref x] ++ [b]) >>= fun v => pure (some v)) (fun a s' => wpAny (model prog w) A (match a with
        | some Value.notImplemented => pure none
        | none => pure none
        | some r => pure (some r)) (fun r s' => ∃ v, r = some v ∧ Q v s') E s') E s := wpAny_bind (wpAny_mono hc (fun v s' ⟨t, e, q⟩ => by subst e; exact wpAny_pure (wpAny_pure ⟨_, rfl, q⟩)) fun _ _ e => e)
    split
    · exact wpAny_bind (wpAny_pure (wpAny_pure fin2))
    · exact wpAny_tryCatch (wpAny_bind (wpAny_pure (wpAny_pure fin2)))
  unfold richCompare
  simp only [oneThing_ref]
  refine wpAny_holding (wpAny_bind (wpAny_cRoomFor (by omega) ?_))
  refine wpAny_bind (I.type.here (wpAny_bind (hb.here ?_)))
  split
  · rename_i q
    have e : PySem.W.subIn K tb (.ref C) = some false := by
      rcases Bool.or_eq_true_iff.mp hn with e | e
      · rw [beq_iff_eq.mp e] at q; simp at q
      · exact beq_iff_eq.mp e
    refine wpAny_bind ((PySem.W.looks_subIn X e).here ?_)
    simp only [Bool.false_eq_true, if_false]
    refine wpAny_bind (wpAny_mono one (fun r s' z => ?_) fun _ _ e => e)
    obtain ⟨v, rfl, hq⟩ := z
    exact wpAny_pure hq
  · refine wpAny_bind (wpAny_pure ?_)
    simp only [Bool.false_eq_true, if_false]
    refine wpAny_bind (wpAny_mono one (fun r s' z => ?_) fun _ _ e => e)
    obtain ⟨v, rfl, hq⟩ := z
    exact wpAny_pure hq
end
def dNeO (c : Str) (f : Fm) (x y : D) (st : Sto) : R D := (dEqO c f x y st).bind fun d st' => match d with
  | .bl b => .ok (.bl (!b)) st'
  | _ => .fail
section
variable {X : Cx} {W : WX} {k : Nat} {c : Str} {f : Fm}
theorem or_neO (F : Meq X.prog X.w X.K X.mg X.base k c f) (hN : neB c X.K = true) (tk : Takes X W) (hr : Room (k + 1) X.A) : OpR X (compareOp .NotEq) (fun x y H Q => rEqO X.K c f x y H fun z H' => ∃ t, z = .bl t ∧ Q (.bl (!t)) H') := by
  obtain ⟨g, fd, ps, ok, hme, hbd⟩ := F.ex
  unfold neB at hN
  simp only [Bool.and_eq_true, decide_eq_true_eq] at hN
  obtain ⟨hne, hmo⟩ := hN
  intro pins s σ H x y v u Q I rx ry hq
  obtain ⟨a, b, dx, dy, fs, gs, rfl, rfl, ha, hb, hsp⟩ := hq
  cases (show v = Value.ref a from rx)
  cases (show u = Value.ref b from ry)
  show wpAny (model X.prog X.w) X.A (richCompare .NotEq (.ref a) (.ref b)) (EP X pins σ Q) X.xe s
  obtain ⟨mA, J, _⟩ := ins_get I.hok ha
  obtain ⟨mB, J', _⟩ := ins_get I.hok hb
  obtain ⟨od, J, _⟩ := J.look
  obtain ⟨od', J', _⟩ := J'.look
  refine ne_own (by have := hr.un; omega) I.kIn J J'.type (by simp [PySem.W.notFirst]) hne hme.at_ hme.fn hmo ?_
  have hl := ok.len _ _ _ _ hsp
  have r2 : Vals [V.ref a, V.ref b] [Value.ref a, Value.ref b] := .cons rfl (.cons rfl .nil)
  refine wpAny_call (codeAny_mono (ok.run X.A.in1 X.stack s H ⟨[.ref a, .ref b], []⟩ [.ref a, .ref b] [.ref a, .ref b] _ noE hr.in1 I.env0.in1 (by
    have := hbd s [.ref a, .ref b] I.kIn (by simpa using hl)
    simpa using this) r2 hsp) fun r s' hq => ?_)
  cases r with
  | error e => exact tk e s' (XE.of_call I (fun cls d H1 (z : False) => z.elim) hq)
  | ok fl =>
    cases fl with
    | ret w =>
      obtain ⟨z, H', I', rz, t, ez, t2, ez2, qz⟩ := I.after hq
      subst ez
      cases ez2
      cases rz
      exact ⟨t, rfl, .bl (!t), H', I', rfl, qz⟩
    | next => exact False.elim hq
    | brk => exact False.elim hq
    | cont => exact False.elim hq
theorem o_neO (F : Meq X.prog X.w X.K X.mg X.base k c f) (hN : neB c X.K = true) (tk : Takes X W) (hr : Room (k + 1) X.A) : OpF X (compareOp .NotEq) (dNeO c f) := ⟨_, or_neO F hN tk hr, fun E m H st dx dy x y Q s rx ry hp => by
  have hp' : Post X.K (okV X.K) E m H Q ((dEqO c f dx dy st).bind fun d st' => match d with
    | .bl b => .ok (.bl (!b)) st'
    | _ => .fail) := hp
  refine eqO_read F.ar s rx ry (E := E) (hp'.bind fun d st1 v H1 m1 e1 p1 s1 r1 hp1 => ?_)
  cases d with
  | bl t =>
    cases r1
    exact ⟨t, rfl, Post.here (v := .bl (!t)) hp1 s1 .bl⟩
  | non => exact False.elim hp1
  | str _ => exact False.elim hp1
  | int _ => exact False.elim hp1
  | tup _ => exact False.elim hp1
  | ref _ => exact False.elim hp1⟩
end
end U
set_option Elab.async false
set_option linter.all false
set_option maxRecDepth 100000
set_option maxHeartbeats 1000000
namespace U
open PySem PySem.Spec PySem.Calls PyProof.Rows PyProof.V L2
structure LamD (sc scope : Scope) (N : List Str) (y : Str) : Prop where
  kind : scope.kind = .function
  co : scope.isCoroutine = false
  gen : scope.isGenerator = false
  own : ∀ z ∈ scope.names, z.2 = .local → z.1 = y
  cell : ∀ z ∈ scope.names, z.2 ≠ .cell
  free : ∀ z ∈ scope.names, z.2 = .free → sc.names.lookup z.1 = some .cell ∨ sc.names.lookup z.1 = some .free
  loc : scope.names.lookup y = some .local
  out : y ∉ N
section
variable {X : Cx} {pins : List (Addr × Obj)} {σ : L2.St} {H : Hp} {s : Shared}
end
section
variable {X : Cx} {pins : List (Addr × Obj)} {σ : L2.St} {H : Hp} {s : Shared}
end
section
variable {X : Cx} {W : WX} {raised : List Str} {n : Str × Option Str} {q y : Str} {i k : Nat} {params : Arguments} {body : Expr} {scope : Scope} {p lpos pos p0 : Pos} {i0 : Int} {j0 : Nat} {ge : EM}
end
end U
set_option Elab.async false
set_option linter.all false
set_option maxRecDepth 100000
set_option maxHeartbeats 1000000
namespace U
open PySem PySem.Spec PySem.Calls PyProof.Rows PyProof.V L2
section
variable {X : Cx} {W : WX} {k : Nat} {c : Str} {f : Fm}
end
end U
set_option Elab.async false
set_option linter.all false
set_option maxRecDepth 100000
set_option maxHeartbeats 1000000
namespace U
open PySem PySem.Spec PySem.Calls PyProof.Rows PyProof.V L2
section
variable {X : Cx} {W : WX} {k : Nat} {a : Expr} {ga : EM} {p pos : Pos}
end
end U
set_option Elab.async false
set_option linter.all false
set_option maxRecDepth 100000
set_option maxHeartbeats 1000000
namespace U
open PySem PySem.Spec PySem.Calls PyProof.Rows PyProof.V L2
section
variable {prog : Program} {w : World} {A : Around} {E : Value → Shared → Prop} {s : Shared} {K : PySem.W.Frag} {x C f : Addr} {ox : Obj} {odd : Option Obj}
theorem repr_ownK {Q : Value → Shared → Prop} (X : K.In s.heap) (I : PySem.W.InstAt s.heap x ox C odd) (hs : PySem.W.findIn K (.ref C) "__repr__" = some (some (.ref f))) (hf : PySem.W.isFn K (.ref f) = true) (hu : A.in1.units < cLine)
    (h : wpAny (model prog w) A.in1 (call (.ref f) [.ref x]) (fun r s₁ => ∃ y t, r = Value.str y t ∧ Q (.str y t) s₁) E s) : wpAny (model prog w) A (call (.builtin "repr") [.ref x]) Q E s := by
  refine Calls.call_function_entry PySem.F.kind_repr PySem.F.plain_repr PySem.F.entry_repr (PySem.F.args_repr1 _) ?_
  unfold Builtin.«repr»
  refine wpAny_bind (m := oneArg "repr" _) (wpAny_pure ?_)
  refine wpAny_bind (wpAny_cRoomFor hu ?_)
  refine wpAny_bind (m := specialOf (.ref x) _) ?_
  unfold specialOf
  refine wpAny_bind (I.type.here ((PySem.W.looks_findIn X hs).here ?_))
  show wpAny _ _ (if (some (Value.ref f)).isNone = true then _ else _) _ _ _
  rw [if_neg (by simp)]
  refine wpAny_bind (m := callSpecialIfBound? (.ref x) (PySem.Str.ofString "__repr__") _) (PySem.W.ifBound_K X I hs hf (wpAny_mono h (fun r s' hr => ?_) fun _ _ y => y))
  obtain ⟨m, tk, rfl, hq⟩ := hr
  refine wpAny_bind (wpAny_isInstance (typeIs_str _ _ _) isSubtype_str_str ?_)
  first
    | exact wpAny_pure ⟨_, rfl, hq⟩
    | (rw [if_pos rfl]; exact wpAny_pure ⟨_, rfl, hq⟩)
    | (simp only [if_true]; exact wpAny_pure ⟨_, rfl, hq⟩)
end
section
variable {X : Cx} {W : WX} {k : Nat} {a : Expr} {ga : EM} {p pos : Pos} {C g : Addr} {fd : FuncData} {ps : List Str} {sp : Sp} {E : L2.St → XK} {ta : TE}
theorem pe_reprOwn (F : FnOk X.prog X.w X.K X.mg X.base (L2.CX X.prog X.w) k g fd ps sp) (hr : Room (k + 1) X.A) (hb : Binds X.K fd ps []) (Me : Meth X.K C "__repr__" g) (hx : ∀ σ, PassesAt (L2.CX X.prog X.w) X σ (E σ)) (hm : X.mg "repr" = none) (ha : PE X a ta) (hg : Gl X "repr")
    (na : starEach [a] X.env = (false, eval a X.env) :: starEach [] X.env := by rfl) : PE X (.Call (.Name "repr" p) [a] [] pos) (fun σ H Q => ta σ H fun x H1 => ∃ (r dx : Addr) (fs : List (Str × V)), x = .ref r ∧ H1 r = some (.ins C dx fs) ∧
      sp [.ref r] H1 (fun z H' => ∃ y : Str, z = .str y ∧ Q (.str y) H') (E σ)) := by
  refine ⟨fun pins s σ H Q I h => Call_ (ld_blt I hg hm (by rfl) (callWith_builtin1 (args_cons (thn (ha.run pins s σ H _ I h) fun v s1 ⟨x, H1, I1, r1, q1⟩ => args_nil ?_) na) na rfl))⟩
  obtain ⟨r, dx, fs, rfl, hi, q⟩ := q1
  cases r1
  obtain ⟨mA, O, _⟩ := ins_get I1.hok hi
  obtain ⟨od, J, _⟩ := O.look
  refine repr_ownK I1.kIn J Me.at_ Me.fn (by have := hr.un; show X.A.units + 1 < _; omega) (wpAny_mono (run_in1 (us := [.ref r]) (vs := [.ref r]) F hr.in1 I1.env0.in1 hb (hx σ) I1 (.cons rfl .nil) q) (fun v s' z => ?_) fun _ _ y => y)
  obtain ⟨z', H', I', rz, y, ey, qz⟩ := z
  subst ey
  obtain ⟨t, e⟩ := (show ∃ t, v = Value.str y t from rz)
  exact ⟨y, t, e, .str y, H', I', ⟨t, rfl⟩, qz⟩
end
structure Mrepr (P : Program) (w : World) (K : PySem.W.Frag) (mg : Str → Option Value) (base : Heap) (k : Nat) (c : Str) (f : Fm) : Prop where
  ex : ∃ (a : Addr) (fd : FuncData) (ps : List Str), FnOk P w K mg base (L2.CX P w) k a fd ps (spF K 1 f) ∧ Meth K (He.ga K c) "__repr__" a ∧ Binds K fd ps []
  ar : Arity 1 f
section
variable {X : Cx} {W : WX} {k : Nat} {a : Expr} {ga : EM} {p pos : Pos} {c : Str} {f : Fm}
theorem e_reprO (F : Mrepr X.prog X.w X.K X.mg X.base k c f) (tk : Takes X W) (hr : Room (k + 1) X.A) (hm : X.mg "repr" = none) (ha : PE X a (rE X.K W ga)) (hg : Gl X "repr" := by rfl)
    (na : starEach [a] X.env = (false, eval a X.env) :: starEach [] X.env := by rfl) :
    PE X (.Call (.Name "repr" p) [a] [] pos) (rE X.K W (eFn (fStrO c f) (aCons ga aNil))) := by
  obtain ⟨ad, fd, ps, ok, hme, hb⟩ := F.ex
  refine (pe_reprOwn ok hr hb hme (fun σ => passAt tk σ) hm ha hg na).imp fun σ H Q ⟨env, m, st, hE, hS, hp⟩ => ?_
  have hp' : Post X.K (okV X.K) (WE W σ) m H Q ((ga env st).bind fun d st => fStrO c f [d] st) := by
    have e : eFn (fStrO c f) (aCons ga aNil) env st = ((ga env st).bind fun d st => fStrO c f [d] st) := by
      unfold eFn aCons aNil
      cases ga env st <;> rfl
    rw [← e]
    exact hp
  refine ⟨env, m, st, hE, hS, hp'.bind fun d st1 v H1 m1 e1 p1 s1 r1 hp1 => ?_⟩
  unfold fStrO at hp1
  split at hp1
  · rename_i n hd
    cases hd
    split at hp1
    · rename_i c' fs q
      by_cases hcc : c' = c
      · rw [if_pos hcc] at hp1
        subst hcc
        cases r1 with
        | @ref _ b hn =>
          obtain ⟨dx, vfs, h1, _⟩ := s1.ob _ _ _ hn q
          refine ⟨b, dx, vfs, rfl, h1, spF_of F.ar s1 (.cons (.ref hn) .nil) ?_⟩
          cases q2 : f [.ref n] st1 with
          | ok d st' =>
            rw [q2] at hp1
            cases d with
            | str y =>
              intro v H' m' e' p' s' r'
              have r2 := r'
              cases r2
              exact ⟨y, rfl, hp1 _ _ m' e' p' s' r'⟩
            | non => exact hp1.elim
            | bl _ => exact hp1.elim
            | int _ => exact hp1.elim
            | tup _ => exact hp1.elim
            | ref _ => exact hp1.elim
          | err c fs st' => rw [q2] at hp1; exact hp1
          | fail => rw [q2] at hp1; exact hp1.elim
      · rw [if_neg hcc] at hp1
        exact hp1.elim
    · exact hp1.elim
  · exact hp1.elim
end
end U
set_option Elab.async false
set_option linter.all false
set_option maxRecDepth 100000
set_option maxHeartbeats 1000000
namespace U
open PySem PySem.Spec PySem.Calls PyProof.Rows PyProof.V L2
def dIsiCD (c : Str) (d : D) (st : Sto) : R D := match tyD st d with
  | some q => if q = "own" then dIsiC c d st else .ok (.bl false) st
  | none => .fail
theorem tyD_plain {K : PySem.W.Frag} {H : Hp} {m : Pl} {st : Sto} (s : SR K H m st) {d : D} {v : V} {q : String} (r : RV K H m d v) (h : tyD st d = some q) (hq : q ≠ "own") : q ∈ kinds ∧ TyX K H v (.type q) := by
  cases d with
  | non => cases r; cases h; exact ⟨by decide, .base .non⟩
  | bl b => cases r; cases h; exact ⟨by decide, .base (.bl b)⟩
  | int i => cases r; cases h; exact ⟨by decide, .base (.int i)⟩
  | str x => cases r; cases h; exact ⟨by decide, .base (.str x)⟩
  | tup xs =>
    cases h
    refine ⟨by decide, ?_⟩
    cases r with
    | tup hq rs =>
      rcases hq with (hq | ⟨o, hq⟩) | ⟨o, its, n, hk, hc, _⟩
      · exact .base (.tup hq)
      · exact .fTuple hq
      · exact .kTuple hk hc
  | ref n =>
    cases r with
    | ref hn =>
      unfold tyD at h
      simp only at h
      split at h
      · rename_i xs q
        cases h
        obtain ⟨vs, e, _⟩ := s.ob _ _ _ hn q
        exact ⟨by decide, .base (.lst e)⟩
      · rename_i xs q
        cases h
        obtain ⟨o, vs, e, _⟩ := s.ob _ _ _ hn q
        exact ⟨by decide, .base (.frz e)⟩
      · cases h; exact absurd rfl hq
      · cases h
theorem kit_own {K : PySem.W.Frag} {c : Str} (h : noB c K = true) : ∀ q ∈ kinds, PySem.W.kitOne K (.type q) (.ref (He.ga K c)) = some false := fun q hq => of_decide_eq_true (List.all_eq_true.mp h q hq)
section
variable {X : Cx} {W : WX} {e0 : Expr} {ga : EM} {pos p p2 : Pos}
theorem e_isiCD {x : Str} (hN : noB x X.K = true) (hm : X.mg "isinstance" = none) (hmx : X.mg x = some (.ref (He.ga X.K x))) (ha : PE X e0 (rE X.K W ga)) (hg : Gl X "isinstance" := by rfl) (hgx : Gl X x := by rfl) (hd : (x == ("__debug__" : Str)) = false := by decide)
    (h1 : starEach [e0, .Name x p2] X.env = (false, eval e0 X.env) :: starEach [.Name x p2] X.env := by rfl) (h2 : starEach [.Name x p2] X.env = (false, eval (.Name x p2) X.env) :: starEach [] X.env := by rfl) (hpl : (backTo pos (starEach [.Name x p2] X.env)).any (·.1) = false := by rfl) :
    PE X (.Call (.Name "isinstance" p) [e0, .Name x p2] [] pos) (rE X.K W (eUn (dIsiCD x) ga)) :=
  (pe_callB call_isi hg hm boot_isinstance (pa_cons ha (pa_cons (pe_glob (v := .ref (He.ga X.K x)) hgx hmx rfl hd) pa_nil h2) h1) (by decide) (by decide) h1 hpl).imp fun σ H Q ⟨env, m, st, hE, hS, hp⟩ => by
    refine ⟨env, m, st, hE, hS, hp.bind fun d st1 v H1 m1 e1 p1 s1 r1 hp1 => ?_⟩
    unfold dIsiCD at hp1
    split at hp1
    · rename_i k q
      by_cases hk : k = "own"
      · rw [if_pos hk] at hp1
        unfold dIsiC at hp1
        split at hp1
        · rename_i n
          split at hp1
          · rename_i c' fs q
            by_cases hc : c' = x
            · rw [if_pos hc] at hp1
              subst hc
              cases r1 with
              | @ref _ b hn =>
                obtain ⟨dx, vfs, h1, _, _, _, i⟩ := s1.ob _ _ _ hn q
                refine ⟨.ref b, .ref (He.ga X.K c'), .ref (He.ga X.K c'), .ref (He.ga X.K c'), true, rfl, .own _, .base (.ins h1 i.cl i.own i.get i.tks i.obj), ?_, Post.here (v := .bl true) hp1 s1 .bl⟩
                unfold PySem.W.kitOne
                rw [if_pos (by simp)]
            · rw [if_neg hc] at hp1; exact hp1.elim
          · exact hp1.elim
        · exact hp1.elim
      · rw [if_neg hk] at hp1
        obtain ⟨h1, h2⟩ := tyD_plain s1 r1 q hk
        exact ⟨v, .ref (He.ga X.K x), .type k, .ref (He.ga X.K x), false, rfl, .own _, h2, kit_own hN k h1, Post.here (v := .bl _) hp1 s1 .bl⟩
    · exact hp1.elim
end
end U
set_option Elab.async false
set_option linter.all false
set_option maxRecDepth 100000
set_option maxHeartbeats 1000000
namespace U
open PySem PySem.Spec PySem.Calls PyProof.Rows PyProof.V L2
def dEqM (c : Str) (f : Fm) (x y : D) (st : Sto) : R D := match x with
  | .ref i => match st[i]? with
    | some (.ins c1 _) => if c1 = c then (match tyD st y with
      | some q => if q = "own" then dEqO c f (.ref i) y st else (match f [.ref i, y] st with
        | .ok (.bl b) st' => .ok (.bl b) st'
        | _ => .fail)
      | none => .fail) else .fail
    | _ => .fail
  | _ => .fail
def rEqM (K : PySem.W.Frag) (c : Str) (f : Fm) : R2 := fun x y H Q => rEqO K c f x y H Q ∨ ∃ (a dx : Addr) (fs : List (Str × V)) (q : String), x = .ref a ∧ H a = some (.ins (He.ga K c) dx fs) ∧ q ∈ kinds ∧ TyX K H y (.type q) ∧ spF K 2 f [.ref a, y] H (fun z H' => ∃ t, z = .bl t ∧ Q (.bl t) H') noE
theorem sub_own {K : PySem.W.Frag} {C : Addr} : ∀ q ∈ kinds, PySem.W.notFirst K C (.type q) = true := by
  intro q hq
  simp only [kinds, List.mem_cons, List.not_mem_nil, or_false] at hq
  rcases hq with rfl | rfl | rfl | rfl | rfl | rfl <;> rfl
section
variable {X : Cx} {W : WX} {k : Nat} {c : Str} {f : Fm}
theorem or_eqM (F : Meq X.prog X.w X.K X.mg X.base k c f) (tk : Takes X W) (hr : Room k X.A) : OpR X (compareOp .Eq) (rEqM X.K c f) := by
  obtain ⟨g, fd, ps, ok, hme, hbd⟩ := id F.ex
  intro pins s σ H x y v u Q I rx ry hq
  rcases hq with hq | ⟨a, dx, fs, q, rfl, ha, hk, ty, hsp⟩
  · exact or_eqO F tk hr pins s σ H x y v u Q I rx ry hq
  · cases (show v = Value.ref a from rx)
    show wpAny (model X.prog X.w) X.A (richCompare .Eq (.ref a) u) (EP X pins σ Q) X.xe s
    obtain ⟨mA, J, _⟩ := ins_get I.hok ha
    obtain ⟨od, J, _⟩ := J.look
    obtain ⟨P, Z, hP, _⟩ := kit_of I ry ty
    obtain ⟨m, hF⟩ := I.fr
    refine PySem.W.cmp_K (op := .Eq) (tb := .type q) hr.units0 hF I.ok.mod.kin J (Z.ty _ _ I.kIn hP) (sub_own q hk) hme.at_ hme.fn ?_
    have hl := ok.len _ _ _ _ hsp
    have r2 : Vals [V.ref a, y] [Value.ref a, u] := .cons rfl (.cons ry .nil)
    refine wpAny_call (codeAny_mono (ok.run X.A X.stack s H ⟨[.ref a, u], []⟩ [.ref a, u] [.ref a, y] _ noE hr I.env0 (by
      have := hbd s [.ref a, u] I.kIn (by simpa using hl)
      simpa using this) r2 hsp) fun r s' hq => ?_)
    cases r with
    | error e => exact tk e s' (XE.of_call I (fun cls d H1 (z : False) => z.elim) hq)
    | ok fl =>
      cases fl with
      | ret w =>
        obtain ⟨z, H', I', rz, t, ez, qz⟩ := I.after hq
        subst ez
        cases rz
        exact ⟨.bl t, H', I', rfl, qz⟩
      | next => exact False.elim hq
      | brk => exact False.elim hq
      | cont => exact False.elim hq
theorem eqM_read (ar : Arity 2 f) {E : XK} {m : Pl} {H : Hp} {st : Sto} {dx dy : D} {x y : V} {Q : VK} (s : SR X.K H m st) (rx : RV X.K H m dx x) (ry : RV X.K H m dy y) (hp : Post X.K (okV X.K) E m H Q (dEqM c f dx dy st)) : rEqM X.K c f x y H Q := by
  unfold dEqM at hp
  split at hp
  · rename_i i
    split at hp
    · rename_i c1 f1 h1
      by_cases hc : c1 = c
      · rw [if_pos hc] at hp
        subst hc
        split at hp
        · rename_i q hq
          by_cases ho : q = "own"
          · rw [if_pos ho] at hp
            exact .inl (eqO_read ar s rx ry hp)
          · rw [if_neg ho] at hp
            obtain ⟨k1, k2⟩ := tyD_plain s ry hq ho
            cases rx with
            | @ref _ a hna =>
              obtain ⟨dx, fs, q1, _⟩ := s.ob _ _ _ hna h1
              refine .inr ⟨a, dx, fs, q, rfl, q1, k1, k2, spF_of ar s (.cons (.ref hna) (.cons ry .nil)) ?_⟩
              cases q : f [.ref i, dy] st with
              | ok d st' =>
                rw [q] at hp
                cases d with
                | bl t =>
                  intro v H' m' e' p' s' r'
                  have r2 := r'
                  cases r2
                  exact ⟨t, rfl, hp _ _ m' e' p' s' r'⟩
                | non => exact hp.elim
                | str _ => exact hp.elim
                | int _ => exact hp.elim
                | tup _ => exact hp.elim
                | ref _ => exact hp.elim
              | err c fs st' => rw [q] at hp; exact hp.elim
              | fail => rw [q] at hp; exact hp.elim
        · exact hp.elim
      · rw [if_neg hc] at hp; exact hp.elim
    · exact hp.elim
  · exact hp.elim
theorem o_eqM (F : Meq X.prog X.w X.K X.mg X.base k c f) (tk : Takes X W) (hr : Room k X.A) : OpF X (compareOp .Eq) (dEqM c f) := ⟨_, or_eqM F tk hr, fun E m H st dx dy x y Q s rx ry hp => eqM_read F.ar s rx ry hp⟩
end
end U
set_option Elab.async false
set_option linter.all false
set_option maxRecDepth 100000
set_option maxHeartbeats 1000000
namespace U
open PySem PySem.Spec PySem.Calls PyProof.Rows PyProof.V L2
theorem int_eq_insI (b : Int) (u : Tok) (l C dx : Addr) : Meets (Builtin.«int.__eq__» ⟨[.int b u, .ref l], []⟩) (fun _ R s => s.heap.get? l = some (PySem.W.instObj C dx) ∧ R (.ok (.ret .notImplemented)) s) :=
  .of_wp fun prog w A R s h => by obtain ⟨hp, g, d, tk, os⟩ := s; obtain ⟨hl, h⟩ := h; unfold PySem.W.instObj at hl; wp_walk using wpAny_loadPart' hl, wpAny_load hl; exact ⟨_, rfl, h⟩
theorem int_eq_insB (b : Bool) (l C dx : Addr) : Meets (Builtin.«int.__eq__» ⟨[.bool b, .ref l], []⟩) (fun _ R s => s.heap.get? l = some (PySem.W.instObj C dx) ∧ R (.ok (.ret .notImplemented)) s) :=
  .of_wp fun prog w A R s h => by obtain ⟨hp, g, d, tk, os⟩ := s; obtain ⟨hl, h⟩ := h; unfold PySem.W.instObj at hl; wp_walk using wpAny_loadPart' hl, wpAny_load hl; exact ⟨_, rfl, h⟩
theorem str_eq_ins (b : Str) (u : Tok) (l C dx : Addr) : Meets (Builtin.«str.__eq__» ⟨[.str b u, .ref l], []⟩) (fun _ R s => s.heap.get? l = some (PySem.W.instObj C dx) ∧ R (.ok (.ret .notImplemented)) s) :=
  .of_wp fun prog w A R s h => by obtain ⟨hp, g, d, tk, os⟩ := s; obtain ⟨hl, h⟩ := h; unfold PySem.W.instObj at hl; wp_walk using wpAny_loadPart' hl, wpAny_load hl; exact ⟨_, rfl, h⟩
theorem tuple_eq_ins {K : PySem.W.Frag} (a l C dx : Addr) (e : PySem.W.subIn K (.ref C) (.type "tuple") = some false) :
    Meets (Builtin.«tuple.__eq__» ⟨[.ref a, .ref l], []⟩) (fun _ R s => s.heap.get? l = some (PySem.W.instObj C dx) ∧ K.In s.heap ∧ R (.ok (.ret .notImplemented)) s) :=
  .of_wp fun prog w A R s h => by obtain ⟨hp, g, d, tk, os⟩ := s; obtain ⟨hl, kin, h⟩ := h; unfold PySem.W.instObj at hl; have f := PySem.W.looks_subIn (M := model prog w) kin e; wp_walk using wpAny_loadPart' hl, wpAny_load hl, f.here; exact ⟨_, rfl, h⟩
theorem list_eq_ins {K : PySem.W.Frag} (a l C dx : Addr) (e : PySem.W.subIn K (.ref C) (.type "list") = some false) :
    Meets (Builtin.«list.__eq__» ⟨[.ref a, .ref l], []⟩) (fun _ R s => s.heap.get? l = some (PySem.W.instObj C dx) ∧ K.In s.heap ∧ R (.ok (.ret .notImplemented)) s) :=
  .of_wp fun prog w A R s h => by obtain ⟨hp, g, d, tk, os⟩ := s; obtain ⟨hl, kin, h⟩ := h; unfold PySem.W.instObj at hl; have f := PySem.W.looks_subIn (M := model prog w) kin e; wp_walk using wpAny_loadPart' hl, wpAny_load hl, f.here; exact ⟨_, rfl, h⟩
section
variable {prog : Program} {w : World} {A : Around} {E : Value → Shared → Prop} {s : Shared} {K : PySem.W.Frag} {b C f : Addr} {ox : Obj} {odd : Option Obj}
theorem rc_eq_back {u : Value} {T id : String} {Q : Value → Shared → Prop} (hu : A.units < cLine) (hT : s.TypeIs u T) (h1 : Slot T (cmpInfo .Eq).2.1 id) (X : K.In s.heap) (I : PySem.W.InstAt s.heap b ox C odd) (hsub : PySem.W.subIn K (.ref C) (.type T) = some false)
    (hc : ∀ Q' : Value → Shared → Prop, Q' .notImplemented s → wpAny (model prog w) A (call (.builtin id) [u, .ref b]) Q' E s) (hs : PySem.W.findIn K (.ref C) "__eq__" = some (some (.ref f))) (hf : PySem.W.isFn K (.ref f) = true)
    (h : wpAny (model prog w) A (call (.ref f) [.ref b, u]) (PySem.W.CmpBack Q) E s) : wpAny (model prog w) A (richCompare .Eq u (.ref b)) Q E s := by
  have one : wpAny (model prog w) A (tryCompare (.ref b) (cmpInfo .Eq).2.2 u) (fun r s' => ∃ v, r = some v ∧ Q v s') E s := by
    unfold tryCompare
    refine wpAny_bind (PySem.W.ifBound_K X I hs hf (wpAny_mono h (fun v s' hv => ?_) fun _ _ e => e))
    cases v <;> first | exact hv.elim | exact wpAny_pure ⟨_, rfl, hv⟩
  rcases hi : cmpInfo CmpOp.Eq with ⟨sym, f', r'⟩
  rw [hi] at h1 one
  simp only [richCompare, hi, hT.oneThing_none]
  refine wpAny_holding ?_
  refine wpAny_bind (wpAny_cRoomFor hu ?_)
  refine wpAny_bind (wpAny_typeOf hT (wpAny_bind (I.type.here ?_)))
  have e1 : (Value.type T != Value.ref C) = true := by simp
  simp only [e1, if_true]
  refine wpAny_bind ((PySem.W.looks_subIn X hsub).here ?_)
  simp only [Bool.false_eq_true, if_false, Bool.not_false, if_true]
  refine wpAny_bind (m := tryCompare u _ (.ref b)) (wpAny_tryCompare_declines hT h1 (hc _ ⟨rfl, ?_⟩))
  refine wpAny_bind (wpAny_mono one (fun r s' z => ?_) fun _ _ e => e)
  obtain ⟨v, rfl, hq⟩ := z
  exact wpAny_pure hq
end
theorem none_eq_ref (l : Addr) : Gives (Builtin.«NoneType.__eq__» ⟨[.none, .ref l], []⟩) (.val (Value.notImplemented)) :=
  .of_wp fun M A E s Q h => by obtain ⟨hp, g, d, tk, os⟩ := s; wp_walk; exact ⟨_, rfl, h⟩
section
variable {X : Cx} {pins : List (Addr × Obj)} {σ : L2.St} {H : Hp} {s : Shared}
theorem back_of {x : V} {u : Value} {q : String} {b C dx : Addr} {fs : List (Str × V)} (I : Inv X pins σ H s) (rx : RelV x u) (ty : TyX X.K H x (.type q)) (hq : q ∈ kinds) (hb : H b = some (.ins C dx fs)) (hsub : ∀ q ∈ kinds, PySem.W.subIn X.K (.ref C) (.type q) = some false) :
    ∃ id, Slot q (cmpInfo .Eq).2.1 id ∧ s.TypeIs u q ∧ ∀ (A : Around) (E : Value → Shared → Prop) (Q' : Value → Shared → Prop), Q' .notImplemented s → wpAny (model X.prog X.w) A (call (.builtin id) [u, .ref b]) Q' E s := by
  obtain ⟨mA, O, _⟩ := ins_get I.hok hb
  have hl := O.obj
  have lst : ∀ {a : Addr} {o : Obj}, s.heap.get? a = some o → o.cls = .type "list" → ∃ id, Slot "list" (cmpInfo .Eq).2.1 id ∧ s.TypeIs (.ref a) "list" ∧ ∀ (A : Around) (E : Value → Shared → Prop) (Q' : Value → Shared → Prop), Q' .notImplemented s → wpAny (model X.prog X.w) A (call (.builtin id) [.ref a, .ref b]) Q' E s := fun {a o} h1 h2 =>
    ⟨_, F.slot_list_eq, ⟨o, h1, h2⟩, fun A E Q' h => call_meets F.slot_list_eq ⟨o, h1, h2⟩ F.entry_list_eq (F.args_list_eq_2 _ _) (list_eq_ins a b C dx (hsub _ (by decide))) ⟨hl, I.kIn, h⟩⟩
  have tup : ∀ {a : Addr} {o : Obj}, s.heap.get? a = some o → o.cls = .type "tuple" → ∃ id, Slot "tuple" (cmpInfo .Eq).2.1 id ∧ s.TypeIs (.ref a) "tuple" ∧ ∀ (A : Around) (E : Value → Shared → Prop) (Q' : Value → Shared → Prop), Q' .notImplemented s → wpAny (model X.prog X.w) A (call (.builtin id) [.ref a, .ref b]) Q' E s := fun {a o} h1 h2 =>
    ⟨_, F.slot_tuple_eq, ⟨o, h1, h2⟩, fun A E Q' h => call_meets F.slot_tuple_eq ⟨o, h1, h2⟩ F.entry_tuple_eq (F.args_tuple_eq_2 _ _) (tuple_eq_ins a b C dx (hsub _ (by decide))) ⟨hl, I.kIn, h⟩⟩
  generalize ht : Value.type q = t at ty
  cases ty with
  | base b0 =>
    cases b0 with
    | non =>
      cases ht
      cases (show u = Value.none from rx)
      exact ⟨_, F.slot_NoneType_eq, rfl, fun A E Q' h => call_gives F.slot_NoneType_eq rfl F.entry_NoneType_eq (F.args_NoneType_eq_2 _ _) (none_eq_ref b) h⟩
    | bl y =>
      cases ht
      cases (show u = Value.bool y from rx)
      exact ⟨_, F.slot_bool_eq, rfl, fun A E Q' h => call_meets F.slot_bool_eq rfl F.entry_int_eq (F.args_int_eq_2 _ _) (int_eq_insB y b C dx) ⟨hl, h⟩⟩
    | int i =>
      cases ht
      obtain ⟨t, q⟩ := (show ∃ t, u = Value.int i t from rx)
      cases q
      exact ⟨_, F.slot_int_eq, rfl, fun A E Q' h => call_meets F.slot_int_eq rfl F.entry_int_eq (F.args_int_eq_2 _ _) (int_eq_insI i t b C dx) ⟨hl, h⟩⟩
    | str y =>
      cases ht
      obtain ⟨t, q⟩ := (show ∃ t, u = Value.str y t from rx)
      cases q
      exact ⟨_, F.slot_str_eq, rfl, fun A E Q' h => call_meets F.slot_str_eq rfl F.entry_str_eq (F.args_str_eq_2 _ _) (str_eq_ins y t b C dx) ⟨hl, h⟩⟩
    | flt y => cases ht; exact absurd hq (by decide)
    | @lst a xs ea =>
      cases ht
      cases (show u = Value.ref a from rx)
      obtain ⟨_, _, n, _, h1⟩ := (show ObjOk X.prog X.w H s.heap a (.lst xs) from I.hok a _ ea)
      exact lst h1 rfl
    | @frz a ob xs ea =>
      cases ht
      cases (show u = Value.ref a from rx)
      obtain ⟨_, _, _, n, _, h1⟩ := (show ObjOk X.prog X.w H s.heap a (.frz ob (.lst xs)) from I.hok a _ ea)
      exact lst h1 rfl
    | @tup a xs ea =>
      cases ht
      cases (show u = Value.ref a from rx)
      obtain ⟨_, _, _, o, h1, h2, _⟩ := (show ObjOk X.prog X.w H s.heap a (.tup xs) from I.hok a _ ea)
      exact tup h1 h2
    | dK ea => cases ht; exact absurd hq (by decide)
    | dT ea => cases ht; exact absurd hq (by decide)
    | ins ea cl ha hn htk hm => cases ht
  | byt y => cases ht; exact absurd hq (by decide)
  | set ea => cases ht; exact absurd hq (by decide)
  | @kList a o e c =>
    cases ht
    cases (show u = Value.ref a from rx)
    exact lst (I.kIn a o e) c
  | @kTuple a o e c =>
    cases ht
    cases (show u = Value.ref a from rx)
    exact tup (I.kIn a o e) c
  | kDict e c => cases ht; exact absurd hq (by decide)
  | @fTuple a ob xs ea =>
    cases ht
    cases (show u = Value.ref a from rx)
    obtain ⟨_, _, _, _, o, h1, h2, _⟩ := (show ObjOk X.prog X.w H s.heap a (.frz ob (.tup xs)) from I.hok a _ ea)
    exact tup h1 h2
  | fDict ea => cases ht; exact absurd hq (by decide)
end
theorem sub_of {K : PySem.W.Frag} {c : Str} (h : subB c K = true) : ∀ q ∈ kinds, PySem.W.subIn K (.ref (He.ga K c)) (.type q) = some false := fun q hq => of_decide_eq_true (List.all_eq_true.mp h q hq)
def dEqB (c : Str) (f : Fm) (x y : D) (st : Sto) : R D := match y with
  | .ref j => match st[j]? with
    | some (.ins c1 _) => if c1 = c then (match tyD st x with
      | some q => if q = "own" then dEqO c f x (.ref j) st else (match f [.ref j, x] st with
        | .ok (.bl b) st' => .ok (.bl b) st'
        | _ => .fail)
      | none => .fail) else .fail
    | _ => .fail
  | _ => .fail
def rEqB (K : PySem.W.Frag) (c : Str) (f : Fm) : R2 := fun x y H Q => rEqO K c f x y H Q ∨ ∃ (b dx : Addr) (fs : List (Str × V)) (q : String), y = .ref b ∧ H b = some (.ins (He.ga K c) dx fs) ∧ q ∈ kinds ∧ TyX K H x (.type q) ∧ spF K 2 f [.ref b, x] H (fun z H' => ∃ t, z = .bl t ∧ Q (.bl t) H') noE
section
variable {X : Cx} {W : WX} {k : Nat} {c : Str} {f : Fm}
theorem or_eqB (F : Meq X.prog X.w X.K X.mg X.base k c f) (hS : subB c X.K = true) (tk : Takes X W) (hr : Room k X.A) : OpR X (compareOp .Eq) (rEqB X.K c f) := by
  obtain ⟨g, fd, ps, ok, hme, hbd⟩ := id F.ex
  intro pins s σ H x y v u Q I rx ry hq
  rcases hq with hq | ⟨b, dx, fs, q, rfl, hb, hk, ty, hsp⟩
  · exact or_eqO F tk hr pins s σ H x y v u Q I rx ry hq
  · cases (show u = Value.ref b from ry)
    show wpAny (model X.prog X.w) X.A (richCompare .Eq v (.ref b)) (EP X pins σ Q) X.xe s
    obtain ⟨mA, J, _⟩ := ins_get I.hok hb
    obtain ⟨od, J, _⟩ := J.look
    obtain ⟨id', hsl, hT, hc⟩ := back_of I rx ty hk hb (sub_of hS)
    refine rc_eq_back hr.units0 hT hsl I.kIn J (sub_of hS q hk) (hc _ _) hme.at_ hme.fn ?_
    have hl := ok.len _ _ _ _ hsp
    have r2 : Vals [V.ref b, x] [Value.ref b, v] := .cons rfl (.cons rx .nil)
    refine wpAny_call (codeAny_mono (ok.run X.A X.stack s H ⟨[.ref b, v], []⟩ [.ref b, v] [.ref b, x] _ noE hr I.env0 (by
      have := hbd s [.ref b, v] I.kIn (by simpa using hl)
      simpa using this) r2 hsp) fun r s' hq => ?_)
    cases r with
    | error e => exact tk e s' (XE.of_call I (fun cls d H1 (z : False) => z.elim) hq)
    | ok fl =>
      cases fl with
      | ret w =>
        obtain ⟨z, H', I', rz, t, ez, qz⟩ := I.after hq
        subst ez
        cases rz
        exact ⟨.bl t, H', I', rfl, qz⟩
      | next => exact False.elim hq
      | brk => exact False.elim hq
      | cont => exact False.elim hq
theorem eqB_read (ar : Arity 2 f) {E : XK} {m : Pl} {H : Hp} {st : Sto} {dx dy : D} {x y : V} {Q : VK} (s : SR X.K H m st) (rx : RV X.K H m dx x) (ry : RV X.K H m dy y) (hp : Post X.K (okV X.K) E m H Q (dEqB c f dx dy st)) : rEqB X.K c f x y H Q := by
  unfold dEqB at hp
  split at hp
  · rename_i j
    split at hp
    · rename_i c1 f1 h1
      by_cases hc : c1 = c
      · rw [if_pos hc] at hp
        subst hc
        split at hp
        · rename_i q hq
          by_cases ho : q = "own"
          · rw [if_pos ho] at hp
            exact .inl (eqO_read ar s rx ry hp)
          · rw [if_neg ho] at hp
            obtain ⟨k1, k2⟩ := tyD_plain s rx hq ho
            cases ry with
            | @ref _ b hnb =>
              obtain ⟨ddx, fs, q1, _⟩ := s.ob _ _ _ hnb h1
              refine .inr ⟨b, ddx, fs, q, rfl, q1, k1, k2, spF_of ar s (.cons (.ref hnb) (.cons rx .nil)) ?_⟩
              cases q : f [.ref j, dx] st with
              | ok d st' =>
                rw [q] at hp
                cases d with
                | bl t =>
                  intro v H' m' e' p' s' r'
                  have r2 := r'
                  cases r2
                  exact ⟨t, rfl, hp _ _ m' e' p' s' r'⟩
                | non => exact hp.elim
                | str _ => exact hp.elim
                | int _ => exact hp.elim
                | tup _ => exact hp.elim
                | ref _ => exact hp.elim
              | err c fs st' => rw [q] at hp; exact hp.elim
              | fail => rw [q] at hp; exact hp.elim
        · exact hp.elim
      · rw [if_neg hc] at hp; exact hp.elim
    · exact hp.elim
  · exact hp.elim
theorem o_eqB (F : Meq X.prog X.w X.K X.mg X.base k c f) (hS : subB c X.K = true) (tk : Takes X W) (hr : Room k X.A) : OpF X (compareOp .Eq) (dEqB c f) := ⟨_, or_eqB F hS tk hr, fun E m H st dx dy x y Q s rx ry hp => eqB_read F.ar s rx ry hp⟩
end
end U
set_option Elab.async false
set_option linter.all false
set_option maxRecDepth 100000
set_option maxHeartbeats 1000000
namespace U
open PySem PySem.Spec PySem.Calls PyProof.Rows PyProof.V L2
section
variable {prog : Program} {w : World} {A : Around} {E : Value → Shared → Prop} {s : Shared} {K : PySem.W.Frag} {x C f : Addr} {ox : Obj} {odd : Option Obj}
theorem special_noK {name : PySem.Str} {args : List Value} {Q : Option Value → Shared → Prop} (X : K.In s.heap) (I : PySem.W.InstAt s.heap x ox C odd) (hf : PySem.W.findIn K (.ref C) name = some none) (h : Q none s) : wpAny (model prog w) A (callSpecial? (.ref x) name args) Q E s := by
  unfold callSpecial? specialOf
  exact wpAny_bind (wpAny_bind (I.type.here ((PySem.W.looks_findIn X hf).here (wpAny_pure h))))
theorem truthy_lenK {Q : Bool → Shared → Prop} (X : K.In s.heap) (I : PySem.W.InstAt s.heap x ox C odd) (hb : PySem.W.findIn K (.ref C) "__bool__" = some none) (hs : PySem.W.findIn K (.ref C) "__len__" = some (some (.ref f))) (hf : PySem.W.isFn K (.ref f) = true)
    (h : wpAny (model prog w) A.in1 (call (.ref f) [.ref x]) (fun r s₁ => ∃ n t, r = Value.int n t ∧ 0 ≤ n ∧ n < 2 ^ 63 ∧ ∀ tk, Q (n != 0) { s₁ with toks := tk }) E s) : wpAny (model prog w) A (truthy (.ref x)) Q E s := by
  have body : wpAny (model prog w) A.in1 (Builtin.«len» ⟨[.ref x], []⟩) (fun fin s' => ∃ r, fin = .done (.ret r) ∧ ∃ n t, r = Value.int n t ∧ Q (n != 0) s') E s := by
    unfold Builtin.«len»
    refine wpAny_bind (m := oneArg "len" _) (wpAny_pure ?_)
    refine wpAny_bind (m := callSpecial? (.ref x) (PySem.Str.ofString "__len__")) (PySem.W.special_fn X I hs (beq_iff_eq.mp hf) (wpAny_mono h (fun r s' hr => ?_) fun _ _ y => y))
    obtain ⟨n, t, rfl, h0, h1, hq⟩ := hr
    refine wpAny_bind (wpAny_holding (wpAny_pure ?_))
    refine wpAny_bind (wpAny_letGo ?_)
    show wpAny _ _ (if n < 0 then _ else _) _ _ _
    rw [if_neg (by omega)]
    show wpAny _ _ (if n ≥ 2 ^ 63 then _ else _) _ _ _
    rw [if_neg (by omega)]
    exact wpAny_bind (wpAny_mkInt (wpAny_pure ⟨_, rfl, n, _, rfl, hq _⟩))
  have key : wpAny (model prog w) A (runValue (.builtin "len" ⟨[.ref x], []⟩)) (fun r s' => ∃ n t, r = Value.int n t ∧ Q (n != 0) s') E s := by
    refine wpAny_runValue (codeAny_builtin entry_len ?_)
    rw [Around.under_plainId plain_len _]
    exact wpAny_mono body (fun fin s' h' => by obtain ⟨r, rfl, hq⟩ := h'; exact hq) fun _ _ e => e
  have hsp : ∀ {Q' : Option Value → Shared → Prop}, Q' (some (.ref f)) s → wpAny (model prog w) A (specialOf (.ref x) "__len__") Q' E s := fun q => by
    unfold specialOf
    exact wpAny_bind (I.type.here ((PySem.W.looks_findIn X hs).here q))
  unfold truthy
  first
    | refine wpAny_bind (special_noK (name := PySem.Str.ofString "__bool__") X I hb ?_)
    | refine wpAny_bind (wpAny_pure (wpAny_bind (special_noK (name := PySem.Str.ofString "__bool__") X I hb ?_)))
  first
    | refine wpAny_bind (hsp ?_)
    | refine wpAny_bind (wpAny_pure (wpAny_bind (hsp ?_)))
  first
    | exact wpAny_bind (wpAny_mono key (fun r s' h' => by obtain ⟨n, t, rfl, hq⟩ := h'; exact wpAny_pure hq) fun _ _ e => e)
    | exact wpAny_bind (wpAny_pure (wpAny_bind (wpAny_mono key (fun r s' h' => by obtain ⟨n, t, rfl, hq⟩ := h'; exact wpAny_pure hq) fun _ _ e => e)))
end
section
variable {X : Cx} {W : WX} {k : Nat} {a : Expr} {ga : EM} {p pos : Pos} {C g : Addr} {fd : FuncData} {ps : List Str} {sp : Sp} {E : L2.St → XK} {ta : TE}
theorem pe_notOwn (F : FnOk X.prog X.w X.K X.mg X.base (L2.CX X.prog X.w) k g fd ps sp) (hr : Room (k + 1) X.A) (hb : Binds X.K fd ps []) (Me : Meth X.K C "__len__" g) (hB : PySem.W.findIn X.K (.ref C) "__bool__" = some none) (hx : ∀ σ, PassesAt (L2.CX X.prog X.w) X σ (E σ)) (ha : PE X a ta) :
    PE X (.UnaryOp .Not a pos) (fun σ H Q => ta σ H fun x H1 => ∃ (r dx : Addr) (fs : List (Str × V)), x = .ref r ∧ H1 r = some (.ins C dx fs) ∧
      sp [.ref r] H1 (fun z H' => ∃ i : Int, z = .int i ∧ 0 ≤ i ∧ i < 2 ^ 63 ∧ Q (.bl (i == 0)) H') (E σ)) := by
  refine ⟨fun pins s σ H Q I h => ?_⟩
  refine UnaryOp_ (thn (ha.run pins s σ H _ I h) fun v s1 ⟨x, H1, I1, r1, q1⟩ => ?_)
  obtain ⟨r, dx, fs, rfl, hi, q⟩ := q1
  cases r1
  obtain ⟨mA, O, _⟩ := ins_get I1.hok hi
  obtain ⟨od, J, _⟩ := O.look
  refine not_of (truthy_lenK I1.kIn J hB Me.at_ Me.fn (wpAny_mono (run_in1 (us := [.ref r]) (vs := [.ref r]) F hr.in1 I1.env0.in1 hb (hx σ) I1 (.cons rfl .nil) q) (fun v s' z => ?_) fun _ _ y => y))
  obtain ⟨z', H', I', rz, i, ei, h0, h1, qz⟩ := z
  subst ei
  obtain ⟨t, e⟩ := (show ∃ t, v = Value.int i t from rz)
  refine ⟨i, t, e, h0, h1, fun tk => ⟨.bl (i == 0), H', I'.tok _, ?_, qz⟩⟩
  show Value.bool (!(i != 0)) = Value.bool (i == 0)
  simp [bne]
end
def fNotI (c : Str) (f : Fm) (d : D) (st : Sto) : R D := (fLenI c f [d] st).bind fun d st' => match d with
  | .int i => .ok (.bl (i == 0)) st'
  | _ => .fail
section
variable {X : Cx} {W : WX} {k : Nat} {a : Expr} {ga : EM} {pos : Pos} {c : Str} {f : Fm}
theorem e_notI (F : Mlen X.prog X.w X.K X.mg X.base k c f) (hB : boolB c X.K = true) (tk : Takes X W) (hr : Room (k + 1) X.A) (ha : PE X a (rE X.K W ga)) :
    PE X (.UnaryOp .Not a pos) (rE X.K W (eUn (fNotI c f) ga)) := by
  obtain ⟨ad, fd, ps, ok, hme, hb⟩ := F.ex
  refine (pe_notOwn ok hr hb hme (of_decide_eq_true hB) (fun σ => passAt tk σ) ha).imp fun σ H Q ⟨env, m, st, hE, hS, hp⟩ => ?_
  refine ⟨env, m, st, hE, hS, hp.bind fun d st1 v H1 m1 e1 p1 s1 r1 hp1 => ?_⟩
  unfold fNotI fLenI at hp1
  split at hp1
  · rename_i n hd
    cases hd
    split at hp1
    · rename_i c' fs q
      by_cases hcc : c' = c
      · rw [if_pos hcc] at hp1
        subst hcc
        cases r1 with
        | @ref _ b hn =>
          obtain ⟨dx, vfs, h1, _⟩ := s1.ob _ _ _ hn q
          refine ⟨b, dx, vfs, rfl, h1, spF_of F.ar s1 (.cons (.ref hn) .nil) ?_⟩
          cases q2 : f [.ref n] st1 with
          | ok d st' =>
            rw [q2] at hp1
            cases d with
            | int i =>
              simp only at hp1
              split at hp1
              · rename_i hi
                intro v H' m' e' p' s' r'
                have r2 := r'
                cases r2
                exact ⟨i, rfl, hi.1, by omega, hp1 (.bl (i == 0)) _ m' e' p' s' .bl⟩
              · exact hp1.elim
            | non => exact hp1.elim
            | bl _ => exact hp1.elim
            | str _ => exact hp1.elim
            | tup _ => exact hp1.elim
            | ref _ => exact hp1.elim
          | err c fs st' => rw [q2] at hp1; exact hp1
          | fail => rw [q2] at hp1; exact hp1.elim
      · rw [if_neg hcc] at hp1
        exact hp1.elim
    · exact hp1.elim
  · exact hp1.elim
end
end U
set_option Elab.async false
set_option linter.all false
set_option maxRecDepth 100000
set_option maxHeartbeats 1000000
namespace U
open PySem
def foldO {α : Type} (F : α → D → Option α) : α → List D → Option α
  | a, [] => some a
  | a, x :: xs => match F a x with
    | some b => foldO F b xs
    | none => none
def chgO (ws : List D) (vs : List D) (c : D) : Option (List D) := match c with
  | .tup [.str w, .int x, .int p] => match L2.ixN vs.length x, L2.atI vs x, L2.atI ws x with
    | some j, some (.int v), some (.int n) => if 0 < n then (if w = "turn" then some (vs.set j (.int ((v + p) % n))) else if w = "put" then some (vs.set j (.int ((0 + p) % n))) else none) else none
    | _, _, _ => none
  | _ => none
def hshO (ls : List D) (c : D) : Option (List D) := match c with
  | .tup [.int r, .int b] => match L2.ixN ls.length r, L2.atI ls r with
    | some j, some (.int l) => some (ls.set j (.int (iMax l b)))
    | _, _ => none
  | _ => none
def wakO (ls : List D) (c : D) : Option (List D) := match c with
  | .int r => match L2.ixN ls.length r with
    | some j => some (ls.set j (.int 0))
    | none => none
  | _ => none
def doO (ws rs : List D) (r : Int) (vs ls : List D) : Option (List D × List D) := match L2.atI rs r with
  | some (.tup [_, .tup cs, .tup hs, .tup wk]) => match foldO (chgO ws) vs cs with
    | some vs1 => match foldO hshO ls hs with
      | some ls1 => match foldO wakO ls1 wk with
        | some ls2 => some (vs1, ls2)
        | none => none
      | none => none
    | none => none
  | _ => none
structure Mid where
  vs : List D
  ls : List D
  dn : List D
def askO (ws rs off : List D) (q : Mid) (x : D) : Option Mid := match x with
  | .int r => match readyO rs r q.vs q.ls with
    | some b => if memI (.int r) off = false ∧ b = true then (match doO ws rs r q.vs q.ls with
        | some (vs, ls) => if q.dn.length < 1000 then some ⟨vs, ls, q.dn ++ [.int r]⟩ else none
        | none => none) else some q
    | none => none
  | _ => none
def lessD (d : D) : D := .int (iMax 0 (wI d - 1))
def stepO (ws rs vs ls order off : List D) : Option D :=
  if off.all isI = true ∧ off.length ≤ most then match foldO (askO ws rs off) ⟨vs, ls, []⟩ order with
    | some q => if q.ls.all isI = true ∧ q.vs.all isI = true ∧ q.dn.all isI = true ∧ q.ls.length ≤ most then some (.tup [.tup q.dn, .tup [.tup q.vs, .tup (q.ls.map lessD)]]) else none
    | none => none else none
theorem at_end0 {st : Sto} {a : Ob} {r : List Ob} : (st ++ a :: r)[st.length]? = some a := by simp
theorem at_end1 {st : Sto} {a b : Ob} {r : List Ob} : (st ++ a :: b :: r)[st.length + 1]? = some b := by simp [List.getElem?_append_right]
theorem set_end0 {st : Sto} {a a' : Ob} {r : List Ob} : (st ++ a :: r).set st.length a' = st ++ a' :: r := by simp
theorem mkTup2 {st : Sto} {a b : D} : mkTup [a, b] st = .ok (.tup [a, b]) st := rfl
def ordO (rs : List D) : List D := rngL 0 rs.length
def nextO (ws rs off : List D) (s : D) : Option D := match s with
  | .tup [.tup vs, .tup ls] => stepO ws rs vs ls (ordO rs) off
  | _ => none
mutual
theorem key_bnd {n : Nat} : ∀ {d : D}, (keyD d).isSome = true → Bnd n d
  | .non, _ => by simp only [Bnd]
  | .bl _, _ => by simp only [Bnd]
  | .int _, _ => by simp only [Bnd]
  | .str _, _ => by simp only [Bnd]
  | .ref _, h => by simp [keyD] at h
  | .tup xs, h => by
    simp only [keyD, Option.isSome_map] at h
    simp only [Bnd]
    exact keys_bnd h
theorem keys_bnd {n : Nat} : ∀ {ds : List D}, (keysD ds).isSome = true → Bnds n ds
  | [], _ => by simp only [Bnds]
  | d :: ds, h => by
    simp only [keysD] at h
    split at h
    · rename_i k ks h1 h2
      simp only [Bnds]
      exact ⟨key_bnd (by rw [h1]; rfl), keys_bnd (by rw [h2]; rfl)⟩
    · simp at h
end
def below (xs : List D) (k : Int) : Int := (xs.filter fun x => decide (wI x < k)).length
end U
set_option Elab.async false
set_option linter.all false
set_option maxRecDepth 100000
set_option maxHeartbeats 1000000
namespace U
open PySem
theorem ixN_nat {n i : Nat} (h : i < n) : L2.ixN n (i : Int) = some i := by
  unfold L2.ixN
  rw [if_pos (by omega), if_pos (by omega)]
  simp
theorem atI_nat {xs : List D} {i : Nat} {d : D} (h : xs[i]? = some d) : L2.atI xs (i : Int) = some d := by
  unfold L2.atI
  rw [ixN_nat (List.getElem?_eq_some_iff.mp h).1]
  exact h
def VOk (ws vs : List D) : Prop := vs.length = ws.length ∧ ∀ (i : Nat) (w : D), ws[i]? = some w → ∃ v m : Nat, vs[i]? = some (.int v) ∧ w = .int m ∧ v < m
def LOk (n b : Nat) (ls : List D) : Prop := ls.length = n ∧ ∀ i, i < n → ∃ l : Nat, ls[i]? = some (.int l) ∧ l ≤ b
def CondOk (ws : List D) (n : Nat) (c : D) : Prop := (∃ (w : Str) (x p m : Nat), c = .tup [.str w, .int x, .int p] ∧ (w = "is" ∨ w = "not" ∨ w = "below") ∧ ws[x]? = some (.int m) ∧ p < m) ∨ ∃ (w : Str) (q : Nat), c = .tup [.str w, .int q] ∧ (w = "hushed" ∨ w = "awake") ∧ q < n
def ChgOk (ws : List D) (c : D) : Prop := ∃ (w : Str) (x p m : Nat), c = .tup [.str w, .int x, .int p] ∧ (w = "turn" ∨ w = "put") ∧ ws[x]? = some (.int m) ∧ p < m
def HshOk (n : Nat) (c : D) : Prop := ∃ q b : Nat, c = .tup [.int q, .int b] ∧ q < n ∧ 1 ≤ b ∧ b ≤ 3
def WakOk (n : Nat) (c : D) : Prop := ∃ q : Nat, c = .int q ∧ q < n
def RuleOk (ws : List D) (n : Nat) (r : D) : Prop := ∃ cs chs hs wk, r = .tup [.tup cs, .tup chs, .tup hs, .tup wk] ∧ (∀ c ∈ cs, CondOk ws n c) ∧ (∀ c ∈ chs, ChgOk ws c) ∧ (∀ c ∈ hs, HshOk n c) ∧ ∀ c ∈ wk, WakOk n c
theorem VOk.set {ws vs : List D} {x v m : Nat} (h : VOk ws vs) (hw : ws[x]? = some (.int m)) (hv : v < m) : VOk ws (vs.set x (.int v)) := by
  refine ⟨by simp [h.1], fun i w hi => ?_⟩
  by_cases e : x = i
  · subst e
    rw [hw] at hi
    cases hi
    exact ⟨v, m, by rw [List.getElem?_set_self (by rw [h.1]; exact (List.getElem?_eq_some_iff.mp hw).1)], rfl, hv⟩
  · obtain ⟨v', m', h1, h2, h3⟩ := h.2 i w hi
    exact ⟨v', m', by rw [List.getElem?_set_ne e]; exact h1, h2, h3⟩
theorem LOk.set {n b x l : Nat} {ls : List D} (h : LOk n b ls) (hl : l ≤ b) : LOk n b (ls.set x (.int l)) := by
  refine ⟨by simp [h.1], fun i hi => ?_⟩
  by_cases e : x = i
  · subst e
    exact ⟨l, by rw [List.getElem?_set_self (by rw [h.1]; exact hi)], hl⟩
  · obtain ⟨l', h1, h2⟩ := h.2 i hi
    exact ⟨l', by rw [List.getElem?_set_ne e]; exact h1, h2⟩
def BookOk (ws rs : List D) : Prop := ∀ r ∈ rs, RuleOk ws rs.length r
theorem VOk.ints {ws vs : List D} (h : VOk ws vs) : vs.all isI = true := List.all_eq_true.mpr fun x hx => by
  obtain ⟨i, hi⟩ := List.getElem?_of_mem hx
  have hl : i < ws.length := by rw [← h.1]; exact (List.getElem?_eq_some_iff.mp hi).1
  obtain ⟨v, m, h1, _⟩ := h.2 i _ (List.getElem?_eq_getElem hl)
  rw [hi] at h1
  cases h1
  rfl
theorem LOk.ints {n b : Nat} {ls : List D} (h : LOk n b ls) : ls.all isI = true := List.all_eq_true.mpr fun x hx => by
  obtain ⟨i, hi⟩ := List.getElem?_of_mem hx
  have hl : i < n := by rw [← h.1]; exact (List.getElem?_eq_some_iff.mp hi).1
  obtain ⟨v, h1, _⟩ := h.2 i hl
  rw [hi] at h1
  cases h1
  rfl
theorem LOk.mono {n b c : Nat} {ls : List D} (h : LOk n b ls) (hb : b ≤ c) : LOk n c ls := ⟨h.1, fun i hi => let ⟨l, h1, h2⟩ := h.2 i hi; ⟨l, h1, Nat.le_trans h2 hb⟩⟩
end U
set_option Elab.async false
set_option linter.all false
set_option maxRecDepth 100000
set_option maxHeartbeats 1000000
namespace U
open PySem
def SOk (ws rs : List D) (s : D) : Prop := ∃ vs ls, s = .tup [.tup vs, .tup ls] ∧ VOk ws vs ∧ LOk rs.length 2 ls
def thenD (ws rs off : List D) (s : D) : D := match nextO ws rs off s with
  | some (.tup [_, th]) => th
  | _ => s
def didD (ws rs off : List D) (s : D) : D := match nextO ws rs off s with
  | some (.tup [dn, _]) => dn
  | _ => .tup []
def iter (ws rs off : List D) : Nat → D → D
  | 0, s => s
  | n + 1, s => thenD ws rs off (iter ws rs off n s)
structure RunOk (ws rs off : List D) : Prop where
  book : BookOk ws rs
  n5 : rs.length ≤ 5
  w3 : ws.length ≤ 3
  w4 : ∀ w ∈ ws, ∃ m : Nat, w = .int m ∧ m ≤ 4
  offI : off.all isI = true
  offL : off.length ≤ 5
section
variable {ws rs off : List D}
theorem keysD_ints : ∀ {xs : List D}, xs.all isI = true → keysD xs = some (xs.map fun x => .num (wI x))
  | [], _ => by simp only [keysD, List.map_nil]
  | x :: xs, h => by
    simp only [List.all_cons, Bool.and_eq_true] at h
    obtain ⟨i, rfl⟩ : ∃ i, x = .int i := ⟨_, isI_eq h.1⟩
    simp only [keysD, keyD, keysD_ints h.2, List.map_cons, wI]
def keyS (vs ls : List D) : NestedKey := .tup [.tup (vs.map fun x => .num (wI x)), .tup (ls.map fun x => .num (wI x))]
theorem key_state {vs ls : List D} (h1 : vs.all isI = true) (h2 : ls.all isI = true) : keyD (.tup [.tup vs, .tup ls]) = some (keyS vs ls) := by
  simp only [keyD, keysD, keysD_ints h1, keysD_ints h2, Option.map_some, keyS]
theorem nums_inj : ∀ {xs ys : List D}, xs.all isI = true → ys.all isI = true → (xs.map fun x => NestedKey.num (wI x)) = ys.map (fun x => .num (wI x)) → xs = ys
  | [], [], _, _, _ => rfl
  | [], _ :: _, _, _, e => by cases e
  | _ :: _, [], _, _, e => by cases e
  | x :: xs, y :: ys, h1, h2, e => by
    simp only [List.all_cons, Bool.and_eq_true] at h1 h2
    simp only [List.map_cons, List.cons.injEq, NestedKey.num.injEq] at e
    rw [isI_eq h1.1, isI_eq h2.1, e.1, nums_inj h1.2 h2.2 e.2]
theorem key_inj {s t : D} (h1 : SOk ws rs s) (h2 : SOk ws rs t) (e : keyD s = keyD t) : s = t := by
  obtain ⟨vs, ls, rfl, hv, hl⟩ := h1
  obtain ⟨vs', ls', rfl, hv', hl'⟩ := h2
  rw [key_state hv.ints hl.ints, key_state hv'.ints hl'.ints] at e
  simp only [Option.some.injEq, keyS, NestedKey.tup.injEq, List.cons.injEq, and_true] at e
  rw [nums_inj hv.ints hv'.ints e.1, nums_inj hl.ints hl'.ints e.2]
theorem nodup_lt : ∀ (N : Nat) (l : List Nat), l.Nodup → (∀ x ∈ l, x < N) → l.length ≤ N
  | 0, [], _, _ => Nat.le_refl _
  | 0, x :: l, _, h => absurd (h x List.mem_cons_self) (Nat.not_lt_zero _)
  | N + 1, l, hn, h => by
    by_cases hm : N ∈ l
    · have h1 := nodup_lt N (l.erase N) (hn.erase N) fun x hx => by
        have hx2 := (hn.mem_erase_iff).mp hx
        have := h x hx2.2
        omega
      rw [List.length_erase_of_mem hm] at h1
      omega
    · have := nodup_lt N l hn fun x hx => by
        have h1 := h x hx
        have h2 : x ≠ N := fun e => hm (e ▸ hx)
        omega
      omega
def digits (b : Nat) : List D → Nat
  | [] => 0
  | x :: xs => (wI x).toNat + b * digits b xs
theorem digits_lt {b : Nat} (hb : 0 < b) : ∀ {xs : List D}, (∀ x ∈ xs, ∃ v : Nat, x = .int v ∧ v < b) → digits b xs < b ^ xs.length
  | [], _ => by simp [digits]
  | x :: xs, h => by
    obtain ⟨v, rfl, hv⟩ := h x List.mem_cons_self
    have ih := digits_lt hb (xs := xs) fun y hy => h y (List.mem_cons_of_mem _ hy)
    simp only [digits, wI, List.length_cons, Int.toNat_natCast, Nat.pow_succ]
    have h1 : b * (digits b xs + 1) ≤ b * b ^ xs.length := Nat.mul_le_mul_left b ih
    rw [Nat.mul_comm (b ^ xs.length) b]
    have h2 : b * (digits b xs + 1) = b * digits b xs + b := Nat.mul_succ _ _
    omega
theorem digits_inj {b : Nat} (hb : 0 < b) : ∀ {xs ys : List D}, xs.length = ys.length → (∀ x ∈ xs, ∃ v : Nat, x = .int v ∧ v < b) → (∀ x ∈ ys, ∃ v : Nat, x = .int v ∧ v < b) → digits b xs = digits b ys → xs = ys
  | [], [], _, _, _, _ => rfl
  | [], _ :: _, e, _, _, _ => by cases e
  | _ :: _, [], e, _, _, _ => by cases e
  | x :: xs, y :: ys, e, h1, h2, h => by
    obtain ⟨v, rfl, hv⟩ := h1 x List.mem_cons_self
    obtain ⟨w, rfl, hw⟩ := h2 y List.mem_cons_self
    simp only [digits, wI, Int.toNat_natCast] at h
    have hm : v = w := by
      have := congrArg (· % b) h
      simp only [Nat.add_mul_mod_self_left, Nat.mod_eq_of_lt hv, Nat.mod_eq_of_lt hw] at this
      exact this
    subst hm
    have hd : digits b xs = digits b ys := Nat.eq_of_mul_eq_mul_left hb (by omega)
    rw [digits_inj hb (by simpa using e) (fun y hy => h1 y (List.mem_cons_of_mem _ hy)) (fun y hy => h2 y (List.mem_cons_of_mem _ hy)) hd]
def codeS : D → Nat
  | .tup [.tup vs, .tup ls] => digits 4 vs * 243 + digits 3 ls
  | _ => 0
theorem VOk.dig (R : RunOk ws rs off) {vs : List D} (h : VOk ws vs) : ∀ x ∈ vs, ∃ v : Nat, x = .int v ∧ v < 4 := fun x hx => by
  obtain ⟨i, hi⟩ := List.getElem?_of_mem hx
  have hl : i < ws.length := by rw [← h.1]; exact (List.getElem?_eq_some_iff.mp hi).1
  obtain ⟨v, m, h1, h2, h3⟩ := h.2 i _ (List.getElem?_eq_getElem hl)
  obtain ⟨m', h4, h5⟩ := R.w4 _ (List.getElem_mem hl)
  rw [hi] at h1
  cases h1
  rw [h4] at h2
  cases h2
  exact ⟨v, rfl, by omega⟩
theorem LOk.dig {n : Nat} {ls : List D} (h : LOk n 2 ls) : ∀ x ∈ ls, ∃ v : Nat, x = .int v ∧ v < 3 := fun x hx => by
  obtain ⟨i, hi⟩ := List.getElem?_of_mem hx
  have hl : i < n := by rw [← h.1]; exact (List.getElem?_eq_some_iff.mp hi).1
  obtain ⟨v, h1, h2⟩ := h.2 i hl
  rw [hi] at h1
  cases h1
  exact ⟨v, rfl, by omega⟩
theorem dig3 (R : RunOk ws rs off) {ls : List D} (h : LOk rs.length 2 ls) : digits 3 ls < 243 := by
  have h1 := digits_lt (b := 3) (by omega) h.dig
  have h2 : 3 ^ ls.length ≤ 3 ^ 5 := Nat.pow_le_pow_right (by omega) (by rw [h.1]; exact R.n5)
  omega
theorem dig4 (R : RunOk ws rs off) {vs : List D} (h : VOk ws vs) : digits 4 vs < 64 := by
  have h1 := digits_lt (b := 4) (by omega) (h.dig R)
  have h2 : 4 ^ vs.length ≤ 4 ^ 3 := Nat.pow_le_pow_right (by omega) (by rw [h.1]; exact R.w3)
  omega
theorem code_lt (R : RunOk ws rs off) {s : D} (h : SOk ws rs s) : codeS s < 15552 := by
  obtain ⟨vs, ls, rfl, hv, hl⟩ := h
  have h1 := dig4 R hv
  have h2 := dig3 R hl
  simp only [codeS]
  omega
theorem code_inj (R : RunOk ws rs off) {s t : D} (h1 : SOk ws rs s) (h2 : SOk ws rs t) (e : codeS s = codeS t) : s = t := by
  obtain ⟨vs, ls, rfl, hv, hl⟩ := h1
  obtain ⟨vs', ls', rfl, hv', hl'⟩ := h2
  have a1 := dig3 R hl
  have a2 := dig3 R hl'
  simp only [codeS] at e
  have e1 : digits 4 vs = digits 4 vs' := by omega
  have e2 : digits 3 ls = digits 3 ls' := by omega
  rw [digits_inj (by omega) (by rw [hv.1, hv'.1]) (hv.dig R) (hv'.dig R) e1, digits_inj (by omega) (by rw [hl.1, hl'.1]) hl.dig hl'.dig e2]
theorem few_states (R : RunOk ws rs off) {l : List D} (hn : l.Nodup) (h : ∀ s ∈ l, SOk ws rs s) : l.length ≤ 15552 := by
  have h1 := nodup_lt 15552 (l.map codeS) (by
    rw [List.nodup_iff_pairwise_ne, List.pairwise_map]
    exact List.Pairwise.imp_of_mem (fun {a b} ha hb hab e => hab (code_inj R (h a ha) (h b hb) e)) (List.nodup_iff_pairwise_ne.mp hn)) fun x hx => by
    obtain ⟨s, hs, rfl⟩ := List.mem_map.mp hx
    exact code_lt R (h s hs)
  simpa using h1
end
end U
set_option Elab.async false
set_option linter.all false
set_option maxRecDepth 100000
set_option maxHeartbeats 1000000
namespace U
open PySem
section
variable {ws rs off : List D}
theorem getK_none {k : NestedKey} : ∀ {kvs : List (D × D)}, (∀ p ∈ kvs, keyD p.1 ≠ some k) → getK kvs k = none
  | [], _ => rfl
  | p :: r, h => by
    unfold getK
    rw [if_neg (h p List.mem_cons_self)]
    exact getK_none fun q hq => h q (List.mem_cons_of_mem _ hq)
theorem getK_some {k : NestedKey} : ∀ {kvs : List (D × D)} {i : Nat} {p : D × D}, kvs[i]? = some p → keyD p.1 = some k → (∀ j q, j < i → kvs[j]? = some q → keyD q.1 ≠ some k) → getK kvs k = some p.2
  | [], _, _, h, _, _ => by simp at h
  | q :: r, 0, p, h, hk, _ => by
    simp at h
    subst h
    unfold getK
    rw [if_pos hk]
  | q :: r, i + 1, p, h, hk, hn => by
    unfold getK
    rw [if_neg (hn 0 q (by omega) rfl)]
    exact getK_some (by simpa using h) hk fun j q' hj hq => hn (j + 1) q' (by omega) (by simpa using hq)
structure Rho (ws rs off : List D) (s : D) (m b : Nat) : Prop where
  lt : b < m
  few : m ≤ 15552
  rep : iter ws rs off m s = iter ws rs off b s
  dist : ∀ i j, i < j → j < m → iter ws rs off i s ≠ iter ws rs off j s
end
end U
set_option Elab.async false
set_option linter.all false
set_option maxRecDepth 100000
set_option maxHeartbeats 1000000
namespace U
open PySem
section
variable {ws rs off : List D}
theorem zip_all {f : D → D → Bool} {xs ys : List D} (h : ∀ (i : Nat) (x y : D), xs[i]? = some x → ys[i]? = some y → f x y = true) : (List.zipWith f xs ys).all id = true := List.all_eq_true.mpr fun b hb => by
  obtain ⟨i, hi⟩ := List.getElem?_of_mem hb
  rw [List.getElem?_zipWith] at hi
  cases hx : xs[i]? with
  | none => rw [hx] at hi; cases hi
  | some x =>
    cases hy : ys[i]? with
    | none => rw [hx, hy] at hi; cases hi
    | some y =>
      rw [hx, hy] at hi
      cases hi
      exact h i x y hx hy
end
end U
set_option Elab.async false
set_option linter.all false
set_option maxRecDepth 100000
set_option maxHeartbeats 1000000
namespace U
open PySem
def Bag (st : Sto) (b : Nat) (c : Int) : Prop := ∃ g x c', st[b]? = some (lst3 g x c') ∧ CtOk x c' ∧ c' ≤ c
theorem take_step {st : Sto} {b : Nat} {c many : Int} (h : Bag st b c) (h0 : 0 < many) (h1 : many < 1000000000000000000000000000000000000000000000000000000000001) (hc : c + 1 < 1000000000) :
    ∃ (v : Nat) (st' : Sto), s_take [.ref b, .int many] st = .ok (.int (v : Int)) st' ∧ (v : Int) < many ∧ Bag st' b (c + 1) ∧ (∀ i, i ≠ b → st'[i]? = st[i]?) ∧ st'.length = st.length := by
  obtain ⟨g, x, c', hb, ok, hle⟩ := h
  have hr := take_range (g := g) (x := x) (c := c') h0
  obtain ⟨v, hv⟩ := Int.eq_ofNat_of_zero_le hr.1
  refine ⟨v, _, by rw [← hv]; exact take_of hb ok h0 h1, by omega, ?_, fun i hi => List.getElem?_set_ne (Ne.symm hi), by simp⟩
  obtain ⟨g', x', c'', e, ok', hle'⟩ := take_next (g := g) (many := many) ok (by omega)
  exact ⟨g', x', c'', by rw [get_set (List.getElem?_eq_some_iff.mp hb).1, e], ok', by omega⟩
theorem get0 {st ex : Sto} {o : Ob} {i : Nat} (h : st[i]? = some o) : (st ++ ex)[i]? = some o := by rw [List.getElem?_append_left (List.getElem?_eq_some_iff.mp h).1]; exact h
theorem Bag.app {st ex : Sto} {b : Nat} {c : Int} (h : Bag st b c) : Bag (st ++ ex) b c := by
  obtain ⟨g, x, c', hb, r⟩ := h
  exact ⟨g, x, c', get0 hb, r⟩
theorem runLc_J {xs : List D} {g : GM} {e : EM} {env : Ev} {k : Nat} (J : Nat → List D → Sto → Prop) (hk : ∀ i acc st, J i acc st → acc.length < most)
    (h : ∀ i x acc st, xs[i]? = some x → J i acc st → ∃ env1 st1 d st2, g x env st = some (env1, st1) ∧ e env1 st = .ok d st2 ∧ st2[k]? = some (.lst acc) ∧ J (i + 1) (acc ++ [d]) (st2.set k (.lst (acc ++ [d])))) :
    ∀ (n i : Nat) (acc : List D) (st : Sto), xs.length = i + n → J i acc st → ∃ acc' st', runLc (.fix xs) g tTrue e k env (n + 1) i st = .ok (.ref k) st' ∧ J xs.length acc' st'
  | 0, i, acc, st, hn, hJ => by
    have e : i = xs.length := by omega
    subst e
    refine ⟨acc, st, ?_, hJ⟩
    unfold runLc
    simp only [Src.at]
    rw [List.getElem?_eq_none (Nat.le_refl _)]
  | n + 1, i, acc, st, hn, hJ => by
    have hi : i < xs.length := by omega
    obtain ⟨env1, st1, d, st2, h1, h2, h3, h4⟩ := h i xs[i] acc st (List.getElem?_eq_getElem hi) hJ
    obtain ⟨acc', st', h5, h6⟩ := runLc_J J hk h n (i + 1) (acc ++ [d]) _ (by omega) h4
    refine ⟨acc', st', ?_, h6⟩
    unfold runLc
    simp only [Src.at]
    rw [List.getElem?_eq_getElem hi]
    simp only [h1, tTrue, R.bind, if_true, h2, h3]
    rw [if_pos (hk _ _ _ hJ)]
    exact h5
theorem startLc_J {xs : List D} {g : GM} {e : EM} {env : Ev} {st : Sto} (J : Nat → List D → Sto → Prop) (hk : ∀ i acc st, J i acc st → acc.length < most) (h0 : J 0 [] (st ++ [.lst []]))
    (h : ∀ i x acc s', xs[i]? = some x → J i acc s' → ∃ env1 st1 d st2, g x env s' = some (env1, st1) ∧ e env1 s' = .ok d st2 ∧ st2[st.length]? = some (.lst acc) ∧ J (i + 1) (acc ++ [d]) (st2.set st.length (.lst (acc ++ [d])))) :
    ∃ acc' st', startLc g tTrue e env (.fix xs) st = .ok (.ref st.length) st' ∧ J xs.length acc' st' :=
  runLc_J J hk h xs.length 0 [] _ (by omega) h0
theorem seq_to {a b : SM} {env env1 : Ev} {st st1 : Sto} {r : RS} (h1 : a env st = .nx env1 st1) (h2 : b env1 st1 = r) : sSeq a b env st = r := by unfold sSeq; rw [h1]; exact h2
theorem set_to {i : Nat} {g : EM} {b : SM} {env : Ev} {st st1 : Sto} {d : D} {r : RS} (h1 : g env st = .ok d st1) (h2 : b (env.set i (some d)) st1 = r) : sSeq (sSet i g) b env st = r := seq_to (by unfold sSet; rw [h1]; rfl) h2
theorem par_to {i j : Nat} {ga gb : EM} {b : SM} {env : Ev} {st s1 s2 : Sto} {x y : D} {r : RS} (h1 : ga env st = .ok x s1) (h2 : gb env s1 = .ok y s2) (h : b ((env.set i (some x)).set j (some y)) s2 = r) : sSeq (sPar i j ga gb) b env st = r := seq_to (by unfold sPar; rw [h1]; simp only [R.then]; rw [h2]) h
theorem if_to {t : TM} {a b : SM} {env : Ev} {st st1 : Sto} {r : RS} (h1 : t env st = .ok false st1) (h2 : b env st1 = r) : sSeq (sIf t a sSkip) b env st = r := seq_to (by unfold sIf; rw [h1]; rfl) h2
section
variable {P : Ev → Sto → Prop} {b : SM} {env env1 : Ev} {st st1 : Sto}
end
theorem addL {st : Sto} {i j : Nat} {xs ys : List D} (h1 : st[i]? = some (.lst xs)) (h2 : st[j]? = some (.lst ys)) (hl : (xs ++ ys).length ≤ most) : dAdd (.ref i) (.ref j) st = .ok (.ref st.length) (st ++ [.lst (xs ++ ys)]) := by
  unfold dAdd
  simp only [h1, h2]
  exact if_pos hl

theorem mkTup_4 {st : Sto} {a b c d : D} : mkTup [a, b, c, d] st = .ok (.tup [a, b, c, d]) st := rfl
theorem Bag.mono {st : Sto} {b : Nat} {c d : Int} (h : Bag st b c) (hd : c ≤ d) : Bag st b d := let ⟨g, x, c', h1, h2, h3⟩ := h; ⟨g, x, c', h1, h2, Int.le_trans h3 hd⟩
theorem Bag.lt {st : Sto} {b : Nat} {c : Int} (h : Bag st b c) : b < st.length := let ⟨_, _, _, h1, _⟩ := h; (List.getElem?_eq_some_iff.mp h1).1
structure Grw (S T : Sto) (B : Nat) : Prop where
  len : S.length ≤ T.length
  at_ : ∀ i, i < S.length → i ≠ B → T[i]? = S[i]?
theorem Grw.refl {S : Sto} {B : Nat} : Grw S S B := ⟨Nat.le_refl _, fun _ _ _ => rfl⟩
theorem Grw.trans {S T V : Sto} {B : Nat} (a : Grw S T B) (b : Grw T V B) : Grw S V B := ⟨Nat.le_trans a.len b.len, fun i hi hb => (b.at_ i (Nat.lt_of_lt_of_le hi a.len) hb).trans (a.at_ i hi hb)⟩
theorem Grw.app {S ex : Sto} {B : Nat} : Grw S (S ++ ex) B := ⟨by simp, fun i hi _ => List.getElem?_append_left hi⟩
theorem Grw.same {S T : Sto} {B : Nat} (h : ∀ i, i ≠ B → T[i]? = S[i]?) (hl : T.length = S.length) : Grw S T B := ⟨Nat.le_of_eq hl.symm, fun i _ hb => h i hb⟩
theorem Grw.set {S T : Sto} {B k : Nat} {o : Ob} (a : Grw S T B) (hk : S.length ≤ k) : Grw S (T.set k o) B := ⟨by simpa using a.len, fun i hi hb => by rw [List.getElem?_set_ne (by omega)]; exact a.at_ i hi hb⟩
theorem Bag.set {T : Sto} {B k : Nat} {c : Int} {o : Ob} (h : Bag T B c) (hk : k ≠ B) : Bag (T.set k o) B c := by
  obtain ⟨g, x, c', h1, r⟩ := h
  exact ⟨g, x, c', by rw [List.getElem?_set_ne hk]; exact h1, r⟩
theorem take_go {st : Sto} {b : Nat} {c many : Int} (h : Bag st b c) (h0 : 0 < many) (h1 : many < 1000000000000000000000000000000000000000000000000000000000001) (hc : c + 1 < 1000000000) :
    ∃ (v : Nat) (st' : Sto), s_take [.ref b, .int many] st = .ok (.int (v : Int)) st' ∧ (v : Int) < many ∧ Bag st' b (c + 1) ∧ Grw st st' b ∧ st'.length = st.length :=
  let ⟨v, st', h1, h2, h3, h4, h5⟩ := take_step h h0 h1 hc; ⟨v, st', h1, h2, h3, .same h4 h5, h5⟩
end U
set_option Elab.async false
set_option linter.all false
set_option maxRecDepth 100000
set_option maxHeartbeats 400000
namespace U
open PySem
section
variable {ws rs off : List D}
structure WayOk (ws rs off : List D) (kvs : List (D × D)) : Prop where
  ok : ∀ p ∈ kvs, SOk ws rs p.1 ∧ p.2 = .tup [didD ws rs off p.1, thenD ws rs off p.1]
  nd : (kvs.map (·.1)).Nodup
theorem WayOk.few (R : RunOk ws rs off) {kvs : List (D × D)} (W : WayOk ws rs off kvs) : kvs.length ≤ 15552 := by
  have := few_states R W.nd fun s hs => by obtain ⟨p, hp, rfl⟩ := List.mem_map.mp hs; exact (W.ok p hp).1
  rwa [List.length_map] at this
theorem WayOk.get {kvs : List (D × D)} (W : WayOk ws rs off kvs) {s : D} {k : NestedKey} (hs : s ∈ kvs.map (·.1)) (hk : keyD s = some k) : getK kvs k = some (.tup [didD ws rs off s, thenD ws rs off s]) := by
  obtain ⟨p, hp, rfl⟩ := List.mem_map.mp hs
  obtain ⟨i, hi⟩ := List.getElem?_of_mem hp
  rw [getK_some hi hk fun j q hj hq e => ?_, (W.ok p hp).2]
  have hqm := List.mem_of_getElem? hq
  have e2 : q.1 = p.1 := key_inj (W.ok q hqm).1 (W.ok p hp).1 (by rw [e, hk])
  have h1 : (kvs.map (·.1))[j]? = some p.1 := by rw [List.getElem?_map, hq, ← e2]; rfl
  have h2 : (kvs.map (·.1))[i]? = some p.1 := by rw [List.getElem?_map, hi]; rfl
  have hjl : j < (kvs.map (·.1)).length := (List.getElem?_eq_some_iff.mp h1).1
  have := (List.getElem?_inj hjl W.nd).mp (h1.trans h2.symm)
  omega
theorem WayOk.none {kvs : List (D × D)} (W : WayOk ws rs off kvs) {s : D} {k : NestedKey} (h : SOk ws rs s) (hs : s ∉ kvs.map (·.1)) (hk : keyD s = some k) : getK kvs k = none :=
  getK_none fun p hp e => hs (List.mem_map.mpr ⟨p, hp, key_inj (W.ok p hp).1 h (by rw [e, hk])⟩)
structure WaysD (ws rs off starts : List D) (kvs : List (D × D)) : Prop where
  way : WayOk ws rs off kvs
  closed : ∀ p ∈ kvs, thenD ws rs off p.1 ∈ kvs.map (·.1)
  start : ∀ s ∈ starts, s ∈ kvs.map (·.1)
  reach : ∀ s ∈ kvs.map (·.1), ∃ s0 ∈ starts, ∃ i, s = iter ws rs off i s0
theorem WaysD.iter {starts : List D} {kvs : List (D × D)} (G : WaysD ws rs off starts kvs) {s : D} (hs : s ∈ starts) : ∀ i, iter ws rs off i s ∈ kvs.map (·.1)
  | 0 => G.start s hs
  | i + 1 => by
    obtain ⟨p, hp, e⟩ := List.mem_map.mp (G.iter hs i)
    show thenD ws rs off (U.iter ws rs off i s) ∈ _
    rw [← e]
    exact G.closed p hp
end
end U
set_option Elab.async false
set_option linter.all false
set_option maxRecDepth 100000
set_option maxHeartbeats 400000
namespace U
open PySem

def WR0 {α : Type} (r : R α) (P : α → Sto → Prop) : Prop := match r with
  | .ok a st => P a st
  | _ => False
structure WR {α : Type} (r : R α) (P : α → Sto → Prop) : Prop where
  out : WR0 r P
def WS0 (r : RS) (N : Ev → Sto → Prop) (T : D → Sto → Prop) (C B : Ev → Sto → Prop) : Prop := match r with
  | .nx e s => N e s
  | .rt d s => T d s
  | .ct e s => C e s
  | .bk e s => B e s
  | _ => False
structure WS (r : RS) (N : Ev → Sto → Prop) (T : D → Sto → Prop) (C B : Ev → Sto → Prop) : Prop where
  out : WS0 r N T C B
def Cond (c : Bool) (A B : Prop) : Prop := if c = true then A else B
theorem cond_t {A B : Prop} (h : A) : Cond true A B := h
theorem cond_f {A B : Prop} (h : B) : Cond false A B := h
theorem cond_at {c : Bool} {A B : Prop} (hc : c = true) (h : A) : Cond c A B := by rw [hc]; exact h
theorem cond_af {c : Bool} {A B : Prop} (hc : c = false) (h : B) : Cond c A B := by rw [hc]; exact h
theorem cond_by {c : Bool} {A B : Prop} (h1 : c = true → A) (h2 : c = false → B) : Cond c A B := by
  cases c with
  | true => exact h1 rfl
  | false => exact h2 rfl
section
variable {α β : Type} {r : R α} {P : α → Sto → Prop} {PB : Bool → Sto → Prop} {PD : D → Sto → Prop} {PL : List D → Sto → Prop} {N C B : Ev → Sto → Prop} {T : D → Sto → Prop} {env env1 : Ev} {st st1 : Sto}
theorem wr_by {a : α} (h : r = .ok a st1) (k : P a st1) : WR r P := by rw [h]; exact ⟨k⟩
theorem wr_out (h : WR r P) : ∃ a s, r = .ok a s ∧ P a s := by
  cases r with
  | ok a s => exact ⟨a, s, rfl, h.out⟩
  | err => exact h.out.elim
  | fail => exact h.out.elim
theorem wr_bind {q : R β} {f : β → Sto → R α} (h : WR q fun x s => WR (f x s) P) : WR (q.bind f) P := by
  cases q with
  | ok a s => exact h.out
  | err => exact h.out.elim
  | fail => exact h.out.elim
theorem wr_imp {Q : α → Sto → Prop} (h : WR r P) (i : ∀ a s, P a s → Q a s) : WR r Q := by
  cases r with
  | ok a s => exact ⟨i a s h.out⟩
  | err => exact h.out.elim
  | fail => exact h.out.elim
theorem ws_then {q : R β} {f : β → Sto → RS} (h : WR q fun x s => WS (f x s) N T C B) : WS (q.then env f) N T C B := by
  cases q with
  | ok a s => exact h.out
  | err => exact h.out.elim
  | fail => exact h.out.elim
theorem wr_hush (h : WR r P) : WR r.hush P := by
  cases r with
  | ok a s => exact h
  | err => exact h.out.elim
  | fail => exact h.out.elim
theorem w_var {i : Nat} {d : D} (h : env[i]? = some (some d)) (k : PD d st) : WR (eVar i env st) PD := by unfold eVar; rw [h]; exact ⟨k⟩
theorem w_c {d : D} (k : PD d st) : WR (eC d env st) PD := ⟨k⟩
theorem w_un {f : D → Sto → R D} {a : EM} (k : WR (a env st) fun x s => WR (f x s) PD) : WR (eUn f a env st) PD := wr_bind k
theorem w_bin {f : D → D → Sto → R D} {a b : EM} (k : WR (a env st) fun x s => WR (b env s) fun y s => WR (f x y s) PD) : WR (eBin f a b env st) PD := wr_bind (wr_imp k fun _ _ h => wr_bind h)
theorem w_anil (k : PL [] st) : WR (aNil env st) PL := ⟨k⟩
theorem w_acons {a : EM} {as : AM} (k : WR (a env st) fun x s => WR (as env s) fun xs s => PL (x :: xs) s) : WR (aCons a as env st) PL := wr_bind (wr_imp k fun _ _ h => wr_bind (wr_imp h fun _ _ h => ⟨h⟩))
theorem w_aapp {a b : AM} (k : WR (a env st) fun x s => WR (b env s) fun xs s => PL (x ++ xs) s) : WR (aApp a b env st) PL := wr_bind (wr_imp k fun _ _ h => wr_bind (wr_imp h fun _ _ h => ⟨h⟩))
theorem w_fn {f : List D → Sto → R D} {as : AM} (k : WR (as env st) fun xs s => WR (f xs s) PD) : WR (eFn f as env st) PD := wr_bind k
theorem w_via {l : List Arg} {f : Fm} {ds es : List D} (h : pick l ds = some es) (k : WR (f es st) PD) : WR (via l f ds st) PD := by unfold via; rw [h]; exact k
theorem w_tof {a : EM} (k : WR (a env st) fun x s => WR (toB x s) PB) : WR (tOf a env st) PB := wr_bind k
theorem w_tob {c : Bool} (k : PB c st) : WR (toB (.bl c) st) PB := ⟨k⟩
theorem w_tand {a b : TM} (k : WR (a env st) fun c s => Cond c (WR (b env s) PB) (PB false s)) : WR (tAnd a b env st) PB := wr_bind (wr_imp k fun c _ h => by cases c; exact ⟨h⟩; exact h)
theorem w_tor {a b : TM} (k : WR (a env st) fun c s => Cond c (PB true s) (WR (b env s) PB)) : WR (tOr a b env st) PB := wr_bind (wr_imp k fun c _ h => by cases c; exact h; exact ⟨h⟩)
theorem w_tnot {a : TM} (k : WR (a env st) fun c s => PB (!c) s) : WR (tNot a env st) PB := wr_bind (wr_imp k fun _ _ h => ⟨h⟩)
theorem w_true (k : PB true st) : WR (tTrue env st) PB := ⟨k⟩
theorem w_eand {a b : EM} (k : WR (a env st) fun x s => ∃ c, x = .bl c ∧ Cond c (WR (b env s) PD) (PD (.bl false) s)) : WR (eAnd a b env st) PD := wr_bind (wr_imp k fun x _ ⟨c, e, h⟩ => by subst e; cases c; exact ⟨h⟩; exact h)
theorem w_eor {a b : EM} (k : WR (a env st) fun x s => ∃ c, x = .bl c ∧ Cond c (PD (.bl true) s) (WR (b env s) PD)) : WR (eOr a b env st) PD := wr_bind (wr_imp k fun x _ ⟨c, e, h⟩ => by subst e; cases c; exact h; exact ⟨h⟩)
theorem w_enot {a : EM} (k : WR (a env st) fun x s => ∃ c, x = .bl c ∧ PD (.bl (!c)) s) : WR (eNot a env st) PD := wr_bind (wr_imp k fun x _ ⟨c, e, h⟩ => by subst e; exact ⟨h⟩)
theorem w_exb {c : Bool} {A : Bool → Prop} (k : A c) : ∃ c', D.bl c = .bl c' ∧ A c' := ⟨c, rfl, k⟩
theorem w_if {t : TM} {a b : EM} (k : WR (t env st) fun c s => Cond c (WR (a env s) PD) (WR (b env s) PD)) : WR (eIf t a b env st) PD := wr_bind (wr_imp k fun c _ h => by cases c <;> exact h)
theorem w_slice {a : EM} {lo hi : oM} (k : WR (a env st) fun d s => WR (lo env s) fun l s => WR (hi env s) fun h s => WR (sliceD d l h s) PD) : WR (eSlice a lo hi env st) PD := wr_bind (wr_imp k fun _ _ h => wr_bind (wr_imp h fun _ _ h => wr_bind h))
theorem w_onone {PO : Option Int → Sto → Prop} (k : PO none st) : WR (oNone env st) PO := ⟨k⟩
theorem w_osome {a : EM} {PO : Option Int → Sto → Prop} (k : WR (a env st) fun d s => ∃ i, d = .int i ∧ PO (some i) s) : WR (oSome a env st) PO := wr_bind (wr_imp k fun x _ ⟨i, e, h⟩ => by subst e; exact ⟨h⟩)
theorem w_exi {i : Int} {A : Int → Prop} (k : A i) : ∃ i', D.int i = .int i' ∧ A i' := ⟨i, rfl, k⟩
theorem w_lc {src : IM} {vs : List Nat} {g : GM} {t : TM} {e : EM} (k : WR (src env st) fun s st => WR (startLc g t e (wipeE env vs) s st) PD) : WR (cLc src vs g t e env st) PD := wr_bind (wr_imp k fun _ _ h => wr_hush h)
theorem w_mtl {f : D → List D → Sto → R D} {a : EM} {as : AM} (k : WR (a env st) fun x s => isLst x s = true ∧ WR (as env s) fun xs s => WR (f x xs s) PD) : WR (eMtL f a as env st) PD := wr_bind (wr_imp k fun x s ⟨h, h2⟩ => by rw [if_pos h]; exact wr_bind h2)
variable {PS : Src → Sto → Prop}
theorem w_iseq {a : EM} (k : WR (a env st) fun x s => WR (seqSrc x s) PS) : WR (iSeq a env st) PS := wr_bind k
theorem w_irng {a : EM} (k : WR (a env st) fun x s => WR (rngSrc x s) PS) : WR (iRng a env st) PS := wr_bind k
theorem w_ienum {a : EM} (k : WR (a env st) fun x s => WR (enumSrc x s) PS) : WR (iEnum a env st) PS := wr_bind k
theorem w_ibin {f : D → D → Sto → R Src} {a b : EM} (k : WR (a env st) fun x s => WR (b env s) fun y s => WR (f x y s) PS) : WR (iBin f a b env st) PS := wr_bind (wr_imp k fun _ _ h => wr_bind h)
theorem w_sseq {xs : List D} (k : PS (.fix xs) st) : WR (seqSrc (.tup xs) st) PS := ⟨k⟩
theorem w_sdyn {n : Nat} {xs : List D} (h : st[n]? = some (.lst xs)) (k : PS (.dyn n) st) : WR (seqSrc (.ref n) st) PS := by unfold seqSrc lstOf; simp only [h]; exact ⟨k⟩
theorem w_senum {xs : List D} (k : PS (.fix (enumFrom 0 xs)) st) : WR (enumSrc (.tup xs) st) PS := ⟨k⟩
theorem w_szip {xs ys : List D} (k : PS (.fix (List.zipWith pairD xs ys)) st) : WR (zipSrc (.tup xs) (.tup ys) st) PS := ⟨k⟩
theorem w_rng {i : Int} {n : Nat} (hi : i = (n : Int)) (hn : n ≤ most) (k : PS (.fix (rngL 0 n)) st) : WR (rngSrc (.int i) st) PS := by subst hi; rw [rng_src hn]; exact ⟨k⟩
theorem w_skip (k : N env st) : WS (sSkip env st) N T C B := ⟨k⟩
theorem w_seq {a b : SM} (k : WS (a env st) (fun e s => WS (b e s) N T C B) T C B) : WS (sSeq a b env st) N T C B := by
  unfold sSeq
  cases h : a env st with
  | nx e s => rw [h] at k; exact k.out
  | rt d s => rw [h] at k; exact ⟨k.out⟩
  | ct e s => rw [h] at k; exact ⟨k.out⟩
  | bk e s => rw [h] at k; exact ⟨k.out⟩
  | err c fs e s => rw [h] at k; exact k.out.elim
  | fail => rw [h] at k; exact k.out.elim
theorem w_ret {a : EM} (k : WR (a env st) fun d s => T d s) : WS (sRet a env st) N T C B := ws_then (wr_imp k fun _ _ h => ⟨h⟩)
theorem w_sif {t : TM} {a b : SM} (k : WR (t env st) fun c s => Cond c (WS (a env s) N T C B) (WS (b env s) N T C B)) : WS (sIf t a b env st) N T C B := ws_then (wr_imp k fun c _ h => by cases c <;> exact h)
theorem w_set {i : Nat} {a : EM} (k : WR (a env st) fun d s => N (env.set i (some d)) s) : WS (sSet i a env st) N T C B := ws_then (wr_imp k fun _ _ h => ⟨h⟩)
theorem w_expr {a : EM} (k : WR (a env st) fun _ s => N env s) : WS (sExpr a env st) N T C B := ws_then (wr_imp k fun _ _ h => ⟨h⟩)
theorem w_asg {a : EM} {g : GM} (k : WR (a env st) fun d s => ∃ e1 s1, g d env s = some (e1, s1) ∧ N e1 s1) : WS (sAsg a g env st) N T C B := ws_then (wr_imp k fun d s ⟨e1, s1, h, k⟩ => by simp only [h]; exact ⟨k⟩)
theorem w_asg2 {a : EM} {i j : Nat} (k : WR (a env st) fun d s => ∃ x y, d = .tup [x, y] ∧ N ((env.set i (some x)).set j (some y)) s) : WS (sAsg a (gT 2 (gsCons (gN i) (gsCons (gN j) gsNil))) env st) N T C B := w_asg (wr_imp k fun d s ⟨x, y, e, k⟩ => by subst e; exact ⟨_, _, rfl, k⟩)
theorem w_asg3 {a : EM} {i j l : Nat} (k : WR (a env st) fun d s => ∃ x y z, d = .tup [x, y, z] ∧ N (((env.set i (some x)).set j (some y)).set l (some z)) s) : WS (sAsg a (gT 3 (gsCons (gN i) (gsCons (gN j) (gsCons (gN l) gsNil)))) env st) N T C B := w_asg (wr_imp k fun d s ⟨x, y, z, e, k⟩ => by subst e; exact ⟨_, _, rfl, k⟩)
theorem w_asg4 {a : EM} {i j l o : Nat} (k : WR (a env st) fun d s => ∃ x y z u, d = .tup [x, y, z, u] ∧ N ((((env.set i (some x)).set j (some y)).set l (some z)).set o (some u)) s) : WS (sAsg a (gT 4 (gsCons (gN i) (gsCons (gN j) (gsCons (gN l) (gsCons (gN o) gsNil))))) env st) N T C B := w_asg (wr_imp k fun d s ⟨x, y, z, u, e, k⟩ => by subst e; exact ⟨_, _, rfl, k⟩)
theorem w_ex2 {x y : D} {A : D → D → Prop} (k : A x y) : ∃ x' y', D.tup [x, y] = .tup [x', y'] ∧ A x' y' := ⟨x, y, rfl, k⟩
theorem w_ex3 {x y z : D} {A : D → D → D → Prop} (k : A x y z) : ∃ x' y' z', D.tup [x, y, z] = .tup [x', y', z'] ∧ A x' y' z' := ⟨x, y, z, rfl, k⟩
theorem w_ex4 {x y z u : D} {A : D → D → D → D → Prop} (k : A x y z u) : ∃ x' y' z' u', D.tup [x, y, z, u] = .tup [x', y', z', u'] ∧ A x' y' z' u' := ⟨x, y, z, u, rfl, k⟩
theorem w_par {i j : Nat} {a b : EM} (k : WR (a env st) fun x s => WR (b env s) fun y s => N ((env.set i (some x)).set j (some y)) s) : WS (sPar i j a b env st) N T C B := ws_then (wr_imp k fun _ _ h => ws_then (wr_imp h fun _ _ h => ⟨h⟩))
theorem w_par3 {i j l : Nat} {a b c : EM} (k : WR (a env st) fun x s => WR (b env s) fun y s => WR (c env s) fun z s => N (((env.set i (some x)).set j (some y)).set l (some z)) s) : WS (sPar3 i j l a b c env st) N T C B := ws_then (wr_imp k fun _ _ h => ws_then (wr_imp h fun _ _ h => ws_then (wr_imp h fun _ _ h => ⟨h⟩)))
theorem w_for {src : IM} {g : GM} {b : SM} (k : WR (src env st) fun s st => WS (startFor g b env s st) N T C B) : WS (sFor src g b env st) N T C B := ws_then k
theorem w_def {n slots : Nat} {b : SM} {ds : List D} (hl : ds.length = n) (k : WS (b (env0 n slots ds) st) (fun _ s => PD .non s) (fun d s => PD d s) (fun _ _ => False) (fun _ _ => False)) : WR (mkFn n slots b ds st) PD := by
  unfold mkFn
  rw [if_pos hl]
  revert k
  cases b (env0 n slots ds) st with
  | nx e s => exact fun k => ⟨k.out⟩
  | rt d s => exact fun k => ⟨k.out⟩
  | ct e s => exact fun k => k.out.elim
  | bk e s => exact fun k => k.out.elim
  | err c fs e s => exact fun k => k.out.elim
  | fail => exact fun k => k.out.elim
theorem ws_imp {r : RS} {N' C' B' : Ev → Sto → Prop} {T' : D → Sto → Prop} (h : WS r N T C B) (h1 : ∀ e s, N e s → N' e s) (h2 : ∀ e s, T e s → T' e s) (h3 : ∀ e s, C e s → C' e s) (h4 : ∀ e s, B e s → B' e s) : WS r N' T' C' B' := by
  cases r with
  | nx e s => exact ⟨h1 e s h.out⟩
  | rt d s => exact ⟨h2 d s h.out⟩
  | ct e s => exact ⟨h3 e s h.out⟩
  | bk e s => exact ⟨h4 e s h.out⟩
  | err c fs e s => exact h.out.elim
  | fail => exact h.out.elim
theorem runFor_W {s : Src} {g : GM} {body : SM} {xs : List D} (J : Nat → Ev → Sto → Prop) (hat : ∀ i env st, J i env st → s.at st = some xs)
    (h : ∀ i x env st, xs[i]? = some x → J i env st → ∃ env1 st1, g x env st = some (env1, st1) ∧ WS (body env1 st1) (J (i + 1)) T (J (i + 1)) N)
    (hN : ∀ env st, J xs.length env st → N env st) : ∀ (n i : Nat) (env : Ev) (st : Sto), xs.length = i + n → J i env st → WS (runFor s g body (n + 1) i env st) N T C B
  | 0, i, env, st, hn, hJ => by
    obtain rfl : i = xs.length := by omega
    unfold runFor
    rw [hat _ _ _ hJ]
    simp only
    rw [List.getElem?_eq_none (Nat.le_refl _)]
    exact ⟨hN _ _ hJ⟩
  | n + 1, i, env, st, hn, hJ => by
    have hi : i < xs.length := by omega
    obtain ⟨env1, st1, h1, h2⟩ := h i xs[i] env st (List.getElem?_eq_getElem hi) hJ
    unfold runFor
    rw [hat _ _ _ hJ]
    simp only
    rw [List.getElem?_eq_getElem hi]
    simp only [h1]
    cases hb : body env1 st1 with
    | nx e s =>
      rw [hb] at h2
      exact runFor_W J hat h hN n (i + 1) e s (by omega) h2.out
    | ct e s =>
      rw [hb] at h2
      exact runFor_W J hat h hN n (i + 1) e s (by omega) h2.out
    | bk e s => rw [hb] at h2; exact ⟨h2.out⟩
    | rt d s => rw [hb] at h2; exact ⟨h2.out⟩
    | err c fs e s => rw [hb] at h2; exact h2.out.elim
    | fail => rw [hb] at h2; exact h2.out.elim
theorem w_loop {s : Src} {g : GM} {body : SM} {xs : List D} (J : Nat → Ev → Sto → Prop) (hat : ∀ i env st, J i env st → s.at st = some xs) (h0 : J 0 env st)
    (h : ∀ i x env st, xs[i]? = some x → J i env st → ∃ env1 st1, g x env st = some (env1, st1) ∧ WS (body env1 st1) (J (i + 1)) T (J (i + 1)) N)
    (hN : ∀ env st, J xs.length env st → N env st) : WS (startFor g body env s st) N T C B := by
  unfold startFor
  rw [hat 0 env st h0]
  exact runFor_W J hat h hN xs.length 0 env st (by omega) h0
theorem w_loopF {g : GM} {body : SM} {xs : List D} (J : Nat → Ev → Sto → Prop) (h0 : J 0 env st)
    (h : ∀ i x env st, xs[i]? = some x → J i env st → ∃ env1 st1, g x env st = some (env1, st1) ∧ WS (body env1 st1) (J (i + 1)) T (J (i + 1)) N)
    (hN : ∀ env st, J xs.length env st → N env st) : WS (startFor g body env (.fix xs) st) N T C B := w_loop J (fun _ _ _ _ => rfl) h0 h hN
theorem w_addI {i j : Int} (k : PD (.int (i + j)) st) : WR (dAdd (.int i) (.int j) st) PD := ⟨k⟩
theorem w_subI {i j : Int} (k : PD (.int (i - j)) st) : WR (dSub (.int i) (.int j) st) PD := ⟨k⟩
theorem w_ltI {i j : Int} (k : PD (.bl (decide (i < j))) st) : WR (dLt (.int i) (.int j) st) PD := ⟨k⟩
theorem w_leI {i j : Int} (k : PD (.bl (decide (i ≤ j))) st) : WR (dLe (.int i) (.int j) st) PD := ⟨k⟩
theorem w_gtI {i j : Int} (k : PD (.bl (decide (j < i))) st) : WR (dGt (.int i) (.int j) st) PD := ⟨k⟩
theorem w_geI {i j : Int} (k : PD (.bl (decide (j ≤ i))) st) : WR (dGe (.int i) (.int j) st) PD := ⟨k⟩
theorem w_eqI {i j : Int} (k : PD (.bl (i == j)) st) : WR (dEq false (.int i) (.int j) st) PD := wr_by eqI k
theorem w_neI {i j : Int} (k : PD (.bl (!(i == j))) st) : WR (dEq true (.int i) (.int j) st) PD := wr_by eqI k
theorem w_negI {i : Int} (k : PD (.int (-i)) st) : WR (dNeg (.int i) st) PD := ⟨k⟩
theorem w_maxI {i j : Int} (k : PD (.int (iMax i j)) st) : WR (fI2 iMax [.int i, .int j] st) PD := ⟨k⟩
theorem w_minI {i j : Int} (k : PD (.int (iMin i j)) st) : WR (fI2 iMin [.int i, .int j] st) PD := ⟨k⟩
theorem w_lenT {xs : List D} (k : PD (.int (xs.length : Int)) st) : WR (fLen [.tup xs] st) PD := ⟨k⟩
theorem w_lenL {n : Nat} {xs : List D} (h : st[n]? = some (.lst xs)) (k : PD (.int (xs.length : Int)) st) : WR (fLen [.ref n] st) PD := by unfold fLen seqOf lstOf; simp only [h]; exact ⟨k⟩
theorem w_ix {x d : D} {xs : List D} {i : Int} (h : seqOf st x = some xs) (h2 : L2.atI xs i = some d) (k : PD d st) : WR (dIx x (.int i) st) PD := wr_by (ixS h h2) k
theorem w_mkTup {ds : List D} (h : ds.length ≤ most) (k : PD (.tup ds) st) : WR (mkTup ds st) PD := by unfold mkTup; rw [if_pos h]; exact ⟨k⟩
theorem w_mkLst {ds : List D} (h : ds.length ≤ most) (k : PD (.ref st.length) (st ++ [.lst ds])) : WR (mkLst ds st) PD := by unfold mkLst; rw [if_pos h]; exact ⟨k⟩
theorem w_tupL {n : Nat} {xs : List D} (h : st[n]? = some (.lst xs)) (k : PD (.tup xs) st) : WR (fTup [.ref n] st) PD := by unfold fTup seqOf lstOf; simp only [h]; exact ⟨k⟩
theorem w_slT {xs : List D} {lo hi : Option Int} (k : PD (.tup (cutD xs lo hi)) st) : WR (sliceD (.tup xs) lo hi st) PD := ⟨k⟩
theorem w_append {n : Nat} {xs : List D} {d : D} (h : st[n]? = some (.lst xs)) (hl : xs.length < most) (k : PD .non (st.set n (.lst (xs ++ [d])))) : WR (mAppend (.ref n) [d] st) PD := by
  unfold mAppend
  simp only [h]
  rw [if_pos hl]
  exact ⟨k⟩
theorem isLst_at {n : Nat} {xs : List D} (h : st[n]? = some (.lst xs)) : isLst (.ref n) st = true := by unfold isLst lstOf; simp only [h]; rfl
theorem seq_lst {n : Nat} {xs : List D} (h : st[n]? = some (.lst xs)) : seqOf st (.ref n) = some xs := lst_at h
theorem w_isi {Ty q : String} {d : D} (h : tyD st d = some q) (k : PD (.bl (isiT q Ty)) st) : WR (dIsi Ty d st) PD := by unfold dIsi; rw [h]; exact ⟨k⟩
theorem w_isi2 {S Ty q : String} {d : D} (h : tyD st d = some q) (k : PD (.bl (isiT q S || isiT q Ty)) st) : WR (dIsi2 S Ty d st) PD := by unfold dIsi2; rw [h]; exact ⟨k⟩
theorem w_eqB {a b : Bool} (k : PD (.bl (a == b)) st) : WR (dEq false (.bl a) (.bl b) st) PD := wr_by (show dEq false (.bl a) (.bl b) st = .ok (.bl (a == b)) st by cases a <;> cases b <;> rfl) k
theorem w_neB {a b : Bool} (k : PD (.bl (!(a == b))) st) : WR (dEq true (.bl a) (.bl b) st) PD := wr_by (show dEq true (.bl a) (.bl b) st = .ok (.bl (!(a == b))) st by cases a <;> cases b <;> rfl) k
theorem w_lcmap {s : Src} {g : GM} {e : EM} {xs : List D} {f : D → D} (h0 : s.at st = some xs) (hm : xs.length ≤ most)
    (h : ∀ x ∈ xs, ∀ acc, ∃ env1, g x env (st ++ [.lst acc]) = some (env1, st ++ [.lst acc]) ∧ e env1 (st ++ [.lst acc]) = .ok (f x) (st ++ [.lst acc])) (k : PD (.ref st.length) (st ++ [.lst (xs.map f)])) : WR (startLc g tTrue e env s st) PD := wr_by (startLc_map h0 hm h) k
theorem w_aa {F : List Bool → Bool} {bs : List Bool} {n : Nat} (h : st[n]? = some (.lst (bs.map D.bl))) (k : PD (.bl (F bs)) st) : WR (fAA F [.ref n] st) PD := by
  unfold fAA lstOf
  simp only [h, bools_map]
  exact ⟨k⟩
end
structure Stg (B : Nat) (ps : List (Nat × Ob)) (T : Sto) (c : Int) : Prop where
  bag : Bag T B c
  pin : ∀ p ∈ ps, T[p.1]? = some p.2
  off : ∀ p ∈ ps, p.1 ≠ B
section
variable {B : Nat} {ps qs : List (Nat × Ob)} {T T' ex : Sto} {c c' : Int}
theorem Stg.at (H : Stg B ps T c) {i : Nat} {o : Ob} (h : (i, o) ∈ ps) : T[i]? = some o := H.pin (i, o) h
theorem Stg.grw (H : Stg B ps T c) (G : Grw T T' B) (b : Bag T' B c') : Stg B ps T' c' :=
  ⟨b, fun p hp => by have h := H.pin p hp; rw [G.at_ p.1 (List.getElem?_eq_some_iff.mp h).1 (H.off p hp)]; exact h, H.off⟩
theorem Stg.app (H : Stg B ps T c) : Stg B ps (T ++ ex) c := ⟨H.bag.app, fun p hp => get0 (H.pin p hp), H.off⟩
theorem Stg.mono (H : Stg B ps T c) (h : c ≤ c') : Stg B ps T c' := ⟨H.bag.mono h, H.pin, H.off⟩
theorem Stg.sub (H : Stg B ps T c) (h : ∀ p ∈ qs, p ∈ ps) : Stg B qs T c := ⟨H.bag, fun p hp => H.pin p (h p hp), fun p hp => H.off p (h p hp)⟩
theorem Stg.new (H : Stg B ps T c) (o : Ob) : Stg B ((T.length, o) :: ps) (T ++ [o]) c := by
  refine ⟨H.bag.app, fun p hp => ?_, fun p hp => ?_⟩
  · rcases List.mem_cons.mp hp with rfl | hp
    · exact get_end
    · exact get0 (H.pin p hp)
  · rcases List.mem_cons.mp hp with rfl | hp
    · exact Nat.ne_of_gt H.bag.lt
    · exact H.off p hp
theorem Stg.tail {p : Nat × Ob} (H : Stg B (p :: ps) T c) : Stg B ps T c := H.sub fun q hq => List.mem_cons_of_mem _ hq
theorem Stg.set {k : Nat} {o o' : Ob} (H : Stg B ((k, o) :: ps) T c) (hk : ∀ p ∈ ps, p.1 ≠ k) : Stg B ((k, o') :: ps) (T.set k o') c := by
  have hkB : k ≠ B := H.off (k, o) List.mem_cons_self
  refine ⟨H.bag.set hkB, fun p hp => ?_, fun p hp => ?_⟩
  · rcases List.mem_cons.mp hp with rfl | hp
    · exact get_set (List.getElem?_eq_some_iff.mp (H.pin (k, o) List.mem_cons_self)).1
    · rw [List.getElem?_set_ne (fun e => hk p hp e.symm)]
      exact H.pin p (List.mem_cons_of_mem _ hp)
  · rcases List.mem_cons.mp hp with rfl | hp
    · exact hkB
    · exact H.off p (List.mem_cons_of_mem _ hp)
theorem Stg.lt (H : Stg B ps T c) {p : Nat × Ob} (hp : p ∈ ps) : p.1 < T.length := (List.getElem?_eq_some_iff.mp (H.pin p hp)).1
end
end U
set_option Elab.async false
set_option linter.all false
set_option maxRecDepth 100000
set_option maxHeartbeats 400000
namespace U
open PySem

def FewC (rs : List D) : Prop := ∀ cs a b c, D.tup [.tup cs, a, b, c] ∈ rs → cs.length ≤ most
section
variable {st : Sto}
theorem mapO_mono {α β : Type} {f g : α → Option β} : ∀ {xs : List α} {ys : List β}, (∀ x y, x ∈ xs → f x = some y → g x = some y) → mapO f xs = some ys → mapO g xs = some ys
  | [], ys, _, h => h
  | x :: xs, ys, hf, h => by
    unfold mapO at h ⊢
    cases e : f x with
    | none => rw [e] at h; cases h
    | some y =>
      rw [e] at h
      rw [hf x y List.mem_cons_self e]
      cases e2 : mapO f xs with
      | none => simp only [e2] at h; cases h
      | some zs =>
        simp only [e2] at h
        rw [mapO_mono (fun x y hx => hf x y (List.mem_cons_of_mem _ hx)) e2]
        exact h
theorem mapO_all {α β : Type} {f : α → Option β} {P : β → Prop} : ∀ {xs : List α} {ys : List β}, (∀ x y, x ∈ xs → f x = some y → P y) → mapO f xs = some ys → ∀ y ∈ ys, P y
  | [], ys, _, h => by unfold mapO at h; cases h; intro y hy; cases hy
  | x :: xs, ys, hf, h => by
    unfold mapO at h
    cases e : f x with
    | none => rw [e] at h; cases h
    | some y =>
      rw [e] at h
      cases e2 : mapO f xs with
      | none => simp only [e2] at h; cases h
      | some zs =>
        simp only [e2] at h
        cases h
        intro z hz
        rcases List.mem_cons.mp hz with rfl | hz
        · exact hf x z List.mem_cons_self e
        · exact mapO_all (fun x y hx => hf x y (List.mem_cons_of_mem _ hx)) e2 z hz
theorem toP_mono : ∀ (n : Nat) {d : D} {p : PyData}, toP n st d = some p → toP (n + 1) st d = some p := by
  intro n
  induction n with
  | zero =>
    intro d p h
    cases d <;> first | exact h | (simp only [toP] at h; cases h)
  | succ n ih =>
    intro d p h
    cases d with
    | tup xs =>
      simp only [toP] at h ⊢
      cases e : mapO (toP n st) xs with
      | none => rw [e] at h; cases h
      | some ys => rw [e] at h; rw [mapO_mono (fun x y _ => ih) e]; exact h
    | ref i =>
      simp only [toP] at h ⊢
      cases e0 : lstOf st i with
      | none => rw [e0] at h; cases h
      | some xs =>
        rw [e0] at h
        simp only at h ⊢
        cases e : mapO (toP n st) xs with
        | none => rw [e] at h; cases h
        | some ys => rw [e] at h; rw [mapO_mono (fun x y _ => ih) e]; exact h
    | non => exact h
    | bl b => exact h
    | int i => exact h
    | str x => exact h
theorem toP_le {n m : Nat} (h : n ≤ m) {d : D} {p : PyData} (e : toP n st d = some p) : toP m st d = some p := by
  induction h with
  | refl => exact e
  | step _ ih => exact toP_mono _ ih
theorem depthAll_le {n : Nat} : ∀ {ps : List PyData}, (∀ p ∈ ps, p.depth ≤ n) → PyData.depthAll ps ≤ n
  | [], _ => by simp [PyData.depthAll]
  | p :: ps, h => by
    have h1 := h p List.mem_cons_self
    have h2 := depthAll_le (ps := ps) fun q hq => h q (List.mem_cons_of_mem _ hq)
    simp only [PyData.depthAll]
    omega
theorem toP_depth : ∀ (n : Nat) {d : D} {p : PyData}, toP n st d = some p → p.depth ≤ n := by
  intro n
  induction n with
  | zero => intro d p h; cases d <;> simp only [toP] at h <;> cases h <;> simp [PyData.depth]
  | succ n ih =>
    intro d p h
    cases d with
    | tup xs =>
      simp only [toP] at h
      cases e : mapO (toP n st) xs with
      | none => rw [e] at h; cases h
      | some ys =>
        rw [e] at h; cases h
        have := depthAll_le (n := n) (mapO_all (fun x y _ => ih) e)
        simp only [PyData.depth]
        omega
    | ref i =>
      simp only [toP] at h
      cases e0 : lstOf st i with
      | none => rw [e0] at h; cases h
      | some xs =>
        rw [e0] at h
        simp only at h
        cases e : mapO (toP n st) xs with
        | none => rw [e] at h; cases h
        | some ys =>
          rw [e] at h; cases h
          have := depthAll_le (n := n) (mapO_all (fun x y _ => ih) e)
          simp only [PyData.depth]
          omega
    | non => simp only [toP] at h; cases h; simp [PyData.depth]
    | bl b => simp only [toP] at h; cases h; simp [PyData.depth]
    | int i => simp only [toP] at h; cases h; simp [PyData.depth]
    | str x => simp only [toP] at h; cases h; simp [PyData.depth]
theorem eqvAll_refl : ∀ {ps : List PyData}, (∀ p ∈ ps, PyData.eqv p p = true) → PyData.eqvAll ps ps = true
  | [], _ => by simp [PyData.eqvAll]
  | p :: ps, h => by simp [PyData.eqvAll, h p List.mem_cons_self, eqvAll_refl fun q hq => h q (List.mem_cons_of_mem _ hq)]
theorem toP_refl : ∀ (n : Nat) {d : D} {p : PyData}, toP n st d = some p → PyData.eqv p p = true := by
  intro n
  induction n with
  | zero => intro d p h; cases d <;> simp only [toP] at h <;> cases h <;> simp [PyData.eqv]
  | succ n ih =>
    intro d p h
    cases d with
    | tup xs =>
      simp only [toP] at h
      cases e : mapO (toP n st) xs with
      | none => rw [e] at h; cases h
      | some ys =>
        rw [e] at h; cases h
        simp only [PyData.eqv]
        exact eqvAll_refl (mapO_all (fun x y _ => ih) e)
    | ref i =>
      simp only [toP] at h
      cases e0 : lstOf st i with
      | none => rw [e0] at h; cases h
      | some xs =>
        rw [e0] at h
        simp only at h
        cases e : mapO (toP n st) xs with
        | none => rw [e] at h; cases h
        | some ys =>
          rw [e] at h; cases h
          simp only [PyData.eqv]
          exact eqvAll_refl (mapO_all (fun x y _ => ih) e)
    | non => simp only [toP] at h; cases h; simp [PyData.eqv]
    | bl b => simp only [toP] at h; cases h; simp [PyData.eqv]
    | int i => simp only [toP] at h; cases h; simp [PyData.eqv]
    | str x => simp only [toP] at h; cases h; simp [PyData.eqv]
theorem toS_of {n : Nat} {d : D} {p : PyData} (h : toP n st d = some p) (hn : n ≤ 60) (hc : p.canLay0 = true) : toS st d = some p := by
  unfold toS
  rw [toP_le hn h]
  simp only
  rw [if_pos]
  unfold SeqAt.shaped
  rw [hc, Bool.true_and]
  exact decide_eq_true (Nat.le_trans (toP_depth n h) (by omega))
theorem eq_val {n : Nat} {neg : Bool} {x y : D} {p q : PyData} (hx : toP n st x = some p) (hy : toP n st y = some q) (hn : n ≤ 60) (hp : p.canLay0 = true) (hq : q.canLay0 = true) : dEq neg x y st = .ok (.bl (if neg = true then !PyData.eqv p q else PyData.eqv p q)) st := by
  unfold dEq
  rw [toS_of hx hn hp, toS_of hy hn hq]
theorem eq_same {n : Nat} {neg : Bool} {x y : D} {p : PyData} (hx : toP n st x = some p) (hy : toP n st y = some p) (hn : n ≤ 60) (hp : p.canLay0 = true) : dEq neg x y st = .ok (.bl (!neg)) st := by
  rw [eq_val hx hy hn hp hp, toP_refl n hx]
  cases neg <;> rfl
variable {PD : D → Sto → Prop} {PS : Src → Sto → Prop} {env : Ev} {N C B : Ev → Sto → Prop} {T : D → Sto → Prop}
theorem w_isl {n : Nat} {xs : List D} {K : Prop} (h : st[n]? = some (.lst xs)) (k : K) : isLst (.ref n) st = true ∧ K := ⟨isLst_at h, k⟩
theorem w_slL {n : Nat} {xs : List D} {lo hi : Option Int} (h : st[n]? = some (.lst xs)) (k : PD (.ref st.length) (st ++ [.lst (cutD xs lo hi)])) : WR (sliceD (.ref n) lo hi st) PD := by
  unfold sliceD lstOf
  simp only [h]
  exact ⟨k⟩
theorem w_enumL {n : Nat} {xs : List D} (h : st[n]? = some (.lst xs)) (k : PS (.enumL n) st) : WR (enumSrc (.ref n) st) PS := by
  unfold enumSrc lstOf
  simp only [h]
  exact ⟨k⟩
theorem w_addL {i j : Nat} {xs ys : List D} (h1 : st[i]? = some (.lst xs)) (h2 : st[j]? = some (.lst ys)) (hl : (xs ++ ys).length ≤ most) (k : PD (.ref st.length) (st ++ [.lst (xs ++ ys)])) : WR (dAdd (.ref i) (.ref j) st) PD := wr_by (addL h1 h2 hl) k
end
end U
set_option Elab.async false
set_option linter.all false
set_option maxRecDepth 100000
set_option maxHeartbeats 400000
namespace U
open PySem

section
variable {env : Ev} {st : Sto} {PD : D → Sto → Prop}
theorem w_lc2 {src : IM} {vs : List Nat} {g : GM} {t : TM} {src1 : IM} {vs1 : List Nat} {g1 : GM} {t1 : TM} {e : EM} (k : WR (src env st) fun s st => WR (startLc2 g t src1 vs1 g1 t1 e (wipeE env vs) s st) PD) : WR (cLc2 src vs g t src1 vs1 g1 t1 e env st) PD := wr_bind (wr_imp k fun _ _ h => wr_hush h)
end
theorem wr_eq {α : Type} {r : R α} {a : α} {t : Sto} (h : WR r fun b s => b = a ∧ s = t) : r = .ok a t := by
  obtain ⟨b, s, e, rfl, rfl⟩ := wr_out h
  exact e
theorem w_addT {st : Sto} {xs ys : List D} {PD : D → Sto → Prop} (h : xs.length + ys.length ≤ most) (k : PD (.tup (xs ++ ys)) st) : WR (dAdd (.tup xs) (.tup ys) st) PD := by
  refine wr_by (st1 := st) ?_ k
  unfold dAdd
  simp only
  rw [if_pos h]
theorem cut_to {xs : List D} {n : Nat} : cutD xs none (some (n : Int)) = xs.take n := by
  unfold cutD
  have h1 : HT.sIx xs.length 0 none = 0 := rfl
  have h2 : HT.sIx xs.length xs.length (some (n : Int)) = min n xs.length := by
    unfold HT.sIx
    simp only
    split <;> omega
  rw [h1, h2, List.drop_zero, Nat.sub_zero]
  by_cases h : n ≤ xs.length
  · rw [Nat.min_eq_left h]
  · rw [Nat.min_eq_right (by omega), List.take_of_length_le (Nat.le_refl _), List.take_of_length_le (by omega)]
theorem cut_from {xs : List D} {b : Nat} : cutD xs (some (b : Int)) none = xs.drop b := by
  unfold cutD
  have h1 : HT.sIx xs.length 0 (some (b : Int)) = min b xs.length := by
    unfold HT.sIx
    simp only
    split <;> omega
  have h2 : HT.sIx xs.length xs.length none = xs.length := rfl
  rw [h1, h2]
  by_cases h : b ≤ xs.length
  · rw [Nat.min_eq_left h, List.take_of_length_le (by simp)]
  · rw [Nat.min_eq_right (by omega), Nat.sub_self, List.take_zero, List.drop_eq_nil_of_le (by omega)]
end U
set_option Elab.async false
set_option linter.all false
set_option maxRecDepth 100000
set_option maxHeartbeats 400000
namespace U
open PySem
theorem w_eqS {st : Sto} {x y : Str} {PD : D → Sto → Prop} (hx : SeqAt.shaped (.str x) = true) (hy : SeqAt.shaped (.str y) = true) (k : PD (.bl (x == y)) st) : WR (dEq false (.str x) (.str y) st) PD := wr_by (strEq x y hx hy) k
end U
set_option Elab.async false
set_option linter.all false
set_option maxRecDepth 100000
set_option maxHeartbeats 400000
namespace U
open PySem
section
variable {env : Ev} {st : Sto} {N C B : Ev → Sto → Prop} {T : D → Sto → Prop} {PD : D → Sto → Prop}
theorem w_aug {i : Nat} {x : Int} {g : EM} (h : env[i]? = some (some (.int x))) (k : WR (g env st) fun d s => ∃ b, d = .int b ∧ N (env.set i (some (.int (x + b)))) s) : WS (sAug i g env st) N T C B := by
  unfold sAug
  rw [h]
  exact ws_then (wr_imp k fun d s ⟨b, e, hn⟩ => by subst e; exact ⟨hn⟩)
end
section
variable {env : Ev} {st : Sto}
theorem w_thaw {i n : Nat} {xs : List D} {PD : D → Sto → Prop} (h1 : env[i]? = some (some (.ref n))) (h2 : st[n]? = some (.fzt xs)) (k : PD (.tup xs) st) : WR (eThaw (eVar i) env st) PD := by
  have e1 : eVar i env st = .ok (.ref n) st := by unfold eVar; rw [h1]
  refine wr_by (st1 := st) ?_ k
  unfold eThaw
  simp only [e1, R.bind, ft_at h2]
theorem w_idxZ {i n : Nat} {xs : List D} {gs : AM} {PD : D → Sto → Prop} (h1 : env[i]? = some (some (.ref n))) (h2 : st[n]? = some (.fzt xs)) (k : WR (gs env st) fun ys s => WR (mIdxZ (.ref n) ys s) PD) : WR (eIdxZ (eVar i) gs env st) PD := by
  have e1 : eVar i env st = .ok (.ref n) st := by unfold eVar; rw [h1]
  obtain ⟨ys, s, e, q⟩ := wr_out k
  obtain ⟨d, s2, e2, q2⟩ := wr_out q
  refine wr_by (st1 := s2) ?_ q2
  unfold eIdxZ
  simp only [e1, R.bind, ft_at h2, e, e2]
end
end U
set_option Elab.async false
set_option linter.all false
set_option maxRecDepth 100000
set_option maxHeartbeats 400000
namespace Hd
open PySem U
def b_is_whole : SM := (sRet (eAnd (eUn (dIsi "int") (eVar 0)) (eNot (eUn (dIsi "bool") (eVar 0)))))
def m_is_whole : Fm := mkFn 1 1 b_is_whole
def s_is_whole : Fm := obs 1 fun ds st => match ds with
  | [d] => (tyD st d).map fun t => D.bl (t == "int")
  | _ => none
theorem a_is_whole : Arity 1 s_is_whole := obs_ar
theorem t_is_whole : Tells m_is_whole s_is_whole := .obs fun ds st d g b hl h => by
  match ds, hl with
  | [x], _ =>
    obtain ⟨t, ht, rfl⟩ := Option.map_eq_some_iff.mp h
    refine ⟨by simp only [Bnd], [], ?_⟩
    have key : ∀ t ∈ kinds2, (isiT t "int" && !isiT t "bool") = (t == "int") := by decide
    have k := key t (tyD_mem ht)
    simp only [m_is_whole, b_is_whole, ev_var, ev_c, ev_un, ev_bin, ev_anil, ev_acons, ev_fn, ev_tof, ev_tob, ev_tand, ev_tor, ev_tnot, ev_and, ev_or, ev_not, ev_if, ev_chain, ev_true, ev_slice, ev_onone, ev_osome, ev_iseq, ev_irng, ev_ienum, ev_ibin, ev_lc, ev_skip, ev_never, ev_seq, ev_ret, ev_sif, ev_set, ev_expr, ev_asg, ev_par, ev_for, ev_fld, ev_gn, ev_gsnil, ev_gscons, ev_gt, ev_mkfn, ev_bok, ev_berr, ev_bfail, ev_tok, ev_hok, ev_ert, ev_enx, ev_wn, ev_wc, ev_e0, ev_sseq, ev_senum, ev_szip, ev_sltup, ev_ltI, ev_leI, ev_gtI, ev_geI, ev_subI, ev_addI, ev_lenT, List.map_cons, List.map_nil, List.length_cons, List.length_nil, List.cons_append, List.nil_append, List.append_nil, List.getElem?_cons_zero, List.getElem?_cons_succ, List.set_cons_zero, List.set_cons_succ, List.replicate_succ, List.replicate_zero, Nat.reduceAdd, Nat.reduceSub, Nat.reduceEqDiff, reduceIte, Bool.true_eq_false, Bool.false_eq_true, if_true, if_false, ev_isi, ht]
    cases h1 : isiT t "int" <;> cases h2 : isiT t "bool" <;> rw [h1, h2] at k <;> simp [← k, ev_tok, ev_ert]
theorem whole_of {d : D} {st : Sto} (h : kn st d = true) : s_is_whole [d] st = .ok (.bl (match d with | .int _ => true | _ => false)) st := by
  obtain ⟨t, e⟩ := Option.isSome_iff_exists.mp h
  refine obs_ok rfl ?_
  show (tyD st d).map (fun t => D.bl (t == "int")) = _
  rw [e]
  cases d with
  | ref n =>
    unfold tyD at e
    simp only at e
    split at e
    · cases e; rfl
    · cases e; rfl
    · cases e; rfl
    · cases e
  | _ => cases e; rfl

def b_is_within : SM := (sRet (eAnd (eFn s_is_whole (aCons (eVar 0) aNil)) (eChain dLe dLe (eVar 1) (eVar 0) (eVar 2))))
def m_is_within : Fm := mkFn 3 3 b_is_within
def s_is_within : Fm := obs 3 fun ds st => match ds with
  | [d, .int lo, .int hi] => if kn st d = true then some (.bl (withinD lo hi d)) else none
  | _ => none
theorem a_is_within : Arity 3 s_is_within := obs_ar
theorem within_of {d : D} {st : Sto} {lo hi : Int} (h : kn st d = true) : s_is_within [d, .int lo, .int hi] st = .ok (.bl (withinD lo hi d)) st := obs_ok rfl (if_pos h)
theorem t_is_within : Tells m_is_within s_is_within := .obs fun ds st d g b hl h => by
  match ds, hl, h with
  | [x, .int lo, .int hi], _, h =>
    have h' : (if kn st x = true then some (D.bl (withinD lo hi x)) else none) = some d := h
    split at h'
    · rename_i hk
      cases h'
      refine ⟨by simp only [Bnd], [], ?_⟩
      simp only [m_is_within, b_is_within, ev_var, ev_c, ev_un, ev_bin, ev_anil, ev_acons, ev_fn, ev_tof, ev_tob, ev_tand, ev_tor, ev_tnot, ev_and, ev_or, ev_not, ev_if, ev_chain, ev_true, ev_slice, ev_onone, ev_osome, ev_iseq, ev_irng, ev_ienum, ev_ibin, ev_lc, ev_skip, ev_never, ev_seq, ev_ret, ev_sif, ev_set, ev_expr, ev_asg, ev_par, ev_for, ev_fld, ev_gn, ev_gsnil, ev_gscons, ev_gt, ev_mkfn, ev_bok, ev_berr, ev_bfail, ev_tok, ev_hok, ev_ert, ev_enx, ev_wn, ev_wc, ev_e0, ev_sseq, ev_senum, ev_szip, ev_sltup, ev_ltI, ev_leI, ev_gtI, ev_geI, ev_subI, ev_addI, ev_lenT, List.map_cons, List.map_nil, List.length_cons, List.length_nil, List.cons_append, List.nil_append, List.append_nil, List.getElem?_cons_zero, List.getElem?_cons_succ, List.set_cons_zero, List.set_cons_succ, List.replicate_succ, List.replicate_zero, Nat.reduceAdd, Nat.reduceSub, Nat.reduceEqDiff, reduceIte, Bool.true_eq_false, Bool.false_eq_true, if_true, if_false, whole_of hk]
      cases x with
      | int i =>
        simp only [ev_var, ev_c, ev_un, ev_bin, ev_anil, ev_acons, ev_fn, ev_tof, ev_tob, ev_tand, ev_tor, ev_tnot, ev_and, ev_or, ev_not, ev_if, ev_chain, ev_true, ev_slice, ev_onone, ev_osome, ev_iseq, ev_irng, ev_ienum, ev_ibin, ev_lc, ev_skip, ev_never, ev_seq, ev_ret, ev_sif, ev_set, ev_expr, ev_asg, ev_par, ev_for, ev_fld, ev_gn, ev_gsnil, ev_gscons, ev_gt, ev_mkfn, ev_bok, ev_berr, ev_bfail, ev_tok, ev_hok, ev_ert, ev_enx, ev_wn, ev_wc, ev_e0, ev_sseq, ev_senum, ev_szip, ev_sltup, ev_ltI, ev_leI, ev_gtI, ev_geI, ev_subI, ev_addI, ev_lenT, List.map_cons, List.map_nil, List.length_cons, List.length_nil, List.cons_append, List.nil_append, List.append_nil, List.getElem?_cons_zero, List.getElem?_cons_succ, List.set_cons_zero, List.set_cons_succ, List.replicate_succ, List.replicate_zero, Nat.reduceAdd, Nat.reduceSub, Nat.reduceEqDiff, reduceIte, Bool.true_eq_false, Bool.false_eq_true, if_true, if_false, withinD]
        by_cases h1 : lo ≤ i <;> simp [h1, ev_tok, ev_ert, ev_leI, ev_bok]
      | _ => rfl
    · cases h'

def b_is_below : SM := (sRet (eFn s_is_within (aCons (eVar 0) (aCons (eC (.int 0)) (aCons (eBin dSub (eVar 1) (eC (.int 1))) aNil)))))
def m_is_below : Fm := mkFn 2 2 b_is_below
def s_is_below : Fm := obs 2 fun ds st => match ds with
  | [d, .int n] => if kn st d = true then some (.bl (withinD 0 (n - 1) d)) else none
  | _ => none
theorem a_is_below : Arity 2 s_is_below := obs_ar
theorem below_of {d : D} {st : Sto} {n : Int} (h : kn st d = true) : s_is_below [d, .int n] st = .ok (.bl (withinD 0 (n - 1) d)) st := obs_ok rfl (if_pos h)
theorem t_is_below : Tells m_is_below s_is_below := .obs fun ds st d g b hl h => by
  match ds, hl, h with
  | [x, .int n], _, h =>
    have h' : (if kn st x = true then some (D.bl (withinD 0 (n - 1) x)) else none) = some d := h
    split at h'
    · rename_i hk
      cases h'
      refine ⟨by simp only [Bnd], [], ?_⟩
      simp only [m_is_below, b_is_below, ev_var, ev_c, ev_un, ev_bin, ev_anil, ev_acons, ev_fn, ev_tof, ev_tob, ev_tand, ev_tor, ev_tnot, ev_and, ev_or, ev_not, ev_if, ev_chain, ev_true, ev_slice, ev_onone, ev_osome, ev_iseq, ev_irng, ev_ienum, ev_ibin, ev_lc, ev_skip, ev_never, ev_seq, ev_ret, ev_sif, ev_set, ev_expr, ev_asg, ev_par, ev_for, ev_fld, ev_gn, ev_gsnil, ev_gscons, ev_gt, ev_mkfn, ev_bok, ev_berr, ev_bfail, ev_tok, ev_hok, ev_ert, ev_enx, ev_wn, ev_wc, ev_e0, ev_sseq, ev_senum, ev_szip, ev_sltup, ev_ltI, ev_leI, ev_gtI, ev_geI, ev_subI, ev_addI, ev_lenT, List.map_cons, List.map_nil, List.length_cons, List.length_nil, List.cons_append, List.nil_append, List.append_nil, List.getElem?_cons_zero, List.getElem?_cons_succ, List.set_cons_zero, List.set_cons_succ, List.replicate_succ, List.replicate_zero, Nat.reduceAdd, Nat.reduceSub, Nat.reduceEqDiff, reduceIte, Bool.true_eq_false, Bool.false_eq_true, if_true, if_false, within_of hk]
    · cases h'

def b_is_rising : SM := (sSeq (sIf (tOr (tNot (tOf (eUn (dIsi "tuple") (eVar 0)))) (tNot (tOf (eFn (fAA fun bs => bs.all id) (aCons (cLc (iSeq (eVar 0)) [4] (gN 4) tTrue (eFn s_is_below (aCons (eVar 4) (aCons (eVar 1) aNil)))) aNil))))) (sRet (eC (.bl false))) sSkip)
    (sRet (eFn (fAA fun bs => bs.all id) (aCons (cLc (iBin zipSrc (eVar 0) (eSlice (eVar 0) (oSome (eC (.int 1))) oNone)) [2, 3] (gT 2 (gsCons (gN 2) (gsCons (gN 3) gsNil))) tTrue (eBin dLt (eVar 2) (eVar 3))) aNil))))
def m_is_rising : Fm := mkFn 2 5 b_is_rising
def s_is_rising : Fm := obs 2 fun ds st => match ds with
  | [d, .int n] => if dk st d = true ∧ (tupsD d).length ≤ most then some (.bl (risingD n d)) else none
  | _ => none
theorem a_is_rising : Arity 2 s_is_rising := obs_ar
theorem rising_of {d : D} {st : Sto} {n : Int} (h : dk st d = true) (hm : (tupsD d).length ≤ most) : s_is_rising [d, .int n] st = .ok (.bl (risingD n d)) st := obs_ok rfl (if_pos ⟨h, hm⟩)
theorem t_is_rising : Tells m_is_rising s_is_rising := .obs fun ds st d g b hl h => by
  match ds, hl, h with
  | [x, .int n], _, h =>
    have h' : (if dk st x = true ∧ (tupsD x).length ≤ most then some (D.bl (risingD n x)) else none) = some d := h
    split at h'
    · rename_i hk
      cases h'
      obtain ⟨hk, hm⟩ := hk
      refine ⟨by simp only [Bnd], ?_⟩
      cases x with
      | tup xs =>
        have hx := dk_tup hk
        have hm : xs.length ≤ most := hm
        simp only [m_is_rising, b_is_rising, ev_var, ev_c, ev_un, ev_bin, ev_anil, ev_acons, ev_fn, ev_tof, ev_tob, ev_tand, ev_tor, ev_tnot, ev_and, ev_or, ev_not, ev_if, ev_chain, ev_true, ev_slice, ev_onone, ev_osome, ev_iseq, ev_irng, ev_ienum, ev_ibin, ev_lc, ev_skip, ev_never, ev_seq, ev_ret, ev_sif, ev_set, ev_expr, ev_asg, ev_par, ev_for, ev_fld, ev_gn, ev_gsnil, ev_gscons, ev_gt, ev_mkfn, ev_bok, ev_berr, ev_bfail, ev_tok, ev_hok, ev_ert, ev_enx, ev_wn, ev_wc, ev_e0, ev_sseq, ev_senum, ev_szip, ev_sltup, ev_ltI, ev_leI, ev_gtI, ev_geI, ev_subI, ev_addI, ev_lenT, List.map_cons, List.map_nil, List.length_cons, List.length_nil, List.cons_append, List.nil_append, List.append_nil, List.getElem?_cons_zero, List.getElem?_cons_succ, List.set_cons_zero, List.set_cons_succ, List.replicate_succ, List.replicate_zero, Nat.reduceAdd, Nat.reduceSub, Nat.reduceEqDiff, reduceIte, Bool.true_eq_false, Bool.false_eq_true, if_true, if_false, isi_tup, Bool.not_true]
        rw [startLc_map (f := fun x => .bl (withinD 0 (n - 1) x)) rfl hm fun x h2 acc => ⟨_, rfl, by simp only [ev_var, ev_c, ev_un, ev_bin, ev_anil, ev_acons, ev_fn, ev_tof, ev_tob, ev_tand, ev_tor, ev_tnot, ev_and, ev_or, ev_not, ev_if, ev_chain, ev_true, ev_slice, ev_onone, ev_osome, ev_iseq, ev_irng, ev_ienum, ev_ibin, ev_lc, ev_skip, ev_never, ev_seq, ev_ret, ev_sif, ev_set, ev_expr, ev_asg, ev_par, ev_for, ev_fld, ev_gn, ev_gsnil, ev_gscons, ev_gt, ev_mkfn, ev_bok, ev_berr, ev_bfail, ev_tok, ev_hok, ev_ert, ev_enx, ev_wn, ev_wc, ev_e0, ev_sseq, ev_senum, ev_szip, ev_sltup, ev_ltI, ev_leI, ev_gtI, ev_geI, ev_subI, ev_addI, ev_lenT, List.map_cons, List.map_nil, List.length_cons, List.length_nil, List.cons_append, List.nil_append, List.append_nil, List.getElem?_cons_zero, List.getElem?_cons_succ, List.set_cons_zero, List.set_cons_succ, List.replicate_succ, List.replicate_zero, Nat.reduceAdd, Nat.reduceSub, Nat.reduceEqDiff, reduceIte, Bool.true_eq_false, Bool.false_eq_true, if_true, if_false, below_of (kn_app (dk_kn (hx x h2)))]⟩]
        simp only [ev_var, ev_c, ev_un, ev_bin, ev_anil, ev_acons, ev_fn, ev_tof, ev_tob, ev_tand, ev_tor, ev_tnot, ev_and, ev_or, ev_not, ev_if, ev_chain, ev_true, ev_slice, ev_onone, ev_osome, ev_iseq, ev_irng, ev_ienum, ev_ibin, ev_lc, ev_skip, ev_never, ev_seq, ev_ret, ev_sif, ev_set, ev_expr, ev_asg, ev_par, ev_for, ev_fld, ev_gn, ev_gsnil, ev_gscons, ev_gt, ev_mkfn, ev_bok, ev_berr, ev_bfail, ev_tok, ev_hok, ev_ert, ev_enx, ev_wn, ev_wc, ev_e0, ev_sseq, ev_senum, ev_szip, ev_sltup, ev_ltI, ev_leI, ev_gtI, ev_geI, ev_subI, ev_addI, ev_lenT, List.map_cons, List.map_nil, List.length_cons, List.length_nil, List.cons_append, List.nil_append, List.append_nil, List.getElem?_cons_zero, List.getElem?_cons_succ, List.set_cons_zero, List.set_cons_succ, List.replicate_succ, List.replicate_zero, Nat.reduceAdd, Nat.reduceSub, Nat.reduceEqDiff, reduceIte, Bool.true_eq_false, Bool.false_eq_true, if_true, if_false, aa_end]
        by_cases ha : (xs.map (withinD 0 (n - 1))).all id = true
        · have hi : ∀ x ∈ xs, x = .int (wI x) := fun x h2 => by
            have h3 : withinD 0 (n - 1) x = true := by
              have := List.all_eq_true.mp ha (withinD 0 (n - 1) x) (List.mem_map_of_mem h2)
              exact this
            cases x with
            | int i => rfl
            | _ => cases h3
          simp only [ev_var, ev_c, ev_un, ev_bin, ev_anil, ev_acons, ev_fn, ev_tof, ev_tob, ev_tand, ev_tor, ev_tnot, ev_and, ev_or, ev_not, ev_if, ev_chain, ev_true, ev_slice, ev_onone, ev_osome, ev_iseq, ev_irng, ev_ienum, ev_ibin, ev_lc, ev_skip, ev_never, ev_seq, ev_ret, ev_sif, ev_set, ev_expr, ev_asg, ev_par, ev_for, ev_fld, ev_gn, ev_gsnil, ev_gscons, ev_gt, ev_mkfn, ev_bok, ev_berr, ev_bfail, ev_tok, ev_hok, ev_ert, ev_enx, ev_wn, ev_wc, ev_e0, ev_sseq, ev_senum, ev_szip, ev_sltup, ev_ltI, ev_leI, ev_gtI, ev_geI, ev_subI, ev_addI, ev_lenT, List.map_cons, List.map_nil, List.length_cons, List.length_nil, List.cons_append, List.nil_append, List.append_nil, List.getElem?_cons_zero, List.getElem?_cons_succ, List.set_cons_zero, List.set_cons_succ, List.replicate_succ, List.replicate_zero, Nat.reduceAdd, Nat.reduceSub, Nat.reduceEqDiff, reduceIte, Bool.true_eq_false, Bool.false_eq_true, if_true, if_false, ha, Bool.not_true, cut1]
          rw [startLc_map (f := fun p => .bl (decide (wI (fstD p) < wI (sndD p)))) rfl (by rw [List.length_zipWith]; omega) fun p h2 acc => ?_]
          · simp only [ev_var, ev_c, ev_un, ev_bin, ev_anil, ev_acons, ev_fn, ev_tof, ev_tob, ev_tand, ev_tor, ev_tnot, ev_and, ev_or, ev_not, ev_if, ev_chain, ev_true, ev_slice, ev_onone, ev_osome, ev_iseq, ev_irng, ev_ienum, ev_ibin, ev_lc, ev_skip, ev_never, ev_seq, ev_ret, ev_sif, ev_set, ev_expr, ev_asg, ev_par, ev_for, ev_fld, ev_gn, ev_gsnil, ev_gscons, ev_gt, ev_mkfn, ev_bok, ev_berr, ev_bfail, ev_tok, ev_hok, ev_ert, ev_enx, ev_wn, ev_wc, ev_e0, ev_sseq, ev_senum, ev_szip, ev_sltup, ev_ltI, ev_leI, ev_gtI, ev_geI, ev_subI, ev_addI, ev_lenT, List.map_cons, List.map_nil, List.length_cons, List.length_nil, List.cons_append, List.nil_append, List.append_nil, List.getElem?_cons_zero, List.getElem?_cons_succ, List.set_cons_zero, List.set_cons_succ, List.replicate_succ, List.replicate_zero, Nat.reduceAdd, Nat.reduceSub, Nat.reduceEqDiff, reduceIte, Bool.true_eq_false, Bool.false_eq_true, if_true, if_false, aa_end]
            refine ⟨_, by rw [List.append_assoc]; congr 2; rw [List.map_zipWith]; simp only [risingD, all_id, pairD, fstD, sndD] at ha ⊢; rw [ha]; rfl⟩
          · obtain ⟨i, hi2⟩ := List.getElem?_of_mem h2
            obtain ⟨x, y, h3, h4, rfl⟩ := zip_get hi2
            have ex := hi x (List.mem_of_getElem? h3)
            have ey := hi y (List.mem_of_mem_drop (List.mem_of_getElem? h4))
            refine ⟨_, rfl, ?_⟩
            rw [ex, ey]
            rfl
        · rw [Bool.not_eq_true] at ha
          simp only [ev_var, ev_c, ev_un, ev_bin, ev_anil, ev_acons, ev_fn, ev_tof, ev_tob, ev_tand, ev_tor, ev_tnot, ev_and, ev_or, ev_not, ev_if, ev_chain, ev_true, ev_slice, ev_onone, ev_osome, ev_iseq, ev_irng, ev_ienum, ev_ibin, ev_lc, ev_skip, ev_never, ev_seq, ev_ret, ev_sif, ev_set, ev_expr, ev_asg, ev_par, ev_for, ev_fld, ev_gn, ev_gsnil, ev_gscons, ev_gt, ev_mkfn, ev_bok, ev_berr, ev_bfail, ev_tok, ev_hok, ev_ert, ev_enx, ev_wn, ev_wc, ev_e0, ev_sseq, ev_senum, ev_szip, ev_sltup, ev_ltI, ev_leI, ev_gtI, ev_geI, ev_subI, ev_addI, ev_lenT, List.map_cons, List.map_nil, List.length_cons, List.length_nil, List.cons_append, List.nil_append, List.append_nil, List.getElem?_cons_zero, List.getElem?_cons_succ, List.set_cons_zero, List.set_cons_succ, List.replicate_succ, List.replicate_zero, Nat.reduceAdd, Nat.reduceSub, Nat.reduceEqDiff, reduceIte, Bool.true_eq_false, Bool.false_eq_true, if_true, if_false, ha, Bool.not_false]
          refine ⟨[.lst (xs.map fun x => .bl (withinD 0 (n - 1) x))], ?_⟩
          rw [all_id] at ha
          simp only [risingD, ha, Bool.false_and]
      | _ =>
        refine ⟨[], ?_⟩
        simp only [m_is_rising, b_is_rising, ev_var, ev_c, ev_un, ev_bin, ev_anil, ev_acons, ev_fn, ev_tof, ev_tob, ev_tand, ev_tor, ev_tnot, ev_and, ev_or, ev_not, ev_if, ev_chain, ev_true, ev_slice, ev_onone, ev_osome, ev_iseq, ev_irng, ev_ienum, ev_ibin, ev_lc, ev_skip, ev_never, ev_seq, ev_ret, ev_sif, ev_set, ev_expr, ev_asg, ev_par, ev_for, ev_fld, ev_gn, ev_gsnil, ev_gscons, ev_gt, ev_mkfn, ev_bok, ev_berr, ev_bfail, ev_tok, ev_hok, ev_ert, ev_enx, ev_wn, ev_wc, ev_e0, ev_sseq, ev_senum, ev_szip, ev_sltup, ev_ltI, ev_leI, ev_gtI, ev_geI, ev_subI, ev_addI, ev_lenT, List.map_cons, List.map_nil, List.length_cons, List.length_nil, List.cons_append, List.nil_append, List.append_nil, List.getElem?_cons_zero, List.getElem?_cons_succ, List.set_cons_zero, List.set_cons_succ, List.replicate_succ, List.replicate_zero, Nat.reduceAdd, Nat.reduceSub, Nat.reduceEqDiff, reduceIte, Bool.true_eq_false, Bool.false_eq_true, if_true, if_false, isi_tupD (dk_kn hk)]
        rfl
    · cases h'

def b_is_wheels : SM := (sSeq (sIf (tOr (tNot (tOf (eUn (dIsi "tuple") (eVar 0)))) (tNot (tOf (eChain dLe dLe (eC (.int 1)) (eFn fLen (aCons (eVar 0) aNil)) (eC (.int 3)))))) (sRet (eC (.bl false))) sSkip)
    (sSeq (sIf (tNot (tOf (eFn (fAA fun bs => bs.all id) (aCons (cLc (iSeq (eVar 0)) [2] (gN 2) tTrue (eFn s_is_within (aCons (eVar 2) (aCons (eC (.int 2)) (aCons (eC (.int 4)) aNil))))) aNil)))) (sRet (eC (.bl false))) sSkip)
    (sSeq (sSet 1 (eC (.int 1)))
    (sSeq (sFor (iSeq (eVar 0)) (gN 2) (sSet 1 (eBin dMul (eVar 1) (eVar 2))))
    (sRet (eBin dLe (eVar 1) (eC (.int 24))))))))
def m_is_wheels : Fm := mkFn 1 3 b_is_wheels
def s_is_wheels : Fm := obs 1 fun ds st => match ds with
  | [d] => if dk st d = true then some (.bl (wheelsD d)) else none
  | _ => none
theorem a_is_wheels : Arity 1 s_is_wheels := obs_ar
theorem wheels_of {d : D} {st : Sto} (h : dk st d = true) : s_is_wheels [d] st = .ok (.bl (wheelsD d)) st := obs_ok rfl (if_pos h)
theorem t_is_wheels : Tells m_is_wheels s_is_wheels := .obs fun ds st d g b hl h => by
  match ds, hl, h with
  | [x], _, h =>
    have h' : (if dk st x = true then some (D.bl (wheelsD x)) else none) = some d := h
    split at h'
    · rename_i hk
      cases h'
      refine ⟨by simp only [Bnd], ?_⟩
      cases x with
      | tup xs =>
        have hx := dk_tup hk
        by_cases h1 : 1 ≤ xs.length
        · by_cases h3 : xs.length ≤ 3
          · have e1 : decide ((1 : Int) ≤ (xs.length : Int)) = true := decide_eq_true (by omega)
            have e3 : decide ((xs.length : Int) ≤ (3 : Int)) = true := decide_eq_true (by omega)
            have hm : xs.length ≤ most := Nat.le_trans h3 (by decide)
            simp only [m_is_wheels, b_is_wheels, ev_var, ev_c, ev_un, ev_bin, ev_anil, ev_acons, ev_fn, ev_tof, ev_tob, ev_tand, ev_tor, ev_tnot, ev_and, ev_or, ev_not, ev_if, ev_chain, ev_true, ev_slice, ev_onone, ev_osome, ev_iseq, ev_irng, ev_ienum, ev_ibin, ev_lc, ev_skip, ev_never, ev_seq, ev_ret, ev_sif, ev_set, ev_expr, ev_asg, ev_par, ev_for, ev_fld, ev_gn, ev_gsnil, ev_gscons, ev_gt, ev_mkfn, ev_bok, ev_berr, ev_bfail, ev_tok, ev_hok, ev_ert, ev_enx, ev_wn, ev_wc, ev_e0, ev_sseq, ev_senum, ev_szip, ev_sltup, ev_ltI, ev_leI, ev_gtI, ev_geI, ev_subI, ev_addI, ev_lenT, List.map_cons, List.map_nil, List.length_cons, List.length_nil, List.cons_append, List.nil_append, List.append_nil, List.getElem?_cons_zero, List.getElem?_cons_succ, List.set_cons_zero, List.set_cons_succ, List.replicate_succ, List.replicate_zero, Nat.reduceAdd, Nat.reduceSub, Nat.reduceEqDiff, reduceIte, Bool.true_eq_false, Bool.false_eq_true, if_true, if_false, isi_tup, Bool.not_true, e1, e3]
            rw [startLc_map (f := fun x => .bl (withinD 2 4 x)) rfl hm fun x h2 acc => ⟨_, rfl, by simp only [ev_var, ev_c, ev_un, ev_bin, ev_anil, ev_acons, ev_fn, ev_tof, ev_tob, ev_tand, ev_tor, ev_tnot, ev_and, ev_or, ev_not, ev_if, ev_chain, ev_true, ev_slice, ev_onone, ev_osome, ev_iseq, ev_irng, ev_ienum, ev_ibin, ev_lc, ev_skip, ev_never, ev_seq, ev_ret, ev_sif, ev_set, ev_expr, ev_asg, ev_par, ev_for, ev_fld, ev_gn, ev_gsnil, ev_gscons, ev_gt, ev_mkfn, ev_bok, ev_berr, ev_bfail, ev_tok, ev_hok, ev_ert, ev_enx, ev_wn, ev_wc, ev_e0, ev_sseq, ev_senum, ev_szip, ev_sltup, ev_ltI, ev_leI, ev_gtI, ev_geI, ev_subI, ev_addI, ev_lenT, List.map_cons, List.map_nil, List.length_cons, List.length_nil, List.cons_append, List.nil_append, List.append_nil, List.getElem?_cons_zero, List.getElem?_cons_succ, List.set_cons_zero, List.set_cons_succ, List.replicate_succ, List.replicate_zero, Nat.reduceAdd, Nat.reduceSub, Nat.reduceEqDiff, reduceIte, Bool.true_eq_false, Bool.false_eq_true, if_true, if_false, within_of (kn_app (dk_kn (hx x h2)))]⟩]
            simp only [ev_var, ev_c, ev_un, ev_bin, ev_anil, ev_acons, ev_fn, ev_tof, ev_tob, ev_tand, ev_tor, ev_tnot, ev_and, ev_or, ev_not, ev_if, ev_chain, ev_true, ev_slice, ev_onone, ev_osome, ev_iseq, ev_irng, ev_ienum, ev_ibin, ev_lc, ev_skip, ev_never, ev_seq, ev_ret, ev_sif, ev_set, ev_expr, ev_asg, ev_par, ev_for, ev_fld, ev_gn, ev_gsnil, ev_gscons, ev_gt, ev_mkfn, ev_bok, ev_berr, ev_bfail, ev_tok, ev_hok, ev_ert, ev_enx, ev_wn, ev_wc, ev_e0, ev_sseq, ev_senum, ev_szip, ev_sltup, ev_ltI, ev_leI, ev_gtI, ev_geI, ev_subI, ev_addI, ev_lenT, List.map_cons, List.map_nil, List.length_cons, List.length_nil, List.cons_append, List.nil_append, List.append_nil, List.getElem?_cons_zero, List.getElem?_cons_succ, List.set_cons_zero, List.set_cons_succ, List.replicate_succ, List.replicate_zero, Nat.reduceAdd, Nat.reduceSub, Nat.reduceEqDiff, reduceIte, Bool.true_eq_false, Bool.false_eq_true, if_true, if_false, aa_end, all_id]
            refine ⟨[.lst (xs.map fun x => D.bl (withinD 2 4 x))], ?_⟩
            by_cases ha : xs.all (withinD 2 4) = true
            · simp only [ev_var, ev_c, ev_un, ev_bin, ev_anil, ev_acons, ev_fn, ev_tof, ev_tob, ev_tand, ev_tor, ev_tnot, ev_and, ev_or, ev_not, ev_if, ev_chain, ev_true, ev_slice, ev_onone, ev_osome, ev_iseq, ev_irng, ev_ienum, ev_ibin, ev_lc, ev_skip, ev_never, ev_seq, ev_ret, ev_sif, ev_set, ev_expr, ev_asg, ev_par, ev_for, ev_fld, ev_gn, ev_gsnil, ev_gscons, ev_gt, ev_mkfn, ev_bok, ev_berr, ev_bfail, ev_tok, ev_hok, ev_ert, ev_enx, ev_wn, ev_wc, ev_e0, ev_sseq, ev_senum, ev_szip, ev_sltup, ev_ltI, ev_leI, ev_gtI, ev_geI, ev_subI, ev_addI, ev_lenT, List.map_cons, List.map_nil, List.length_cons, List.length_nil, List.cons_append, List.nil_append, List.append_nil, List.getElem?_cons_zero, List.getElem?_cons_succ, List.set_cons_zero, List.set_cons_succ, List.replicate_succ, List.replicate_zero, Nat.reduceAdd, Nat.reduceSub, Nat.reduceEqDiff, reduceIte, Bool.true_eq_false, Bool.false_eq_true, if_true, if_false, ha, Bool.not_true]
              obtain ⟨c, hw⟩ := walk_prod (st := st ++ [.lst (xs.map fun x => D.bl (withinD 2 4 x))]) (a := some (.tup xs)) (b := none) h3 ha
              rw [hw]
              simp only [ev_var, ev_c, ev_un, ev_bin, ev_anil, ev_acons, ev_fn, ev_tof, ev_tob, ev_tand, ev_tor, ev_tnot, ev_and, ev_or, ev_not, ev_if, ev_chain, ev_true, ev_slice, ev_onone, ev_osome, ev_iseq, ev_irng, ev_ienum, ev_ibin, ev_lc, ev_skip, ev_never, ev_seq, ev_ret, ev_sif, ev_set, ev_expr, ev_asg, ev_par, ev_for, ev_fld, ev_gn, ev_gsnil, ev_gscons, ev_gt, ev_mkfn, ev_bok, ev_berr, ev_bfail, ev_tok, ev_hok, ev_ert, ev_enx, ev_wn, ev_wc, ev_e0, ev_sseq, ev_senum, ev_szip, ev_sltup, ev_ltI, ev_leI, ev_gtI, ev_geI, ev_subI, ev_addI, ev_lenT, List.map_cons, List.map_nil, List.length_cons, List.length_nil, List.cons_append, List.nil_append, List.append_nil, List.getElem?_cons_zero, List.getElem?_cons_succ, List.set_cons_zero, List.set_cons_succ, List.replicate_succ, List.replicate_zero, Nat.reduceAdd, Nat.reduceSub, Nat.reduceEqDiff, reduceIte, Bool.true_eq_false, Bool.false_eq_true, if_true, if_false, wheelsD, ha, h1, h3, decide_true, Bool.true_and]
            · rw [Bool.not_eq_true] at ha
              simp only [ev_var, ev_c, ev_un, ev_bin, ev_anil, ev_acons, ev_fn, ev_tof, ev_tob, ev_tand, ev_tor, ev_tnot, ev_and, ev_or, ev_not, ev_if, ev_chain, ev_true, ev_slice, ev_onone, ev_osome, ev_iseq, ev_irng, ev_ienum, ev_ibin, ev_lc, ev_skip, ev_never, ev_seq, ev_ret, ev_sif, ev_set, ev_expr, ev_asg, ev_par, ev_for, ev_fld, ev_gn, ev_gsnil, ev_gscons, ev_gt, ev_mkfn, ev_bok, ev_berr, ev_bfail, ev_tok, ev_hok, ev_ert, ev_enx, ev_wn, ev_wc, ev_e0, ev_sseq, ev_senum, ev_szip, ev_sltup, ev_ltI, ev_leI, ev_gtI, ev_geI, ev_subI, ev_addI, ev_lenT, List.map_cons, List.map_nil, List.length_cons, List.length_nil, List.cons_append, List.nil_append, List.append_nil, List.getElem?_cons_zero, List.getElem?_cons_succ, List.set_cons_zero, List.set_cons_succ, List.replicate_succ, List.replicate_zero, Nat.reduceAdd, Nat.reduceSub, Nat.reduceEqDiff, reduceIte, Bool.true_eq_false, Bool.false_eq_true, if_true, if_false, ha, Bool.not_false, wheelsD, Bool.and_false, Bool.false_and]
          · have e1 : decide ((1 : Int) ≤ (xs.length : Int)) = true := decide_eq_true (by omega)
            have e3 : decide ((xs.length : Int) ≤ (3 : Int)) = false := decide_eq_false (by omega)
            refine ⟨[], ?_⟩
            simp only [m_is_wheels, b_is_wheels, ev_var, ev_c, ev_un, ev_bin, ev_anil, ev_acons, ev_fn, ev_tof, ev_tob, ev_tand, ev_tor, ev_tnot, ev_and, ev_or, ev_not, ev_if, ev_chain, ev_true, ev_slice, ev_onone, ev_osome, ev_iseq, ev_irng, ev_ienum, ev_ibin, ev_lc, ev_skip, ev_never, ev_seq, ev_ret, ev_sif, ev_set, ev_expr, ev_asg, ev_par, ev_for, ev_fld, ev_gn, ev_gsnil, ev_gscons, ev_gt, ev_mkfn, ev_bok, ev_berr, ev_bfail, ev_tok, ev_hok, ev_ert, ev_enx, ev_wn, ev_wc, ev_e0, ev_sseq, ev_senum, ev_szip, ev_sltup, ev_ltI, ev_leI, ev_gtI, ev_geI, ev_subI, ev_addI, ev_lenT, List.map_cons, List.map_nil, List.length_cons, List.length_nil, List.cons_append, List.nil_append, List.append_nil, List.getElem?_cons_zero, List.getElem?_cons_succ, List.set_cons_zero, List.set_cons_succ, List.replicate_succ, List.replicate_zero, Nat.reduceAdd, Nat.reduceSub, Nat.reduceEqDiff, reduceIte, Bool.true_eq_false, Bool.false_eq_true, if_true, if_false, isi_tup, Bool.not_true, e1, e3, Bool.not_false, wheelsD, decide_eq_false h3, Bool.and_false, Bool.false_and]
        · have e1 : decide ((1 : Int) ≤ (xs.length : Int)) = false := decide_eq_false (by omega)
          refine ⟨[], ?_⟩
          simp only [m_is_wheels, b_is_wheels, ev_var, ev_c, ev_un, ev_bin, ev_anil, ev_acons, ev_fn, ev_tof, ev_tob, ev_tand, ev_tor, ev_tnot, ev_and, ev_or, ev_not, ev_if, ev_chain, ev_true, ev_slice, ev_onone, ev_osome, ev_iseq, ev_irng, ev_ienum, ev_ibin, ev_lc, ev_skip, ev_never, ev_seq, ev_ret, ev_sif, ev_set, ev_expr, ev_asg, ev_par, ev_for, ev_fld, ev_gn, ev_gsnil, ev_gscons, ev_gt, ev_mkfn, ev_bok, ev_berr, ev_bfail, ev_tok, ev_hok, ev_ert, ev_enx, ev_wn, ev_wc, ev_e0, ev_sseq, ev_senum, ev_szip, ev_sltup, ev_ltI, ev_leI, ev_gtI, ev_geI, ev_subI, ev_addI, ev_lenT, List.map_cons, List.map_nil, List.length_cons, List.length_nil, List.cons_append, List.nil_append, List.append_nil, List.getElem?_cons_zero, List.getElem?_cons_succ, List.set_cons_zero, List.set_cons_succ, List.replicate_succ, List.replicate_zero, Nat.reduceAdd, Nat.reduceSub, Nat.reduceEqDiff, reduceIte, Bool.true_eq_false, Bool.false_eq_true, if_true, if_false, isi_tup, Bool.not_true, e1, Bool.not_false, wheelsD, decide_eq_false h1, Bool.false_and]
      | _ =>
        refine ⟨[], ?_⟩
        simp only [m_is_wheels, b_is_wheels, ev_var, ev_c, ev_un, ev_bin, ev_anil, ev_acons, ev_fn, ev_tof, ev_tob, ev_tand, ev_tor, ev_tnot, ev_and, ev_or, ev_not, ev_if, ev_chain, ev_true, ev_slice, ev_onone, ev_osome, ev_iseq, ev_irng, ev_ienum, ev_ibin, ev_lc, ev_skip, ev_never, ev_seq, ev_ret, ev_sif, ev_set, ev_expr, ev_asg, ev_par, ev_for, ev_fld, ev_gn, ev_gsnil, ev_gscons, ev_gt, ev_mkfn, ev_bok, ev_berr, ev_bfail, ev_tok, ev_hok, ev_ert, ev_enx, ev_wn, ev_wc, ev_e0, ev_sseq, ev_senum, ev_szip, ev_sltup, ev_ltI, ev_leI, ev_gtI, ev_geI, ev_subI, ev_addI, ev_lenT, List.map_cons, List.map_nil, List.length_cons, List.length_nil, List.cons_append, List.nil_append, List.append_nil, List.getElem?_cons_zero, List.getElem?_cons_succ, List.set_cons_zero, List.set_cons_succ, List.replicate_succ, List.replicate_zero, Nat.reduceAdd, Nat.reduceSub, Nat.reduceEqDiff, reduceIte, Bool.true_eq_false, Bool.false_eq_true, if_true, if_false, isi_tupD (dk_kn hk)]
        rfl
    · cases h'

def b_is_row : SM := (sRet (eAnd (eUn (dIsi "tuple") (eVar 0)) (eBin dLe (eFn fLen (aCons (eVar 0) aNil)) (eVar 1))))
def m_is_row : Fm := mkFn 2 2 b_is_row
def s_is_row : Fm := obs 2 fun ds st => match ds with
  | [d, .int n] => if kn st d = true then some (.bl (rowI n d)) else none
  | _ => none
theorem a_is_row : Arity 2 s_is_row := obs_ar
theorem row_of {d : D} {st : Sto} {n : Nat} (h : kn st d = true) : s_is_row [d, .int n] st = .ok (.bl (rowD n d)) st := by
  refine obs_ok rfl ?_
  show (if kn st d = true then _ else _) = _
  rw [if_pos h]
  cases d with
  | tup xs =>
    show some (D.bl (decide ((xs.length : Int) ≤ (n : Int)))) = some (D.bl (decide (xs.length ≤ n)))
    rw [show decide ((xs.length : Int) ≤ (n : Int)) = decide (xs.length ≤ n) from decide_eq_decide.mpr (by omega)]
  | _ => rfl
theorem t_is_row : Tells m_is_row s_is_row := .obs fun ds st d g b hl h => by
  match ds, hl, h with
  | [x, .int n], _, h =>
    have h' : (if kn st x = true then some (D.bl (rowI n x)) else none) = some d := h
    split at h'
    · rename_i hk
      cases h'
      refine ⟨by simp only [Bnd], [], ?_⟩
      cases x with
      | tup xs => simp only [m_is_row, b_is_row, ev_var, ev_c, ev_un, ev_bin, ev_anil, ev_acons, ev_fn, ev_tof, ev_tob, ev_tand, ev_tor, ev_tnot, ev_and, ev_or, ev_not, ev_if, ev_chain, ev_true, ev_slice, ev_onone, ev_osome, ev_iseq, ev_irng, ev_ienum, ev_ibin, ev_lc, ev_skip, ev_never, ev_seq, ev_ret, ev_sif, ev_set, ev_expr, ev_asg, ev_par, ev_for, ev_fld, ev_gn, ev_gsnil, ev_gscons, ev_gt, ev_mkfn, ev_bok, ev_berr, ev_bfail, ev_tok, ev_hok, ev_ert, ev_enx, ev_wn, ev_wc, ev_e0, ev_sseq, ev_senum, ev_szip, ev_sltup, ev_ltI, ev_leI, ev_gtI, ev_geI, ev_subI, ev_addI, ev_lenT, List.map_cons, List.map_nil, List.length_cons, List.length_nil, List.cons_append, List.nil_append, List.append_nil, List.getElem?_cons_zero, List.getElem?_cons_succ, List.set_cons_zero, List.set_cons_succ, List.replicate_succ, List.replicate_zero, Nat.reduceAdd, Nat.reduceSub, Nat.reduceEqDiff, reduceIte, Bool.true_eq_false, Bool.false_eq_true, if_true, if_false, isi_tup, rowI]
      | _ =>
        simp only [m_is_row, b_is_row, ev_var, ev_c, ev_un, ev_bin, ev_anil, ev_acons, ev_fn, ev_tof, ev_tob, ev_tand, ev_tor, ev_tnot, ev_and, ev_or, ev_not, ev_if, ev_chain, ev_true, ev_slice, ev_onone, ev_osome, ev_iseq, ev_irng, ev_ienum, ev_ibin, ev_lc, ev_skip, ev_never, ev_seq, ev_ret, ev_sif, ev_set, ev_expr, ev_asg, ev_par, ev_for, ev_fld, ev_gn, ev_gsnil, ev_gscons, ev_gt, ev_mkfn, ev_bok, ev_berr, ev_bfail, ev_tok, ev_hok, ev_ert, ev_enx, ev_wn, ev_wc, ev_e0, ev_sseq, ev_senum, ev_szip, ev_sltup, ev_ltI, ev_leI, ev_gtI, ev_geI, ev_subI, ev_addI, ev_lenT, List.map_cons, List.map_nil, List.length_cons, List.length_nil, List.cons_append, List.nil_append, List.append_nil, List.getElem?_cons_zero, List.getElem?_cons_succ, List.set_cons_zero, List.set_cons_succ, List.replicate_succ, List.replicate_zero, Nat.reduceAdd, Nat.reduceSub, Nat.reduceEqDiff, reduceIte, Bool.true_eq_false, Bool.false_eq_true, if_true, if_false, isi_tupD hk]
        rfl
    · cases h'

def b_is_moment : SM := (sSeq (sIf (tOr (tNot (tOf (eUn (dIsi "tuple") (eVar 1)))) (tOf (eBin (dEq true) (eFn fLen (aCons (eVar 1) aNil)) (eC (.int 2))))) (sRet (eC (.bl false))) sSkip)
    (sRet (eAnd (eBin (dIn false) (eBin dIx (eVar 1) (eC (.int 0))) (eFn mkTup (aCons (eC (.str "hushed")) (aCons (eC (.str "awake")) aNil)))) (eFn s_is_below (aCons (eBin dIx (eVar 1) (eC (.int 1))) (aCons (eVar 0) aNil))))))
def m_is_moment : Fm := mkFn 2 2 b_is_moment
def s_is_moment : Fm := obs 2 fun ds st => match ds with
  | [.int n, d] => if dk st d = true ∧ wordsD d = true then some (.bl (momentD n d)) else none
  | _ => none
theorem a_is_moment : Arity 2 s_is_moment := obs_ar
theorem moment_of {d : D} {st : Sto} {n : Int} (h : dk st d = true) (hw : wordsD d = true) : s_is_moment [.int n, d] st = .ok (.bl (momentD n d)) st := obs_ok rfl (if_pos ⟨h, hw⟩)
theorem t_is_moment : Tells m_is_moment s_is_moment := .obs fun ds st d g b hl h => by
  match ds, hl, h with
  | [.int n, x], _, h =>
    have h' : (if dk st x = true ∧ wordsD x = true then some (D.bl (momentD n x)) else none) = some d := h
    split at h'
    · rename_i hk
      cases h'
      obtain ⟨hk, hw⟩ := hk
      refine ⟨by simp only [Bnd], [], ?_⟩
      cases x with
      | tup xs =>
        have hx := dk_tup hk
        by_cases hl2 : xs.length = 2
        · obtain ⟨x, y, rfl⟩ := len2 hl2
          have hin := in_words (st := st) (d := x) ["hushed", "awake"] hw (by decide +kernel)
          simp only [List.map_cons, List.map_nil] at hin
          simp only [m_is_moment, b_is_moment, ev_var, ev_c, ev_un, ev_bin, ev_anil, ev_acons, ev_fn, ev_tof, ev_tob, ev_tand, ev_tor, ev_tnot, ev_and, ev_or, ev_not, ev_if, ev_chain, ev_true, ev_slice, ev_onone, ev_osome, ev_iseq, ev_irng, ev_ienum, ev_ibin, ev_lc, ev_skip, ev_never, ev_seq, ev_ret, ev_sif, ev_set, ev_expr, ev_asg, ev_par, ev_for, ev_fld, ev_gn, ev_gsnil, ev_gscons, ev_gt, ev_mkfn, ev_bok, ev_berr, ev_bfail, ev_tok, ev_hok, ev_ert, ev_enx, ev_wn, ev_wc, ev_e0, ev_sseq, ev_senum, ev_szip, ev_sltup, ev_ltI, ev_leI, ev_gtI, ev_geI, ev_subI, ev_addI, ev_lenT, List.map_cons, List.map_nil, List.length_cons, List.length_nil, List.cons_append, List.nil_append, List.append_nil, List.getElem?_cons_zero, List.getElem?_cons_succ, List.set_cons_zero, List.set_cons_succ, List.replicate_succ, List.replicate_zero, Nat.reduceAdd, Nat.reduceSub, Nat.reduceEqDiff, reduceIte, Bool.true_eq_false, Bool.false_eq_true, if_true, if_false, isi_tup, Bool.not_true, Int.cast_ofNat_Int, eqI, beq_self_eq_true, dIx, seqOf, atI2_0, atI2_1, mk2, hin]
          cases hv : wordIn ["hushed", "awake"] x with
          | false => simp only [ev_var, ev_c, ev_un, ev_bin, ev_anil, ev_acons, ev_fn, ev_tof, ev_tob, ev_tand, ev_tor, ev_tnot, ev_and, ev_or, ev_not, ev_if, ev_chain, ev_true, ev_slice, ev_onone, ev_osome, ev_iseq, ev_irng, ev_ienum, ev_ibin, ev_lc, ev_skip, ev_never, ev_seq, ev_ret, ev_sif, ev_set, ev_expr, ev_asg, ev_par, ev_for, ev_fld, ev_gn, ev_gsnil, ev_gscons, ev_gt, ev_mkfn, ev_bok, ev_berr, ev_bfail, ev_tok, ev_hok, ev_ert, ev_enx, ev_wn, ev_wc, ev_e0, ev_sseq, ev_senum, ev_szip, ev_sltup, ev_ltI, ev_leI, ev_gtI, ev_geI, ev_subI, ev_addI, ev_lenT, List.map_cons, List.map_nil, List.length_cons, List.length_nil, List.cons_append, List.nil_append, List.append_nil, List.getElem?_cons_zero, List.getElem?_cons_succ, List.set_cons_zero, List.set_cons_succ, List.replicate_succ, List.replicate_zero, Nat.reduceAdd, Nat.reduceSub, Nat.reduceEqDiff, reduceIte, Bool.true_eq_false, Bool.false_eq_true, if_true, if_false, momentD, hv, Bool.false_and]
          | true => simp only [ev_var, ev_c, ev_un, ev_bin, ev_anil, ev_acons, ev_fn, ev_tof, ev_tob, ev_tand, ev_tor, ev_tnot, ev_and, ev_or, ev_not, ev_if, ev_chain, ev_true, ev_slice, ev_onone, ev_osome, ev_iseq, ev_irng, ev_ienum, ev_ibin, ev_lc, ev_skip, ev_never, ev_seq, ev_ret, ev_sif, ev_set, ev_expr, ev_asg, ev_par, ev_for, ev_fld, ev_gn, ev_gsnil, ev_gscons, ev_gt, ev_mkfn, ev_bok, ev_berr, ev_bfail, ev_tok, ev_hok, ev_ert, ev_enx, ev_wn, ev_wc, ev_e0, ev_sseq, ev_senum, ev_szip, ev_sltup, ev_ltI, ev_leI, ev_gtI, ev_geI, ev_subI, ev_addI, ev_lenT, List.map_cons, List.map_nil, List.length_cons, List.length_nil, List.cons_append, List.nil_append, List.append_nil, List.getElem?_cons_zero, List.getElem?_cons_succ, List.set_cons_zero, List.set_cons_succ, List.replicate_succ, List.replicate_zero, Nat.reduceAdd, Nat.reduceSub, Nat.reduceEqDiff, reduceIte, Bool.true_eq_false, Bool.false_eq_true, if_true, if_false, dIx, seqOf, atI2_1, below_of (dk_kn (hx y (by simp))), momentD, hv, Bool.true_and]
        · have e : decide ((xs.length : Int) = 2) = false := decide_eq_false (by omega)
          simp only [m_is_moment, b_is_moment, ev_var, ev_c, ev_un, ev_bin, ev_anil, ev_acons, ev_fn, ev_tof, ev_tob, ev_tand, ev_tor, ev_tnot, ev_and, ev_or, ev_not, ev_if, ev_chain, ev_true, ev_slice, ev_onone, ev_osome, ev_iseq, ev_irng, ev_ienum, ev_ibin, ev_lc, ev_skip, ev_never, ev_seq, ev_ret, ev_sif, ev_set, ev_expr, ev_asg, ev_par, ev_for, ev_fld, ev_gn, ev_gsnil, ev_gscons, ev_gt, ev_mkfn, ev_bok, ev_berr, ev_bfail, ev_tok, ev_hok, ev_ert, ev_enx, ev_wn, ev_wc, ev_e0, ev_sseq, ev_senum, ev_szip, ev_sltup, ev_ltI, ev_leI, ev_gtI, ev_geI, ev_subI, ev_addI, ev_lenT, List.map_cons, List.map_nil, List.length_cons, List.length_nil, List.cons_append, List.nil_append, List.append_nil, List.getElem?_cons_zero, List.getElem?_cons_succ, List.set_cons_zero, List.set_cons_succ, List.replicate_succ, List.replicate_zero, Nat.reduceAdd, Nat.reduceSub, Nat.reduceEqDiff, reduceIte, Bool.true_eq_false, Bool.false_eq_true, if_true, if_false, isi_tup, Bool.not_true, eqN, e, Bool.not_false]
          congr 2
          unfold momentD
          split
          · rename_i q
            cases q
            exact absurd rfl hl2
          · rfl
      | _ =>
        simp only [m_is_moment, b_is_moment, ev_var, ev_c, ev_un, ev_bin, ev_anil, ev_acons, ev_fn, ev_tof, ev_tob, ev_tand, ev_tor, ev_tnot, ev_and, ev_or, ev_not, ev_if, ev_chain, ev_true, ev_slice, ev_onone, ev_osome, ev_iseq, ev_irng, ev_ienum, ev_ibin, ev_lc, ev_skip, ev_never, ev_seq, ev_ret, ev_sif, ev_set, ev_expr, ev_asg, ev_par, ev_for, ev_fld, ev_gn, ev_gsnil, ev_gscons, ev_gt, ev_mkfn, ev_bok, ev_berr, ev_bfail, ev_tok, ev_hok, ev_ert, ev_enx, ev_wn, ev_wc, ev_e0, ev_sseq, ev_senum, ev_szip, ev_sltup, ev_ltI, ev_leI, ev_gtI, ev_geI, ev_subI, ev_addI, ev_lenT, List.map_cons, List.map_nil, List.length_cons, List.length_nil, List.cons_append, List.nil_append, List.append_nil, List.getElem?_cons_zero, List.getElem?_cons_succ, List.set_cons_zero, List.set_cons_succ, List.replicate_succ, List.replicate_zero, Nat.reduceAdd, Nat.reduceSub, Nat.reduceEqDiff, reduceIte, Bool.true_eq_false, Bool.false_eq_true, if_true, if_false, isi_tupD (dk_kn hk)]
        rfl
    · cases h'

def b_is_spot : SM := (sSeq (sIf (tOr (tNot (tOf (eUn (dIsi "tuple") (eVar 1)))) (tOf (eBin (dEq true) (eFn fLen (aCons (eVar 1) aNil)) (eC (.int 3))))) (sRet (eC (.bl false))) sSkip)
    (sSeq (sAsg (eVar 1) (gT 3 (gsCons (gN 3) (gsCons (gN 4) (gsCons (gN 5) gsNil)))))
    (sRet (eAnd (eBin (dIn false) (eVar 3) (eVar 2)) (eAnd (eFn s_is_below (aCons (eVar 4) (aCons (eFn fLen (aCons (eVar 0) aNil)) aNil))) (eFn s_is_below (aCons (eVar 5) (aCons (eBin dIx (eVar 0) (eVar 4)) aNil))))))))
def m_is_spot : Fm := mkFn 3 6 b_is_spot
def s_is_spot : Fm := obs 3 fun ds st => match ds with
  | [.tup ws, d, .tup wd] => match strsOf wd with
    | some words => if dk st d = true ∧ wordsD d = true ∧ ws.all isI = true ∧ PySem.SeqAt.shaped (.tuple (words.map PyData.str)) = true then some (.bl (spotD ws words d)) else none
    | none => none
  | _ => none
theorem a_is_spot : Arity 3 s_is_spot := obs_ar
theorem spot_of {d : D} {st : Sto} {ws wd : List D} {words : List Str} (hs : strsOf wd = some words) (h : dk st d = true) (hd : wordsD d = true) (hw : ws.all isI = true) (hq : PySem.SeqAt.shaped (.tuple (words.map PyData.str)) = true) : s_is_spot [.tup ws, d, .tup wd] st = .ok (.bl (spotD ws words d)) st := by
  refine obs_ok rfl ?_
  show (match strsOf wd with | some words => if dk st d = true ∧ wordsD d = true ∧ ws.all isI = true ∧ PySem.SeqAt.shaped (.tuple (words.map PyData.str)) = true then some (D.bl (spotD ws words d)) else none | none => none) = _
  rw [hs]
  exact if_pos ⟨h, hd, hw, hq⟩
theorem t_is_spot : Tells m_is_spot s_is_spot := .obs fun ds st d g b hl h => by
  match ds, hl, h with
  | [.tup ws, x, .tup wd], _, h =>
    have h' : (match strsOf wd with | some words => if dk st x = true ∧ wordsD x = true ∧ ws.all isI = true ∧ PySem.SeqAt.shaped (.tuple (words.map PyData.str)) = true then some (D.bl (spotD ws words x)) else none | none => none) = some d := h
    cases hs : strsOf wd with
    | none => rw [hs] at h'; cases h'
    | some words =>
      rw [hs] at h'
      simp only at h'
      split at h'
      · rename_i hk
        cases h'
        obtain ⟨hk, hd, hw, hq⟩ := hk
        have ew := strsOf_eq hs
        subst ew
        refine ⟨by simp only [Bnd], [], ?_⟩
        cases x with
        | tup xs =>
          have hx := dk_tup hk
          by_cases hl3 : xs.length = 3
          · obtain ⟨x, y, z, rfl⟩ := len3 hl3
            have hin := in_words (st := st) (d := x) words hd hq
            simp only [m_is_spot, b_is_spot, ev_var, ev_c, ev_un, ev_bin, ev_anil, ev_acons, ev_fn, ev_tof, ev_tob, ev_tand, ev_tor, ev_tnot, ev_and, ev_or, ev_not, ev_if, ev_chain, ev_true, ev_slice, ev_onone, ev_osome, ev_iseq, ev_irng, ev_ienum, ev_ibin, ev_lc, ev_skip, ev_never, ev_seq, ev_ret, ev_sif, ev_set, ev_expr, ev_asg, ev_par, ev_for, ev_fld, ev_gn, ev_gsnil, ev_gscons, ev_gt, ev_mkfn, ev_bok, ev_berr, ev_bfail, ev_tok, ev_hok, ev_ert, ev_enx, ev_wn, ev_wc, ev_e0, ev_sseq, ev_senum, ev_szip, ev_sltup, ev_ltI, ev_leI, ev_gtI, ev_geI, ev_subI, ev_addI, ev_lenT, List.map_cons, List.map_nil, List.length_cons, List.length_nil, List.cons_append, List.nil_append, List.append_nil, List.getElem?_cons_zero, List.getElem?_cons_succ, List.set_cons_zero, List.set_cons_succ, List.replicate_succ, List.replicate_zero, Nat.reduceAdd, Nat.reduceSub, Nat.reduceEqDiff, reduceIte, Bool.true_eq_false, Bool.false_eq_true, if_true, if_false, isi_tup, Bool.not_true, Int.cast_ofNat_Int, eqI, beq_self_eq_true, hin]
            cases hv : wordIn words x with
            | false => simp only [ev_var, ev_c, ev_un, ev_bin, ev_anil, ev_acons, ev_fn, ev_tof, ev_tob, ev_tand, ev_tor, ev_tnot, ev_and, ev_or, ev_not, ev_if, ev_chain, ev_true, ev_slice, ev_onone, ev_osome, ev_iseq, ev_irng, ev_ienum, ev_ibin, ev_lc, ev_skip, ev_never, ev_seq, ev_ret, ev_sif, ev_set, ev_expr, ev_asg, ev_par, ev_for, ev_fld, ev_gn, ev_gsnil, ev_gscons, ev_gt, ev_mkfn, ev_bok, ev_berr, ev_bfail, ev_tok, ev_hok, ev_ert, ev_enx, ev_wn, ev_wc, ev_e0, ev_sseq, ev_senum, ev_szip, ev_sltup, ev_ltI, ev_leI, ev_gtI, ev_geI, ev_subI, ev_addI, ev_lenT, List.map_cons, List.map_nil, List.length_cons, List.length_nil, List.cons_append, List.nil_append, List.append_nil, List.getElem?_cons_zero, List.getElem?_cons_succ, List.set_cons_zero, List.set_cons_succ, List.replicate_succ, List.replicate_zero, Nat.reduceAdd, Nat.reduceSub, Nat.reduceEqDiff, reduceIte, Bool.true_eq_false, Bool.false_eq_true, if_true, if_false, spotD, hv, Bool.false_and]
            | true =>
              simp only [ev_var, ev_c, ev_un, ev_bin, ev_anil, ev_acons, ev_fn, ev_tof, ev_tob, ev_tand, ev_tor, ev_tnot, ev_and, ev_or, ev_not, ev_if, ev_chain, ev_true, ev_slice, ev_onone, ev_osome, ev_iseq, ev_irng, ev_ienum, ev_ibin, ev_lc, ev_skip, ev_never, ev_seq, ev_ret, ev_sif, ev_set, ev_expr, ev_asg, ev_par, ev_for, ev_fld, ev_gn, ev_gsnil, ev_gscons, ev_gt, ev_mkfn, ev_bok, ev_berr, ev_bfail, ev_tok, ev_hok, ev_ert, ev_enx, ev_wn, ev_wc, ev_e0, ev_sseq, ev_senum, ev_szip, ev_sltup, ev_ltI, ev_leI, ev_gtI, ev_geI, ev_subI, ev_addI, ev_lenT, List.map_cons, List.map_nil, List.length_cons, List.length_nil, List.cons_append, List.nil_append, List.append_nil, List.getElem?_cons_zero, List.getElem?_cons_succ, List.set_cons_zero, List.set_cons_succ, List.replicate_succ, List.replicate_zero, Nat.reduceAdd, Nat.reduceSub, Nat.reduceEqDiff, reduceIte, Bool.true_eq_false, Bool.false_eq_true, if_true, if_false, below_of (dk_kn (hx y (by simp)))]
              cases hy : withinD 0 (ws.length - 1) y with
              | false => simp only [ev_var, ev_c, ev_un, ev_bin, ev_anil, ev_acons, ev_fn, ev_tof, ev_tob, ev_tand, ev_tor, ev_tnot, ev_and, ev_or, ev_not, ev_if, ev_chain, ev_true, ev_slice, ev_onone, ev_osome, ev_iseq, ev_irng, ev_ienum, ev_ibin, ev_lc, ev_skip, ev_never, ev_seq, ev_ret, ev_sif, ev_set, ev_expr, ev_asg, ev_par, ev_for, ev_fld, ev_gn, ev_gsnil, ev_gscons, ev_gt, ev_mkfn, ev_bok, ev_berr, ev_bfail, ev_tok, ev_hok, ev_ert, ev_enx, ev_wn, ev_wc, ev_e0, ev_sseq, ev_senum, ev_szip, ev_sltup, ev_ltI, ev_leI, ev_gtI, ev_geI, ev_subI, ev_addI, ev_lenT, List.map_cons, List.map_nil, List.length_cons, List.length_nil, List.cons_append, List.nil_append, List.append_nil, List.getElem?_cons_zero, List.getElem?_cons_succ, List.set_cons_zero, List.set_cons_succ, List.replicate_succ, List.replicate_zero, Nat.reduceAdd, Nat.reduceSub, Nat.reduceEqDiff, reduceIte, Bool.true_eq_false, Bool.false_eq_true, if_true, if_false, spotD, hv, hy, Bool.false_and, Bool.true_and]
              | true =>
                obtain ⟨j, rfl, hj⟩ := within_ix hy
                have hz := isI_eq (List.all_eq_true.mp hw ws[j] (List.getElem_mem hj))
                simp only [ev_var, ev_c, ev_un, ev_bin, ev_anil, ev_acons, ev_fn, ev_tof, ev_tob, ev_tand, ev_tor, ev_tnot, ev_and, ev_or, ev_not, ev_if, ev_chain, ev_true, ev_slice, ev_onone, ev_osome, ev_iseq, ev_irng, ev_ienum, ev_ibin, ev_lc, ev_skip, ev_never, ev_seq, ev_ret, ev_sif, ev_set, ev_expr, ev_asg, ev_par, ev_for, ev_fld, ev_gn, ev_gsnil, ev_gscons, ev_gt, ev_mkfn, ev_bok, ev_berr, ev_bfail, ev_tok, ev_hok, ev_ert, ev_enx, ev_wn, ev_wc, ev_e0, ev_sseq, ev_senum, ev_szip, ev_sltup, ev_ltI, ev_leI, ev_gtI, ev_geI, ev_subI, ev_addI, ev_lenT, List.map_cons, List.map_nil, List.length_cons, List.length_nil, List.cons_append, List.nil_append, List.append_nil, List.getElem?_cons_zero, List.getElem?_cons_succ, List.set_cons_zero, List.set_cons_succ, List.replicate_succ, List.replicate_zero, Nat.reduceAdd, Nat.reduceSub, Nat.reduceEqDiff, reduceIte, Bool.true_eq_false, Bool.false_eq_true, if_true, if_false, dIx, seqOf, L2.atI_nat (List.getElem?_eq_getElem hj)]
                rw [hz]
                simp only [ev_var, ev_c, ev_un, ev_bin, ev_anil, ev_acons, ev_fn, ev_tof, ev_tob, ev_tand, ev_tor, ev_tnot, ev_and, ev_or, ev_not, ev_if, ev_chain, ev_true, ev_slice, ev_onone, ev_osome, ev_iseq, ev_irng, ev_ienum, ev_ibin, ev_lc, ev_skip, ev_never, ev_seq, ev_ret, ev_sif, ev_set, ev_expr, ev_asg, ev_par, ev_for, ev_fld, ev_gn, ev_gsnil, ev_gscons, ev_gt, ev_mkfn, ev_bok, ev_berr, ev_bfail, ev_tok, ev_hok, ev_ert, ev_enx, ev_wn, ev_wc, ev_e0, ev_sseq, ev_senum, ev_szip, ev_sltup, ev_ltI, ev_leI, ev_gtI, ev_geI, ev_subI, ev_addI, ev_lenT, List.map_cons, List.map_nil, List.length_cons, List.length_nil, List.cons_append, List.nil_append, List.append_nil, List.getElem?_cons_zero, List.getElem?_cons_succ, List.set_cons_zero, List.set_cons_succ, List.replicate_succ, List.replicate_zero, Nat.reduceAdd, Nat.reduceSub, Nat.reduceEqDiff, reduceIte, Bool.true_eq_false, Bool.false_eq_true, if_true, if_false, below_of (dk_kn (hx z (by simp))), spotD, hv, hy, Bool.true_and, wI, Int.toNat_natCast, List.getD, List.getElem?_eq_getElem hj, Option.getD_some]
          · have e : decide ((xs.length : Int) = 3) = false := decide_eq_false (by omega)
            simp only [m_is_spot, b_is_spot, ev_var, ev_c, ev_un, ev_bin, ev_anil, ev_acons, ev_fn, ev_tof, ev_tob, ev_tand, ev_tor, ev_tnot, ev_and, ev_or, ev_not, ev_if, ev_chain, ev_true, ev_slice, ev_onone, ev_osome, ev_iseq, ev_irng, ev_ienum, ev_ibin, ev_lc, ev_skip, ev_never, ev_seq, ev_ret, ev_sif, ev_set, ev_expr, ev_asg, ev_par, ev_for, ev_fld, ev_gn, ev_gsnil, ev_gscons, ev_gt, ev_mkfn, ev_bok, ev_berr, ev_bfail, ev_tok, ev_hok, ev_ert, ev_enx, ev_wn, ev_wc, ev_e0, ev_sseq, ev_senum, ev_szip, ev_sltup, ev_ltI, ev_leI, ev_gtI, ev_geI, ev_subI, ev_addI, ev_lenT, List.map_cons, List.map_nil, List.length_cons, List.length_nil, List.cons_append, List.nil_append, List.append_nil, List.getElem?_cons_zero, List.getElem?_cons_succ, List.set_cons_zero, List.set_cons_succ, List.replicate_succ, List.replicate_zero, Nat.reduceAdd, Nat.reduceSub, Nat.reduceEqDiff, reduceIte, Bool.true_eq_false, Bool.false_eq_true, if_true, if_false, isi_tup, Bool.not_true, eqN, e, Bool.not_false]
            congr 2
            unfold spotD
            split
            · rename_i q
              cases q
              exact absurd rfl hl3
            · rfl
        | _ =>
          simp only [m_is_spot, b_is_spot, ev_var, ev_c, ev_un, ev_bin, ev_anil, ev_acons, ev_fn, ev_tof, ev_tob, ev_tand, ev_tor, ev_tnot, ev_and, ev_or, ev_not, ev_if, ev_chain, ev_true, ev_slice, ev_onone, ev_osome, ev_iseq, ev_irng, ev_ienum, ev_ibin, ev_lc, ev_skip, ev_never, ev_seq, ev_ret, ev_sif, ev_set, ev_expr, ev_asg, ev_par, ev_for, ev_fld, ev_gn, ev_gsnil, ev_gscons, ev_gt, ev_mkfn, ev_bok, ev_berr, ev_bfail, ev_tok, ev_hok, ev_ert, ev_enx, ev_wn, ev_wc, ev_e0, ev_sseq, ev_senum, ev_szip, ev_sltup, ev_ltI, ev_leI, ev_gtI, ev_geI, ev_subI, ev_addI, ev_lenT, List.map_cons, List.map_nil, List.length_cons, List.length_nil, List.cons_append, List.nil_append, List.append_nil, List.getElem?_cons_zero, List.getElem?_cons_succ, List.set_cons_zero, List.set_cons_succ, List.replicate_succ, List.replicate_zero, Nat.reduceAdd, Nat.reduceSub, Nat.reduceEqDiff, reduceIte, Bool.true_eq_false, Bool.false_eq_true, if_true, if_false, isi_tupD (dk_kn hk)]
          rfl
      · cases h'

def b_is_condition : SM := (sRet (eOr (eFn s_is_spot (aCons (eVar 0) (aCons (eVar 2) (aCons (eFn mkTup (aCons (eC (.str "is")) (aCons (eC (.str "not")) (aCons (eC (.str "below")) aNil)))) aNil)))) (eFn s_is_moment (aCons (eVar 1) (aCons (eVar 2) aNil)))))
def m_is_condition : Fm := mkFn 3 3 b_is_condition
def s_is_condition : Fm := obs 3 fun ds st => match ds with
  | [.tup ws, .int n, d] => if dk st d = true ∧ wordsD d = true ∧ ws.all isI = true then some (.bl (condD ws n d)) else none
  | _ => none
theorem a_is_condition : Arity 3 s_is_condition := obs_ar
theorem cond_of {d : D} {st : Sto} {ws : List D} {n : Int} (h : dk st d = true) (hd : wordsD d = true) (hw : ws.all isI = true) : s_is_condition [.tup ws, .int n, d] st = .ok (.bl (condD ws n d)) st := obs_ok rfl (if_pos ⟨h, hd, hw⟩)
theorem t_is_condition : Tells m_is_condition s_is_condition := .obs fun ds st d g b hl h => by
  match ds, hl, h with
  | [.tup ws, .int n, x], _, h =>
    have h' : (if dk st x = true ∧ wordsD x = true ∧ ws.all isI = true then some (D.bl (condD ws n x)) else none) = some d := h
    split at h'
    · rename_i hk
      cases h'
      obtain ⟨hk, hd, hw⟩ := hk
      refine ⟨by simp only [Bnd], [], ?_⟩
      have hsp := spot_of (st := st) (d := x) (ws := ws) (wd := [.str "is", .str "not", .str "below"]) (words := ["is", "not", "below"]) rfl hk hd hw (by decide +kernel)
      simp only [m_is_condition, b_is_condition, ev_var, ev_c, ev_un, ev_bin, ev_anil, ev_acons, ev_fn, ev_tof, ev_tob, ev_tand, ev_tor, ev_tnot, ev_and, ev_or, ev_not, ev_if, ev_chain, ev_true, ev_slice, ev_onone, ev_osome, ev_iseq, ev_irng, ev_ienum, ev_ibin, ev_lc, ev_skip, ev_never, ev_seq, ev_ret, ev_sif, ev_set, ev_expr, ev_asg, ev_par, ev_for, ev_fld, ev_gn, ev_gsnil, ev_gscons, ev_gt, ev_mkfn, ev_bok, ev_berr, ev_bfail, ev_tok, ev_hok, ev_ert, ev_enx, ev_wn, ev_wc, ev_e0, ev_sseq, ev_senum, ev_szip, ev_sltup, ev_ltI, ev_leI, ev_gtI, ev_geI, ev_subI, ev_addI, ev_lenT, List.map_cons, List.map_nil, List.length_cons, List.length_nil, List.cons_append, List.nil_append, List.append_nil, List.getElem?_cons_zero, List.getElem?_cons_succ, List.set_cons_zero, List.set_cons_succ, List.replicate_succ, List.replicate_zero, Nat.reduceAdd, Nat.reduceSub, Nat.reduceEqDiff, reduceIte, Bool.true_eq_false, Bool.false_eq_true, if_true, if_false, mk3, hsp]
      cases hv : spotD ws ["is", "not", "below"] x with
      | true => simp only [ev_var, ev_c, ev_un, ev_bin, ev_anil, ev_acons, ev_fn, ev_tof, ev_tob, ev_tand, ev_tor, ev_tnot, ev_and, ev_or, ev_not, ev_if, ev_chain, ev_true, ev_slice, ev_onone, ev_osome, ev_iseq, ev_irng, ev_ienum, ev_ibin, ev_lc, ev_skip, ev_never, ev_seq, ev_ret, ev_sif, ev_set, ev_expr, ev_asg, ev_par, ev_for, ev_fld, ev_gn, ev_gsnil, ev_gscons, ev_gt, ev_mkfn, ev_bok, ev_berr, ev_bfail, ev_tok, ev_hok, ev_ert, ev_enx, ev_wn, ev_wc, ev_e0, ev_sseq, ev_senum, ev_szip, ev_sltup, ev_ltI, ev_leI, ev_gtI, ev_geI, ev_subI, ev_addI, ev_lenT, List.map_cons, List.map_nil, List.length_cons, List.length_nil, List.cons_append, List.nil_append, List.append_nil, List.getElem?_cons_zero, List.getElem?_cons_succ, List.set_cons_zero, List.set_cons_succ, List.replicate_succ, List.replicate_zero, Nat.reduceAdd, Nat.reduceSub, Nat.reduceEqDiff, reduceIte, Bool.true_eq_false, Bool.false_eq_true, if_true, if_false, condD, hv, Bool.true_or]
      | false => simp only [ev_var, ev_c, ev_un, ev_bin, ev_anil, ev_acons, ev_fn, ev_tof, ev_tob, ev_tand, ev_tor, ev_tnot, ev_and, ev_or, ev_not, ev_if, ev_chain, ev_true, ev_slice, ev_onone, ev_osome, ev_iseq, ev_irng, ev_ienum, ev_ibin, ev_lc, ev_skip, ev_never, ev_seq, ev_ret, ev_sif, ev_set, ev_expr, ev_asg, ev_par, ev_for, ev_fld, ev_gn, ev_gsnil, ev_gscons, ev_gt, ev_mkfn, ev_bok, ev_berr, ev_bfail, ev_tok, ev_hok, ev_ert, ev_enx, ev_wn, ev_wc, ev_e0, ev_sseq, ev_senum, ev_szip, ev_sltup, ev_ltI, ev_leI, ev_gtI, ev_geI, ev_subI, ev_addI, ev_lenT, List.map_cons, List.map_nil, List.length_cons, List.length_nil, List.cons_append, List.nil_append, List.append_nil, List.getElem?_cons_zero, List.getElem?_cons_succ, List.set_cons_zero, List.set_cons_succ, List.replicate_succ, List.replicate_zero, Nat.reduceAdd, Nat.reduceSub, Nat.reduceEqDiff, reduceIte, Bool.true_eq_false, Bool.false_eq_true, if_true, if_false, moment_of hk hd, condD, hv, Bool.false_or]
    · cases h'

def b_is_change : SM := (sRet (eFn s_is_spot (aCons (eVar 0) (aCons (eVar 1) (aCons (eFn mkTup (aCons (eC (.str "put")) (aCons (eC (.str "turn")) aNil))) aNil)))))
def m_is_change : Fm := mkFn 2 2 b_is_change
def s_is_change : Fm := obs 2 fun ds st => match ds with
  | [.tup ws, d] => if dk st d = true ∧ wordsD d = true ∧ ws.all isI = true then some (.bl (changeD ws d)) else none
  | _ => none
theorem a_is_change : Arity 2 s_is_change := obs_ar
theorem change_of {d : D} {st : Sto} {ws : List D} (h : dk st d = true) (hd : wordsD d = true) (hw : ws.all isI = true) : s_is_change [.tup ws, d] st = .ok (.bl (changeD ws d)) st := obs_ok rfl (if_pos ⟨h, hd, hw⟩)
theorem t_is_change : Tells m_is_change s_is_change := .obs fun ds st d g b hl h => by
  match ds, hl, h with
  | [.tup ws, x], _, h =>
    have h' : (if dk st x = true ∧ wordsD x = true ∧ ws.all isI = true then some (D.bl (changeD ws x)) else none) = some d := h
    split at h'
    · rename_i hk
      cases h'
      obtain ⟨hk, hd, hw⟩ := hk
      refine ⟨by simp only [Bnd], [], ?_⟩
      have hsp := spot_of (st := st) (d := x) (ws := ws) (wd := [.str "put", .str "turn"]) (words := ["put", "turn"]) rfl hk hd hw (by decide +kernel)
      simp only [m_is_change, b_is_change, ev_var, ev_c, ev_un, ev_bin, ev_anil, ev_acons, ev_fn, ev_tof, ev_tob, ev_tand, ev_tor, ev_tnot, ev_and, ev_or, ev_not, ev_if, ev_chain, ev_true, ev_slice, ev_onone, ev_osome, ev_iseq, ev_irng, ev_ienum, ev_ibin, ev_lc, ev_skip, ev_never, ev_seq, ev_ret, ev_sif, ev_set, ev_expr, ev_asg, ev_par, ev_for, ev_fld, ev_gn, ev_gsnil, ev_gscons, ev_gt, ev_mkfn, ev_bok, ev_berr, ev_bfail, ev_tok, ev_hok, ev_ert, ev_enx, ev_wn, ev_wc, ev_e0, ev_sseq, ev_senum, ev_szip, ev_sltup, ev_ltI, ev_leI, ev_gtI, ev_geI, ev_subI, ev_addI, ev_lenT, List.map_cons, List.map_nil, List.length_cons, List.length_nil, List.cons_append, List.nil_append, List.append_nil, List.getElem?_cons_zero, List.getElem?_cons_succ, List.set_cons_zero, List.set_cons_succ, List.replicate_succ, List.replicate_zero, Nat.reduceAdd, Nat.reduceSub, Nat.reduceEqDiff, reduceIte, Bool.true_eq_false, Bool.false_eq_true, if_true, if_false, mk2, hsp, changeD]
    · cases h'

def b_is_hush : SM := (sRet (eAnd (eUn (dIsi "tuple") (eVar 0)) (eAnd (eBin (dEq false) (eFn fLen (aCons (eVar 0) aNil)) (eC (.int 2))) (eFn s_is_within (aCons (eBin dIx (eVar 0) (eC (.int 1))) (aCons (eC (.int 1)) (aCons (eC (.int 3)) aNil)))))))
def m_is_hush : Fm := mkFn 1 1 b_is_hush
def s_is_hush : Fm := obs 1 fun ds st => match ds with
  | [d] => if dk st d = true then some (.bl (hushD d)) else none
  | _ => none
theorem a_is_hush : Arity 1 s_is_hush := obs_ar
theorem hush_is {d : D} {st : Sto} (h : dk st d = true) : s_is_hush [d] st = .ok (.bl (hushD d)) st := obs_ok rfl (if_pos h)
theorem t_is_hush : Tells m_is_hush s_is_hush := .obs fun ds st d g b hl h => by
  match ds, hl, h with
  | [x], _, h =>
    have h' : (if dk st x = true then some (D.bl (hushD x)) else none) = some d := h
    split at h'
    · rename_i hk
      cases h'
      refine ⟨by simp only [Bnd], [], ?_⟩
      cases x with
      | tup xs =>
        have hx := dk_tup hk
        by_cases hl : xs.length = 2
        · obtain ⟨x, y, rfl⟩ := len2 hl
          simp only [m_is_hush, b_is_hush, ev_var, ev_c, ev_un, ev_bin, ev_anil, ev_acons, ev_fn, ev_tof, ev_tob, ev_tand, ev_tor, ev_tnot, ev_and, ev_or, ev_not, ev_if, ev_chain, ev_true, ev_slice, ev_onone, ev_osome, ev_iseq, ev_irng, ev_ienum, ev_ibin, ev_lc, ev_skip, ev_never, ev_seq, ev_ret, ev_sif, ev_set, ev_expr, ev_asg, ev_par, ev_for, ev_fld, ev_gn, ev_gsnil, ev_gscons, ev_gt, ev_mkfn, ev_bok, ev_berr, ev_bfail, ev_tok, ev_hok, ev_ert, ev_enx, ev_wn, ev_wc, ev_e0, ev_sseq, ev_senum, ev_szip, ev_sltup, ev_ltI, ev_leI, ev_gtI, ev_geI, ev_subI, ev_addI, ev_lenT, List.map_cons, List.map_nil, List.length_cons, List.length_nil, List.cons_append, List.nil_append, List.append_nil, List.getElem?_cons_zero, List.getElem?_cons_succ, List.set_cons_zero, List.set_cons_succ, List.replicate_succ, List.replicate_zero, Nat.reduceAdd, Nat.reduceSub, Nat.reduceEqDiff, reduceIte, Bool.true_eq_false, Bool.false_eq_true, if_true, if_false, isi_tup, dIx, seqOf, atI2_1, Int.cast_ofNat_Int, eqI, beq_self_eq_true, within_of (dk_kn (hx y (by simp))), hushD]
        · have e : decide ((xs.length : Int) = 2) = false := decide_eq_false (by omega)
          simp only [m_is_hush, b_is_hush, ev_var, ev_c, ev_un, ev_bin, ev_anil, ev_acons, ev_fn, ev_tof, ev_tob, ev_tand, ev_tor, ev_tnot, ev_and, ev_or, ev_not, ev_if, ev_chain, ev_true, ev_slice, ev_onone, ev_osome, ev_iseq, ev_irng, ev_ienum, ev_ibin, ev_lc, ev_skip, ev_never, ev_seq, ev_ret, ev_sif, ev_set, ev_expr, ev_asg, ev_par, ev_for, ev_fld, ev_gn, ev_gsnil, ev_gscons, ev_gt, ev_mkfn, ev_bok, ev_berr, ev_bfail, ev_tok, ev_hok, ev_ert, ev_enx, ev_wn, ev_wc, ev_e0, ev_sseq, ev_senum, ev_szip, ev_sltup, ev_ltI, ev_leI, ev_gtI, ev_geI, ev_subI, ev_addI, ev_lenT, List.map_cons, List.map_nil, List.length_cons, List.length_nil, List.cons_append, List.nil_append, List.append_nil, List.getElem?_cons_zero, List.getElem?_cons_succ, List.set_cons_zero, List.set_cons_succ, List.replicate_succ, List.replicate_zero, Nat.reduceAdd, Nat.reduceSub, Nat.reduceEqDiff, reduceIte, Bool.true_eq_false, Bool.false_eq_true, if_true, if_false, isi_tup, eqN, e]
          congr 2
          unfold hushD
          split
          · rename_i q
            cases q
            exact absurd rfl hl
          · rfl
      | _ =>
        simp only [m_is_hush, b_is_hush, ev_var, ev_c, ev_un, ev_bin, ev_anil, ev_acons, ev_fn, ev_tof, ev_tob, ev_tand, ev_tor, ev_tnot, ev_and, ev_or, ev_not, ev_if, ev_chain, ev_true, ev_slice, ev_onone, ev_osome, ev_iseq, ev_irng, ev_ienum, ev_ibin, ev_lc, ev_skip, ev_never, ev_seq, ev_ret, ev_sif, ev_set, ev_expr, ev_asg, ev_par, ev_for, ev_fld, ev_gn, ev_gsnil, ev_gscons, ev_gt, ev_mkfn, ev_bok, ev_berr, ev_bfail, ev_tok, ev_hok, ev_ert, ev_enx, ev_wn, ev_wc, ev_e0, ev_sseq, ev_senum, ev_szip, ev_sltup, ev_ltI, ev_leI, ev_gtI, ev_geI, ev_subI, ev_addI, ev_lenT, List.map_cons, List.map_nil, List.length_cons, List.length_nil, List.cons_append, List.nil_append, List.append_nil, List.getElem?_cons_zero, List.getElem?_cons_succ, List.set_cons_zero, List.set_cons_succ, List.replicate_succ, List.replicate_zero, Nat.reduceAdd, Nat.reduceSub, Nat.reduceEqDiff, reduceIte, Bool.true_eq_false, Bool.false_eq_true, if_true, if_false, isi_tupD (dk_kn hk)]
        rfl
    · cases h'

def b_is_hushes : SM := (sSeq (sIf (tOr (tNot (tOf (eFn s_is_row (aCons (eVar 1) (aCons (eC (.int 5)) aNil))))) (tNot (tOf (eFn (fAA fun bs => bs.all id) (aCons (cLc (iSeq (eVar 1)) [2] (gN 2) tTrue (eFn s_is_hush (aCons (eVar 2) aNil))) aNil))))) (sRet (eC (.bl false))) sSkip)
    (sRet (eFn s_is_rising (aCons (eFn fTup (aCons (cLc (iSeq (eVar 1)) [3, 4] (gT 2 (gsCons (gN 3) (gsCons (gN 4) gsNil))) tTrue (eVar 3)) aNil)) (aCons (eVar 0) aNil)))))
def m_is_hushes : Fm := mkFn 2 5 b_is_hushes
def s_is_hushes : Fm := obs 2 fun ds st => match ds with
  | [.int n, d] => if dk st d = true then some (.bl (hushesD n d)) else none
  | _ => none
theorem a_is_hushes : Arity 2 s_is_hushes := obs_ar
theorem hushes_of {d : D} {st : Sto} {n : Int} (h : dk st d = true) : s_is_hushes [.int n, d] st = .ok (.bl (hushesD n d)) st := obs_ok rfl (if_pos h)
theorem t_is_hushes : Tells m_is_hushes s_is_hushes := .obs fun ds st d g b hl h => by
  match ds, hl, h with
  | [.int n, x], _, h =>
    have h' : (if dk st x = true then some (D.bl (hushesD n x)) else none) = some d := h
    split at h'
    · rename_i hk
      cases h'
      refine ⟨by simp only [Bnd], ?_⟩
      have hrow : s_is_row [x, .int 5] st = .ok (.bl (rowD 5 x)) st := row_of (n := 5) (dk_kn hk)
      cases x with
      | tup xs =>
        have hx := dk_tup hk
        by_cases h5 : xs.length ≤ 5
        · have hm : xs.length ≤ most := Nat.le_trans h5 (by decide)
          have hr : rowD 5 (.tup xs) = true := decide_eq_true h5
          simp only [m_is_hushes, b_is_hushes, ev_var, ev_c, ev_un, ev_bin, ev_anil, ev_acons, ev_fn, ev_tof, ev_tob, ev_tand, ev_tor, ev_tnot, ev_and, ev_or, ev_not, ev_if, ev_chain, ev_true, ev_slice, ev_onone, ev_osome, ev_iseq, ev_irng, ev_ienum, ev_ibin, ev_lc, ev_skip, ev_never, ev_seq, ev_ret, ev_sif, ev_set, ev_expr, ev_asg, ev_par, ev_for, ev_fld, ev_gn, ev_gsnil, ev_gscons, ev_gt, ev_mkfn, ev_bok, ev_berr, ev_bfail, ev_tok, ev_hok, ev_ert, ev_enx, ev_wn, ev_wc, ev_e0, ev_sseq, ev_senum, ev_szip, ev_sltup, ev_ltI, ev_leI, ev_gtI, ev_geI, ev_subI, ev_addI, ev_lenT, List.map_cons, List.map_nil, List.length_cons, List.length_nil, List.cons_append, List.nil_append, List.append_nil, List.getElem?_cons_zero, List.getElem?_cons_succ, List.set_cons_zero, List.set_cons_succ, List.replicate_succ, List.replicate_zero, Nat.reduceAdd, Nat.reduceSub, Nat.reduceEqDiff, reduceIte, Bool.true_eq_false, Bool.false_eq_true, if_true, if_false, hrow, hr, Bool.not_true]
          rw [startLc_map (f := fun x => .bl (hushD x)) rfl hm fun x h2 acc => ⟨_, rfl, by simp only [ev_var, ev_c, ev_un, ev_bin, ev_anil, ev_acons, ev_fn, ev_tof, ev_tob, ev_tand, ev_tor, ev_tnot, ev_and, ev_or, ev_not, ev_if, ev_chain, ev_true, ev_slice, ev_onone, ev_osome, ev_iseq, ev_irng, ev_ienum, ev_ibin, ev_lc, ev_skip, ev_never, ev_seq, ev_ret, ev_sif, ev_set, ev_expr, ev_asg, ev_par, ev_for, ev_fld, ev_gn, ev_gsnil, ev_gscons, ev_gt, ev_mkfn, ev_bok, ev_berr, ev_bfail, ev_tok, ev_hok, ev_ert, ev_enx, ev_wn, ev_wc, ev_e0, ev_sseq, ev_senum, ev_szip, ev_sltup, ev_ltI, ev_leI, ev_gtI, ev_geI, ev_subI, ev_addI, ev_lenT, List.map_cons, List.map_nil, List.length_cons, List.length_nil, List.cons_append, List.nil_append, List.append_nil, List.getElem?_cons_zero, List.getElem?_cons_succ, List.set_cons_zero, List.set_cons_succ, List.replicate_succ, List.replicate_zero, Nat.reduceAdd, Nat.reduceSub, Nat.reduceEqDiff, reduceIte, Bool.true_eq_false, Bool.false_eq_true, if_true, if_false, hush_is (dk_app (hx x h2))]⟩]
          simp only [ev_var, ev_c, ev_un, ev_bin, ev_anil, ev_acons, ev_fn, ev_tof, ev_tob, ev_tand, ev_tor, ev_tnot, ev_and, ev_or, ev_not, ev_if, ev_chain, ev_true, ev_slice, ev_onone, ev_osome, ev_iseq, ev_irng, ev_ienum, ev_ibin, ev_lc, ev_skip, ev_never, ev_seq, ev_ret, ev_sif, ev_set, ev_expr, ev_asg, ev_par, ev_for, ev_fld, ev_gn, ev_gsnil, ev_gscons, ev_gt, ev_mkfn, ev_bok, ev_berr, ev_bfail, ev_tok, ev_hok, ev_ert, ev_enx, ev_wn, ev_wc, ev_e0, ev_sseq, ev_senum, ev_szip, ev_sltup, ev_ltI, ev_leI, ev_gtI, ev_geI, ev_subI, ev_addI, ev_lenT, List.map_cons, List.map_nil, List.length_cons, List.length_nil, List.cons_append, List.nil_append, List.append_nil, List.getElem?_cons_zero, List.getElem?_cons_succ, List.set_cons_zero, List.set_cons_succ, List.replicate_succ, List.replicate_zero, Nat.reduceAdd, Nat.reduceSub, Nat.reduceEqDiff, reduceIte, Bool.true_eq_false, Bool.false_eq_true, if_true, if_false, aa_end, all_id]
          by_cases ha : xs.all hushD = true
          · simp only [ev_var, ev_c, ev_un, ev_bin, ev_anil, ev_acons, ev_fn, ev_tof, ev_tob, ev_tand, ev_tor, ev_tnot, ev_and, ev_or, ev_not, ev_if, ev_chain, ev_true, ev_slice, ev_onone, ev_osome, ev_iseq, ev_irng, ev_ienum, ev_ibin, ev_lc, ev_skip, ev_never, ev_seq, ev_ret, ev_sif, ev_set, ev_expr, ev_asg, ev_par, ev_for, ev_fld, ev_gn, ev_gsnil, ev_gscons, ev_gt, ev_mkfn, ev_bok, ev_berr, ev_bfail, ev_tok, ev_hok, ev_ert, ev_enx, ev_wn, ev_wc, ev_e0, ev_sseq, ev_senum, ev_szip, ev_sltup, ev_ltI, ev_leI, ev_gtI, ev_geI, ev_subI, ev_addI, ev_lenT, List.map_cons, List.map_nil, List.length_cons, List.length_nil, List.cons_append, List.nil_append, List.append_nil, List.getElem?_cons_zero, List.getElem?_cons_succ, List.set_cons_zero, List.set_cons_succ, List.replicate_succ, List.replicate_zero, Nat.reduceAdd, Nat.reduceSub, Nat.reduceEqDiff, reduceIte, Bool.true_eq_false, Bool.false_eq_true, if_true, if_false, ha, Bool.not_true]
            rw [startLc_map (f := fstD) rfl hm fun x h2 acc => ?_]
            · have hk2 : dk (st ++ [.lst (xs.map fun x => D.bl (hushD x))] ++ [.lst (xs.map fstD)]) (.tup (xs.map fstD)) = true := by
                apply dk_app
                apply dk_app
                exact dk_fsts hx ha
              simp only [ev_var, ev_c, ev_un, ev_bin, ev_anil, ev_acons, ev_fn, ev_tof, ev_tob, ev_tand, ev_tor, ev_tnot, ev_and, ev_or, ev_not, ev_if, ev_chain, ev_true, ev_slice, ev_onone, ev_osome, ev_iseq, ev_irng, ev_ienum, ev_ibin, ev_lc, ev_skip, ev_never, ev_seq, ev_ret, ev_sif, ev_set, ev_expr, ev_asg, ev_par, ev_for, ev_fld, ev_gn, ev_gsnil, ev_gscons, ev_gt, ev_mkfn, ev_bok, ev_berr, ev_bfail, ev_tok, ev_hok, ev_ert, ev_enx, ev_wn, ev_wc, ev_e0, ev_sseq, ev_senum, ev_szip, ev_sltup, ev_ltI, ev_leI, ev_gtI, ev_geI, ev_subI, ev_addI, ev_lenT, List.map_cons, List.map_nil, List.length_cons, List.length_nil, List.cons_append, List.nil_append, List.append_nil, List.getElem?_cons_zero, List.getElem?_cons_succ, List.set_cons_zero, List.set_cons_succ, List.replicate_succ, List.replicate_zero, Nat.reduceAdd, Nat.reduceSub, Nat.reduceEqDiff, reduceIte, Bool.true_eq_false, Bool.false_eq_true, if_true, if_false, fTup, seqOf, lstOf_end, rising_of hk2 (show (xs.map fstD).length ≤ most by rw [List.length_map]; exact hm)]
              refine ⟨_, by rw [List.append_assoc]; congr 2; simp only [hushesD, h5, ha, decide_true, Bool.true_and]⟩
            · obtain ⟨a, b, rfl⟩ := hush_pair (List.all_eq_true.mp ha x h2)
              exact ⟨_, rfl, rfl⟩
          · rw [Bool.not_eq_true] at ha
            simp only [ev_var, ev_c, ev_un, ev_bin, ev_anil, ev_acons, ev_fn, ev_tof, ev_tob, ev_tand, ev_tor, ev_tnot, ev_and, ev_or, ev_not, ev_if, ev_chain, ev_true, ev_slice, ev_onone, ev_osome, ev_iseq, ev_irng, ev_ienum, ev_ibin, ev_lc, ev_skip, ev_never, ev_seq, ev_ret, ev_sif, ev_set, ev_expr, ev_asg, ev_par, ev_for, ev_fld, ev_gn, ev_gsnil, ev_gscons, ev_gt, ev_mkfn, ev_bok, ev_berr, ev_bfail, ev_tok, ev_hok, ev_ert, ev_enx, ev_wn, ev_wc, ev_e0, ev_sseq, ev_senum, ev_szip, ev_sltup, ev_ltI, ev_leI, ev_gtI, ev_geI, ev_subI, ev_addI, ev_lenT, List.map_cons, List.map_nil, List.length_cons, List.length_nil, List.cons_append, List.nil_append, List.append_nil, List.getElem?_cons_zero, List.getElem?_cons_succ, List.set_cons_zero, List.set_cons_succ, List.replicate_succ, List.replicate_zero, Nat.reduceAdd, Nat.reduceSub, Nat.reduceEqDiff, reduceIte, Bool.true_eq_false, Bool.false_eq_true, if_true, if_false, ha, Bool.not_false]
            refine ⟨[.lst (xs.map fun x => D.bl (hushD x))], ?_⟩
            simp only [hushesD, ha, Bool.and_false, Bool.false_and]
        · have hr : rowD 5 (.tup xs) = false := decide_eq_false h5
          refine ⟨[], ?_⟩
          simp only [m_is_hushes, b_is_hushes, ev_var, ev_c, ev_un, ev_bin, ev_anil, ev_acons, ev_fn, ev_tof, ev_tob, ev_tand, ev_tor, ev_tnot, ev_and, ev_or, ev_not, ev_if, ev_chain, ev_true, ev_slice, ev_onone, ev_osome, ev_iseq, ev_irng, ev_ienum, ev_ibin, ev_lc, ev_skip, ev_never, ev_seq, ev_ret, ev_sif, ev_set, ev_expr, ev_asg, ev_par, ev_for, ev_fld, ev_gn, ev_gsnil, ev_gscons, ev_gt, ev_mkfn, ev_bok, ev_berr, ev_bfail, ev_tok, ev_hok, ev_ert, ev_enx, ev_wn, ev_wc, ev_e0, ev_sseq, ev_senum, ev_szip, ev_sltup, ev_ltI, ev_leI, ev_gtI, ev_geI, ev_subI, ev_addI, ev_lenT, List.map_cons, List.map_nil, List.length_cons, List.length_nil, List.cons_append, List.nil_append, List.append_nil, List.getElem?_cons_zero, List.getElem?_cons_succ, List.set_cons_zero, List.set_cons_succ, List.replicate_succ, List.replicate_zero, Nat.reduceAdd, Nat.reduceSub, Nat.reduceEqDiff, reduceIte, Bool.true_eq_false, Bool.false_eq_true, if_true, if_false, hrow, hr, Bool.not_false, hushesD, decide_eq_false h5, Bool.false_and]
      | _ =>
        refine ⟨[], ?_⟩
        simp only [m_is_hushes, b_is_hushes, ev_var, ev_c, ev_un, ev_bin, ev_anil, ev_acons, ev_fn, ev_tof, ev_tob, ev_tand, ev_tor, ev_tnot, ev_and, ev_or, ev_not, ev_if, ev_chain, ev_true, ev_slice, ev_onone, ev_osome, ev_iseq, ev_irng, ev_ienum, ev_ibin, ev_lc, ev_skip, ev_never, ev_seq, ev_ret, ev_sif, ev_set, ev_expr, ev_asg, ev_par, ev_for, ev_fld, ev_gn, ev_gsnil, ev_gscons, ev_gt, ev_mkfn, ev_bok, ev_berr, ev_bfail, ev_tok, ev_hok, ev_ert, ev_enx, ev_wn, ev_wc, ev_e0, ev_sseq, ev_senum, ev_szip, ev_sltup, ev_ltI, ev_leI, ev_gtI, ev_geI, ev_subI, ev_addI, ev_lenT, List.map_cons, List.map_nil, List.length_cons, List.length_nil, List.cons_append, List.nil_append, List.append_nil, List.getElem?_cons_zero, List.getElem?_cons_succ, List.set_cons_zero, List.set_cons_succ, List.replicate_succ, List.replicate_zero, Nat.reduceAdd, Nat.reduceSub, Nat.reduceEqDiff, reduceIte, Bool.true_eq_false, Bool.false_eq_true, if_true, if_false, hrow, rowD, Bool.not_false, hushesD]
    · cases h'

def b_is_wakes : SM := (sSeq (sIf (tOr (tNot (tOf (eFn s_is_row (aCons (eVar 1) (aCons (eC (.int 5)) aNil))))) (tNot (tOf (eFn s_is_rising (aCons (eVar 1) (aCons (eVar 0) aNil)))))) (sRet (eC (.bl false))) sSkip)
    (sRet (eNot (eFn (fAA fun bs => bs.any id) (aCons (cLc (iSeq (eVar 2)) [3, 4] (gT 2 (gsCons (gN 3) (gsCons (gN 4) gsNil))) tTrue (eBin (dIn false) (eVar 3) (eVar 1))) aNil)))))
def m_is_wakes : Fm := mkFn 3 5 b_is_wakes
def s_is_wakes : Fm := obs 3 fun ds st => match ds with
  | [.int n, d, .tup hs] => if dk st d = true ∧ (hs.all fun h => hushD h && isI (fstD h)) = true ∧ hs.length ≤ most then some (.bl (wakesD n d hs)) else none
  | _ => none
theorem a_is_wakes : Arity 3 s_is_wakes := obs_ar
theorem wakes_of {d : D} {st : Sto} {n : Int} {hs : List D} (h : dk st d = true) (hh : (hs.all fun h => hushD h && isI (fstD h)) = true) (hm : hs.length ≤ most) : s_is_wakes [.int n, d, .tup hs] st = .ok (.bl (wakesD n d hs)) st := obs_ok rfl (if_pos ⟨h, hh, hm⟩)
theorem t_is_wakes : Tells m_is_wakes s_is_wakes := .obs fun ds st d g b hl h => by
  match ds, hl, h with
  | [.int n, x, .tup hs], _, h =>
    have h' : (if dk st x = true ∧ (hs.all fun h => hushD h && isI (fstD h)) = true ∧ hs.length ≤ most then some (D.bl (wakesD n x hs)) else none) = some d := h
    split at h'
    · rename_i hk
      cases h'
      obtain ⟨hk, hh, hm⟩ := hk
      refine ⟨by simp only [Bnd], ?_⟩
      have hrow : s_is_row [x, .int 5] st = .ok (.bl (rowD 5 x)) st := row_of (n := 5) (dk_kn hk)
      cases x with
      | tup xs =>
        by_cases h5 : xs.length ≤ 5
        · have hr : rowD 5 (.tup xs) = true := decide_eq_true h5
          have hris := rising_of (n := n) hk (show xs.length ≤ most from Nat.le_trans h5 (by decide))
          simp only [m_is_wakes, b_is_wakes, ev_var, ev_c, ev_un, ev_bin, ev_anil, ev_acons, ev_fn, ev_tof, ev_tob, ev_tand, ev_tor, ev_tnot, ev_and, ev_or, ev_not, ev_if, ev_chain, ev_true, ev_slice, ev_onone, ev_osome, ev_iseq, ev_irng, ev_ienum, ev_ibin, ev_lc, ev_skip, ev_never, ev_seq, ev_ret, ev_sif, ev_set, ev_expr, ev_asg, ev_par, ev_for, ev_fld, ev_gn, ev_gsnil, ev_gscons, ev_gt, ev_mkfn, ev_bok, ev_berr, ev_bfail, ev_tok, ev_hok, ev_ert, ev_enx, ev_wn, ev_wc, ev_e0, ev_sseq, ev_senum, ev_szip, ev_sltup, ev_ltI, ev_leI, ev_gtI, ev_geI, ev_subI, ev_addI, ev_lenT, List.map_cons, List.map_nil, List.length_cons, List.length_nil, List.cons_append, List.nil_append, List.append_nil, List.getElem?_cons_zero, List.getElem?_cons_succ, List.set_cons_zero, List.set_cons_succ, List.replicate_succ, List.replicate_zero, Nat.reduceAdd, Nat.reduceSub, Nat.reduceEqDiff, reduceIte, Bool.true_eq_false, Bool.false_eq_true, if_true, if_false, hrow, hr, Bool.not_true, hris]
          by_cases hg : risingD n (.tup xs) = true
          · simp only [ev_var, ev_c, ev_un, ev_bin, ev_anil, ev_acons, ev_fn, ev_tof, ev_tob, ev_tand, ev_tor, ev_tnot, ev_and, ev_or, ev_not, ev_if, ev_chain, ev_true, ev_slice, ev_onone, ev_osome, ev_iseq, ev_irng, ev_ienum, ev_ibin, ev_lc, ev_skip, ev_never, ev_seq, ev_ret, ev_sif, ev_set, ev_expr, ev_asg, ev_par, ev_for, ev_fld, ev_gn, ev_gsnil, ev_gscons, ev_gt, ev_mkfn, ev_bok, ev_berr, ev_bfail, ev_tok, ev_hok, ev_ert, ev_enx, ev_wn, ev_wc, ev_e0, ev_sseq, ev_senum, ev_szip, ev_sltup, ev_ltI, ev_leI, ev_gtI, ev_geI, ev_subI, ev_addI, ev_lenT, List.map_cons, List.map_nil, List.length_cons, List.length_nil, List.cons_append, List.nil_append, List.append_nil, List.getElem?_cons_zero, List.getElem?_cons_succ, List.set_cons_zero, List.set_cons_succ, List.replicate_succ, List.replicate_zero, Nat.reduceAdd, Nat.reduceSub, Nat.reduceEqDiff, reduceIte, Bool.true_eq_false, Bool.false_eq_true, if_true, if_false, hg, Bool.not_true]
            rw [startLc_map (f := fun h => .bl (memI (fstD h) xs)) rfl hm fun h h2 acc => ?_]
            · simp only [ev_var, ev_c, ev_un, ev_bin, ev_anil, ev_acons, ev_fn, ev_tof, ev_tob, ev_tand, ev_tor, ev_tnot, ev_and, ev_or, ev_not, ev_if, ev_chain, ev_true, ev_slice, ev_onone, ev_osome, ev_iseq, ev_irng, ev_ienum, ev_ibin, ev_lc, ev_skip, ev_never, ev_seq, ev_ret, ev_sif, ev_set, ev_expr, ev_asg, ev_par, ev_for, ev_fld, ev_gn, ev_gsnil, ev_gscons, ev_gt, ev_mkfn, ev_bok, ev_berr, ev_bfail, ev_tok, ev_hok, ev_ert, ev_enx, ev_wn, ev_wc, ev_e0, ev_sseq, ev_senum, ev_szip, ev_sltup, ev_ltI, ev_leI, ev_gtI, ev_geI, ev_subI, ev_addI, ev_lenT, List.map_cons, List.map_nil, List.length_cons, List.length_nil, List.cons_append, List.nil_append, List.append_nil, List.getElem?_cons_zero, List.getElem?_cons_succ, List.set_cons_zero, List.set_cons_succ, List.replicate_succ, List.replicate_zero, Nat.reduceAdd, Nat.reduceSub, Nat.reduceEqDiff, reduceIte, Bool.true_eq_false, Bool.false_eq_true, if_true, if_false, aa_end, any_id]
              refine ⟨_, by congr 2; simp only [wakesD, h5, hg, decide_true, Bool.true_and]⟩
            · have hp := List.all_eq_true.mp hh h h2
              simp only [Bool.and_eq_true] at hp
              obtain ⟨a, b, rfl⟩ := hush_pair hp.1
              have ea := isI_eq hp.2
              refine ⟨_, rfl, ?_⟩
              simp only [fstD] at ea ⊢
              rw [ea]
              simp only [ev_var, ev_c, ev_un, ev_bin, ev_anil, ev_acons, ev_fn, ev_tof, ev_tob, ev_tand, ev_tor, ev_tnot, ev_and, ev_or, ev_not, ev_if, ev_chain, ev_true, ev_slice, ev_onone, ev_osome, ev_iseq, ev_irng, ev_ienum, ev_ibin, ev_lc, ev_skip, ev_never, ev_seq, ev_ret, ev_sif, ev_set, ev_expr, ev_asg, ev_par, ev_for, ev_fld, ev_gn, ev_gsnil, ev_gscons, ev_gt, ev_mkfn, ev_bok, ev_berr, ev_bfail, ev_tok, ev_hok, ev_ert, ev_enx, ev_wn, ev_wc, ev_e0, ev_sseq, ev_senum, ev_szip, ev_sltup, ev_ltI, ev_leI, ev_gtI, ev_geI, ev_subI, ev_addI, ev_lenT, List.map_cons, List.map_nil, List.length_cons, List.length_nil, List.cons_append, List.nil_append, List.append_nil, List.getElem?_cons_zero, List.getElem?_cons_succ, List.set_cons_zero, List.set_cons_succ, List.replicate_succ, List.replicate_zero, Nat.reduceAdd, Nat.reduceSub, Nat.reduceEqDiff, reduceIte, Bool.true_eq_false, Bool.false_eq_true, if_true, if_false, in_ints (rising_ints hg), wI]
          · rw [Bool.not_eq_true] at hg
            refine ⟨[], ?_⟩
            simp only [ev_var, ev_c, ev_un, ev_bin, ev_anil, ev_acons, ev_fn, ev_tof, ev_tob, ev_tand, ev_tor, ev_tnot, ev_and, ev_or, ev_not, ev_if, ev_chain, ev_true, ev_slice, ev_onone, ev_osome, ev_iseq, ev_irng, ev_ienum, ev_ibin, ev_lc, ev_skip, ev_never, ev_seq, ev_ret, ev_sif, ev_set, ev_expr, ev_asg, ev_par, ev_for, ev_fld, ev_gn, ev_gsnil, ev_gscons, ev_gt, ev_mkfn, ev_bok, ev_berr, ev_bfail, ev_tok, ev_hok, ev_ert, ev_enx, ev_wn, ev_wc, ev_e0, ev_sseq, ev_senum, ev_szip, ev_sltup, ev_ltI, ev_leI, ev_gtI, ev_geI, ev_subI, ev_addI, ev_lenT, List.map_cons, List.map_nil, List.length_cons, List.length_nil, List.cons_append, List.nil_append, List.append_nil, List.getElem?_cons_zero, List.getElem?_cons_succ, List.set_cons_zero, List.set_cons_succ, List.replicate_succ, List.replicate_zero, Nat.reduceAdd, Nat.reduceSub, Nat.reduceEqDiff, reduceIte, Bool.true_eq_false, Bool.false_eq_true, if_true, if_false, hg, Bool.not_false, wakesD, Bool.and_false, Bool.false_and]
        · have hr : rowD 5 (.tup xs) = false := decide_eq_false h5
          refine ⟨[], ?_⟩
          simp only [m_is_wakes, b_is_wakes, ev_var, ev_c, ev_un, ev_bin, ev_anil, ev_acons, ev_fn, ev_tof, ev_tob, ev_tand, ev_tor, ev_tnot, ev_and, ev_or, ev_not, ev_if, ev_chain, ev_true, ev_slice, ev_onone, ev_osome, ev_iseq, ev_irng, ev_ienum, ev_ibin, ev_lc, ev_skip, ev_never, ev_seq, ev_ret, ev_sif, ev_set, ev_expr, ev_asg, ev_par, ev_for, ev_fld, ev_gn, ev_gsnil, ev_gscons, ev_gt, ev_mkfn, ev_bok, ev_berr, ev_bfail, ev_tok, ev_hok, ev_ert, ev_enx, ev_wn, ev_wc, ev_e0, ev_sseq, ev_senum, ev_szip, ev_sltup, ev_ltI, ev_leI, ev_gtI, ev_geI, ev_subI, ev_addI, ev_lenT, List.map_cons, List.map_nil, List.length_cons, List.length_nil, List.cons_append, List.nil_append, List.append_nil, List.getElem?_cons_zero, List.getElem?_cons_succ, List.set_cons_zero, List.set_cons_succ, List.replicate_succ, List.replicate_zero, Nat.reduceAdd, Nat.reduceSub, Nat.reduceEqDiff, reduceIte, Bool.true_eq_false, Bool.false_eq_true, if_true, if_false, hrow, hr, Bool.not_false, wakesD, decide_eq_false h5, Bool.false_and]
      | _ =>
        refine ⟨[], ?_⟩
        simp only [m_is_wakes, b_is_wakes, ev_var, ev_c, ev_un, ev_bin, ev_anil, ev_acons, ev_fn, ev_tof, ev_tob, ev_tand, ev_tor, ev_tnot, ev_and, ev_or, ev_not, ev_if, ev_chain, ev_true, ev_slice, ev_onone, ev_osome, ev_iseq, ev_irng, ev_ienum, ev_ibin, ev_lc, ev_skip, ev_never, ev_seq, ev_ret, ev_sif, ev_set, ev_expr, ev_asg, ev_par, ev_for, ev_fld, ev_gn, ev_gsnil, ev_gscons, ev_gt, ev_mkfn, ev_bok, ev_berr, ev_bfail, ev_tok, ev_hok, ev_ert, ev_enx, ev_wn, ev_wc, ev_e0, ev_sseq, ev_senum, ev_szip, ev_sltup, ev_ltI, ev_leI, ev_gtI, ev_geI, ev_subI, ev_addI, ev_lenT, List.map_cons, List.map_nil, List.length_cons, List.length_nil, List.cons_append, List.nil_append, List.append_nil, List.getElem?_cons_zero, List.getElem?_cons_succ, List.set_cons_zero, List.set_cons_succ, List.replicate_succ, List.replicate_zero, Nat.reduceAdd, Nat.reduceSub, Nat.reduceEqDiff, reduceIte, Bool.true_eq_false, Bool.false_eq_true, if_true, if_false, hrow, rowD, Bool.not_false, wakesD]
    · cases h'

def b_is_rule : SM := (sSeq (sIf (tOr (tNot (tOf (eUn (dIsi "tuple") (eVar 2)))) (tOf (eBin (dEq true) (eFn fLen (aCons (eVar 2) aNil)) (eC (.int 4))))) (sRet (eC (.bl false))) sSkip)
    (sSeq (sAsg (eVar 2) (gT 4 (gsCons (gN 3) (gsCons (gN 4) (gsCons (gN 5) (gsCons (gN 6) gsNil))))))
    (sSeq (sIf (tOr (tNot (tOf (eFn s_is_row (aCons (eVar 3) (aCons (eC (.int 4)) aNil))))) (tNot (tOf (eFn s_is_row (aCons (eVar 4) (aCons (eC (.int 3)) aNil)))))) (sRet (eC (.bl false))) sSkip)
    (sSeq (sIf (tNot (tOf (eFn (fAA fun bs => bs.all id) (aCons (cLc (iSeq (eVar 3)) [7] (gN 7) tTrue (eFn s_is_condition (aCons (eVar 0) (aCons (eVar 1) (aCons (eVar 7) aNil))))) aNil)))) (sRet (eC (.bl false))) sSkip)
    (sSeq (sIf (tNot (tOf (eFn (fAA fun bs => bs.all id) (aCons (cLc (iSeq (eVar 4)) [8] (gN 8) tTrue (eFn s_is_change (aCons (eVar 0) (aCons (eVar 8) aNil)))) aNil)))) (sRet (eC (.bl false))) sSkip)
    (sRet (eAnd (eFn s_is_hushes (aCons (eVar 1) (aCons (eVar 5) aNil))) (eFn s_is_wakes (aCons (eVar 1) (aCons (eVar 6) (aCons (eVar 5) aNil)))))))))))
def m_is_rule : Fm := mkFn 3 9 b_is_rule
def s_is_rule : Fm := obs 3 fun ds st => match ds with
  | [.tup ws, .int n, d] => if dk st d = true ∧ ruleWords d = true ∧ ws.all isI = true then some (.bl (ruleD ws n d)) else none
  | _ => none
theorem a_is_rule : Arity 3 s_is_rule := obs_ar
theorem rule_of {d : D} {st : Sto} {ws : List D} {n : Int} (h : dk st d = true) (hd : ruleWords d = true) (hw : ws.all isI = true) : s_is_rule [.tup ws, .int n, d] st = .ok (.bl (ruleD ws n d)) st := obs_ok rfl (if_pos ⟨h, hd, hw⟩)
theorem t_is_rule : Tells m_is_rule s_is_rule := .obs fun ds st d g b hl h => by
  match ds, hl, h with
  | [.tup ws, .int n, x], _, h =>
    have h' : (if dk st x = true ∧ ruleWords x = true ∧ ws.all isI = true then some (D.bl (ruleD ws n x)) else none) = some d := h
    split at h'
    · rename_i hk
      cases h'
      obtain ⟨hk, hd, hw⟩ := hk
      refine ⟨by simp only [Bnd], ?_⟩
      cases x with
      | tup xs =>
        have hx := dk_tup hk
        by_cases hl4 : xs.length = 4
        · obtain ⟨ts, cs, hs, ks, rfl⟩ := len4 hl4
          have kt := hx ts (by simp)
          have kc := hx cs (by simp)
          have kh := hx hs (by simp)
          have kk := hx ks (by simp)
          simp only [ruleWords, Bool.and_eq_true] at hd
          have rt : s_is_row [ts, .int 4] st = .ok (.bl (rowD 4 ts)) st := row_of (n := 4) (dk_kn kt)
          have rc : s_is_row [cs, .int 3] st = .ok (.bl (rowD 3 cs)) st := row_of (n := 3) (dk_kn kc)
          simp only [m_is_rule, b_is_rule, ev_var, ev_c, ev_un, ev_bin, ev_anil, ev_acons, ev_fn, ev_tof, ev_tob, ev_tand, ev_tor, ev_tnot, ev_and, ev_or, ev_not, ev_if, ev_chain, ev_true, ev_slice, ev_onone, ev_osome, ev_iseq, ev_irng, ev_ienum, ev_ibin, ev_lc, ev_skip, ev_never, ev_seq, ev_ret, ev_sif, ev_set, ev_expr, ev_asg, ev_par, ev_for, ev_fld, ev_gn, ev_gsnil, ev_gscons, ev_gt, ev_mkfn, ev_bok, ev_berr, ev_bfail, ev_tok, ev_hok, ev_ert, ev_enx, ev_wn, ev_wc, ev_e0, ev_sseq, ev_senum, ev_szip, ev_sltup, ev_ltI, ev_leI, ev_gtI, ev_geI, ev_subI, ev_addI, ev_lenT, List.map_cons, List.map_nil, List.length_cons, List.length_nil, List.cons_append, List.nil_append, List.append_nil, List.getElem?_cons_zero, List.getElem?_cons_succ, List.set_cons_zero, List.set_cons_succ, List.replicate_succ, List.replicate_zero, Nat.reduceAdd, Nat.reduceSub, Nat.reduceEqDiff, reduceIte, Bool.true_eq_false, Bool.false_eq_true, if_true, if_false, isi_tup, Bool.not_true, Int.cast_ofNat_Int, eqI, beq_self_eq_true, rt]
          cases h1 : rowD 4 ts with
          | false =>
            refine ⟨[], ?_⟩
            simp only [ev_var, ev_c, ev_un, ev_bin, ev_anil, ev_acons, ev_fn, ev_tof, ev_tob, ev_tand, ev_tor, ev_tnot, ev_and, ev_or, ev_not, ev_if, ev_chain, ev_true, ev_slice, ev_onone, ev_osome, ev_iseq, ev_irng, ev_ienum, ev_ibin, ev_lc, ev_skip, ev_never, ev_seq, ev_ret, ev_sif, ev_set, ev_expr, ev_asg, ev_par, ev_for, ev_fld, ev_gn, ev_gsnil, ev_gscons, ev_gt, ev_mkfn, ev_bok, ev_berr, ev_bfail, ev_tok, ev_hok, ev_ert, ev_enx, ev_wn, ev_wc, ev_e0, ev_sseq, ev_senum, ev_szip, ev_sltup, ev_ltI, ev_leI, ev_gtI, ev_geI, ev_subI, ev_addI, ev_lenT, List.map_cons, List.map_nil, List.length_cons, List.length_nil, List.cons_append, List.nil_append, List.append_nil, List.getElem?_cons_zero, List.getElem?_cons_succ, List.set_cons_zero, List.set_cons_succ, List.replicate_succ, List.replicate_zero, Nat.reduceAdd, Nat.reduceSub, Nat.reduceEqDiff, reduceIte, Bool.true_eq_false, Bool.false_eq_true, if_true, if_false, Bool.not_false, ruleD, h1, Bool.false_and]
          | true =>
            simp only [ev_var, ev_c, ev_un, ev_bin, ev_anil, ev_acons, ev_fn, ev_tof, ev_tob, ev_tand, ev_tor, ev_tnot, ev_and, ev_or, ev_not, ev_if, ev_chain, ev_true, ev_slice, ev_onone, ev_osome, ev_iseq, ev_irng, ev_ienum, ev_ibin, ev_lc, ev_skip, ev_never, ev_seq, ev_ret, ev_sif, ev_set, ev_expr, ev_asg, ev_par, ev_for, ev_fld, ev_gn, ev_gsnil, ev_gscons, ev_gt, ev_mkfn, ev_bok, ev_berr, ev_bfail, ev_tok, ev_hok, ev_ert, ev_enx, ev_wn, ev_wc, ev_e0, ev_sseq, ev_senum, ev_szip, ev_sltup, ev_ltI, ev_leI, ev_gtI, ev_geI, ev_subI, ev_addI, ev_lenT, List.map_cons, List.map_nil, List.length_cons, List.length_nil, List.cons_append, List.nil_append, List.append_nil, List.getElem?_cons_zero, List.getElem?_cons_succ, List.set_cons_zero, List.set_cons_succ, List.replicate_succ, List.replicate_zero, Nat.reduceAdd, Nat.reduceSub, Nat.reduceEqDiff, reduceIte, Bool.true_eq_false, Bool.false_eq_true, if_true, if_false, Bool.not_true, rc]
            cases h2 : rowD 3 cs with
            | false =>
              refine ⟨[], ?_⟩
              simp only [ev_var, ev_c, ev_un, ev_bin, ev_anil, ev_acons, ev_fn, ev_tof, ev_tob, ev_tand, ev_tor, ev_tnot, ev_and, ev_or, ev_not, ev_if, ev_chain, ev_true, ev_slice, ev_onone, ev_osome, ev_iseq, ev_irng, ev_ienum, ev_ibin, ev_lc, ev_skip, ev_never, ev_seq, ev_ret, ev_sif, ev_set, ev_expr, ev_asg, ev_par, ev_for, ev_fld, ev_gn, ev_gsnil, ev_gscons, ev_gt, ev_mkfn, ev_bok, ev_berr, ev_bfail, ev_tok, ev_hok, ev_ert, ev_enx, ev_wn, ev_wc, ev_e0, ev_sseq, ev_senum, ev_szip, ev_sltup, ev_ltI, ev_leI, ev_gtI, ev_geI, ev_subI, ev_addI, ev_lenT, List.map_cons, List.map_nil, List.length_cons, List.length_nil, List.cons_append, List.nil_append, List.append_nil, List.getElem?_cons_zero, List.getElem?_cons_succ, List.set_cons_zero, List.set_cons_succ, List.replicate_succ, List.replicate_zero, Nat.reduceAdd, Nat.reduceSub, Nat.reduceEqDiff, reduceIte, Bool.true_eq_false, Bool.false_eq_true, if_true, if_false, Bool.not_false, ruleD, h1, h2, Bool.true_and, Bool.false_and]
            | true =>
              obtain ⟨tl, rfl, ht4⟩ := row_inv h1
              obtain ⟨cl, rfl, hc3⟩ := row_inv h2
              have xt := dk_tup kt
              have xc := dk_tup kc
              simp only [ev_var, ev_c, ev_un, ev_bin, ev_anil, ev_acons, ev_fn, ev_tof, ev_tob, ev_tand, ev_tor, ev_tnot, ev_and, ev_or, ev_not, ev_if, ev_chain, ev_true, ev_slice, ev_onone, ev_osome, ev_iseq, ev_irng, ev_ienum, ev_ibin, ev_lc, ev_skip, ev_never, ev_seq, ev_ret, ev_sif, ev_set, ev_expr, ev_asg, ev_par, ev_for, ev_fld, ev_gn, ev_gsnil, ev_gscons, ev_gt, ev_mkfn, ev_bok, ev_berr, ev_bfail, ev_tok, ev_hok, ev_ert, ev_enx, ev_wn, ev_wc, ev_e0, ev_sseq, ev_senum, ev_szip, ev_sltup, ev_ltI, ev_leI, ev_gtI, ev_geI, ev_subI, ev_addI, ev_lenT, List.map_cons, List.map_nil, List.length_cons, List.length_nil, List.cons_append, List.nil_append, List.append_nil, List.getElem?_cons_zero, List.getElem?_cons_succ, List.set_cons_zero, List.set_cons_succ, List.replicate_succ, List.replicate_zero, Nat.reduceAdd, Nat.reduceSub, Nat.reduceEqDiff, reduceIte, Bool.true_eq_false, Bool.false_eq_true, if_true, if_false, Bool.not_true]
              rw [startLc_map (f := fun x => .bl (condD ws n x)) rfl (Nat.le_trans ht4 (by decide)) fun x q2 acc => ⟨_, rfl, by simp only [ev_var, ev_c, ev_un, ev_bin, ev_anil, ev_acons, ev_fn, ev_tof, ev_tob, ev_tand, ev_tor, ev_tnot, ev_and, ev_or, ev_not, ev_if, ev_chain, ev_true, ev_slice, ev_onone, ev_osome, ev_iseq, ev_irng, ev_ienum, ev_ibin, ev_lc, ev_skip, ev_never, ev_seq, ev_ret, ev_sif, ev_set, ev_expr, ev_asg, ev_par, ev_for, ev_fld, ev_gn, ev_gsnil, ev_gscons, ev_gt, ev_mkfn, ev_bok, ev_berr, ev_bfail, ev_tok, ev_hok, ev_ert, ev_enx, ev_wn, ev_wc, ev_e0, ev_sseq, ev_senum, ev_szip, ev_sltup, ev_ltI, ev_leI, ev_gtI, ev_geI, ev_subI, ev_addI, ev_lenT, List.map_cons, List.map_nil, List.length_cons, List.length_nil, List.cons_append, List.nil_append, List.append_nil, List.getElem?_cons_zero, List.getElem?_cons_succ, List.set_cons_zero, List.set_cons_succ, List.replicate_succ, List.replicate_zero, Nat.reduceAdd, Nat.reduceSub, Nat.reduceEqDiff, reduceIte, Bool.true_eq_false, Bool.false_eq_true, if_true, if_false, cond_of (dk_app (xt x q2)) (List.all_eq_true.mp hd.1 x q2) hw]⟩]
              simp only [ev_var, ev_c, ev_un, ev_bin, ev_anil, ev_acons, ev_fn, ev_tof, ev_tob, ev_tand, ev_tor, ev_tnot, ev_and, ev_or, ev_not, ev_if, ev_chain, ev_true, ev_slice, ev_onone, ev_osome, ev_iseq, ev_irng, ev_ienum, ev_ibin, ev_lc, ev_skip, ev_never, ev_seq, ev_ret, ev_sif, ev_set, ev_expr, ev_asg, ev_par, ev_for, ev_fld, ev_gn, ev_gsnil, ev_gscons, ev_gt, ev_mkfn, ev_bok, ev_berr, ev_bfail, ev_tok, ev_hok, ev_ert, ev_enx, ev_wn, ev_wc, ev_e0, ev_sseq, ev_senum, ev_szip, ev_sltup, ev_ltI, ev_leI, ev_gtI, ev_geI, ev_subI, ev_addI, ev_lenT, List.map_cons, List.map_nil, List.length_cons, List.length_nil, List.cons_append, List.nil_append, List.append_nil, List.getElem?_cons_zero, List.getElem?_cons_succ, List.set_cons_zero, List.set_cons_succ, List.replicate_succ, List.replicate_zero, Nat.reduceAdd, Nat.reduceSub, Nat.reduceEqDiff, reduceIte, Bool.true_eq_false, Bool.false_eq_true, if_true, if_false, aa_end, all_id]
              cases h3 : tl.all (condD ws n) with
              | false =>
                refine ⟨[.lst (tl.map fun x => D.bl (condD ws n x))], ?_⟩
                simp only [ev_var, ev_c, ev_un, ev_bin, ev_anil, ev_acons, ev_fn, ev_tof, ev_tob, ev_tand, ev_tor, ev_tnot, ev_and, ev_or, ev_not, ev_if, ev_chain, ev_true, ev_slice, ev_onone, ev_osome, ev_iseq, ev_irng, ev_ienum, ev_ibin, ev_lc, ev_skip, ev_never, ev_seq, ev_ret, ev_sif, ev_set, ev_expr, ev_asg, ev_par, ev_for, ev_fld, ev_gn, ev_gsnil, ev_gscons, ev_gt, ev_mkfn, ev_bok, ev_berr, ev_bfail, ev_tok, ev_hok, ev_ert, ev_enx, ev_wn, ev_wc, ev_e0, ev_sseq, ev_senum, ev_szip, ev_sltup, ev_ltI, ev_leI, ev_gtI, ev_geI, ev_subI, ev_addI, ev_lenT, List.map_cons, List.map_nil, List.length_cons, List.length_nil, List.cons_append, List.nil_append, List.append_nil, List.getElem?_cons_zero, List.getElem?_cons_succ, List.set_cons_zero, List.set_cons_succ, List.replicate_succ, List.replicate_zero, Nat.reduceAdd, Nat.reduceSub, Nat.reduceEqDiff, reduceIte, Bool.true_eq_false, Bool.false_eq_true, if_true, if_false, Bool.not_false, ruleD, h1, h2, tupsD, h3, Bool.true_and, Bool.false_and]
              | true =>
                simp only [ev_var, ev_c, ev_un, ev_bin, ev_anil, ev_acons, ev_fn, ev_tof, ev_tob, ev_tand, ev_tor, ev_tnot, ev_and, ev_or, ev_not, ev_if, ev_chain, ev_true, ev_slice, ev_onone, ev_osome, ev_iseq, ev_irng, ev_ienum, ev_ibin, ev_lc, ev_skip, ev_never, ev_seq, ev_ret, ev_sif, ev_set, ev_expr, ev_asg, ev_par, ev_for, ev_fld, ev_gn, ev_gsnil, ev_gscons, ev_gt, ev_mkfn, ev_bok, ev_berr, ev_bfail, ev_tok, ev_hok, ev_ert, ev_enx, ev_wn, ev_wc, ev_e0, ev_sseq, ev_senum, ev_szip, ev_sltup, ev_ltI, ev_leI, ev_gtI, ev_geI, ev_subI, ev_addI, ev_lenT, List.map_cons, List.map_nil, List.length_cons, List.length_nil, List.cons_append, List.nil_append, List.append_nil, List.getElem?_cons_zero, List.getElem?_cons_succ, List.set_cons_zero, List.set_cons_succ, List.replicate_succ, List.replicate_zero, Nat.reduceAdd, Nat.reduceSub, Nat.reduceEqDiff, reduceIte, Bool.true_eq_false, Bool.false_eq_true, if_true, if_false, Bool.not_true]
                rw [startLc_map (f := fun x => .bl (changeD ws x)) rfl (Nat.le_trans hc3 (by decide)) fun x q2 acc => ⟨_, rfl, by simp only [ev_var, ev_c, ev_un, ev_bin, ev_anil, ev_acons, ev_fn, ev_tof, ev_tob, ev_tand, ev_tor, ev_tnot, ev_and, ev_or, ev_not, ev_if, ev_chain, ev_true, ev_slice, ev_onone, ev_osome, ev_iseq, ev_irng, ev_ienum, ev_ibin, ev_lc, ev_skip, ev_never, ev_seq, ev_ret, ev_sif, ev_set, ev_expr, ev_asg, ev_par, ev_for, ev_fld, ev_gn, ev_gsnil, ev_gscons, ev_gt, ev_mkfn, ev_bok, ev_berr, ev_bfail, ev_tok, ev_hok, ev_ert, ev_enx, ev_wn, ev_wc, ev_e0, ev_sseq, ev_senum, ev_szip, ev_sltup, ev_ltI, ev_leI, ev_gtI, ev_geI, ev_subI, ev_addI, ev_lenT, List.map_cons, List.map_nil, List.length_cons, List.length_nil, List.cons_append, List.nil_append, List.append_nil, List.getElem?_cons_zero, List.getElem?_cons_succ, List.set_cons_zero, List.set_cons_succ, List.replicate_succ, List.replicate_zero, Nat.reduceAdd, Nat.reduceSub, Nat.reduceEqDiff, reduceIte, Bool.true_eq_false, Bool.false_eq_true, if_true, if_false, change_of (dk_app (dk_app (xc x q2))) (List.all_eq_true.mp hd.2 x q2) hw]⟩]
                simp only [ev_var, ev_c, ev_un, ev_bin, ev_anil, ev_acons, ev_fn, ev_tof, ev_tob, ev_tand, ev_tor, ev_tnot, ev_and, ev_or, ev_not, ev_if, ev_chain, ev_true, ev_slice, ev_onone, ev_osome, ev_iseq, ev_irng, ev_ienum, ev_ibin, ev_lc, ev_skip, ev_never, ev_seq, ev_ret, ev_sif, ev_set, ev_expr, ev_asg, ev_par, ev_for, ev_fld, ev_gn, ev_gsnil, ev_gscons, ev_gt, ev_mkfn, ev_bok, ev_berr, ev_bfail, ev_tok, ev_hok, ev_ert, ev_enx, ev_wn, ev_wc, ev_e0, ev_sseq, ev_senum, ev_szip, ev_sltup, ev_ltI, ev_leI, ev_gtI, ev_geI, ev_subI, ev_addI, ev_lenT, List.map_cons, List.map_nil, List.length_cons, List.length_nil, List.cons_append, List.nil_append, List.append_nil, List.getElem?_cons_zero, List.getElem?_cons_succ, List.set_cons_zero, List.set_cons_succ, List.replicate_succ, List.replicate_zero, Nat.reduceAdd, Nat.reduceSub, Nat.reduceEqDiff, reduceIte, Bool.true_eq_false, Bool.false_eq_true, if_true, if_false, aa_end, all_id]
                cases h4 : cl.all (changeD ws) with
                | false =>
                  refine ⟨[.lst (tl.map fun x => D.bl (condD ws n x)), .lst (cl.map fun x => D.bl (changeD ws x))], ?_⟩
                  simp only [ev_var, ev_c, ev_un, ev_bin, ev_anil, ev_acons, ev_fn, ev_tof, ev_tob, ev_tand, ev_tor, ev_tnot, ev_and, ev_or, ev_not, ev_if, ev_chain, ev_true, ev_slice, ev_onone, ev_osome, ev_iseq, ev_irng, ev_ienum, ev_ibin, ev_lc, ev_skip, ev_never, ev_seq, ev_ret, ev_sif, ev_set, ev_expr, ev_asg, ev_par, ev_for, ev_fld, ev_gn, ev_gsnil, ev_gscons, ev_gt, ev_mkfn, ev_bok, ev_berr, ev_bfail, ev_tok, ev_hok, ev_ert, ev_enx, ev_wn, ev_wc, ev_e0, ev_sseq, ev_senum, ev_szip, ev_sltup, ev_ltI, ev_leI, ev_gtI, ev_geI, ev_subI, ev_addI, ev_lenT, List.map_cons, List.map_nil, List.length_cons, List.length_nil, List.cons_append, List.nil_append, List.append_nil, List.getElem?_cons_zero, List.getElem?_cons_succ, List.set_cons_zero, List.set_cons_succ, List.replicate_succ, List.replicate_zero, Nat.reduceAdd, Nat.reduceSub, Nat.reduceEqDiff, reduceIte, Bool.true_eq_false, Bool.false_eq_true, if_true, if_false, Bool.not_false, ruleD, h1, h2, tupsD, h3, h4, Bool.true_and, Bool.false_and, List.append_assoc]
                | true =>
                  refine ⟨[.lst (tl.map fun x => D.bl (condD ws n x)), .lst (cl.map fun x => D.bl (changeD ws x))], ?_⟩
                  simp only [ev_var, ev_c, ev_un, ev_bin, ev_anil, ev_acons, ev_fn, ev_tof, ev_tob, ev_tand, ev_tor, ev_tnot, ev_and, ev_or, ev_not, ev_if, ev_chain, ev_true, ev_slice, ev_onone, ev_osome, ev_iseq, ev_irng, ev_ienum, ev_ibin, ev_lc, ev_skip, ev_never, ev_seq, ev_ret, ev_sif, ev_set, ev_expr, ev_asg, ev_par, ev_for, ev_fld, ev_gn, ev_gsnil, ev_gscons, ev_gt, ev_mkfn, ev_bok, ev_berr, ev_bfail, ev_tok, ev_hok, ev_ert, ev_enx, ev_wn, ev_wc, ev_e0, ev_sseq, ev_senum, ev_szip, ev_sltup, ev_ltI, ev_leI, ev_gtI, ev_geI, ev_subI, ev_addI, ev_lenT, List.map_cons, List.map_nil, List.length_cons, List.length_nil, List.cons_append, List.nil_append, List.append_nil, List.getElem?_cons_zero, List.getElem?_cons_succ, List.set_cons_zero, List.set_cons_succ, List.replicate_succ, List.replicate_zero, Nat.reduceAdd, Nat.reduceSub, Nat.reduceEqDiff, reduceIte, Bool.true_eq_false, Bool.false_eq_true, if_true, if_false, Bool.not_true, hushes_of (dk_app (dk_app kh))]
                  cases h5 : hushesD n hs with
                  | false => simp only [ev_var, ev_c, ev_un, ev_bin, ev_anil, ev_acons, ev_fn, ev_tof, ev_tob, ev_tand, ev_tor, ev_tnot, ev_and, ev_or, ev_not, ev_if, ev_chain, ev_true, ev_slice, ev_onone, ev_osome, ev_iseq, ev_irng, ev_ienum, ev_ibin, ev_lc, ev_skip, ev_never, ev_seq, ev_ret, ev_sif, ev_set, ev_expr, ev_asg, ev_par, ev_for, ev_fld, ev_gn, ev_gsnil, ev_gscons, ev_gt, ev_mkfn, ev_bok, ev_berr, ev_bfail, ev_tok, ev_hok, ev_ert, ev_enx, ev_wn, ev_wc, ev_e0, ev_sseq, ev_senum, ev_szip, ev_sltup, ev_ltI, ev_leI, ev_gtI, ev_geI, ev_subI, ev_addI, ev_lenT, List.map_cons, List.map_nil, List.length_cons, List.length_nil, List.cons_append, List.nil_append, List.append_nil, List.getElem?_cons_zero, List.getElem?_cons_succ, List.set_cons_zero, List.set_cons_succ, List.replicate_succ, List.replicate_zero, Nat.reduceAdd, Nat.reduceSub, Nat.reduceEqDiff, reduceIte, Bool.true_eq_false, Bool.false_eq_true, if_true, if_false, ruleD, h1, h2, tupsD, h3, h4, h5, Bool.true_and, Bool.false_and, List.append_assoc]
                  | true =>
                    obtain ⟨hl2, rfl, hm5, hall⟩ := hushes_inv h5
                    simp only [ev_var, ev_c, ev_un, ev_bin, ev_anil, ev_acons, ev_fn, ev_tof, ev_tob, ev_tand, ev_tor, ev_tnot, ev_and, ev_or, ev_not, ev_if, ev_chain, ev_true, ev_slice, ev_onone, ev_osome, ev_iseq, ev_irng, ev_ienum, ev_ibin, ev_lc, ev_skip, ev_never, ev_seq, ev_ret, ev_sif, ev_set, ev_expr, ev_asg, ev_par, ev_for, ev_fld, ev_gn, ev_gsnil, ev_gscons, ev_gt, ev_mkfn, ev_bok, ev_berr, ev_bfail, ev_tok, ev_hok, ev_ert, ev_enx, ev_wn, ev_wc, ev_e0, ev_sseq, ev_senum, ev_szip, ev_sltup, ev_ltI, ev_leI, ev_gtI, ev_geI, ev_subI, ev_addI, ev_lenT, List.map_cons, List.map_nil, List.length_cons, List.length_nil, List.cons_append, List.nil_append, List.append_nil, List.getElem?_cons_zero, List.getElem?_cons_succ, List.set_cons_zero, List.set_cons_succ, List.replicate_succ, List.replicate_zero, Nat.reduceAdd, Nat.reduceSub, Nat.reduceEqDiff, reduceIte, Bool.true_eq_false, Bool.false_eq_true, if_true, if_false, wakes_of (dk_app (dk_app kk)) hall hm5]
                    simp only [ruleD, h1, h2, tupsD, h3, h4, h5, Bool.true_and, List.append_assoc, List.cons_append, List.nil_append]
        · have e : decide ((xs.length : Int) = 4) = false := decide_eq_false (by omega)
          refine ⟨[], ?_⟩
          simp only [m_is_rule, b_is_rule, ev_var, ev_c, ev_un, ev_bin, ev_anil, ev_acons, ev_fn, ev_tof, ev_tob, ev_tand, ev_tor, ev_tnot, ev_and, ev_or, ev_not, ev_if, ev_chain, ev_true, ev_slice, ev_onone, ev_osome, ev_iseq, ev_irng, ev_ienum, ev_ibin, ev_lc, ev_skip, ev_never, ev_seq, ev_ret, ev_sif, ev_set, ev_expr, ev_asg, ev_par, ev_for, ev_fld, ev_gn, ev_gsnil, ev_gscons, ev_gt, ev_mkfn, ev_bok, ev_berr, ev_bfail, ev_tok, ev_hok, ev_ert, ev_enx, ev_wn, ev_wc, ev_e0, ev_sseq, ev_senum, ev_szip, ev_sltup, ev_ltI, ev_leI, ev_gtI, ev_geI, ev_subI, ev_addI, ev_lenT, List.map_cons, List.map_nil, List.length_cons, List.length_nil, List.cons_append, List.nil_append, List.append_nil, List.getElem?_cons_zero, List.getElem?_cons_succ, List.set_cons_zero, List.set_cons_succ, List.replicate_succ, List.replicate_zero, Nat.reduceAdd, Nat.reduceSub, Nat.reduceEqDiff, reduceIte, Bool.true_eq_false, Bool.false_eq_true, if_true, if_false, isi_tup, Bool.not_true, eqN, e, Bool.not_false]
          congr 2
          unfold ruleD
          split
          · rename_i q
            cases q
            exact absurd rfl hl4
          · rfl
      | _ =>
        refine ⟨[], ?_⟩
        simp only [m_is_rule, b_is_rule, ev_var, ev_c, ev_un, ev_bin, ev_anil, ev_acons, ev_fn, ev_tof, ev_tob, ev_tand, ev_tor, ev_tnot, ev_and, ev_or, ev_not, ev_if, ev_chain, ev_true, ev_slice, ev_onone, ev_osome, ev_iseq, ev_irng, ev_ienum, ev_ibin, ev_lc, ev_skip, ev_never, ev_seq, ev_ret, ev_sif, ev_set, ev_expr, ev_asg, ev_par, ev_for, ev_fld, ev_gn, ev_gsnil, ev_gscons, ev_gt, ev_mkfn, ev_bok, ev_berr, ev_bfail, ev_tok, ev_hok, ev_ert, ev_enx, ev_wn, ev_wc, ev_e0, ev_sseq, ev_senum, ev_szip, ev_sltup, ev_ltI, ev_leI, ev_gtI, ev_geI, ev_subI, ev_addI, ev_lenT, List.map_cons, List.map_nil, List.length_cons, List.length_nil, List.cons_append, List.nil_append, List.append_nil, List.getElem?_cons_zero, List.getElem?_cons_succ, List.set_cons_zero, List.set_cons_succ, List.replicate_succ, List.replicate_zero, Nat.reduceAdd, Nat.reduceSub, Nat.reduceEqDiff, reduceIte, Bool.true_eq_false, Bool.false_eq_true, if_true, if_false, isi_tupD (dk_kn hk)]
        rfl
    · cases h'

def b_Book_init : SM := (sSeq (sIf (tOr (tNot (tOf (eFn s_is_wheels (aCons (eVar 1) aNil)))) (tNot (tOf (eFn s_is_row (aCons (eVar 2) (aCons (eC (.int 5)) aNil)))))) sNever sSkip)
    (sSeq (sFor (iEnum (eVar 2)) (gT 2 (gsCons (gN 3) (gsCons (gN 4) gsNil))) (sIf (tNot (tOf (eFn s_is_rule (aCons (eVar 1) (aCons (eFn fLen (aCons (eVar 2) aNil)) (aCons (eVar 4) aNil)))))) sNever sSkip))
    (sSeq (sFldM "Book" "wheels" (eVar 0) (eVar 1))
    (sFldM "Book" "rules" (eVar 0) (eVar 2)))))
def m_Book_init : Fm := mkFn 3 5 b_Book_init
def s_Book_init : Fm := wr 3 fun ds st => match ds with
  | [.ref k, .tup ws, .tup rs] => match st[k]? with
    | some (.ins c []) => if c = "Book" ∧ dk st (.tup ws) = true ∧ dk st (.tup rs) = true ∧ wheelsD (.tup ws) = true ∧ rs.length ≤ 5 ∧ (rs.all fun r => ruleWords r && ruleD ws rs.length r) = true then some (.non, st.set k (bookO ws rs)) else none
    | _ => none
  | _ => none
theorem a_Book_init : Arity 3 s_Book_init := wr_ar
theorem t_Book_init : Tells m_Book_init s_Book_init := .wr fun ds st d st1 g b hl h => by
  match ds, hl, h with
  | [.ref k, .tup ws, .tup rs], _, h =>
    have h' : (match st[k]? with | some (.ins c []) => if c = "Book" ∧ dk st (.tup ws) = true ∧ dk st (.tup rs) = true ∧ wheelsD (.tup ws) = true ∧ rs.length ≤ 5 ∧ (rs.all fun r => ruleWords r && ruleD ws rs.length r) = true then some (D.non, st.set k (bookO ws rs)) else none | _ => none) = some (d, st1) := h
    split at h'
    · rename_i c hq
      split at h'
      · rename_i hc
        cases h'
        obtain ⟨rfl, kw, kr, hw, h5, hall⟩ := hc
        have hk : k < st.length := (List.getElem?_eq_some_iff.mp hq).1
        simp only [Bnds] at b
        refine ⟨by simp, good_set g (by simp only [bookO, BndO, List.map_cons, List.map_nil, Bnds]; exact ⟨b.2.1, b.2.2.1, trivial⟩), by simp only [Bnd], [], ?_⟩
        have hI := wheels_ints hw
        have xr := dk_tup kr
        have r5 : s_is_row [.tup rs, .int 5] st = .ok (.bl true) st := by
          have := row_of (n := 5) (d := .tup rs) (st := st) rfl
          rw [show rowD 5 (.tup rs) = true from decide_eq_true h5] at this
          exact this
        simp only [m_Book_init, b_Book_init, ev_var, ev_c, ev_un, ev_bin, ev_anil, ev_acons, ev_fn, ev_tof, ev_tob, ev_tand, ev_tor, ev_tnot, ev_and, ev_or, ev_not, ev_if, ev_chain, ev_true, ev_slice, ev_onone, ev_osome, ev_iseq, ev_irng, ev_ienum, ev_ibin, ev_lc, ev_skip, ev_never, ev_seq, ev_ret, ev_sif, ev_set, ev_expr, ev_asg, ev_par, ev_for, ev_fld, ev_gn, ev_gsnil, ev_gscons, ev_gt, ev_mkfn, ev_bok, ev_berr, ev_bfail, ev_tok, ev_hok, ev_ert, ev_enx, ev_wn, ev_wc, ev_e0, ev_sseq, ev_senum, ev_szip, ev_sltup, ev_ltI, ev_leI, ev_gtI, ev_geI, ev_subI, ev_addI, ev_lenT, List.map_cons, List.map_nil, List.length_cons, List.length_nil, List.cons_append, List.nil_append, List.append_nil, List.getElem?_cons_zero, List.getElem?_cons_succ, List.set_cons_zero, List.set_cons_succ, List.replicate_succ, List.replicate_zero, Nat.reduceAdd, Nat.reduceSub, Nat.reduceEqDiff, reduceIte, Bool.true_eq_false, Bool.false_eq_true, if_true, if_false, wheels_of kw, hw, r5, Bool.not_true]
        obtain ⟨env', e1, x, y, e2⟩ := startFor_inv (s := .fix (enumFrom 0 rs)) (g := gT 2 (gsCons (gN 3) (gsCons (gN 4) gsNil))) (st := st) (xs := enumFrom 0 rs) (env := [some (.ref k), some (.tup ws), some (.tup rs), none, none])
          (body := sIf (tNot (tOf (eFn s_is_rule (aCons (eVar 1) (aCons (eFn fLen (aCons (eVar 2) aNil)) (aCons (eVar 4) aNil)))))) sNever sSkip) rfl (fun env => ∃ x y, env = [some (.ref k), some (.tup ws), some (.tup rs), x, y]) ⟨none, none, rfl⟩ fun p hp env ⟨x, y, he⟩ => by
            subst he
            obtain ⟨i, hi⟩ := List.getElem?_of_mem hp
            obtain ⟨r, hr, rfl⟩ := enum_get hi
            have hm := List.mem_of_getElem? hr
            have hq2 := List.all_eq_true.mp hall r hm
            simp only [Bool.and_eq_true] at hq2
            refine ⟨_, [some (.ref k), some (.tup ws), some (.tup rs), some (.int ((0 + i : Nat) : Int)), some r], rfl, ?_, _, _, rfl⟩
            simp only [ev_var, ev_c, ev_un, ev_bin, ev_anil, ev_acons, ev_fn, ev_tof, ev_tob, ev_tand, ev_tor, ev_tnot, ev_and, ev_or, ev_not, ev_if, ev_chain, ev_true, ev_slice, ev_onone, ev_osome, ev_iseq, ev_irng, ev_ienum, ev_ibin, ev_lc, ev_skip, ev_never, ev_seq, ev_ret, ev_sif, ev_set, ev_expr, ev_asg, ev_par, ev_for, ev_fld, ev_gn, ev_gsnil, ev_gscons, ev_gt, ev_mkfn, ev_bok, ev_berr, ev_bfail, ev_tok, ev_hok, ev_ert, ev_enx, ev_wn, ev_wc, ev_e0, ev_sseq, ev_senum, ev_szip, ev_sltup, ev_ltI, ev_leI, ev_gtI, ev_geI, ev_subI, ev_addI, ev_lenT, List.map_cons, List.map_nil, List.length_cons, List.length_nil, List.cons_append, List.nil_append, List.append_nil, List.getElem?_cons_zero, List.getElem?_cons_succ, List.set_cons_zero, List.set_cons_succ, List.replicate_succ, List.replicate_zero, Nat.reduceAdd, Nat.reduceSub, Nat.reduceEqDiff, reduceIte, Bool.true_eq_false, Bool.false_eq_true, if_true, if_false, rule_of (xr r hm) hq2.1 hI, hq2.2, Bool.not_true]
        rw [e1, e2]
        simp only [ev_var, ev_c, ev_un, ev_bin, ev_anil, ev_acons, ev_fn, ev_tof, ev_tob, ev_tand, ev_tor, ev_tnot, ev_and, ev_or, ev_not, ev_if, ev_chain, ev_true, ev_slice, ev_onone, ev_osome, ev_iseq, ev_irng, ev_ienum, ev_ibin, ev_lc, ev_skip, ev_never, ev_seq, ev_ret, ev_sif, ev_set, ev_expr, ev_asg, ev_par, ev_for, ev_fld, ev_gn, ev_gsnil, ev_gscons, ev_gt, ev_mkfn, ev_bok, ev_berr, ev_bfail, ev_tok, ev_hok, ev_ert, ev_enx, ev_wn, ev_wc, ev_e0, ev_sseq, ev_senum, ev_szip, ev_sltup, ev_ltI, ev_leI, ev_gtI, ev_geI, ev_subI, ev_addI, ev_lenT, List.map_cons, List.map_nil, List.length_cons, List.length_nil, List.cons_append, List.nil_append, List.append_nil, List.getElem?_cons_zero, List.getElem?_cons_succ, List.set_cons_zero, List.set_cons_succ, List.replicate_succ, List.replicate_zero, Nat.reduceAdd, Nat.reduceSub, Nat.reduceEqDiff, reduceIte, Bool.true_eq_false, Bool.false_eq_true, if_true, if_false, setFld_ok hq (show ([] : List (Str × D)).length < 400 by decide)]
        rw [setFld_ok (get_set hk) (by simp [putD])]
        simp only [ev_var, ev_c, ev_un, ev_bin, ev_anil, ev_acons, ev_fn, ev_tof, ev_tob, ev_tand, ev_tor, ev_tnot, ev_and, ev_or, ev_not, ev_if, ev_chain, ev_true, ev_slice, ev_onone, ev_osome, ev_iseq, ev_irng, ev_ienum, ev_ibin, ev_lc, ev_skip, ev_never, ev_seq, ev_ret, ev_sif, ev_set, ev_expr, ev_asg, ev_par, ev_for, ev_fld, ev_gn, ev_gsnil, ev_gscons, ev_gt, ev_mkfn, ev_bok, ev_berr, ev_bfail, ev_tok, ev_hok, ev_ert, ev_enx, ev_wn, ev_wc, ev_e0, ev_sseq, ev_senum, ev_szip, ev_sltup, ev_ltI, ev_leI, ev_gtI, ev_geI, ev_subI, ev_addI, ev_lenT, List.map_cons, List.map_nil, List.length_cons, List.length_nil, List.cons_append, List.nil_append, List.append_nil, List.getElem?_cons_zero, List.getElem?_cons_succ, List.set_cons_zero, List.set_cons_succ, List.replicate_succ, List.replicate_zero, Nat.reduceAdd, Nat.reduceSub, Nat.reduceEqDiff, reduceIte, Bool.true_eq_false, Bool.false_eq_true, if_true, if_false, List.set_set, book_put]
      · cases h'
    · cases h'
theorem book_init_of {st : Sto} {k : Nat} {ws rs : List D} (hq : st[k]? = some (.ins "Book" [])) (kw : dk st (.tup ws) = true) (kr : dk st (.tup rs) = true) (hw : wheelsD (.tup ws) = true) (h5 : rs.length ≤ 5) (ha : (rs.all fun r => ruleWords r && ruleD ws rs.length r) = true) : s_Book_init [.ref k, .tup ws, .tup rs] st = .ok .non (st.set k (bookO ws rs)) := by
  refine wr_ok rfl ?_
  show (match st[k]? with | some (.ins c []) => if c = "Book" ∧ dk st (.tup ws) = true ∧ dk st (.tup rs) = true ∧ wheelsD (.tup ws) = true ∧ rs.length ≤ 5 ∧ (rs.all fun r => ruleWords r && ruleD ws rs.length r) = true then some (D.non, st.set k (bookO ws rs)) else none | _ => none) = _
  rw [hq]
  show (if ("Book" : Str) = ("Book" : Str) ∧ dk st (.tup ws) = true ∧ dk st (.tup rs) = true ∧ wheelsD (.tup ws) = true ∧ rs.length ≤ 5 ∧ (rs.all fun r => ruleWords r && ruleD ws rs.length r) = true then some (D.non, st.set k (bookO ws rs)) else none) = _
  rw [if_pos ⟨rfl, kw, kr, hw, h5, ha⟩]
theorem book_made {st : Sto} {ws rs : List D} (kw : dk st (.tup ws) = true) (kr : dk st (.tup rs) = true) (hw : wheelsD (.tup ws) = true) (h5 : rs.length ≤ 5) (ha : (rs.all fun r => ruleWords r && ruleD ws rs.length r) = true) : mkIns "Book" s_Book_init [.tup ws, .tup rs] st = .ok (.ref st.length) (st ++ [bookO ws rs]) := by
  unfold mkIns
  rw [book_init_of get_end (dk_app kw) (dk_app kr) hw h5 ha, set_end]
  rfl

def b_Book_eq : SM := (sRet (eAnd (eUn (dIsiCD "Book") (eVar 1)) (eAnd (eBin (dEq false) (eUn (dFld "Book" "wheels") (eVar 0)) (eUn (dFld "Book" "wheels") (eVar 1))) (eBin (dEq false) (eUn (dFld "Book" "rules") (eVar 0)) (eUn (dFld "Book" "rules") (eVar 1))))))
def m_Book_eq : Fm := mkFn 2 2 b_Book_eq
def b_Book_len : SM := (sRet (eFn fLen (aCons (eUn (dFld "Book" "rules") (eVar 0)) aNil)))
def m_Book_len : Fm := mkFn 1 1 b_Book_len
def b_Book_repr : SM := (sRet (joinEs [(eC (.str "Book(")), (eFmt (eFn fLen (aCons (eUn (dFld "Book" "wheels") (eVar 0)) aNil))), (eC (.str ", ")), (eFmt (eFn fLen (aCons (eUn (dFld "Book" "rules") (eVar 0)) aNil))), (eC (.str ")"))] Str.empty))
def m_Book_repr : Fm := mkFn 1 1 b_Book_repr
def b_spaced : SM := (sRet (eUn (dJoin " ") (cLc (iSeq (eVar 0)) [1] (gN 1) tTrue (eFn fStrI (aCons (eVar 1) aNil)))))
def m_spaced : Fm := mkFn 1 2 b_spaced
def b_rule_line : SM := (sSeq (sAsg (eVar 0) (gT 4 (gsCons (gN 2) (gsCons (gN 3) (gsCons (gN 4) (gsCons (gN 5) gsNil))))))
    (sSeq (sSet 1 (eFn mkLst (aCons (cLc (iSeq (eVar 2)) [6] (gN 6) tTrue (eFn m_spaced (aCons (eVar 6) aNil))) (aCons (cLc (iSeq (eVar 3)) [7] (gN 7) tTrue (eFn m_spaced (aCons (eVar 7) aNil))) (aCons (cLc (iSeq (eVar 4)) [8, 10] (gT 2 (gsCons (gN 8) (gsCons (gN 10) gsNil))) tTrue (joinEs [(eFmt (eVar 8)), (eC (.str " for ")), (eFmt (eVar 10))] Str.empty)) (aCons (cLc (iSeq (eVar 5)) [8] (gN 8) tTrue (eFn fStrI (aCons (eVar 8) aNil))) aNil))))))
    (sRet (eUn (dJoin " / ") (cLc (iSeq (eVar 1)) [9] (gN 9) tTrue (eIf (tOf (eBin dGt (eFn fLen (aCons (eVar 9) aNil)) (eC (.int 0)))) (eUn (dJoin ", ") (eVar 9)) (eC (.str "-"))))))))
def m_rule_line : Fm := mkFn 1 11 b_rule_line
def b_book_lines : SM := (sRet (eBin dAdd (eFn mkLst (aCons (eBin dAdd (eC (.str "wheels ")) (eFn m_spaced (aCons (eVar 0) aNil))) aNil)) (cLc (iSeq (eVar 1)) [2] (gN 2) tTrue (eFn m_rule_line (aCons (eVar 2) aNil)))))
def m_book_lines : Fm := mkFn 2 3 b_book_lines
def b_Book_str : SM := (sRet (eUn (dJoin "\n") (eFn m_book_lines (aCons (eUn (dFld "Book" "wheels") (eVar 0)) (aCons (eUn (dFld "Book" "rules") (eVar 0)) aNil)))))
def m_Book_str : Fm := mkFn 1 1 b_Book_str
def b__law_bag : SM := (sSeq (sSet 2 (eC (.int 0)))
    (sSeq (sIf (tOf (eBin dLt (eVar 1) (eFn fLen (aCons (eVar 0) aNil)))) (sSet 2 (eBin dIx (eVar 0) (eVar 1))) sSkip)
    (sSeq (sSet 3 (eC (.int 0)))
    (sSeq (sIf (tOf (eBin dGe (eFn fAbs (aCons (eVar 2) aNil)) (eBin dPow (eC (.int 10)) (eC (.int 18))))) (sSet 3 (eFn fAbs (aCons (eVar 2) aNil))) sSkip)
    (sSeq (sSet 4 (eFn mkLst (aCons (eC (.int 2147483629)) (aCons (eC (.int 2147483587)) (aCons (eC (.int 2147483579)) (aCons (eC (.int 2147483563)) (aCons (eC (.int 2147483549)) (aCons (eC (.int 2147483543)) (aCons (eC (.int 2147483497)) (aCons (eC (.int 2147483489)) aNil))))))))))
    (sRet (eFn mkLst (aCons (eVar 3) (aCons (eBin dMod (eBin dPow (eBin dAdd (eBin dAdd (eBin dMod (eVar 2) (eC (.int 2147483647))) (eBin dMul (eC (.int 104729)) (eVar 1))) (eC (.int 7))) (eC (.int 5))) (eBin dIx (eVar 4) (eBin dMod (eVar 1) (eC (.int 8))))) (aCons (eC (.int 0)) aNil))))))))))
def m__law_bag : Fm := mkFn 2 5 b__law_bag
def s__law_bag : Fm := s_bag
theorem a__law_bag : Arity 2 s__law_bag := nw_ar
theorem t__law_bag : Tells m__law_bag s__law_bag := s_bag_tells rfl

def b__law_take : SM := (sSeq (sIf (tOf (eBin dGt (eBin dIx (eVar 0) (eC (.int 0))) (eC (.int 0)))) (sSeq (sSet 2 (eBin dMod (eBin dIx (eVar 0) (eC (.int 0))) (eVar 1)))
    (sSeq (sAsg (eBin dDiv (eBin dIx (eVar 0) (eC (.int 0))) (eVar 1)) (gSet (eVar 0) (eC (.int 0))))
    (sRet (eVar 2)))) sSkip)
    (sSeq (sAsg (eBin dAdd (eBin dIx (eVar 0) (eC (.int 2))) (eC (.int 1))) (gSet (eVar 0) (eC (.int 2))))
    (sSeq (sAsg (eBin dMod (eBin dAdd (eBin dAdd (eBin dMul (eBin dIx (eVar 0) (eC (.int 1))) (eC (.int 48271))) (eBin dMul (eBin dMul (eC (.int 7919)) (eBin dIx (eVar 0) (eC (.int 2)))) (eBin dIx (eVar 0) (eC (.int 2))))) (eC (.int 11))) (eC (.int 2147483647))) (gSet (eVar 0) (eC (.int 1))))
    (sRet (eBin dMod (eBin dMod (eBin dPow (eBin dDiv (eBin dIx (eVar 0) (eC (.int 1))) (eC (.int 8))) (eC (.int 3))) (eC (.int 2147483629))) (eVar 1))))))
def m__law_take : Fm := mkFn 2 3 b__law_take
def s__law_take : Fm := s_take
theorem a__law_take : Arity 2 s__law_take := wr_ar
theorem t__law_take : Tells m__law_take s__law_take := s_take_tells fun h hc h0 h1 => bag_take b__law_take rfl rfl h hc h0 h1

def b__law_wheels : SM := (sSeq (sPar 2 3 (eFn mkLst aNil) (eC (.int 1)))
    (sSeq (sFor (iRng (eBin dAdd (eC (.int 1)) (eFn s__law_take (aCons (eVar 0) (aCons (eC (.int 3)) aNil))))) (gN 1) (sSeq (sSet 4 (eBin dAdd (eC (.int 2)) (eFn s__law_take (aCons (eVar 0) (aCons (eC (.int 3)) aNil)))))
    (sIf (tOf (eBin dLe (eBin dMul (eVar 3) (eVar 4)) (eC (.int 24)))) (sSeq (sExpr (eMtL mAppend (eVar 2) (aCons (eVar 4) aNil)))
    (sSet 3 (eBin dMul (eVar 3) (eVar 4)))) sSkip)))
    (sRet (eFn fTup (aCons (eVar 2) aNil)))))
def m__law_wheels : Fm := mkFn 1 5 b__law_wheels
def b__law_condition : SM := (sSeq (sSet 3 (eBin dIx (eFn mkTup (aCons (eC (.str "is")) (aCons (eC (.str "is")) (aCons (eC (.str "not")) (aCons (eC (.str "below")) (aCons (eC (.str "hushed")) (aCons (eC (.str "awake")) aNil))))))) (eFn s__law_take (aCons (eVar 0) (aCons (eC (.int 6)) aNil)))))
    (sSeq (sIf (tOf (eBin (dIn false) (eVar 3) (eFn mkTup (aCons (eC (.str "hushed")) (aCons (eC (.str "awake")) aNil))))) (sRet (eFn mkTup (aCons (eVar 3) (aCons (eFn s__law_take (aCons (eVar 0) (aCons (eVar 2) aNil))) aNil)))) sSkip)
    (sSeq (sSet 4 (eFn s__law_take (aCons (eVar 0) (aCons (eFn fLen (aCons (eVar 1) aNil)) aNil))))
    (sRet (eFn mkTup (aCons (eVar 3) (aCons (eVar 4) (aCons (eFn s__law_take (aCons (eVar 0) (aCons (eBin dIx (eVar 1) (eVar 4)) aNil))) aNil))))))))
def m__law_condition : Fm := mkFn 3 5 b__law_condition
def b__law_change : SM := (sSeq (sSet 2 (eFn s__law_take (aCons (eVar 0) (aCons (eFn fLen (aCons (eVar 1) aNil)) aNil))))
    (sRet (eFn mkTup (aCons (eBin dIx (eFn mkTup (aCons (eC (.str "turn")) (aCons (eC (.str "turn")) (aCons (eC (.str "put")) aNil)))) (eFn s__law_take (aCons (eVar 0) (aCons (eC (.int 3)) aNil)))) (aCons (eVar 2) (aCons (eFn s__law_take (aCons (eVar 0) (aCons (eBin dIx (eVar 1) (eVar 2)) aNil))) aNil))))))
def m__law_change : Fm := mkFn 2 3 b__law_change
def b__law_rule : SM := (sSeq (sSet 3 (cLc (iRng (eBin dIx (eFn mkTup (aCons (eC (.int 1)) (aCons (eC (.int 1)) (aCons (eC (.int 0)) (aCons (eC (.int 2)) (aCons (eC (.int 3)) (aCons (eC (.int 4)) aNil))))))) (eFn s__law_take (aCons (eVar 0) (aCons (eC (.int 6)) aNil))))) [9] (gN 9) tTrue (eFn m__law_condition (aCons (eVar 0) (aCons (eVar 1) (aCons (eVar 2) aNil))))))
    (sSeq (sSet 4 (cLc (iRng (eBin dIx (eFn mkTup (aCons (eC (.int 1)) (aCons (eC (.int 1)) (aCons (eC (.int 2)) (aCons (eC (.int 0)) (aCons (eC (.int 3)) aNil)))))) (eFn s__law_take (aCons (eVar 0) (aCons (eC (.int 5)) aNil))))) [9] (gN 9) tTrue (eFn m__law_change (aCons (eVar 0) (aCons (eVar 1) aNil)))))
    (sSeq (sPar 6 7 (eFn mkLst aNil) (eFn mkLst aNil))
    (sSeq (sFor (iRng (eVar 2)) (gN 5) (sSeq (sSet 8 (eFn s__law_take (aCons (eVar 0) (aCons (eC (.int 5)) aNil))))
    (sSeq (sIf (tOf (eBin (dEq false) (eVar 8) (eC (.int 0)))) (sExpr (eMtL mAppend (eVar 6) (aCons (eFn mkTup (aCons (eVar 5) (aCons (eBin dAdd (eC (.int 1)) (eFn s__law_take (aCons (eVar 0) (aCons (eC (.int 3)) aNil)))) aNil))) aNil))) sSkip)
    (sIf (tOf (eBin (dEq false) (eVar 8) (eC (.int 1)))) (sExpr (eMtL mAppend (eVar 7) (aCons (eVar 5) aNil))) sSkip))))
    (sRet (eFn mkTup (aCons (eFn fTup (aCons (eVar 3) aNil)) (aCons (eFn fTup (aCons (eVar 4) aNil)) (aCons (eFn fTup (aCons (eVar 6) aNil)) (aCons (eFn fTup (aCons (eVar 7) aNil)) aNil))))))))))
def m__law_rule : Fm := mkFn 3 10 b__law_rule
def b__law_rules : SM := (sRet (eFn fTup (aCons (cLc (iRng (eVar 2)) [3] (gN 3) tTrue (eFn m__law_rule (aCons (eVar 0) (aCons (eVar 1) (aCons (eVar 2) aNil))))) aNil)))
def m__law_rules : Fm := mkFn 3 4 b__law_rules
def b__law_drawn : SM := (sSeq (sSet 1 (eFn m__law_wheels (aCons (eVar 0) aNil)))
    (sRet (eFn mkTup (aCons (eVar 1) (aCons (eFn m__law_rules (aCons (eVar 0) (aCons (eVar 1) (aCons (eBin dIx (eFn mkTup (aCons (eC (.int 3)) (aCons (eC (.int 5)) (aCons (eC (.int 2)) (aCons (eC (.int 4)) (aCons (eC (.int 1)) (aCons (eC (.int 0)) aNil))))))) (eFn s__law_take (aCons (eVar 0) (aCons (eC (.int 6)) aNil)))) aNil)))) aNil)))))
def m__law_drawn : Fm := mkFn 1 2 b__law_drawn
def b__law_near : SM := (sSeq (sSet 3 (eFn s__law_take (aCons (eVar 0) (aCons (eC (.int 5)) aNil))))
    (sSeq (sIf (tOf (eBin (dEq false) (eVar 3) (eC (.int 0)))) (sRet (eFn mkTup (aCons (eFn fRevU (aCons (eVar 1) (aCons (eUn dNeg (eC (.int 1))) aNil))) (aCons (eFn mkTup aNil) aNil)))) sSkip)
    (sSeq (sIf (tOr (tOf (eBin (dEq false) (eVar 3) (eC (.int 1)))) (tOf (eBin (dEq false) (eVar 2) (eFn mkTup aNil)))) (sRet (eFn mkTup (aCons (eVar 1) (aCons (eVar 2) aNil)))) sSkip)
    (sSeq (sSet 4 (eFn s__law_take (aCons (eVar 0) (aCons (eFn fLen (aCons (eVar 2) aNil)) aNil))))
    (sSeq (sAsg (eBin dIx (eVar 2) (eVar 4)) (gT 4 (gsCons (gN 6) (gsCons (gN 7) (gsCons (gN 8) (gsCons (gN 9) gsNil))))))
    (sSeq (sSet 5 (eBin dIx (eFn mkLst (aCons (eFn mkTup (aCons (eSlice (eVar 6) (oSome (eC (.int 1))) oNone) (aCons (eVar 7) (aCons (eVar 8) (aCons (eVar 9) aNil))))) (aCons (eFn mkTup (aCons (eVar 6) (aCons (eVar 7) (aCons (eVar 8) (aCons (eFn mkTup aNil) aNil))))) (aCons (eFn mkTup (aCons (eVar 6) (aCons (eFn mkTup aNil) (aCons (eVar 8) (aCons (eVar 9) aNil))))) aNil)))) (eBin dSub (eVar 3) (eC (.int 2)))))
    (sRet (eFn mkTup (aCons (eVar 1) (aCons (eBin dAdd (eBin dAdd (eSlice (eVar 2) oNone (oSome (eVar 4))) (eFn mkTup (aCons (eVar 5) aNil))) (eSlice (eVar 2) (oSome (eBin dAdd (eVar 4) (eC (.int 1)))) oNone)) aNil))))))))))
def m__law_near : Fm := mkFn 3 10 b__law_near
def b_law_1 : SM := (sSeq (sAsg (eFn mkTup (aCons (eFn (mkIns "Book" s_Book_init) (aCons (eBin dIx (eVar 2) (eC (.int 0))) (aCons (eBin dIx (eVar 2) (eC (.int 1))) aNil))) (aCons (eFn (mkIns "Book" s_Book_init) (aCons (eBin dIx (eVar 3) (eC (.int 0))) (aCons (eBin dIx (eVar 3) (eC (.int 1))) aNil))) aNil))) (gT 2 (gsCons (gN 7) (gsCons (gN 8) gsNil))))
    (sSeq (sSet 6 (eBin (dEq false) (eVar 2) (eVar 3)))
    (sSeq (sIf (tOr (tOf (eBin (dEq true) (eBin (dEqO "Book" m_Book_eq) (eVar 7) (eVar 8)) (eVar 6))) (tOr (tOf (eBin (dEq true) (eBin (dEqO "Book" m_Book_eq) (eVar 8) (eVar 7)) (eVar 6))) (tOr (tOf (eBin (dEq false) (eBin (dNeO "Book" m_Book_eq) (eVar 7) (eVar 8)) (eVar 6))) (tNot (tOf (eBin (dEqO "Book" m_Book_eq) (eVar 7) (eVar 7))))))) (sRet (eC (.bl false))) sSkip)
    (sSeq (sIf (tOr (tOf (eBin (dEq true) (eFn (fLenI "Book" m_Book_len) (aCons (eVar 8) aNil)) (eFn fLen (aCons (eBin dIx (eVar 3) (eC (.int 1))) aNil)))) (tOf (eBin (dEq true) (eUn (fNotI "Book" m_Book_len) (eVar 8)) (eBin (dEq false) (eBin dIx (eVar 3) (eC (.int 1))) (eFn mkTup aNil))))) (sRet (eC (.bl false))) sSkip)
    (sSeq (sIf (tOf (eBin dNeS (eFn (fStrO "Book" m_Book_repr) (aCons (eVar 8) aNil)) (eBin dAdd (eBin dAdd (eBin dAdd (eBin dAdd (eC (.str "Book(")) (eFn fStrI (aCons (eFn fLen (aCons (eBin dIx (eVar 3) (eC (.int 0))) aNil)) aNil))) (eC (.str ", "))) (eFn fStrI (aCons (eFn fLen (aCons (eBin dIx (eVar 3) (eC (.int 1))) aNil)) aNil))) (eC (.str ")"))))) (sRet (eC (.bl false))) sSkip)
    (sSeq (sIf (tOf (eFn (fAA fun bs => bs.any id) (aCons (cLc (iSeq (eFn mkTup (aCons (eC .non) (aCons (eVar 2) (aCons (eBin dIx (eVar 2) (eC (.int 0))) (aCons (eFn (fStrO "Book" m_Book_repr) (aCons (eVar 7) aNil)) (aCons (eFn (fStrO "Book" m_Book_str) (aCons (eVar 7) aNil)) (aCons (eC (.int 0)) aNil)))))))) [9] (gN 9) tTrue (eOr (eBin (dEqM "Book" m_Book_eq) (eVar 7) (eVar 9)) (eBin (dEqB "Book" m_Book_eq) (eVar 9) (eVar 7)))) aNil))) (sRet (eC (.bl false))) sSkip)
    (sIf (tOr (tOf (eBin (dEq true) (eFn mkTup (aCons (eUn (dFld "Book" "wheels") (eVar 7)) (aCons (eUn (dFld "Book" "rules") (eVar 7)) aNil))) (eVar 2))) (tOf (eBin (dEq true) (eFn mkTup (aCons (eUn (dFld "Book" "wheels") (eVar 8)) (aCons (eUn (dFld "Book" "rules") (eVar 8)) aNil))) (eVar 3)))) (sRet (eC (.bl false))) sSkip)))))))
def b_law_2 : SM := (sSeq (sPar 4 5 (eFn s__law_bag (aCons (eVar 0) (aCons (eBin dMul (eC (.int 2)) (eVar 1)) aNil))) (eFn s__law_bag (aCons (eVar 0) (aCons (eBin dAdd (eBin dMul (eC (.int 2)) (eVar 1)) (eC (.int 1))) aNil))))
    (sSeq (sSet 2 (eFn m__law_drawn (aCons (eVar 4) aNil)))
    (sFor (iSeq (eFn mkTup (aCons (eFn m__law_near (aCons (eVar 4) (aCons (eBin dIx (eVar 2) (eC (.int 0))) (aCons (eBin dIx (eVar 2) (eC (.int 1))) aNil)))) (aCons (eFn m__law_near (aCons (eVar 4) (aCons (eBin dIx (eVar 2) (eC (.int 0))) (aCons (eBin dIx (eVar 2) (eC (.int 1))) aNil)))) (aCons (eFn m__law_drawn (aCons (eVar 5) aNil)) aNil))))) (gN 3) b_law_1)))
def b_law : SM := (sSeq (sFor (iRng (eFn (fI2 iMax) (aCons (eC (.int 3)) (aCons (eFn (fI2 iMin) (aCons (eC (.int 8)) (aCons (eBin dDiv (eFn fLen (aCons (eVar 0) aNil)) (eC (.int 2))) aNil))) aNil)))) (gN 1) b_law_2)
    (sRet (eC (.bl true))))
def m_law : Fm := mkFn 1 10 b_law
end Hd
set_option Elab.async false
set_option linter.all false
set_option maxRecDepth 100000
set_option maxHeartbeats 4000000
namespace Hd
open PySem PySem.Spec PyProof.Rows L2 U
section
variable {P : Program} {w : World} {K : PySem.W.Frag} {mg : Str → Option Value} {base : Heap}
theorem SC_is_whole : FnScope ["thing"] ["thing"] (defScope (top 8)) := ⟨rfl, rfl, rfl, by decide +kernel, rfl, by decide +kernel, by decide +kernel⟩
set_option maxHeartbeats 4000000 in
theorem F_is_whole (T : Txt K mg) : Fn P w K mg base 1 "is_whole" 1 s_is_whole := by
  obtain ⟨fd, F⟩ := T.f_is_whole
  have Z : Fn P w K mg base 1 "is_whole" 1 m_is_whole := ⟨⟨_, fd, ["thing"], fn_F F SC_is_whole (fun cdv A outer s H E hr => by
      have tk := takes_of (X := cxOf (L2.CX P w) P w K mg base ["thing"] "is_whole" (defScope (top 8)) (He.fAd K ("is_whole", none)) cdv A outer s H E) (E := E) rfl rfl rfl rfl
      exact (ss_one (s_ret (e_and (e_isi "int" T.b_isinstance T.b_int (e_var 0)) (e_one (e_not (e_isi "bool" T.b_isinstance T.b_bool (e_var 0)))))))), T.g_is_whole, F.kp, F.bindsN fun _ _ _ _ _ _ us hl => match us, hl with | [_], _ => rfl⟩, mkFn_ar⟩
  exact U.Fn.by Z t_is_whole a_is_whole
theorem SC_is_within : FnScope ["thing", "least", "most"] ["thing", "least", "most"] (defScope (top 9)) := ⟨rfl, rfl, rfl, by decide +kernel, rfl, by decide +kernel, by decide +kernel⟩
set_option maxHeartbeats 4000000 in
theorem F_is_within (T : Txt K mg) : Fn P w K mg base 2 "is_within" 3 s_is_within := by
  obtain ⟨fd, F⟩ := T.f_is_within
  have Z : Fn P w K mg base 2 "is_within" 3 m_is_within := ⟨⟨_, fd, ["thing", "least", "most"], fn_F F SC_is_within (fun cdv A outer s H E hr => by
      have tk := takes_of (X := cxOf (L2.CX P w) P w K mg base ["thing", "least", "most"] "is_within" (defScope (top 9)) (He.fAd K ("is_within", none)) cdv A outer s H E) (E := E) rfl rfl rfl rfl
      exact (ss_one (s_ret (e_and (e_call (F_is_whole T) tk (hr.mono (by decide)) (a_cons (e_var 0) a_nil)) (e_one (e_chain o_le o_le (e_var 1) (e_var 0) (e_var 2))))))), T.g_is_within, F.kp, F.bindsN fun _ _ _ _ _ _ us hl => match us, hl with | [_, _, _], _ => rfl⟩, mkFn_ar⟩
  exact U.Fn.by Z t_is_within a_is_within
theorem SC_is_below : FnScope ["thing", "many"] ["thing", "many"] (defScope (top 10)) := ⟨rfl, rfl, rfl, by decide +kernel, rfl, by decide +kernel, by decide +kernel⟩
set_option maxHeartbeats 4000000 in
theorem F_is_below (T : Txt K mg) : Fn P w K mg base 3 "is_below" 2 s_is_below := by
  obtain ⟨fd, F⟩ := T.f_is_below
  have Z : Fn P w K mg base 3 "is_below" 2 m_is_below := ⟨⟨_, fd, ["thing", "many"], fn_F F SC_is_below (fun cdv A outer s H E hr => by
      have tk := takes_of (X := cxOf (L2.CX P w) P w K mg base ["thing", "many"] "is_below" (defScope (top 10)) (He.fAd K ("is_below", none)) cdv A outer s H E) (E := E) rfl rfl rfl rfl
      exact (ss_one (s_ret (e_call (F_is_within T) tk (hr.mono (by decide)) (a_cons (e_var 0) (a_cons e_int (a_cons (e_op o_sub (e_var 1) e_int) a_nil))))))), T.g_is_below, F.kp, F.bindsN fun _ _ _ _ _ _ us hl => match us, hl with | [_, _], _ => rfl⟩, mkFn_ar⟩
  exact U.Fn.by Z t_is_below a_is_below
theorem SC_is_rising : FnScope ["thing", "many", "one", "other", "number"] ["thing", "many"] (defScope (top 11)) := ⟨rfl, rfl, rfl, by decide +kernel, rfl, by decide +kernel, by decide +kernel⟩
set_option maxHeartbeats 4000000 in
theorem F_is_rising (T : Txt K mg) : Fn P w K mg base 4 "is_rising" 2 s_is_rising := by
  obtain ⟨fd, F⟩ := T.f_is_rising
  have Z : Fn P w K mg base 4 "is_rising" 2 m_is_rising := ⟨⟨_, fd, ["thing", "many"], fn_F F SC_is_rising (fun cdv A outer s H E hr => by
      have tk := takes_of (X := cxOf (L2.CX P w) P w K mg base ["thing", "many", "one", "other", "number"] "is_rising" (defScope (top 11)) (He.fAd K ("is_rising", none)) cdv A outer s H E) (E := E) rfl rfl rfl rfl
      exact (ss_cons (s_if (t_w (w_or (t_not (t_val (e_isi "tuple" T.b_isinstance T.b_tuple (e_var 0)))) (w_or1 (t_not (t_val (e_all rfl T.b_all (e_lc [("number", 4)] rfl SC_is_rising.nd (go_name 4) (i_seq (e_var 0)) (blkOk_by (N := ["thing", "many", "one", "other", "number"]) (sc := defScope (top 11)) (by decide +kernel)) (fun _ _ _ _ _ => (pg_name (i := 4) SC_is_rising.nd rfl (by first | exact Or.inl rfl | exact Or.inr rfl))) (fun _ _ _ _ _ => c_yes) (fun _ _ _ _ _ => (e_call (F_is_below T) takes0 (hr.mono (by decide)) (a_cons (e_var 4) (a_cons (e_var 1) a_nil))))))))))) (ss_one (s_ret e_bl)) ss_nil)
    (ss_one (s_ret (e_all rfl T.b_all (e_lc [("one", 2), ("other", 3)] rfl SC_is_rising.nd (go_tup 2 (gos_cons (go_name 2) (gos_cons (go_name 3) gos_nil))) (i_zip T.b_zip (e_var 0) (e_slice (e_var 0) (p_some e_int) p_none)) (blkOk_by (N := ["thing", "many", "one", "other", "number"]) (sc := defScope (top 11)) (by decide +kernel)) (fun _ _ _ _ _ => (pg_tup rfl (pgs_cons (pg_name (i := 2) SC_is_rising.nd rfl (by first | exact Or.inl rfl | exact Or.inr rfl)) (pgs_cons (pg_name (i := 3) SC_is_rising.nd rfl (by first | exact Or.inl rfl | exact Or.inr rfl)) pgs_nil)))) (fun _ _ _ _ _ => c_yes) (fun _ _ _ _ _ => (e_cmp o_lt (e_var 2) (e_var 3))))))))), T.g_is_rising, F.kp, F.bindsN fun _ _ _ _ _ _ us hl => match us, hl with | [_, _], _ => rfl⟩, mkFn_ar⟩
  exact U.Fn.by Z t_is_rising a_is_rising
theorem SC_is_wheels : FnScope ["thing", "multiplied", "places"] ["thing"] (defScope (top 12)) := ⟨rfl, rfl, rfl, by decide +kernel, rfl, by decide +kernel, by decide +kernel⟩
set_option maxHeartbeats 4000000 in
theorem F_is_wheels (T : Txt K mg) : Fn P w K mg base 3 "is_wheels" 1 s_is_wheels := by
  obtain ⟨fd, F⟩ := T.f_is_wheels
  have Z : Fn P w K mg base 3 "is_wheels" 1 m_is_wheels := ⟨⟨_, fd, ["thing"], fn_F F SC_is_wheels (fun cdv A outer s H E hr => by
      have tk := takes_of (X := cxOf (L2.CX P w) P w K mg base ["thing", "multiplied", "places"] "is_wheels" (defScope (top 12)) (He.fAd K ("is_wheels", none)) cdv A outer s H E) (E := E) rfl rfl rfl rfl
      exact (ss_cons (s_if (t_w (w_or (t_not (t_val (e_isi "tuple" T.b_isinstance T.b_tuple (e_var 0)))) (w_or1 (t_not (t_chain o_le o_le e_int (e_len (x := "len") T.b_len (e_var 0)) (e_gint T.i_MOST_WHEELS)))))) (ss_one (s_ret e_bl)) ss_nil)
    (ss_cons (s_if (t_not (t_val (e_all rfl T.b_all (e_lc [("places", 2)] rfl SC_is_wheels.nd (go_name 2) (i_seq (e_var 0)) (blkOk_by (N := ["thing", "multiplied", "places"]) (sc := defScope (top 12)) (by decide +kernel)) (fun _ _ _ _ _ => (pg_name (i := 2) SC_is_wheels.nd rfl (by first | exact Or.inl rfl | exact Or.inr rfl))) (fun _ _ _ _ _ => c_yes) (fun _ _ _ _ _ => (e_call (F_is_within T) takes0 (hr.mono (by decide)) (a_cons (e_var 2) (a_cons (e_gint T.i_LEAST_PLACES) (a_cons (e_gint T.i_MOST_PLACES) a_nil))))))))) (ss_one (s_ret e_bl)) ss_nil)
    (ss_cons (s_set 1 e_int SC_is_wheels.nd)
    (ss_cons (s_for (passes_of rfl) rfl (i_seq (e_var 0)) (g_name 2 SC_is_wheels.nd) (ss_one (s_set 1 (e_op o_mul (e_var 1) (e_var 2)) SC_is_wheels.nd)))
    (ss_one (s_ret (e_cmp o_le (e_var 1) (e_gint T.i_MOST_VALUES))))))))), T.g_is_wheels, F.kp, F.bindsN fun _ _ _ _ _ _ us hl => match us, hl with | [_], _ => rfl⟩, mkFn_ar⟩
  exact U.Fn.by Z t_is_wheels a_is_wheels
theorem SC_is_row : FnScope ["thing", "most"] ["thing", "most"] (defScope (top 22)) := ⟨rfl, rfl, rfl, by decide +kernel, rfl, by decide +kernel, by decide +kernel⟩
set_option maxHeartbeats 4000000 in
theorem F_is_row (T : Txt K mg) : Fn P w K mg base 1 "is_row" 2 s_is_row := by
  obtain ⟨fd, F⟩ := T.f_is_row
  have Z : Fn P w K mg base 1 "is_row" 2 m_is_row := ⟨⟨_, fd, ["thing", "most"], fn_F F SC_is_row (fun cdv A outer s H E hr => by
      have tk := takes_of (X := cxOf (L2.CX P w) P w K mg base ["thing", "most"] "is_row" (defScope (top 22)) (He.fAd K ("is_row", none)) cdv A outer s H E) (E := E) rfl rfl rfl rfl
      exact (ss_one (s_ret (e_and (e_isi "tuple" T.b_isinstance T.b_tuple (e_var 0)) (e_one (e_cmp o_le (e_len (x := "len") T.b_len (e_var 0)) (e_var 1))))))), T.g_is_row, F.kp, F.bindsN fun _ _ _ _ _ _ us hl => match us, hl with | [_, _], _ => rfl⟩, mkFn_ar⟩
  exact U.Fn.by Z t_is_row a_is_row
theorem SC_is_moment : FnScope ["many", "thing"] ["many", "thing"] (defScope (top 25)) := ⟨rfl, rfl, rfl, by decide +kernel, rfl, by decide +kernel, by decide +kernel⟩
set_option maxHeartbeats 4000000 in
theorem F_is_moment (T : Txt K mg) : Fn P w K mg base 4 "is_moment" 2 s_is_moment := by
  obtain ⟨fd, F⟩ := T.f_is_moment
  have Z : Fn P w K mg base 4 "is_moment" 2 m_is_moment := ⟨⟨_, fd, ["many", "thing"], fn_F F SC_is_moment (fun cdv A outer s H E hr => by
      have tk := takes_of (X := cxOf (L2.CX P w) P w K mg base ["many", "thing"] "is_moment" (defScope (top 25)) (He.fAd K ("is_moment", none)) cdv A outer s H E) (E := E) rfl rfl rfl rfl
      exact (ss_cons (s_if (t_w (w_or (t_not (t_val (e_isi "tuple" T.b_isinstance T.b_tuple (e_var 1)))) (w_or1 (t_cmp (o_ne hr) (e_len (x := "len") T.b_len (e_var 1)) e_int)))) (ss_one (s_ret e_bl)) ss_nil)
    (ss_one (s_ret (e_and (e_cmp (o_in hr) (e_ix (e_var 1) e_int) (e_tup (a_cons e_str (a_cons e_str a_nil)))) (e_one (e_call (F_is_below T) tk (hr.mono (by decide)) (a_cons (e_ix (e_var 1) e_int) (a_cons (e_var 0) a_nil))))))))), T.g_is_moment, F.kp, F.bindsN fun _ _ _ _ _ _ us hl => match us, hl with | [_, _], _ => rfl⟩, mkFn_ar⟩
  exact U.Fn.by Z t_is_moment a_is_moment
theorem SC_is_spot : FnScope ["wheels", "thing", "words", "word", "wheel", "place"] ["wheels", "thing", "words"] (defScope (top 27)) := ⟨rfl, rfl, rfl, by decide +kernel, rfl, by decide +kernel, by decide +kernel⟩
set_option maxHeartbeats 4000000 in
theorem F_is_spot (T : Txt K mg) : Fn P w K mg base 4 "is_spot" 3 s_is_spot := by
  obtain ⟨fd, F⟩ := T.f_is_spot
  have Z : Fn P w K mg base 4 "is_spot" 3 m_is_spot := ⟨⟨_, fd, ["wheels", "thing", "words"], fn_F F SC_is_spot (fun cdv A outer s H E hr => by
      have tk := takes_of (X := cxOf (L2.CX P w) P w K mg base ["wheels", "thing", "words", "word", "wheel", "place"] "is_spot" (defScope (top 27)) (He.fAd K ("is_spot", none)) cdv A outer s H E) (E := E) rfl rfl rfl rfl
      exact (ss_cons (s_if (t_w (w_or (t_not (t_val (e_isi "tuple" T.b_isinstance T.b_tuple (e_var 1)))) (w_or1 (t_cmp (o_ne hr) (e_len (x := "len") T.b_len (e_var 1)) e_int)))) (ss_one (s_ret e_bl)) ss_nil)
    (ss_cons (s_asg (e_var 1) (g_tup 3 rfl (gs_cons (g_name 3 SC_is_spot.nd) (gs_cons (g_name 4 SC_is_spot.nd) (gs_cons (g_name 5 SC_is_spot.nd) gs_nil)))))
    (ss_one (s_ret (e_and (e_cmp (o_in hr) (e_var 3) (e_var 2)) (e_and (e_call (F_is_below T) tk (hr.mono (by decide)) (a_cons (e_var 4) (a_cons (e_len (x := "len") T.b_len (e_var 0)) a_nil))) (e_one (e_call (F_is_below T) tk (hr.mono (by decide)) (a_cons (e_var 5) (a_cons (e_ix (e_var 0) (e_var 4)) a_nil))))))))))), T.g_is_spot, F.kp, F.bindsN fun _ _ _ _ _ _ us hl => match us, hl with | [_, _, _], _ => rfl⟩, mkFn_ar⟩
  exact U.Fn.by Z t_is_spot a_is_spot
theorem SC_is_condition : FnScope ["wheels", "many", "thing"] ["wheels", "many", "thing"] (defScope (top 24)) := ⟨rfl, rfl, rfl, by decide +kernel, rfl, by decide +kernel, by decide +kernel⟩
set_option maxHeartbeats 4000000 in
theorem F_is_condition (T : Txt K mg) : Fn P w K mg base 5 "is_condition" 3 s_is_condition := by
  obtain ⟨fd, F⟩ := T.f_is_condition
  have Z : Fn P w K mg base 5 "is_condition" 3 m_is_condition := ⟨⟨_, fd, ["wheels", "many", "thing"], fn_F F SC_is_condition (fun cdv A outer s H E hr => by
      have tk := takes_of (X := cxOf (L2.CX P w) P w K mg base ["wheels", "many", "thing"] "is_condition" (defScope (top 24)) (He.fAd K ("is_condition", none)) cdv A outer s H E) (E := E) rfl rfl rfl rfl
      exact (ss_one (s_ret (e_or (e_call (F_is_spot T) tk (hr.mono (by decide)) (a_cons (e_var 0) (a_cons (e_var 2) (a_cons (e_tup (a_cons e_str (a_cons e_str (a_cons e_str a_nil)))) a_nil)))) (e_one (e_call (F_is_moment T) tk (hr.mono (by decide)) (a_cons (e_var 1) (a_cons (e_var 2) a_nil)))))))), T.g_is_condition, F.kp, F.bindsN fun _ _ _ _ _ _ us hl => match us, hl with | [_, _, _], _ => rfl⟩, mkFn_ar⟩
  exact U.Fn.by Z t_is_condition a_is_condition
theorem SC_is_change : FnScope ["wheels", "thing"] ["wheels", "thing"] (defScope (top 26)) := ⟨rfl, rfl, rfl, by decide +kernel, rfl, by decide +kernel, by decide +kernel⟩
set_option maxHeartbeats 4000000 in
theorem F_is_change (T : Txt K mg) : Fn P w K mg base 5 "is_change" 2 s_is_change := by
  obtain ⟨fd, F⟩ := T.f_is_change
  have Z : Fn P w K mg base 5 "is_change" 2 m_is_change := ⟨⟨_, fd, ["wheels", "thing"], fn_F F SC_is_change (fun cdv A outer s H E hr => by
      have tk := takes_of (X := cxOf (L2.CX P w) P w K mg base ["wheels", "thing"] "is_change" (defScope (top 26)) (He.fAd K ("is_change", none)) cdv A outer s H E) (E := E) rfl rfl rfl rfl
      exact (ss_one (s_ret (e_call (F_is_spot T) tk (hr.mono (by decide)) (a_cons (e_var 0) (a_cons (e_var 1) (a_cons (e_tup (a_cons e_str (a_cons e_str a_nil))) a_nil))))))), T.g_is_change, F.kp, F.bindsN fun _ _ _ _ _ _ us hl => match us, hl with | [_, _], _ => rfl⟩, mkFn_ar⟩
  exact U.Fn.by Z t_is_change a_is_change
theorem SC_is_hush : FnScope ["thing"] ["thing"] (defScope (top 29)) := ⟨rfl, rfl, rfl, by decide +kernel, rfl, by decide +kernel, by decide +kernel⟩
set_option maxHeartbeats 4000000 in
theorem F_is_hush (T : Txt K mg) : Fn P w K mg base 3 "is_hush" 1 s_is_hush := by
  obtain ⟨fd, F⟩ := T.f_is_hush
  have Z : Fn P w K mg base 3 "is_hush" 1 m_is_hush := ⟨⟨_, fd, ["thing"], fn_F F SC_is_hush (fun cdv A outer s H E hr => by
      have tk := takes_of (X := cxOf (L2.CX P w) P w K mg base ["thing"] "is_hush" (defScope (top 29)) (He.fAd K ("is_hush", none)) cdv A outer s H E) (E := E) rfl rfl rfl rfl
      exact (ss_one (s_ret (e_and (e_isi "tuple" T.b_isinstance T.b_tuple (e_var 0)) (e_and (e_cmp (o_eq hr) (e_len (x := "len") T.b_len (e_var 0)) e_int) (e_one (e_call (F_is_within T) tk (hr.mono (by decide)) (a_cons (e_ix (e_var 0) e_int) (a_cons (e_gint T.i_LEAST_HUSH) (a_cons (e_gint T.i_LONGEST_HUSH) a_nil)))))))))), T.g_is_hush, F.kp, F.bindsN fun _ _ _ _ _ _ us hl => match us, hl with | [_], _ => rfl⟩, mkFn_ar⟩
  exact U.Fn.by Z t_is_hush a_is_hush
theorem SC_is_hushes : FnScope ["many", "thing", "pair", "rule", "beats"] ["many", "thing"] (defScope (top 28)) := ⟨rfl, rfl, rfl, by decide +kernel, rfl, by decide +kernel, by decide +kernel⟩
set_option maxHeartbeats 4000000 in
theorem F_is_hushes (T : Txt K mg) : Fn P w K mg base 5 "is_hushes" 2 s_is_hushes := by
  obtain ⟨fd, F⟩ := T.f_is_hushes
  have Z : Fn P w K mg base 5 "is_hushes" 2 m_is_hushes := ⟨⟨_, fd, ["many", "thing"], fn_F F SC_is_hushes (fun cdv A outer s H E hr => by
      have tk := takes_of (X := cxOf (L2.CX P w) P w K mg base ["many", "thing", "pair", "rule", "beats"] "is_hushes" (defScope (top 28)) (He.fAd K ("is_hushes", none)) cdv A outer s H E) (E := E) rfl rfl rfl rfl
      exact (ss_cons (s_if (t_w (w_or (t_not (t_val (e_call (F_is_row T) tk (hr.mono (by decide)) (a_cons (e_var 1) (a_cons (e_gint T.i_MOST_HUSHES) a_nil))))) (w_or1 (t_not (t_val (e_all rfl T.b_all (e_lc [("pair", 2)] rfl SC_is_hushes.nd (go_name 2) (i_seq (e_var 1)) (blkOk_by (N := ["many", "thing", "pair", "rule", "beats"]) (sc := defScope (top 28)) (by decide +kernel)) (fun _ _ _ _ _ => (pg_name (i := 2) SC_is_hushes.nd rfl (by first | exact Or.inl rfl | exact Or.inr rfl))) (fun _ _ _ _ _ => c_yes) (fun _ _ _ _ _ => (e_call (F_is_hush T) takes0 (hr.mono (by decide)) (a_cons (e_var 2) a_nil)))))))))) (ss_one (s_ret e_bl)) ss_nil)
    (ss_one (s_ret (e_call (F_is_rising T) tk (hr.mono (by decide)) (a_cons (e_tuple T.b_tuple (e_lc [("rule", 3), ("beats", 4)] rfl SC_is_hushes.nd (go_tup 2 (gos_cons (go_name 3) (gos_cons (go_name 4) gos_nil))) (i_seq (e_var 1)) (blkOk_by (N := ["many", "thing", "pair", "rule", "beats"]) (sc := defScope (top 28)) (by decide +kernel)) (fun _ _ _ _ _ => (pg_tup rfl (pgs_cons (pg_name (i := 3) SC_is_hushes.nd rfl (by first | exact Or.inl rfl | exact Or.inr rfl)) (pgs_cons (pg_name (i := 4) SC_is_hushes.nd rfl (by first | exact Or.inl rfl | exact Or.inr rfl)) pgs_nil)))) (fun _ _ _ _ _ => c_yes) (fun _ _ _ _ _ => (e_var 3)))) (a_cons (e_var 0) a_nil))))))), T.g_is_hushes, F.kp, F.bindsN fun _ _ _ _ _ _ us hl => match us, hl with | [_, _], _ => rfl⟩, mkFn_ar⟩
  exact U.Fn.by Z t_is_hushes a_is_hushes
theorem SC_is_wakes : FnScope ["many", "thing", "hushes", "rule", "beats"] ["many", "thing", "hushes"] (defScope (top 30)) := ⟨rfl, rfl, rfl, by decide +kernel, rfl, by decide +kernel, by decide +kernel⟩
set_option maxHeartbeats 4000000 in
theorem F_is_wakes (T : Txt K mg) : Fn P w K mg base 5 "is_wakes" 3 s_is_wakes := by
  obtain ⟨fd, F⟩ := T.f_is_wakes
  have Z : Fn P w K mg base 5 "is_wakes" 3 m_is_wakes := ⟨⟨_, fd, ["many", "thing", "hushes"], fn_F F SC_is_wakes (fun cdv A outer s H E hr => by
      have tk := takes_of (X := cxOf (L2.CX P w) P w K mg base ["many", "thing", "hushes", "rule", "beats"] "is_wakes" (defScope (top 30)) (He.fAd K ("is_wakes", none)) cdv A outer s H E) (E := E) rfl rfl rfl rfl
      exact (ss_cons (s_if (t_w (w_or (t_not (t_val (e_call (F_is_row T) tk (hr.mono (by decide)) (a_cons (e_var 1) (a_cons (e_gint T.i_MOST_WAKES) a_nil))))) (w_or1 (t_not (t_val (e_call (F_is_rising T) tk (hr.mono (by decide)) (a_cons (e_var 1) (a_cons (e_var 0) a_nil)))))))) (ss_one (s_ret e_bl)) ss_nil)
    (ss_one (s_ret (e_not (e_any rfl T.b_any (e_lc [("rule", 3), ("beats", 4)] rfl SC_is_wakes.nd (go_tup 2 (gos_cons (go_name 3) (gos_cons (go_name 4) gos_nil))) (i_seq (e_var 2)) (blkOk_by (N := ["many", "thing", "hushes", "rule", "beats"]) (sc := defScope (top 30)) (by decide +kernel)) (fun _ _ _ _ _ => (pg_tup rfl (pgs_cons (pg_name (i := 3) SC_is_wakes.nd rfl (by first | exact Or.inl rfl | exact Or.inr rfl)) (pgs_cons (pg_name (i := 4) SC_is_wakes.nd rfl (by first | exact Or.inl rfl | exact Or.inr rfl)) pgs_nil)))) (fun _ _ _ _ _ => c_yes) (fun _ _ _ _ _ => (e_cmp (o_in hr) (e_var 3) (e_var 1)))))))))), T.g_is_wakes, F.kp, F.bindsN fun _ _ _ _ _ _ us hl => match us, hl with | [_, _, _], _ => rfl⟩, mkFn_ar⟩
  exact U.Fn.by Z t_is_wakes a_is_wakes
theorem SC_is_rule : FnScope ["wheels", "many", "thing", "test", "changes", "hushes", "wakes", "condition", "change"] ["wheels", "many", "thing"] (defScope (top 23)) := ⟨rfl, rfl, rfl, by decide +kernel, rfl, by decide +kernel, by decide +kernel⟩
set_option maxHeartbeats 4000000 in
theorem F_is_rule (T : Txt K mg) : Fn P w K mg base 6 "is_rule" 3 s_is_rule := by
  obtain ⟨fd, F⟩ := T.f_is_rule
  have Z : Fn P w K mg base 6 "is_rule" 3 m_is_rule := ⟨⟨_, fd, ["wheels", "many", "thing"], fn_F F SC_is_rule (fun cdv A outer s H E hr => by
      have tk := takes_of (X := cxOf (L2.CX P w) P w K mg base ["wheels", "many", "thing", "test", "changes", "hushes", "wakes", "condition", "change"] "is_rule" (defScope (top 23)) (He.fAd K ("is_rule", none)) cdv A outer s H E) (E := E) rfl rfl rfl rfl
      exact (ss_cons (s_if (t_w (w_or (t_not (t_val (e_isi "tuple" T.b_isinstance T.b_tuple (e_var 2)))) (w_or1 (t_cmp (o_ne hr) (e_len (x := "len") T.b_len (e_var 2)) e_int)))) (ss_one (s_ret e_bl)) ss_nil)
    (ss_cons (s_asg (e_var 2) (g_tup 4 rfl (gs_cons (g_name 3 SC_is_rule.nd) (gs_cons (g_name 4 SC_is_rule.nd) (gs_cons (g_name 5 SC_is_rule.nd) (gs_cons (g_name 6 SC_is_rule.nd) gs_nil))))))
    (ss_cons (s_if (t_w (w_or (t_not (t_val (e_call (F_is_row T) tk (hr.mono (by decide)) (a_cons (e_var 3) (a_cons (e_gint T.i_MOST_CONDITIONS) a_nil))))) (w_or1 (t_not (t_val (e_call (F_is_row T) tk (hr.mono (by decide)) (a_cons (e_var 4) (a_cons (e_gint T.i_MOST_CHANGES) a_nil)))))))) (ss_one (s_ret e_bl)) ss_nil)
    (ss_cons (s_if (t_not (t_val (e_all rfl T.b_all (e_lc [("condition", 7)] rfl SC_is_rule.nd (go_name 7) (i_seq (e_var 3)) (blkOk_by (N := ["wheels", "many", "thing", "test", "changes", "hushes", "wakes", "condition", "change"]) (sc := defScope (top 23)) (by decide +kernel)) (fun _ _ _ _ _ => (pg_name (i := 7) SC_is_rule.nd rfl (by first | exact Or.inl rfl | exact Or.inr rfl))) (fun _ _ _ _ _ => c_yes) (fun _ _ _ _ _ => (e_call (F_is_condition T) takes0 (hr.mono (by decide)) (a_cons (e_var 0) (a_cons (e_var 1) (a_cons (e_var 7) a_nil))))))))) (ss_one (s_ret e_bl)) ss_nil)
    (ss_cons (s_if (t_not (t_val (e_all rfl T.b_all (e_lc [("change", 8)] rfl SC_is_rule.nd (go_name 8) (i_seq (e_var 4)) (blkOk_by (N := ["wheels", "many", "thing", "test", "changes", "hushes", "wakes", "condition", "change"]) (sc := defScope (top 23)) (by decide +kernel)) (fun _ _ _ _ _ => (pg_name (i := 8) SC_is_rule.nd rfl (by first | exact Or.inl rfl | exact Or.inr rfl))) (fun _ _ _ _ _ => c_yes) (fun _ _ _ _ _ => (e_call (F_is_change T) takes0 (hr.mono (by decide)) (a_cons (e_var 0) (a_cons (e_var 8) a_nil)))))))) (ss_one (s_ret e_bl)) ss_nil)
    (ss_one (s_ret (e_and (e_call (F_is_hushes T) tk (hr.mono (by decide)) (a_cons (e_var 1) (a_cons (e_var 5) a_nil))) (e_one (e_call (F_is_wakes T) tk (hr.mono (by decide)) (a_cons (e_var 1) (a_cons (e_var 6) (a_cons (e_var 5) a_nil)))))))))))))), T.g_is_rule, F.kp, F.bindsN fun _ _ _ _ _ _ us hl => match us, hl with | [_, _, _], _ => rfl⟩, mkFn_ar⟩
  exact U.Fn.by Z t_is_rule a_is_rule
theorem SC_Book_init : FnScope ["self", "wheels", "rules", "number", "rule"] ["self", "wheels", "rules"] (defScope (topM 21 0)) := ⟨rfl, rfl, rfl, by decide +kernel, rfl, by decide +kernel, by decide +kernel⟩
set_option maxHeartbeats 4000000 in
theorem M_Book (T : Txt K mg) : Mkr P w K mg base 7 "Book" 2 s_Book_init := by
  obtain ⟨fd, F⟩ := T.f_Book_init
  have Z : Mkr P w K mg base 7 "Book" 2 m_Book_init := ⟨⟨_, fd, ["self", "wheels", "rules"], fn_F F SC_Book_init (fun cdv A outer s H E hr => by
      have tk := takes_of (X := cxOf (L2.CX P w) P w K mg base ["self", "wheels", "rules", "number", "rule"] "Book.__init__" (defScope (topM 21 0)) (He.fAd K ("Book", some "__init__")) cdv A outer s H E) (E := E) rfl rfl rfl rfl
      exact (ss_cons (s_if (t_w (w_or (t_not (t_val (e_call (F_is_wheels T) tk (hr.mono (by decide)) (a_cons (e_var 1) a_nil)))) (w_or1 (t_not (t_val (e_call (F_is_row T) tk (hr.mono (by decide)) (a_cons (e_var 2) (a_cons (e_gint T.i_MOST_RULES) a_nil)))))))) (ss_one s_never) ss_nil)
    (ss_cons (s_for (passes_of rfl) rfl (i_enum T.b_enumerate (e_var 2)) (g_tup 2 rfl (gs_cons (g_name 3 SC_Book_init.nd) (gs_cons (g_name 4 SC_Book_init.nd) gs_nil))) (ss_one (s_if (t_not (t_val (e_call (F_is_rule T) tk (hr.mono (by decide)) (a_cons (e_var 1) (a_cons (e_len (x := "len") T.b_len (e_var 2)) (a_cons (e_var 4) a_nil)))))) (ss_one s_never) ss_nil)))
    (ss_cons (s_fld "Book" "wheels" T.c_Book T.n_Book_wheels (e_var 0) (e_var 1))
    (ss_one (s_fld "Book" "rules" T.c_Book T.n_Book_rules (e_var 0) (e_var 2))))))), T.g_Book, T.k_Book, binds_all F (n := 3) (by simp [He.DefD.dvs, d_Book_init]) (by rfl) (fun _ _ _ _ _ _ _ us its hl hi => match us, its, hl, hi with | [_, _, _], [_], _, _ => ⟨_, rfl, rfl⟩)⟩, isiC_ok T.c_Book T.o_Book, mkFn_ar⟩
  exact U.Mkr.by Z t_Book_init a_Book_init
theorem SC_Book_eq : FnScope ["self", "other"] ["self", "other"] (defScope (topM 21 1)) := ⟨rfl, rfl, rfl, by decide +kernel, rfl, by decide +kernel, by decide +kernel⟩
set_option maxHeartbeats 4000000 in
theorem Q_Book (T : Txt K mg) : Meq P w K mg base 1 "Book" m_Book_eq := by
  obtain ⟨fd, F⟩ := T.f_Book_eq
  exact ⟨⟨_, fd, ["self", "other"], fn_F F SC_Book_eq (fun cdv A outer s H E hr => by
      have tk := takes_of (X := cxOf (L2.CX P w) P w K mg base ["self", "other"] "Book.__eq__" (defScope (topM 21 1)) (He.fAd K ("Book", some "__eq__")) cdv A outer s H E) (E := E) rfl rfl rfl rfl
      exact (ss_one (s_ret (e_and (e_isiCD T.n_Book T.b_isinstance T.g_Book (e_var 1)) (e_and (e_cmp (o_eq hr) (e_fld "Book" "wheels" T.c_Book T.n_Book_wheels (e_var 0)) (e_fld "Book" "wheels" T.c_Book T.n_Book_wheels (e_var 1))) (e_one (e_cmp (o_eq hr) (e_fld "Book" "rules" T.c_Book T.n_Book_rules (e_var 0)) (e_fld "Book" "rules" T.c_Book T.n_Book_rules (e_var 1))))))))), T.h_Book_eq, F.bindsN fun _ _ _ _ _ _ us hl => match us, hl with | [_, _], _ => rfl⟩, mkFn_ar⟩
theorem SC_Book_len : FnScope ["self"] ["self"] (defScope (topM 21 2)) := ⟨rfl, rfl, rfl, by decide +kernel, rfl, by decide +kernel, by decide +kernel⟩
set_option maxHeartbeats 4000000 in
theorem L_Book (T : Txt K mg) : Mlen P w K mg base 1 "Book" m_Book_len := by
  obtain ⟨fd, F⟩ := T.f_Book_len
  exact ⟨⟨_, fd, ["self"], fn_F F SC_Book_len (fun cdv A outer s H E hr => by
      have tk := takes_of (X := cxOf (L2.CX P w) P w K mg base ["self"] "Book.__len__" (defScope (topM 21 2)) (He.fAd K ("Book", some "__len__")) cdv A outer s H E) (E := E) rfl rfl rfl rfl
      exact (ss_one (s_ret (e_len (x := "len") T.b_len (e_fld "Book" "rules" T.c_Book T.n_Book_rules (e_var 0)))))), T.h_Book_len, F.bindsN fun _ _ _ _ _ _ us hl => match us, hl with | [_], _ => rfl⟩, mkFn_ar⟩
theorem SC_Book_repr : FnScope ["self"] ["self"] (defScope (topM 21 3)) := ⟨rfl, rfl, rfl, by decide +kernel, rfl, by decide +kernel, by decide +kernel⟩
set_option maxHeartbeats 4000000 in
theorem R_Book (T : Txt K mg) : Mrepr P w K mg base 1 "Book" m_Book_repr := by
  obtain ⟨fd, F⟩ := T.f_Book_repr
  exact ⟨⟨_, fd, ["self"], fn_F F SC_Book_repr (fun cdv A outer s H E hr => by
      have tk := takes_of (X := cxOf (L2.CX P w) P w K mg base ["self"] "Book.__repr__" (defScope (topM 21 3)) (He.fAd K ("Book", some "__repr__")) cdv A outer s H E) (E := E) rfl rfl rfl rfl
      exact (ss_one (s_ret (e_joined (gs := [(eC (.str "Book(")), (eFmt (eFn fLen (aCons (eUn (dFld "Book" "wheels") (eVar 0)) aNil))), (eC (.str ", ")), (eFmt (eFn fLen (aCons (eUn (dFld "Book" "rules") (eVar 0)) aNil))), (eC (.str ")"))]) (.cons e_str (.cons (e_fmt (e_len (x := "len") T.b_len (e_fld "Book" "wheels" T.c_Book T.n_Book_wheels (e_var 0)))) (.cons e_str (.cons (e_fmt (e_len (x := "len") T.b_len (e_fld "Book" "rules" T.c_Book T.n_Book_rules (e_var 0)))) (.cons e_str .nil))))))))), T.h_Book_repr, F.bindsN fun _ _ _ _ _ _ us hl => match us, hl with | [_], _ => rfl⟩, mkFn_ar⟩
theorem SC_spaced : FnScope ["row", "thing"] ["row"] (defScope (top 33)) := ⟨rfl, rfl, rfl, by decide +kernel, rfl, by decide +kernel, by decide +kernel⟩
set_option maxHeartbeats 4000000 in
theorem F_spaced (T : Txt K mg) : Fn P w K mg base 1 "spaced" 1 m_spaced := by
  obtain ⟨fd, F⟩ := T.f_spaced
  have Z : Fn P w K mg base 1 "spaced" 1 m_spaced := ⟨⟨_, fd, ["row"], fn_F F SC_spaced (fun cdv A outer s H E hr => by
      have tk := takes_of (X := cxOf (L2.CX P w) P w K mg base ["row", "thing"] "spaced" (defScope (top 33)) (He.fAd K ("spaced", none)) cdv A outer s H E) (E := E) rfl rfl rfl rfl
      exact (ss_one (s_ret (e_join (e_lc [("thing", 1)] rfl SC_spaced.nd (go_name 1) (i_seq (e_var 0)) (blkOk_by (N := ["row", "thing"]) (sc := defScope (top 33)) (by decide +kernel)) (fun _ _ _ _ _ => (pg_name (i := 1) SC_spaced.nd rfl (by first | exact Or.inl rfl | exact Or.inr rfl))) (fun _ _ _ _ _ => c_yes) (fun _ _ _ _ _ => (e_strI T.b_str (e_var 1)))))))), T.g_spaced, F.kp, F.bindsN fun _ _ _ _ _ _ us hl => match us, hl with | [_], _ => rfl⟩, mkFn_ar⟩
  exact Z
theorem SC_rule_line : FnScope ["rule", "parts", "test", "changes", "hushes", "wakes", "condition", "change", "other", "part", "beats"] ["rule"] (defScope (top 32)) := ⟨rfl, rfl, rfl, by decide +kernel, rfl, by decide +kernel, by decide +kernel⟩
set_option maxHeartbeats 4000000 in
theorem F_rule_line (T : Txt K mg) : Fn P w K mg base 2 "rule_line" 1 m_rule_line := by
  obtain ⟨fd, F⟩ := T.f_rule_line
  have Z : Fn P w K mg base 2 "rule_line" 1 m_rule_line := ⟨⟨_, fd, ["rule"], fn_F F SC_rule_line (fun cdv A outer s H E hr => by
      have tk := takes_of (X := cxOf (L2.CX P w) P w K mg base ["rule", "parts", "test", "changes", "hushes", "wakes", "condition", "change", "other", "part", "beats"] "rule_line" (defScope (top 32)) (He.fAd K ("rule_line", none)) cdv A outer s H E) (E := E) rfl rfl rfl rfl
      exact (ss_cons (s_asg (e_var 0) (g_tup 4 rfl (gs_cons (g_name 2 SC_rule_line.nd) (gs_cons (g_name 3 SC_rule_line.nd) (gs_cons (g_name 4 SC_rule_line.nd) (gs_cons (g_name 5 SC_rule_line.nd) gs_nil))))))
    (ss_cons (s_set 1 (e_lst (a_cons (e_lc [("condition", 6)] rfl SC_rule_line.nd (go_name 6) (i_seq (e_var 2)) (blkOk_by (N := ["rule", "parts", "test", "changes", "hushes", "wakes", "condition", "change", "other", "part", "beats"]) (sc := defScope (top 32)) (by decide +kernel)) (fun _ _ _ _ _ => (pg_name (i := 6) SC_rule_line.nd rfl (by first | exact Or.inl rfl | exact Or.inr rfl))) (fun _ _ _ _ _ => c_yes) (fun _ _ _ _ _ => (e_call (F_spaced T) takes0 (hr.mono (by decide)) (a_cons (e_var 6) a_nil)))) (a_cons (e_lc [("change", 7)] rfl SC_rule_line.nd (go_name 7) (i_seq (e_var 3)) (blkOk_by (N := ["rule", "parts", "test", "changes", "hushes", "wakes", "condition", "change", "other", "part", "beats"]) (sc := defScope (top 32)) (by decide +kernel)) (fun _ _ _ _ _ => (pg_name (i := 7) SC_rule_line.nd rfl (by first | exact Or.inl rfl | exact Or.inr rfl))) (fun _ _ _ _ _ => c_yes) (fun _ _ _ _ _ => (e_call (F_spaced T) takes0 (hr.mono (by decide)) (a_cons (e_var 7) a_nil)))) (a_cons (e_lc [("other", 8), ("beats", 10)] rfl SC_rule_line.nd (go_tup 2 (gos_cons (go_name 8) (gos_cons (go_name 10) gos_nil))) (i_seq (e_var 4)) (blkOk_by (N := ["rule", "parts", "test", "changes", "hushes", "wakes", "condition", "change", "other", "part", "beats"]) (sc := defScope (top 32)) (by decide +kernel)) (fun _ _ _ _ _ => (pg_tup rfl (pgs_cons (pg_name (i := 8) SC_rule_line.nd rfl (by first | exact Or.inl rfl | exact Or.inr rfl)) (pgs_cons (pg_name (i := 10) SC_rule_line.nd rfl (by first | exact Or.inl rfl | exact Or.inr rfl)) pgs_nil)))) (fun _ _ _ _ _ => c_yes) (fun _ _ _ _ _ => (e_joined (gs := [(eFmt (eVar 8)), (eC (.str " for ")), (eFmt (eVar 10))]) (.cons (e_fmt (e_var 8)) (.cons e_str (.cons (e_fmt (e_var 10)) .nil)))))) (a_cons (e_lc [("other", 8)] rfl SC_rule_line.nd (go_name 8) (i_seq (e_var 5)) (blkOk_by (N := ["rule", "parts", "test", "changes", "hushes", "wakes", "condition", "change", "other", "part", "beats"]) (sc := defScope (top 32)) (by decide +kernel)) (fun _ _ _ _ _ => (pg_name (i := 8) SC_rule_line.nd rfl (by first | exact Or.inl rfl | exact Or.inr rfl))) (fun _ _ _ _ _ => c_yes) (fun _ _ _ _ _ => (e_strI T.b_str (e_var 8)))) a_nil))))) SC_rule_line.nd)
    (ss_one (s_ret (e_join (e_lc [("part", 9)] rfl SC_rule_line.nd (go_name 9) (i_seq (e_var 1)) (blkOk_by (N := ["rule", "parts", "test", "changes", "hushes", "wakes", "condition", "change", "other", "part", "beats"]) (sc := defScope (top 32)) (by decide +kernel)) (fun _ _ _ _ _ => (pg_name (i := 9) SC_rule_line.nd rfl (by first | exact Or.inl rfl | exact Or.inr rfl))) (fun _ _ _ _ _ => c_yes) (fun _ _ _ _ _ => (e_if (t_cmp o_gt (e_len (x := "len") T.b_len (e_var 9)) e_int) (e_join (e_var 9)) e_str))))))))), T.g_rule_line, F.kp, F.bindsN fun _ _ _ _ _ _ us hl => match us, hl with | [_], _ => rfl⟩, mkFn_ar⟩
  exact Z
theorem SC_book_lines : FnScope ["wheels", "rules", "rule"] ["wheels", "rules"] (defScope (top 31)) := ⟨rfl, rfl, rfl, by decide +kernel, rfl, by decide +kernel, by decide +kernel⟩
set_option maxHeartbeats 4000000 in
theorem F_book_lines (T : Txt K mg) : Fn P w K mg base 3 "book_lines" 2 m_book_lines := by
  obtain ⟨fd, F⟩ := T.f_book_lines
  have Z : Fn P w K mg base 3 "book_lines" 2 m_book_lines := ⟨⟨_, fd, ["wheels", "rules"], fn_F F SC_book_lines (fun cdv A outer s H E hr => by
      have tk := takes_of (X := cxOf (L2.CX P w) P w K mg base ["wheels", "rules", "rule"] "book_lines" (defScope (top 31)) (He.fAd K ("book_lines", none)) cdv A outer s H E) (E := E) rfl rfl rfl rfl
      exact (ss_one (s_ret (e_op o_add (e_lst (a_cons (e_op o_add e_str (e_call (F_spaced T) tk (hr.mono (by decide)) (a_cons (e_var 0) a_nil))) a_nil)) (e_lc [("rule", 2)] rfl SC_book_lines.nd (go_name 2) (i_seq (e_var 1)) (blkOk_by (N := ["wheels", "rules", "rule"]) (sc := defScope (top 31)) (by decide +kernel)) (fun _ _ _ _ _ => (pg_name (i := 2) SC_book_lines.nd rfl (by first | exact Or.inl rfl | exact Or.inr rfl))) (fun _ _ _ _ _ => c_yes) (fun _ _ _ _ _ => (e_call (F_rule_line T) takes0 (hr.mono (by decide)) (a_cons (e_var 2) a_nil)))))))), T.g_book_lines, F.kp, F.bindsN fun _ _ _ _ _ _ us hl => match us, hl with | [_, _], _ => rfl⟩, mkFn_ar⟩
  exact Z
theorem SC_Book_str : FnScope ["self"] ["self"] (defScope (topM 21 4)) := ⟨rfl, rfl, rfl, by decide +kernel, rfl, by decide +kernel, by decide +kernel⟩
set_option maxHeartbeats 4000000 in
theorem U_Book (T : Txt K mg) : Mstr P w K mg base 4 "Book" m_Book_str := by
  obtain ⟨fd, F⟩ := T.f_Book_str
  exact ⟨⟨_, fd, ["self"], fn_F F SC_Book_str (fun cdv A outer s H E hr => by
      have tk := takes_of (X := cxOf (L2.CX P w) P w K mg base ["self"] "Book.__str__" (defScope (topM 21 4)) (He.fAd K ("Book", some "__str__")) cdv A outer s H E) (E := E) rfl rfl rfl rfl
      exact (ss_one (s_ret (e_join (e_call (F_book_lines T) tk (hr.mono (by decide)) (a_cons (e_fld "Book" "wheels" T.c_Book T.n_Book_wheels (e_var 0)) (a_cons (e_fld "Book" "rules" T.c_Book T.n_Book_rules (e_var 0)) a_nil))))))), T.h_Book_str, F.bindsN fun _ _ _ _ _ _ us hl => match us, hl with | [_], _ => rfl⟩, mkFn_ar⟩
theorem SC__law_bag : FnScope ["_law_script", "_law_at", "_law_cell", "_law_great", "_law_primes"] ["_law_script", "_law_at"] (defScope (top 35)) := ⟨rfl, rfl, rfl, by decide +kernel, rfl, by decide +kernel, by decide +kernel⟩
set_option maxHeartbeats 4000000 in
theorem F__law_bag (T : Txt K mg) : Fn P w K mg base 1 "_law_bag" 2 s__law_bag := by
  obtain ⟨fd, F⟩ := T.f__law_bag
  have Z : Fn P w K mg base 1 "_law_bag" 2 m__law_bag := ⟨⟨_, fd, ["_law_script", "_law_at"], fn_F F SC__law_bag (fun cdv A outer s H E hr => by
      have tk := takes_of (X := cxOf (L2.CX P w) P w K mg base ["_law_script", "_law_at", "_law_cell", "_law_great", "_law_primes"] "_law_bag" (defScope (top 35)) (He.fAd K ("_law_bag", none)) cdv A outer s H E) (E := E) rfl rfl rfl rfl
      exact (ss_cons (s_set 2 e_int SC__law_bag.nd)
    (ss_cons (s_if (t_cmp o_lt (e_var 1) (e_len (x := "len") T.b_len (e_var 0))) (ss_one (s_set 2 (e_ix (e_var 0) (e_var 1)) SC__law_bag.nd)) ss_nil)
    (ss_cons (s_set 3 e_int SC__law_bag.nd)
    (ss_cons (s_if (t_cmp o_ge (e_abs T.b_abs (e_var 2)) (e_op o_pow e_int e_int)) (ss_one (s_set 3 (e_abs T.b_abs (e_var 2)) SC__law_bag.nd)) ss_nil)
    (ss_cons (s_set 4 (e_lst (a_cons e_int (a_cons e_int (a_cons e_int (a_cons e_int (a_cons e_int (a_cons e_int (a_cons e_int (a_cons e_int a_nil))))))))) SC__law_bag.nd)
    (ss_one (s_ret (e_lst (a_cons (e_var 3) (a_cons (e_op o_mod (e_op o_pow (e_op o_add (e_op o_add (e_op o_mod (e_var 2) e_int) (e_op o_mul e_int (e_var 1))) e_int) e_int) (e_ix (e_var 4) (e_op o_mod (e_var 1) e_int))) (a_cons e_int a_nil)))))))))))), T.g__law_bag, F.kp, F.bindsN fun _ _ _ _ _ _ us hl => match us, hl with | [_, _], _ => rfl⟩, mkFn_ar⟩
  exact U.Fn.by Z t__law_bag a__law_bag
theorem SC__law_take : FnScope ["_law_bag_here", "_law_many", "_law_digit"] ["_law_bag_here", "_law_many"] (defScope (top 36)) := ⟨rfl, rfl, rfl, by decide +kernel, rfl, by decide +kernel, by decide +kernel⟩
set_option maxHeartbeats 4000000 in
theorem F__law_take (T : Txt K mg) : Fn P w K mg base 1 "_law_take" 2 s__law_take := by
  obtain ⟨fd, F⟩ := T.f__law_take
  have Z : Fn P w K mg base 1 "_law_take" 2 m__law_take := ⟨⟨_, fd, ["_law_bag_here", "_law_many"], fn_F F SC__law_take (fun cdv A outer s H E hr => by
      have tk := takes_of (X := cxOf (L2.CX P w) P w K mg base ["_law_bag_here", "_law_many", "_law_digit"] "_law_take" (defScope (top 36)) (He.fAd K ("_law_take", none)) cdv A outer s H E) (E := E) rfl rfl rfl rfl
      exact (ss_cons (s_if (t_cmp o_gt (e_ix (e_var 0) e_int) e_int) (ss_cons (s_set 2 (e_op o_mod (e_ix (e_var 0) e_int) (e_var 1)) SC__law_take.nd)
    (ss_cons (s_asg (e_op o_div (e_ix (e_var 0) e_int) (e_var 1)) (g_sub (W := W0) (e_var 0) e_int))
    (ss_one (s_ret (e_var 2))))) ss_nil)
    (ss_cons (s_asg (e_op o_add (e_ix (e_var 0) e_int) e_int) (g_sub (W := W0) (e_var 0) e_int))
    (ss_cons (s_asg (e_op o_mod (e_op o_add (e_op o_add (e_op o_mul (e_ix (e_var 0) e_int) e_int) (e_op o_mul (e_op o_mul e_int (e_ix (e_var 0) e_int)) (e_ix (e_var 0) e_int))) e_int) e_int) (g_sub (W := W0) (e_var 0) e_int))
    (ss_one (s_ret (e_op o_mod (e_op o_mod (e_op o_pow (e_op o_div (e_ix (e_var 0) e_int) e_int) e_int) e_int) (e_var 1)))))))), T.g__law_take, F.kp, F.bindsN fun _ _ _ _ _ _ us hl => match us, hl with | [_, _], _ => rfl⟩, mkFn_ar⟩
  exact U.Fn.by Z t__law_take a__law_take
theorem SC__law_wheels : FnScope ["_law_bag_here", "_law_turn", "_law_found", "_law_many", "_law_places"] ["_law_bag_here"] (defScope (top 37)) := ⟨rfl, rfl, rfl, by decide +kernel, rfl, by decide +kernel, by decide +kernel⟩
set_option maxHeartbeats 4000000 in
theorem F__law_wheels (T : Txt K mg) : Fn P w K mg base 2 "_law_wheels" 1 m__law_wheels := by
  obtain ⟨fd, F⟩ := T.f__law_wheels
  have Z : Fn P w K mg base 2 "_law_wheels" 1 m__law_wheels := ⟨⟨_, fd, ["_law_bag_here"], fn_F F SC__law_wheels (fun cdv A outer s H E hr => by
      have tk := takes_of (X := cxOf (L2.CX P w) P w K mg base ["_law_bag_here", "_law_turn", "_law_found", "_law_many", "_law_places"] "_law_wheels" (defScope (top 37)) (He.fAd K ("_law_wheels", none)) cdv A outer s H E) (E := E) rfl rfl rfl rfl
      exact (ss_cons (s_par 2 3 rfl SC__law_wheels.nd (e_lst a_nil) e_int)
    (ss_cons (s_for (passes_of rfl) rfl (i_rng1 T.b_range (e_op o_add e_int (e_call (F__law_take T) tk (hr.mono (by decide)) (a_cons (e_var 0) (a_cons e_int a_nil))))) (g_name 1 SC__law_wheels.nd) (ss_cons (s_set 4 (e_op o_add e_int (e_call (F__law_take T) tk (hr.mono (by decide)) (a_cons (e_var 0) (a_cons e_int a_nil)))) SC__law_wheels.nd)
    (ss_one (s_if (t_cmp o_le (e_op o_mul (e_var 3) (e_var 4)) e_int) (ss_cons (s_expr (e_append (e_var 2) (e_var 4)))
    (ss_one (s_set 3 (e_op o_mul (e_var 3) (e_var 4)) SC__law_wheels.nd))) ss_nil))))
    (ss_one (s_ret (e_tuple T.b_tuple (e_var 2))))))), T.g__law_wheels, F.kp, F.bindsN fun _ _ _ _ _ _ us hl => match us, hl with | [_], _ => rfl⟩, mkFn_ar⟩
  exact Z
theorem SC__law_condition : FnScope ["_law_bag_here", "_law_wheels_here", "_law_many", "_law_word", "_law_wheel"] ["_law_bag_here", "_law_wheels_here", "_law_many"] (defScope (top 38)) := ⟨rfl, rfl, rfl, by decide +kernel, rfl, by decide +kernel, by decide +kernel⟩
set_option maxHeartbeats 4000000 in
theorem F__law_condition (T : Txt K mg) : Fn P w K mg base 2 "_law_condition" 3 m__law_condition := by
  obtain ⟨fd, F⟩ := T.f__law_condition
  have Z : Fn P w K mg base 2 "_law_condition" 3 m__law_condition := ⟨⟨_, fd, ["_law_bag_here", "_law_wheels_here", "_law_many"], fn_F F SC__law_condition (fun cdv A outer s H E hr => by
      have tk := takes_of (X := cxOf (L2.CX P w) P w K mg base ["_law_bag_here", "_law_wheels_here", "_law_many", "_law_word", "_law_wheel"] "_law_condition" (defScope (top 38)) (He.fAd K ("_law_condition", none)) cdv A outer s H E) (E := E) rfl rfl rfl rfl
      exact (ss_cons (s_set 3 (e_ix (e_tup (a_cons e_str (a_cons e_str (a_cons e_str (a_cons e_str (a_cons e_str (a_cons e_str a_nil))))))) (e_call (F__law_take T) tk (hr.mono (by decide)) (a_cons (e_var 0) (a_cons e_int a_nil)))) SC__law_condition.nd)
    (ss_cons (s_if (t_cmp (o_in hr) (e_var 3) (e_tup (a_cons e_str (a_cons e_str a_nil)))) (ss_one (s_ret (e_tup (a_cons (e_var 3) (a_cons (e_call (F__law_take T) tk (hr.mono (by decide)) (a_cons (e_var 0) (a_cons (e_var 2) a_nil))) a_nil))))) ss_nil)
    (ss_cons (s_set 4 (e_call (F__law_take T) tk (hr.mono (by decide)) (a_cons (e_var 0) (a_cons (e_len (x := "len") T.b_len (e_var 1)) a_nil))) SC__law_condition.nd)
    (ss_one (s_ret (e_tup (a_cons (e_var 3) (a_cons (e_var 4) (a_cons (e_call (F__law_take T) tk (hr.mono (by decide)) (a_cons (e_var 0) (a_cons (e_ix (e_var 1) (e_var 4)) a_nil))) a_nil)))))))))), T.g__law_condition, F.kp, F.bindsN fun _ _ _ _ _ _ us hl => match us, hl with | [_, _, _], _ => rfl⟩, mkFn_ar⟩
  exact Z
theorem SC__law_change : FnScope ["_law_bag_here", "_law_wheels_here", "_law_wheel"] ["_law_bag_here", "_law_wheels_here"] (defScope (top 39)) := ⟨rfl, rfl, rfl, by decide +kernel, rfl, by decide +kernel, by decide +kernel⟩
set_option maxHeartbeats 4000000 in
theorem F__law_change (T : Txt K mg) : Fn P w K mg base 2 "_law_change" 2 m__law_change := by
  obtain ⟨fd, F⟩ := T.f__law_change
  have Z : Fn P w K mg base 2 "_law_change" 2 m__law_change := ⟨⟨_, fd, ["_law_bag_here", "_law_wheels_here"], fn_F F SC__law_change (fun cdv A outer s H E hr => by
      have tk := takes_of (X := cxOf (L2.CX P w) P w K mg base ["_law_bag_here", "_law_wheels_here", "_law_wheel"] "_law_change" (defScope (top 39)) (He.fAd K ("_law_change", none)) cdv A outer s H E) (E := E) rfl rfl rfl rfl
      exact (ss_cons (s_set 2 (e_call (F__law_take T) tk (hr.mono (by decide)) (a_cons (e_var 0) (a_cons (e_len (x := "len") T.b_len (e_var 1)) a_nil))) SC__law_change.nd)
    (ss_one (s_ret (e_tup (a_cons (e_ix (e_tup (a_cons e_str (a_cons e_str (a_cons e_str a_nil)))) (e_call (F__law_take T) tk (hr.mono (by decide)) (a_cons (e_var 0) (a_cons e_int a_nil)))) (a_cons (e_var 2) (a_cons (e_call (F__law_take T) tk (hr.mono (by decide)) (a_cons (e_var 0) (a_cons (e_ix (e_var 1) (e_var 2)) a_nil))) a_nil)))))))), T.g__law_change, F.kp, F.bindsN fun _ _ _ _ _ _ us hl => match us, hl with | [_, _], _ => rfl⟩, mkFn_ar⟩
  exact Z
theorem SC__law_rule : FnScope ["_law_bag_here", "_law_wheels_here", "_law_many", "_law_test", "_law_changes", "_law_other", "_law_hushes", "_law_wakes", "_law_way", "_law_turn"] ["_law_bag_here", "_law_wheels_here", "_law_many"] (defScope (top 40)) := ⟨rfl, rfl, rfl, by decide +kernel, rfl, by decide +kernel, by decide +kernel⟩
set_option maxHeartbeats 4000000 in
theorem F__law_rule (T : Txt K mg) : Fn P w K mg base 3 "_law_rule" 3 m__law_rule := by
  obtain ⟨fd, F⟩ := T.f__law_rule
  have Z : Fn P w K mg base 3 "_law_rule" 3 m__law_rule := ⟨⟨_, fd, ["_law_bag_here", "_law_wheels_here", "_law_many"], fn_F F SC__law_rule (fun cdv A outer s H E hr => by
      have tk := takes_of (X := cxOf (L2.CX P w) P w K mg base ["_law_bag_here", "_law_wheels_here", "_law_many", "_law_test", "_law_changes", "_law_other", "_law_hushes", "_law_wakes", "_law_way", "_law_turn"] "_law_rule" (defScope (top 40)) (He.fAd K ("_law_rule", none)) cdv A outer s H E) (E := E) rfl rfl rfl rfl
      exact (ss_cons (by first | exact s_setLc 3 [("_law_turn", 9)] rfl SC__law_rule.nd (go_name 9) (i_rng1 T.b_range (e_ix (e_tup (a_cons e_int (a_cons e_int (a_cons e_int (a_cons e_int (a_cons e_int (a_cons e_int a_nil))))))) (e_call (F__law_take T) tk (hr.mono (by decide)) (a_cons (e_var 0) (a_cons e_int a_nil))))) (blkOk_by (N := ["_law_bag_here", "_law_wheels_here", "_law_many", "_law_test", "_law_changes", "_law_other", "_law_hushes", "_law_wakes", "_law_way", "_law_turn"]) (sc := defScope (top 40)) (by decide +kernel)) (fun _ _ _ _ _ => (pg_name (i := 9) SC__law_rule.nd rfl (by first | exact Or.inl rfl | exact Or.inr rfl))) (fun _ _ _ _ _ => c_yes) (fun _ _ _ _ _ => (e_call (F__law_condition T) takes0 (hr.mono (by decide)) (a_cons (e_var 0) (a_cons (e_var 1) (a_cons (e_var 2) a_nil))))) (sw_true rfl rfl rfl (by decide +kernel)) | exact s_set 3 (e_lc [("_law_turn", 9)] rfl SC__law_rule.nd (go_name 9) (i_rng1 T.b_range (e_ix (e_tup (a_cons e_int (a_cons e_int (a_cons e_int (a_cons e_int (a_cons e_int (a_cons e_int a_nil))))))) (e_call (F__law_take T) tk (hr.mono (by decide)) (a_cons (e_var 0) (a_cons e_int a_nil))))) (blkOk_by (N := ["_law_bag_here", "_law_wheels_here", "_law_many", "_law_test", "_law_changes", "_law_other", "_law_hushes", "_law_wakes", "_law_way", "_law_turn"]) (sc := defScope (top 40)) (by decide +kernel)) (fun _ _ _ _ _ => (pg_name (i := 9) SC__law_rule.nd rfl (by first | exact Or.inl rfl | exact Or.inr rfl))) (fun _ _ _ _ _ => c_yes) (fun _ _ _ _ _ => (e_call (F__law_condition T) takes0 (hr.mono (by decide)) (a_cons (e_var 0) (a_cons (e_var 1) (a_cons (e_var 2) a_nil)))))) SC__law_rule.nd)
    (ss_cons (by first | exact s_setLc 4 [("_law_turn", 9)] rfl SC__law_rule.nd (go_name 9) (i_rng1 T.b_range (e_ix (e_tup (a_cons e_int (a_cons e_int (a_cons e_int (a_cons e_int (a_cons e_int a_nil)))))) (e_call (F__law_take T) tk (hr.mono (by decide)) (a_cons (e_var 0) (a_cons e_int a_nil))))) (blkOk_by (N := ["_law_bag_here", "_law_wheels_here", "_law_many", "_law_test", "_law_changes", "_law_other", "_law_hushes", "_law_wakes", "_law_way", "_law_turn"]) (sc := defScope (top 40)) (by decide +kernel)) (fun _ _ _ _ _ => (pg_name (i := 9) SC__law_rule.nd rfl (by first | exact Or.inl rfl | exact Or.inr rfl))) (fun _ _ _ _ _ => c_yes) (fun _ _ _ _ _ => (e_call (F__law_change T) takes0 (hr.mono (by decide)) (a_cons (e_var 0) (a_cons (e_var 1) a_nil)))) (sw_true rfl rfl rfl (by decide +kernel)) | exact s_set 4 (e_lc [("_law_turn", 9)] rfl SC__law_rule.nd (go_name 9) (i_rng1 T.b_range (e_ix (e_tup (a_cons e_int (a_cons e_int (a_cons e_int (a_cons e_int (a_cons e_int a_nil)))))) (e_call (F__law_take T) tk (hr.mono (by decide)) (a_cons (e_var 0) (a_cons e_int a_nil))))) (blkOk_by (N := ["_law_bag_here", "_law_wheels_here", "_law_many", "_law_test", "_law_changes", "_law_other", "_law_hushes", "_law_wakes", "_law_way", "_law_turn"]) (sc := defScope (top 40)) (by decide +kernel)) (fun _ _ _ _ _ => (pg_name (i := 9) SC__law_rule.nd rfl (by first | exact Or.inl rfl | exact Or.inr rfl))) (fun _ _ _ _ _ => c_yes) (fun _ _ _ _ _ => (e_call (F__law_change T) takes0 (hr.mono (by decide)) (a_cons (e_var 0) (a_cons (e_var 1) a_nil))))) SC__law_rule.nd)
    (ss_cons (s_par 6 7 rfl SC__law_rule.nd (e_lst a_nil) (e_lst a_nil))
    (ss_cons (s_for (passes_of rfl) rfl (i_rng1 T.b_range (e_var 2)) (g_name 5 SC__law_rule.nd) (ss_cons (s_set 8 (e_call (F__law_take T) tk (hr.mono (by decide)) (a_cons (e_var 0) (a_cons e_int a_nil))) SC__law_rule.nd)
    (ss_cons (s_if (t_cmp (o_eq hr) (e_var 8) e_int) (ss_one (s_expr (e_append (e_var 6) (e_tup (a_cons (e_var 5) (a_cons (e_op o_add e_int (e_call (F__law_take T) tk (hr.mono (by decide)) (a_cons (e_var 0) (a_cons e_int a_nil)))) a_nil)))))) ss_nil)
    (ss_one (s_if (t_cmp (o_eq hr) (e_var 8) e_int) (ss_one (s_expr (e_append (e_var 7) (e_var 5)))) ss_nil)))))
    (ss_one (s_ret (e_tup (a_cons (e_tuple T.b_tuple (e_var 3)) (a_cons (e_tuple T.b_tuple (e_var 4)) (a_cons (e_tuple T.b_tuple (e_var 6)) (a_cons (e_tuple T.b_tuple (e_var 7)) a_nil)))))))))))), T.g__law_rule, F.kp, F.bindsN fun _ _ _ _ _ _ us hl => match us, hl with | [_, _, _], _ => rfl⟩, mkFn_ar⟩
  exact Z
theorem SC__law_rules : FnScope ["_law_bag_here", "_law_wheels_here", "_law_many", "_law_turn"] ["_law_bag_here", "_law_wheels_here", "_law_many"] (defScope (top 41)) := ⟨rfl, rfl, rfl, by decide +kernel, rfl, by decide +kernel, by decide +kernel⟩
set_option maxHeartbeats 4000000 in
theorem F__law_rules (T : Txt K mg) : Fn P w K mg base 4 "_law_rules" 3 m__law_rules := by
  obtain ⟨fd, F⟩ := T.f__law_rules
  have Z : Fn P w K mg base 4 "_law_rules" 3 m__law_rules := ⟨⟨_, fd, ["_law_bag_here", "_law_wheels_here", "_law_many"], fn_F F SC__law_rules (fun cdv A outer s H E hr => by
      have tk := takes_of (X := cxOf (L2.CX P w) P w K mg base ["_law_bag_here", "_law_wheels_here", "_law_many", "_law_turn"] "_law_rules" (defScope (top 41)) (He.fAd K ("_law_rules", none)) cdv A outer s H E) (E := E) rfl rfl rfl rfl
      exact (ss_one (s_ret (e_tuple T.b_tuple (e_lc [("_law_turn", 3)] rfl SC__law_rules.nd (go_name 3) (i_rng1 T.b_range (e_var 2)) (blkOk_by (N := ["_law_bag_here", "_law_wheels_here", "_law_many", "_law_turn"]) (sc := defScope (top 41)) (by decide +kernel)) (fun _ _ _ _ _ => (pg_name (i := 3) SC__law_rules.nd rfl (by first | exact Or.inl rfl | exact Or.inr rfl))) (fun _ _ _ _ _ => c_yes) (fun _ _ _ _ _ => (e_call (F__law_rule T) takes0 (hr.mono (by decide)) (a_cons (e_var 0) (a_cons (e_var 1) (a_cons (e_var 2) a_nil)))))))))), T.g__law_rules, F.kp, F.bindsN fun _ _ _ _ _ _ us hl => match us, hl with | [_, _, _], _ => rfl⟩, mkFn_ar⟩
  exact Z
theorem SC__law_drawn : FnScope ["_law_bag_here", "_law_wheels_here"] ["_law_bag_here"] (defScope (top 42)) := ⟨rfl, rfl, rfl, by decide +kernel, rfl, by decide +kernel, by decide +kernel⟩
set_option maxHeartbeats 4000000 in
theorem F__law_drawn (T : Txt K mg) : Fn P w K mg base 5 "_law_drawn" 1 m__law_drawn := by
  obtain ⟨fd, F⟩ := T.f__law_drawn
  have Z : Fn P w K mg base 5 "_law_drawn" 1 m__law_drawn := ⟨⟨_, fd, ["_law_bag_here"], fn_F F SC__law_drawn (fun cdv A outer s H E hr => by
      have tk := takes_of (X := cxOf (L2.CX P w) P w K mg base ["_law_bag_here", "_law_wheels_here"] "_law_drawn" (defScope (top 42)) (He.fAd K ("_law_drawn", none)) cdv A outer s H E) (E := E) rfl rfl rfl rfl
      exact (ss_cons (s_set 1 (e_call (F__law_wheels T) tk (hr.mono (by decide)) (a_cons (e_var 0) a_nil)) SC__law_drawn.nd)
    (ss_one (s_ret (e_tup (a_cons (e_var 1) (a_cons (e_call (F__law_rules T) tk (hr.mono (by decide)) (a_cons (e_var 0) (a_cons (e_var 1) (a_cons (e_ix (e_tup (a_cons e_int (a_cons e_int (a_cons e_int (a_cons e_int (a_cons e_int (a_cons e_int a_nil))))))) (e_call (F__law_take T) tk (hr.mono (by decide)) (a_cons (e_var 0) (a_cons e_int a_nil)))) a_nil)))) a_nil))))))), T.g__law_drawn, F.kp, F.bindsN fun _ _ _ _ _ _ us hl => match us, hl with | [_], _ => rfl⟩, mkFn_ar⟩
  exact Z
theorem SC__law_near : FnScope ["_law_bag_here", "_law_wheels_here", "_law_rules_here", "_law_way", "_law_at", "_law_new", "_law_test", "_law_changes", "_law_hushes", "_law_wakes"] ["_law_bag_here", "_law_wheels_here", "_law_rules_here"] (defScope (top 43)) := ⟨rfl, rfl, rfl, by decide +kernel, rfl, by decide +kernel, by decide +kernel⟩
set_option maxHeartbeats 4000000 in
theorem F__law_near (T : Txt K mg) : Fn P w K mg base 2 "_law_near" 3 m__law_near := by
  obtain ⟨fd, F⟩ := T.f__law_near
  have Z : Fn P w K mg base 2 "_law_near" 3 m__law_near := ⟨⟨_, fd, ["_law_bag_here", "_law_wheels_here", "_law_rules_here"], fn_F F SC__law_near (fun cdv A outer s H E hr => by
      have tk := takes_of (X := cxOf (L2.CX P w) P w K mg base ["_law_bag_here", "_law_wheels_here", "_law_rules_here", "_law_way", "_law_at", "_law_new", "_law_test", "_law_changes", "_law_hushes", "_law_wakes"] "_law_near" (defScope (top 43)) (He.fAd K ("_law_near", none)) cdv A outer s H E) (E := E) rfl rfl rfl rfl
      exact (ss_cons (s_set 3 (e_call (F__law_take T) tk (hr.mono (by decide)) (a_cons (e_var 0) (a_cons e_int a_nil))) SC__law_near.nd)
    (ss_cons (s_if (t_cmp (o_eq hr) (e_var 3) e_int) (ss_one (s_ret (e_tup (a_cons (e_revU (e_var 1) (e_neg e_int)) (a_cons (e_tup a_nil) a_nil))))) ss_nil)
    (ss_cons (s_if (t_w (w_or (t_cmp (o_eq hr) (e_var 3) e_int) (w_or1 (t_cmp (o_eq hr) (e_var 2) (e_tup a_nil))))) (ss_one (s_ret (e_tup (a_cons (e_var 1) (a_cons (e_var 2) a_nil))))) ss_nil)
    (ss_cons (s_set 4 (e_call (F__law_take T) tk (hr.mono (by decide)) (a_cons (e_var 0) (a_cons (e_len (x := "len") T.b_len (e_var 2)) a_nil))) SC__law_near.nd)
    (ss_cons (s_asg (e_ix (e_var 2) (e_var 4)) (g_tup 4 rfl (gs_cons (g_name 6 SC__law_near.nd) (gs_cons (g_name 7 SC__law_near.nd) (gs_cons (g_name 8 SC__law_near.nd) (gs_cons (g_name 9 SC__law_near.nd) gs_nil))))))
    (ss_cons (s_set 5 (e_ix (e_lst (a_cons (e_tup (a_cons (e_slice (e_var 6) (p_some e_int) p_none) (a_cons (e_var 7) (a_cons (e_var 8) (a_cons (e_var 9) a_nil))))) (a_cons (e_tup (a_cons (e_var 6) (a_cons (e_var 7) (a_cons (e_var 8) (a_cons (e_tup a_nil) a_nil))))) (a_cons (e_tup (a_cons (e_var 6) (a_cons (e_tup a_nil) (a_cons (e_var 8) (a_cons (e_var 9) a_nil))))) a_nil)))) (e_op o_sub (e_var 3) e_int)) SC__law_near.nd)
    (ss_one (s_ret (e_tup (a_cons (e_var 1) (a_cons (e_op o_add (e_op o_add (e_slice (e_var 2) p_none (p_some (e_var 4))) (e_tup (a_cons (e_var 5) a_nil))) (e_slice (e_var 2) (p_some (e_op o_add (e_var 4) e_int)) p_none)) a_nil)))))))))))), T.g__law_near, F.kp, F.bindsN fun _ _ _ _ _ _ us hl => match us, hl with | [_, _, _], _ => rfl⟩, mkFn_ar⟩
  exact Z
theorem SC_law : FnScope ["_law_script", "_law_k", "_law_first", "_law_second", "_law_bag_here", "_law_other", "_law_same", "_law_one", "_law_two", "_law_thing"] ["_law_script"] (defScope (top 44)) := ⟨rfl, rfl, rfl, by decide +kernel, rfl, by decide +kernel, by decide +kernel⟩
set_option maxHeartbeats 4000000 in
theorem E_law (T : Txt K mg) : ∃ fd : FuncData, (∀ (s : Shared) (u : Value), BindsTo s fd ⟨[u], []⟩ [("_law_script", u)]) ∧ ∀ base : Heap, FnOk P w K mg base (L2.CX P w) 9 (He.fAd K ("law", none)) fd ["_law_script"] (spF K 1 m_law) := by
  obtain ⟨fd, F⟩ := T.f_law
  have b := FunD.bindsA (ps := ["_law_script"]) F fun _ _ _ _ _ _ us hl => match us, hl with | [_], _ => rfl
  exact ⟨fd, fun s u => b s [u] rfl, fun base => fn_F F SC_law (fun cdv A outer s H E hr => by
      have tk := takes_of (X := cxOf (L2.CX P w) P w K mg base ["_law_script", "_law_k", "_law_first", "_law_second", "_law_bag_here", "_law_other", "_law_same", "_law_one", "_law_two", "_law_thing"] "law" (defScope (top 44)) (He.fAd K ("law", none)) cdv A outer s H E) (E := E) rfl rfl rfl rfl
      exact (ss_cons (s_for (passes_of rfl) rfl (i_rng1 T.b_range (e_max2 rfl T.b_max e_int (e_min2 rfl T.b_min e_int (e_op o_div (e_len (x := "len") T.b_len (e_var 0)) e_int)))) (g_name 1 SC_law.nd) (ss_cons (s_par 4 5 rfl SC_law.nd (e_call (F__law_bag T) tk (hr.mono (by decide)) (a_cons (e_var 0) (a_cons (e_op o_mul e_int (e_var 1)) a_nil))) (e_call (F__law_bag T) tk (hr.mono (by decide)) (a_cons (e_var 0) (a_cons (e_op o_add (e_op o_mul e_int (e_var 1)) e_int) a_nil))))
    (ss_cons (s_set 2 (e_call (F__law_drawn T) tk (hr.mono (by decide)) (a_cons (e_var 4) a_nil)) SC_law.nd)
    (ss_one (s_for (passes_of rfl) rfl (i_seq (e_tup (a_cons (e_call (F__law_near T) tk (hr.mono (by decide)) (a_cons (e_var 4) (a_cons (e_ix (e_var 2) e_int) (a_cons (e_ix (e_var 2) e_int) a_nil)))) (a_cons (e_call (F__law_near T) tk (hr.mono (by decide)) (a_cons (e_var 4) (a_cons (e_ix (e_var 2) e_int) (a_cons (e_ix (e_var 2) e_int) a_nil)))) (a_cons (e_call (F__law_drawn T) tk (hr.mono (by decide)) (a_cons (e_var 5) a_nil)) a_nil))))) (g_name 3 SC_law.nd) (ss_cons (s_asg (e_tup (a_cons (e_make (M_Book T) tk (hr.mono (by decide)) (a_cons (e_ix (e_var 2) e_int) (a_cons (e_ix (e_var 2) e_int) a_nil))) (a_cons (e_make (M_Book T) tk (hr.mono (by decide)) (a_cons (e_ix (e_var 3) e_int) (a_cons (e_ix (e_var 3) e_int) a_nil))) a_nil))) (g_tup 2 rfl (gs_cons (g_name 7 SC_law.nd) (gs_cons (g_name 8 SC_law.nd) gs_nil))))
    (ss_cons (s_set 6 (e_cmp (o_eq hr) (e_var 2) (e_var 3)) SC_law.nd)
    (ss_cons (s_if (t_w (w_or (t_cmp (o_ne hr) (e_cmp (o_eqO (Q_Book T) tk (hr.mono (by decide))) (e_var 7) (e_var 8)) (e_var 6)) (w_or (t_cmp (o_ne hr) (e_cmp (o_eqO (Q_Book T) tk (hr.mono (by decide))) (e_var 8) (e_var 7)) (e_var 6)) (w_or (t_cmp (o_eq hr) (e_cmp (o_neO (Q_Book T) T.q_Book tk (hr.mono (by decide))) (e_var 7) (e_var 8)) (e_var 6)) (w_or1 (t_not (t_cmp (o_eqO (Q_Book T) tk (hr.mono (by decide))) (e_var 7) (e_var 7)))))))) (ss_one (s_ret e_bl)) ss_nil)
    (ss_cons (s_if (t_w (w_or (t_cmp (o_ne hr) (e_lenI (L_Book T) tk (hr.mono (by decide)) T.b_len (e_var 8)) (e_len (x := "len") T.b_len (e_ix (e_var 3) e_int))) (w_or1 (t_cmp (o_ne hr) (e_notI (L_Book T) T.l_Book tk (hr.mono (by decide)) (e_var 8)) (e_cmp (o_eq hr) (e_ix (e_var 3) e_int) (e_tup a_nil)))))) (ss_one (s_ret e_bl)) ss_nil)
    (ss_cons (s_if (t_cmp o_neS (e_reprO (R_Book T) tk (hr.mono (by decide)) T.b_repr (e_var 8)) (e_op o_add (e_op o_add (e_op o_add (e_op o_add e_str (e_strI T.b_str (e_len (x := "len") T.b_len (e_ix (e_var 3) e_int)))) e_str) (e_strI T.b_str (e_len (x := "len") T.b_len (e_ix (e_var 3) e_int)))) e_str)) (ss_one (s_ret e_bl)) ss_nil)
    (ss_cons (s_if (t_val (e_any rfl T.b_any (e_lc [("_law_thing", 9)] rfl SC_law.nd (go_name 9) (i_seq (e_tup (a_cons e_non (a_cons (e_var 2) (a_cons (e_ix (e_var 2) e_int) (a_cons (e_reprO (R_Book T) tk (hr.mono (by decide)) T.b_repr (e_var 7)) (a_cons (e_strO (U_Book T) tk (hr.mono (by decide)) T.b_str (e_var 7)) (a_cons e_int a_nil)))))))) (blkOk_by (N := ["_law_script", "_law_k", "_law_first", "_law_second", "_law_bag_here", "_law_other", "_law_same", "_law_one", "_law_two", "_law_thing"]) (sc := defScope (top 44)) (by decide +kernel)) (fun _ _ _ _ _ => (pg_name (i := 9) SC_law.nd rfl (by first | exact Or.inl rfl | exact Or.inr rfl))) (fun _ _ _ _ _ => c_yes) (fun _ _ _ _ _ => (e_or (e_cmp (o_eqM (Q_Book T) takes0 (hr.mono (by decide))) (e_var 7) (e_var 9)) (e_one (e_cmp (o_eqB (Q_Book T) T.s_Book takes0 (hr.mono (by decide))) (e_var 9) (e_var 7)))))))) (ss_one (s_ret e_bl)) ss_nil)
    (ss_one (s_if (t_w (w_or (t_cmp (o_ne hr) (e_tup (a_cons (e_fld "Book" "wheels" T.c_Book T.n_Book_wheels (e_var 7)) (a_cons (e_fld "Book" "rules" T.c_Book T.n_Book_rules (e_var 7)) a_nil))) (e_var 2)) (w_or1 (t_cmp (o_ne hr) (e_tup (a_cons (e_fld "Book" "wheels" T.c_Book T.n_Book_wheels (e_var 8)) (a_cons (e_fld "Book" "rules" T.c_Book T.n_Book_rules (e_var 8)) a_nil))) (e_var 3))))) (ss_one (s_ret e_bl)) ss_nil)))))))))))))
    (ss_one (s_ret e_bl))))⟩
end
end Hd
set_option Elab.async false
set_option linter.all false
set_option maxRecDepth 100000
set_option maxHeartbeats 1000000
namespace Hd
open PySem U
local macro_rules | `(tactic| walk_at "ex1") => `(tactic| first | (with_reducible refine w_seq ?_) | (with_reducible refine w_set ?_) | (with_reducible refine w_ret ?_) | (with_reducible refine w_sif ?_) | (with_reducible refine w_asg2 ?_) | (with_reducible refine w_asg3 ?_) | (with_reducible refine w_asg4 ?_) | (with_reducible refine w_ex2 ?_) | (with_reducible refine w_ex3 ?_) | (with_reducible refine w_ex4 ?_) | (with_reducible refine w_par ?_) | (with_reducible refine w_par3 ?_) | (with_reducible refine w_expr ?_) | (with_reducible refine w_for ?_) | (with_reducible refine w_skip ?_) | (with_reducible refine w_fn ?_) | (with_reducible refine w_acons ?_) | (with_reducible refine w_anil ?_) | (with_reducible refine w_aapp ?_) | (with_reducible refine w_bin ?_) | (with_reducible refine w_un ?_) | (with_reducible refine w_c ?_) | (with_reducible refine w_tof ?_) | (with_reducible refine w_tob ?_) | (with_reducible refine w_tand ?_) | (with_reducible refine w_tor ?_) | (with_reducible refine w_tnot ?_) | (with_reducible refine w_eand ?_) | (with_reducible refine w_eor ?_) | (with_reducible refine w_enot ?_) | (with_reducible refine w_exb ?_) | (with_reducible refine w_exi ?_) | (with_reducible refine w_if ?_) | (with_reducible refine w_slice ?_) | (with_reducible refine w_onone ?_) | (with_reducible refine w_osome ?_) | (with_reducible refine w_lc ?_) | (with_reducible refine w_lc2 ?_) | (with_reducible refine w_mtl ?_) | (with_reducible refine w_iseq ?_) | (with_reducible refine w_irng ?_) | (with_reducible refine w_ienum ?_) | (with_reducible refine w_ibin ?_) | (with_reducible refine w_true ?_) | (with_reducible refine cond_t ?_) | (with_reducible refine cond_f ?_))
local macro_rules | `(tactic| walk_at "ex2") => `(tactic| first | (with_reducible refine w_addI ?_) | (with_reducible refine w_subI ?_) | (with_reducible refine w_ltI ?_) | (with_reducible refine w_leI ?_) | (with_reducible refine w_gtI ?_) | (with_reducible refine w_geI ?_) | (with_reducible refine w_eqI ?_) | (with_reducible refine w_neI ?_) | (with_reducible refine w_negI ?_) | (with_reducible refine w_maxI ?_) | (with_reducible refine w_minI ?_) | (with_reducible refine w_lenT ?_) | (with_reducible refine w_slT ?_) | (with_reducible refine w_sseq ?_) | (with_reducible refine w_senum ?_) | (with_reducible refine w_szip ?_) | (with_reducible refine w_eqB ?_) | (with_reducible refine w_neB ?_))
local macro_rules | `(tactic| walk_at "ex3") => `(tactic| first | ((with_reducible apply w_var); (focus exact rfl)) | ((with_reducible apply w_aug); (focus exact rfl)) | ((with_reducible apply w_thaw); (focus exact rfl); (focus with_reducible assumption)) | ((with_reducible apply w_idxZ); (focus exact rfl); (focus with_reducible assumption)) | ((with_reducible apply wr_by); (focus with_reducible assumption)) | ((with_reducible apply w_via); (focus exact rfl)) | ((with_reducible apply w_mkTup); (focus exact Nat.le_of_ble_eq_true rfl)) | ((with_reducible apply w_mkLst); (focus exact Nat.le_of_ble_eq_true rfl)) | ((with_reducible apply w_ix); (focus exact rfl); (focus exact rfl)) | ((with_reducible apply w_lenL); (focus with_reducible assumption)) | ((with_reducible apply w_lenL); (focus with_reducible exact get_end)) | ((with_reducible apply w_isl); (focus with_reducible assumption)) | ((with_reducible apply w_append); (focus with_reducible assumption); (focus with_reducible assumption)) | ((with_reducible apply w_slL); (focus with_reducible assumption)) | ((with_reducible apply w_enumL); (focus with_reducible assumption)) | ((with_reducible apply w_tupL); (focus with_reducible assumption)) | ((with_reducible apply w_sdyn); (focus with_reducible assumption)) | ((with_reducible apply w_isi); (focus exact rfl)) | ((with_reducible apply w_isi2); (focus exact rfl)) | ((with_reducible apply w_eqS); (focus decide +kernel); (focus decide +kernel)) | ((with_reducible apply cond_af); (focus exact rfl)) | ((with_reducible apply cond_at); (focus exact rfl)) | ((with_reducible apply cond_af); (focus decide +kernel)) | ((with_reducible apply cond_at); (focus decide +kernel)))
local macro_rules | `(tactic| walk_at "go") => `(tactic| repeat (first | walk_at "ex1" | walk_at "ex2" | walk_at "ex3"))
structure WhOk (ws : List D) : Prop where
  l1 : 1 ≤ ws.length
  l3 : ws.length ≤ 3
  w : ∀ w ∈ ws, ∃ m : Nat, w = .int m ∧ 2 ≤ m ∧ m ≤ 4
  pr : prodD ws ≤ 24
theorem prod_snoc : ∀ {xs : List D} {i : Int}, xs.all isI = true → prodD (xs ++ [.int i]) = prodD xs * i
  | [], i, _ => by simp [prodD]
  | x :: xs, i, h => by
    simp only [List.all_cons, Bool.and_eq_true] at h
    obtain ⟨j, rfl⟩ : ∃ j, x = .int j := ⟨_, isI_eq h.1⟩
    simp only [List.cons_append, prodD, prod_snoc h.2, Int.mul_assoc]
theorem app_run {T : Sto} {k : Nat} {env : Ev} {ga gb : EM} {xs : List D} {d : D} (ha : ga env T = .ok (.ref k) T) (hk : T[k]? = some (.lst xs)) (hb : gb env T = .ok d T) (hl : xs.length < most) : eMtL mAppend ga (aCons gb aNil) env T = .ok .non (T.set k (.lst (xs ++ [d]))) := by
  unfold eMtL
  rw [ha]
  simp only [R.bind, isLst, lstOf, hk, Option.isSome_some, if_true, aCons, hb, aNil, mAppend]
  rw [if_pos hl]
theorem app_run2 {T T1 : Sto} {k : Nat} {env : Ev} {ga gb : EM} {xs : List D} {d : D} (ha : ga env T = .ok (.ref k) T) (hk : T[k]? = some (.lst xs)) (hk1 : T1[k]? = some (.lst xs)) (hb : gb env T = .ok d T1) (hl : xs.length < most) : eMtL mAppend ga (aCons gb aNil) env T = .ok .non (T1.set k (.lst (xs ++ [d]))) := by
  unfold eMtL
  rw [ha]
  simp only [R.bind, isLst, lstOf, hk, Option.isSome_some, if_true, aCons, hb, aNil, mAppend, hk1]
  rw [if_pos hl]
theorem wheels_run {S : Sto} {B : Nat} {c : Int} (h : Bag S B c) (hc : c + 10 < 1000000000) : ∃ ws T, m__law_wheels [.ref B] S = .ok (.tup ws) T ∧ Grw S T B ∧ Bag T B (c + 10) ∧ WhOk ws := by
  have hB := h.lt
  obtain ⟨a, S1, t1, ha, B1, G1, L1⟩ := take_go (st := S ++ [.lst []]) (many := 3) h.app (by omega) (by omega) (by omega)
  have hr : iRng (eBin dAdd (eC (.int 1)) (eFn s__law_take (aCons (eVar 0) (aCons (eC (.int 3)) aNil)))) [some (.ref B), none, some (.ref S.length), some (.int 1), none] (S ++ [.lst []]) = .ok (.fix (rngL 0 (1 + a))) S1 := irng_of (by
    rw [ev_bin, ev_c, ev_bok, ev_fn, ev_acons, ev_var]
    show (((R.ok (D.ref B) (S ++ [.lst []])).bind _).bind _).bind _ = _
    rw [ev_bok, ev_acons, ev_c, ev_bok, ev_anil, ev_bok, ev_bok, ev_bok]
    show (s_take [.ref B, .int 3] (S ++ [.lst []])).bind _ = _
    rw [t1, ev_bok, ev_addI, show (1 : Int) + (a : Int) = ((1 + a : Nat) : Int) by omega]) (Nat.le_trans (show 1 + a ≤ 3 by omega) (by decide))
  have e1 : S1[S.length]? = some (.lst []) := by rw [G1.at_ _ (by simp) (by omega)]; exact get_end
  obtain ⟨env', T, f1, xs, x1, x4, g1, g2, g3, g4, g5, g6, g7, g8⟩ := startFor_J (s := .fix (rngL 0 (1 + a))) (g := gN 1) (xs := rngL 0 (1 + a)) (env := [some (.ref B), none, some (.ref S.length), some (.int 1), none]) (st := S1)
    (body := sSeq (sSet 4 (eBin dAdd (eC (.int 2)) (eFn s__law_take (aCons (eVar 0) (aCons (eC (.int 3)) aNil))))) (sIf (tOf (eBin dLe (eBin dMul (eVar 3) (eVar 4)) (eC (.int 24)))) (sSeq (sExpr (eMtL mAppend (eVar 2) (aCons (eVar 4) aNil))) (sSet 3 (eBin dMul (eVar 3) (eVar 4)))) sSkip))
    (fun i env T => ∃ xs x1 x4, env = [some (.ref B), x1, some (.ref S.length), some (.int (prodD xs)), x4] ∧ T[S.length]? = some (.lst xs) ∧ Grw S T B ∧ Bag T B (c + 1 + i) ∧ xs.length ≤ i ∧ (1 ≤ i → 1 ≤ xs.length) ∧ (∀ w ∈ xs, ∃ m : Nat, w = .int m ∧ 2 ≤ m ∧ m ≤ 4) ∧ (1 ≤ prodD xs ∧ prodD xs ≤ 24))
    (fun _ _ _ _ => rfl) ⟨[], none, none, rfl, e1, Grw.app.trans G1, by simpa using B1, by simp, by omega, fun _ h => by simp at h, by decide⟩ fun i x env T hx ⟨xs, x1, x4, he, g2, g3, g4, g5, g6, g7, g8⟩ => by
      obtain ⟨hi, rfl⟩ := rngL_get hx
      subst he
      obtain ⟨p, T1, t2, hp, B2, G2, L2⟩ := take_go (many := 3) g4 (by omega) (by omega) (by omega)
      have hTl : S.length < T.length := (List.getElem?_eq_some_iff.mp g2).1
      have g2' : T1[S.length]? = some (.lst xs) := by rw [G2.at_ _ hTl (by omega)]; exact g2
      have xi : xs.all isI = true := List.all_eq_true.mpr fun w hw => by obtain ⟨m, rfl, _⟩ := g7 w hw; rfl
      have hpp : (2 : Int) + (p : Int) = ((2 + p : Nat) : Int) := by omega
      have hm : ∀ s : Sto, dMul (.int (prodD xs)) (.int ((2 + p : Nat) : Int)) s = .ok (.int (prodD xs * ((2 + p : Nat) : Int))) s := fun s => mulI (by omega) (by omega)
      have set4 : ∀ b : SM, ∀ r : RS, b [some (.ref B), some (.int (i : Int)), some (.ref S.length), some (.int (prodD xs)), some (.int ((2 + p : Nat) : Int))] T1 = r → sSeq (sSet 4 (eBin dAdd (eC (.int 2)) (eFn s__law_take (aCons (eVar 0) (aCons (eC (.int 3)) aNil))))) b [some (.ref B), some (.int (i : Int)), some (.ref S.length), some (.int (prodD xs)), x4] T = r := fun b r hb => set_to (d := .int ((2 + p : Nat) : Int)) (st1 := T1) (by
        rw [ev_bin, ev_c, ev_bok, ev_fn, ev_acons, ev_var]
        show (((R.ok (D.ref B) T).bind _).bind _).bind _ = _
        rw [ev_bok, ev_acons, ev_c, ev_bok, ev_anil, ev_bok, ev_bok, ev_bok]
        show (s_take [.ref B, .int 3] T).bind _ = _
        rw [t2, ev_bok, ev_addI, hpp]) hb
      by_cases hq : prodD xs * ((2 + p : Nat) : Int) ≤ 24
      · refine ⟨_, _, [some (.ref B), some (.int (i : Int)), some (.ref S.length), some (.int (prodD (xs ++ [.int ((2 + p : Nat) : Int)]))), some (.int ((2 + p : Nat) : Int))], T1.set S.length (.lst (xs ++ [.int ((2 + p : Nat) : Int)])), rfl, set4 _ _ ?_, xs ++ [.int ((2 + p : Nat) : Int)], _, _, rfl, List.getElem?_set_self (by omega), (g3.trans G2).set (Nat.le_refl _), (B2.set (by omega)).mono (by omega), by simp; omega, by simp, ?_, ?_⟩
        · rw [ev_sif, ev_tof, ev_bin, ev_bin]
          simp only [ev_var, List.getElem?_cons_zero, List.getElem?_cons_succ, ev_bok, hm, ev_c, ev_leI, ev_tob, decide_eq_true hq, ev_tok, if_true]
          refine seq_to (env1 := [some (.ref B), some (.int (i : Int)), some (.ref S.length), some (.int (prodD xs)), some (.int ((2 + p : Nat) : Int))]) (st1 := T1.set S.length (.lst (xs ++ [.int ((2 + p : Nat) : Int)]))) ?_ ?_
          · rw [ev_expr, app_run (k := S.length) (d := .int ((2 + p : Nat) : Int)) rfl g2' rfl (Nat.lt_of_le_of_lt g5 (Nat.lt_of_lt_of_le hi (Nat.le_trans (show 1 + a ≤ 3 by omega) (by decide))))]
            rfl
          · rw [ev_set, ev_bin]
            simp only [ev_var, List.getElem?_cons_zero, List.getElem?_cons_succ, ev_bok, hm]
            rw [← prod_snoc xi]
            rfl
        · intro w hw
          rcases List.mem_append.mp hw with hw | hw
          · exact g7 w hw
          · simp only [List.mem_singleton] at hw
            exact ⟨2 + p, hw, by omega, by omega⟩
        · rw [prod_snoc xi]
          refine ⟨?_, hq⟩
          have : (1 : Int) * 1 ≤ prodD xs * ((2 + p : Nat) : Int) := Int.mul_le_mul g8.1 (by omega) (by omega) (by omega)
          omega
      · refine ⟨_, _, [some (.ref B), some (.int (i : Int)), some (.ref S.length), some (.int (prodD xs)), some (.int ((2 + p : Nat) : Int))], T1, rfl, set4 _ _ ?_, xs, _, _, rfl, g2', g3.trans G2, B2.mono (by omega), by omega, fun _ => ?_, g7, g8⟩
        · rw [ev_sif, ev_tof, ev_bin, ev_bin]
          simp only [ev_var, List.getElem?_cons_zero, List.getElem?_cons_succ, ev_bok, hm, ev_c, ev_leI, ev_tob, decide_eq_false hq, ev_tok]
          rfl
        · cases xs with
          | nil => simp only [prodD] at hq; omega
          | cons y ys => simp
  rw [rngL_length] at g4 g5 g6
  refine ⟨xs, T, ?_, g3, g4.mono (by omega), ⟨g6 (by omega), by omega, g7, g8.2⟩⟩
  have key : b__law_wheels [some (.ref B), none, none, none, none] S = .rt (.tup xs) T := by
    unfold b__law_wheels
    refine par_to (x := .ref S.length) (s1 := S ++ [.lst []]) (y := .int 1) (s2 := S ++ [.lst []]) rfl rfl (seq_to (env1 := env') (st1 := T) ?_ ?_)
    · rw [ev_for]
      show R.then _ (iRng _ [some (.ref B), none, some (.ref S.length), some (.int 1), none] (S ++ [.lst []])) _ = _
      rw [hr, ev_tok]
      exact f1
    · subst g1
      rw [ev_ret, ev_fn, ev_acons, ev_var]
      show ((((R.ok (D.ref S.length) T).bind _).bind _)).then _ _ = _
      rw [ev_bok, ev_anil, ev_bok, ev_bok]
      show (fTup [.ref S.length] T).then _ _ = _
      unfold fTup seqOf lstOf
      simp only [g2]
      rfl
  unfold m__law_wheels
  rw [ev_mkfn, if_pos (show [D.ref B].length = 1 from rfl)]
  show endFn (b__law_wheels [some (.ref B), none, none, none, none] S) = _
  rw [key]
  rfl

end Hd
set_option Elab.async false
set_option linter.all false
set_option maxRecDepth 100000
set_option maxHeartbeats 1000000
namespace Hd
open PySem U
local macro_rules | `(tactic| walk_at "ex1") => `(tactic| first | (with_reducible refine w_seq ?_) | (with_reducible refine w_set ?_) | (with_reducible refine w_ret ?_) | (with_reducible refine w_sif ?_) | (with_reducible refine w_asg2 ?_) | (with_reducible refine w_asg3 ?_) | (with_reducible refine w_asg4 ?_) | (with_reducible refine w_ex2 ?_) | (with_reducible refine w_ex3 ?_) | (with_reducible refine w_ex4 ?_) | (with_reducible refine w_par ?_) | (with_reducible refine w_par3 ?_) | (with_reducible refine w_expr ?_) | (with_reducible refine w_for ?_) | (with_reducible refine w_skip ?_) | (with_reducible refine w_fn ?_) | (with_reducible refine w_acons ?_) | (with_reducible refine w_anil ?_) | (with_reducible refine w_aapp ?_) | (with_reducible refine w_bin ?_) | (with_reducible refine w_un ?_) | (with_reducible refine w_c ?_) | (with_reducible refine w_tof ?_) | (with_reducible refine w_tob ?_) | (with_reducible refine w_tand ?_) | (with_reducible refine w_tor ?_) | (with_reducible refine w_tnot ?_) | (with_reducible refine w_eand ?_) | (with_reducible refine w_eor ?_) | (with_reducible refine w_enot ?_) | (with_reducible refine w_exb ?_) | (with_reducible refine w_exi ?_) | (with_reducible refine w_if ?_) | (with_reducible refine w_slice ?_) | (with_reducible refine w_onone ?_) | (with_reducible refine w_osome ?_) | (with_reducible refine w_lc ?_) | (with_reducible refine w_lc2 ?_) | (with_reducible refine w_mtl ?_) | (with_reducible refine w_iseq ?_) | (with_reducible refine w_irng ?_) | (with_reducible refine w_ienum ?_) | (with_reducible refine w_ibin ?_) | (with_reducible refine w_true ?_) | (with_reducible refine cond_t ?_) | (with_reducible refine cond_f ?_))
local macro_rules | `(tactic| walk_at "ex2") => `(tactic| first | (with_reducible refine w_addI ?_) | (with_reducible refine w_subI ?_) | (with_reducible refine w_ltI ?_) | (with_reducible refine w_leI ?_) | (with_reducible refine w_gtI ?_) | (with_reducible refine w_geI ?_) | (with_reducible refine w_eqI ?_) | (with_reducible refine w_neI ?_) | (with_reducible refine w_negI ?_) | (with_reducible refine w_maxI ?_) | (with_reducible refine w_minI ?_) | (with_reducible refine w_lenT ?_) | (with_reducible refine w_slT ?_) | (with_reducible refine w_sseq ?_) | (with_reducible refine w_senum ?_) | (with_reducible refine w_szip ?_) | (with_reducible refine w_eqB ?_) | (with_reducible refine w_neB ?_))
local macro_rules | `(tactic| walk_at "ex3") => `(tactic| first | ((with_reducible apply w_var); (focus exact rfl)) | ((with_reducible apply w_aug); (focus exact rfl)) | ((with_reducible apply w_thaw); (focus exact rfl); (focus with_reducible assumption)) | ((with_reducible apply w_idxZ); (focus exact rfl); (focus with_reducible assumption)) | ((with_reducible apply wr_by); (focus with_reducible assumption)) | ((with_reducible apply w_via); (focus exact rfl)) | ((with_reducible apply w_mkTup); (focus exact Nat.le_of_ble_eq_true rfl)) | ((with_reducible apply w_mkLst); (focus exact Nat.le_of_ble_eq_true rfl)) | ((with_reducible apply w_ix); (focus exact rfl); (focus exact rfl)) | ((with_reducible apply w_lenL); (focus with_reducible assumption)) | ((with_reducible apply w_lenL); (focus with_reducible exact get_end)) | ((with_reducible apply w_isl); (focus with_reducible assumption)) | ((with_reducible apply w_append); (focus with_reducible assumption); (focus with_reducible assumption)) | ((with_reducible apply w_slL); (focus with_reducible assumption)) | ((with_reducible apply w_enumL); (focus with_reducible assumption)) | ((with_reducible apply w_tupL); (focus with_reducible assumption)) | ((with_reducible apply w_sdyn); (focus with_reducible assumption)) | ((with_reducible apply w_isi); (focus exact rfl)) | ((with_reducible apply w_isi2); (focus exact rfl)) | ((with_reducible apply w_eqS); (focus decide +kernel); (focus decide +kernel)) | ((with_reducible apply cond_af); (focus exact rfl)) | ((with_reducible apply cond_at); (focus exact rfl)) | ((with_reducible apply cond_af); (focus decide +kernel)) | ((with_reducible apply cond_at); (focus decide +kernel)))
local macro_rules | `(tactic| walk_at "go") => `(tactic| repeat (first | walk_at "ex1" | walk_at "ex2" | walk_at "ex3"))
theorem take_ev {env : Ev} {T T1 : Sto} {B : Nat} {ga gb : EM} {many : Int} {v : Nat} (ha : ga env T = .ok (.ref B) T) (hb : gb env T = .ok (.int many) T) (ht : s_take [.ref B, .int many] T = .ok (.int (v : Int)) T1) : eFn s__law_take (aCons ga (aCons gb aNil)) env T = .ok (.int (v : Int)) T1 := by
  rw [ev_fn, ev_acons, ha, ev_bok, ev_acons, hb, ev_bok, ev_anil, ev_bok, ev_bok, ev_bok]
  exact ht
theorem inW {T : Sto} {w : Str} (h : w = "is" ∨ w = "not" ∨ w = "below" ∨ w = "hushed" ∨ w = "awake") : dIn false (.str w) (.tup [.str "hushed", .str "awake"]) T = .ok (.bl (decide (w = "hushed") || decide (w = "awake"))) T := by
  have key : ∀ w : Str, scalD (.str w) = true → wordIn ["hushed", "awake"] (.str w) = (decide (w = "hushed") || decide (w = "awake")) → dIn false (.str w) (.tup [.str "hushed", .str "awake"]) T = .ok (.bl (decide (w = "hushed") || decide (w = "awake"))) T := fun w h1 h2 => by
    have := in_words (st := T) (d := .str w) ["hushed", "awake"] h1 (by decide +kernel)
    rw [h2] at this
    exact this
  rcases h with rfl | rfl | rfl | rfl | rfl <;> exact key _ (by decide +kernel) (by decide +kernel)
theorem cond_run {S : Sto} {B n : Nat} {c : Int} {ws : List D} (h : Bag S B c) (hc : c + 3 < 1000000000) (hn : 0 < n) (hn5 : n ≤ 5) (W : WhOk ws) : ∃ d T, m__law_condition [.ref B, .tup ws, .int (n : Int)] S = .ok d T ∧ Grw S T B ∧ T.length = S.length ∧ Bag T B (c + 3) ∧ CondOk ws n d := by
  obtain ⟨v, S1, t1, hv, B1, G1, L1⟩ := take_go (many := 6) h (by omega) (by omega) (by omega)
  obtain ⟨w, hw, hww⟩ : ∃ w : Str, L2.atI [D.str "is", .str "is", .str "not", .str "below", .str "hushed", .str "awake"] (v : Int) = some (.str w) ∧ (w = "is" ∨ w = "not" ∨ w = "below" ∨ w = "hushed" ∨ w = "awake") := by
    have : v = 0 ∨ v = 1 ∨ v = 2 ∨ v = 3 ∨ v = 4 ∨ v = 5 := by omega
    rcases this with rfl | rfl | rfl | rfl | rfl | rfl
    · exact ⟨"is", rfl, .inl rfl⟩
    · exact ⟨"is", rfl, .inl rfl⟩
    · exact ⟨"not", rfl, .inr (.inl rfl)⟩
    · exact ⟨"below", rfl, .inr (.inr (.inl rfl))⟩
    · exact ⟨"hushed", rfl, .inr (.inr (.inr (.inl rfl)))⟩
    · exact ⟨"awake", rfl, .inr (.inr (.inr (.inr rfl)))⟩
  have first : ∀ (b : SM) (r : RS), b [some (.ref B), some (.tup ws), some (.int (n : Int)), some (.str w), none] S1 = r → sSeq (sSet 3 (eBin dIx (eFn mkTup (aCons (eC (.str "is")) (aCons (eC (.str "is")) (aCons (eC (.str "not")) (aCons (eC (.str "below")) (aCons (eC (.str "hushed")) (aCons (eC (.str "awake")) aNil))))))) (eFn s__law_take (aCons (eVar 0) (aCons (eC (.int 6)) aNil))))) b [some (.ref B), some (.tup ws), some (.int (n : Int)), none, none] S = r := fun b r hb => set_to (d := .str w) (st1 := S1) (by
    rw [ev_bin]
    show (R.ok (D.tup [D.str "is", .str "is", .str "not", .str "below", .str "hushed", .str "awake"]) S).bind _ = _
    rw [ev_bok, take_ev rfl rfl t1, ev_bok]
    exact ixS rfl hw) hb
  have hin := inW (T := S1) hww
  have fin : ∀ {d : D} {T : Sto}, b__law_condition [some (.ref B), some (.tup ws), some (.int (n : Int)), none, none] S = .rt d T → m__law_condition [.ref B, .tup ws, .int (n : Int)] S = .ok d T := fun {d T} hk => by
    unfold m__law_condition
    rw [ev_mkfn, if_pos (show [D.ref B, .tup ws, .int (n : Int)].length = 3 from rfl)]
    show endFn (b__law_condition [some (.ref B), some (.tup ws), some (.int (n : Int)), none, none] S) = _
    rw [hk]
    rfl
  by_cases hm : w = "hushed" ∨ w = "awake"
  · obtain ⟨q, S2, t2, hq, B2, G2, Q2⟩ := take_go (many := (n : Int)) B1 (by omega) (by omega) (by omega)
    refine ⟨.tup [.str w, .int (q : Int)], S2, fin ?_, G1.trans G2, by omega, B2.mono (by omega), .inr ⟨w, q, rfl, hm, by omega⟩⟩
    have hb : (decide (w = "hushed") || decide (w = "awake")) = true := by rcases hm with hm | hm <;> simp [hm]
    rw [hb] at hin
    unfold b__law_condition
    refine first _ _ ?_
    have hi : sIf (tOf (eBin (dIn false) (eVar 3) (eFn mkTup (aCons (eC (.str "hushed")) (aCons (eC (.str "awake")) aNil))))) (sRet (eFn mkTup (aCons (eVar 3) (aCons (eFn s__law_take (aCons (eVar 0) (aCons (eVar 2) aNil))) aNil)))) sSkip [some (.ref B), some (.tup ws), some (.int (n : Int)), some (.str w), none] S1 = .rt (.tup [.str w, .int (q : Int)]) S2 := by
      rw [ev_sif, ev_tof, ev_bin]
      show (((R.ok (D.str w) S1).bind fun x st => (R.ok (D.tup [D.str "hushed", .str "awake"]) st).bind fun y st => dIn false x y st).bind toB).then _ _ = _
      rw [ev_bok, ev_bok, hin, ev_bok, ev_tob, ev_tok]
      show sRet _ _ S1 = _
      rw [ev_ret, ev_fn, ev_acons]
      show ((((R.ok (D.str w) S1).bind _).bind _)).then _ _ = _
      rw [ev_bok, ev_acons, take_ev (many := (n : Int)) rfl rfl t2, ev_bok, ev_anil, ev_bok, ev_bok, ev_bok]
      rfl
    unfold sSeq
    rw [hi]
  · have hws : w = "is" ∨ w = "not" ∨ w = "below" := by
      rcases hww with h | h | h | h | h
      · exact .inl h
      · exact .inr (.inl h)
      · exact .inr (.inr h)
      · exact absurd (.inl h) hm
      · exact absurd (.inr h) hm
    have hl1 := W.l1
    have hl3 := W.l3
    obtain ⟨x, S2, t2, hx, B2, G2, Q2⟩ := take_go (many := (ws.length : Int)) B1 (by omega) (by omega) (by omega)
    have hxl : x < ws.length := by omega
    obtain ⟨m, hm1, hm2, hm3⟩ := W.w ws[x] (List.getElem_mem hxl)
    have hwx : ws[x]? = some (.int (m : Int)) := by rw [List.getElem?_eq_getElem hxl, hm1]
    obtain ⟨p, S3, t3, hp, B3, G3, L3⟩ := take_go (many := (m : Int)) B2 (by omega) (by omega) (by omega)
    refine ⟨.tup [.str w, .int (x : Int), .int (p : Int)], S3, fin ?_, (G1.trans G2).trans G3, by omega, B3.mono (by omega), .inl ⟨w, x, p, m, rfl, hws, hwx, by omega⟩⟩
    have hb : (decide (w = "hushed") || decide (w = "awake")) = false := by
      simp only [Bool.or_eq_false_iff, decide_eq_false_iff_not]
      exact ⟨fun h => hm (.inl h), fun h => hm (.inr h)⟩
    rw [hb] at hin
    unfold b__law_condition
    refine first _ _ (if_to (st1 := S1) ?_ (set_to (d := .int (x : Int)) (st1 := S2) (take_ev (many := (ws.length : Int)) rfl rfl t2) ?_))
    · rw [ev_tof, ev_bin]
      show ((R.ok (D.str w) S1).bind fun x st => (R.ok (D.tup [D.str "hushed", .str "awake"]) st).bind fun y st => dIn false x y st).bind toB = _
      rw [ev_bok, ev_bok, hin, ev_bok, ev_tob]
    · rw [ev_ret, ev_fn, ev_acons]
      show ((((R.ok (D.str w) S2).bind _).bind _)).then _ _ = _
      rw [ev_bok, ev_acons]
      show (((((R.ok (D.int (x : Int)) S2).bind _)).bind _).bind _).then _ _ = _
      rw [ev_bok, ev_acons, take_ev (many := (m : Int)) rfl (by show dIx (.tup ws) (.int (x : Int)) S2 = _; exact ixS rfl (atI_nat hwx)) t3, ev_bok, ev_anil, ev_bok, ev_bok, ev_bok, ev_bok]
      rfl
theorem chg_run {S : Sto} {B : Nat} {c : Int} {ws : List D} (h : Bag S B c) (hc : c + 3 < 1000000000) (W : WhOk ws) : ∃ d T, m__law_change [.ref B, .tup ws] S = .ok d T ∧ Grw S T B ∧ T.length = S.length ∧ Bag T B (c + 3) ∧ ChgOk ws d := by
  have hl1 := W.l1
  have hl3 := W.l3
  obtain ⟨x, S2, t2, hx, B2, G2, Q2⟩ := take_go (many := (ws.length : Int)) h (by omega) (by omega) (by omega)
  have hxl : x < ws.length := by omega
  obtain ⟨m, hm1, hm2, hm3⟩ := W.w ws[x] (List.getElem_mem hxl)
  have hwx : ws[x]? = some (.int (m : Int)) := by rw [List.getElem?_eq_getElem hxl, hm1]
  obtain ⟨v, S3, t3, hv, B3, G3, L3⟩ := take_go (many := 3) B2 (by omega) (by omega) (by omega)
  obtain ⟨p, S4, t4, hp, B4, G4, L4⟩ := take_go (many := (m : Int)) B3 (by omega) (by omega) (by omega)
  obtain ⟨w, hw, hww⟩ : ∃ w : Str, L2.atI [D.str "turn", .str "turn", .str "put"] (v : Int) = some (.str w) ∧ (w = "turn" ∨ w = "put") := by
    have : v = 0 ∨ v = 1 ∨ v = 2 := by omega
    rcases this with rfl | rfl | rfl
    · exact ⟨"turn", rfl, .inl rfl⟩
    · exact ⟨"turn", rfl, .inl rfl⟩
    · exact ⟨"put", rfl, .inr rfl⟩
  refine ⟨.tup [.str w, .int (x : Int), .int (p : Int)], S4, ?_, (G2.trans G3).trans G4, by omega, B4.mono (by omega), ⟨w, x, p, m, rfl, hww, hwx, by omega⟩⟩
  have key : b__law_change [some (.ref B), some (.tup ws), none] S = .rt (.tup [.str w, .int (x : Int), .int (p : Int)]) S4 := by
    unfold b__law_change
    refine set_to (d := .int (x : Int)) (st1 := S2) (take_ev (many := (ws.length : Int)) rfl rfl t2) ?_
    rw [ev_ret, ev_fn, ev_acons, ev_bin]
    show (((((R.ok (D.tup [D.str "turn", .str "turn", .str "put"]) S2).bind _).bind _)).bind _).then _ _ = _
    rw [ev_bok, take_ev rfl rfl t3, ev_bok, ixS (v := .tup [D.str "turn", .str "turn", .str "put"]) rfl hw, ev_bok, ev_acons]
    show (((((R.ok (D.int (x : Int)) S3).bind _)).bind _).bind _).then _ _ = _
    rw [ev_bok, ev_acons, take_ev (many := (m : Int)) rfl (by show dIx (.tup ws) (.int (x : Int)) S3 = _; exact ixS rfl (atI_nat hwx)) t4, ev_bok, ev_anil, ev_bok, ev_bok, ev_bok, ev_bok]
    rfl
  unfold m__law_change
  rw [ev_mkfn, if_pos (show [D.ref B, .tup ws].length = 2 from rfl)]
  show endFn (b__law_change [some (.ref B), some (.tup ws), none] S) = _
  rw [key]
  rfl

end Hd
set_option Elab.async false
set_option linter.all false
set_option maxRecDepth 100000
set_option maxHeartbeats 1000000
namespace Hd
open PySem U
local macro_rules | `(tactic| walk_at "ex1") => `(tactic| first | (with_reducible refine w_seq ?_) | (with_reducible refine w_set ?_) | (with_reducible refine w_ret ?_) | (with_reducible refine w_sif ?_) | (with_reducible refine w_asg2 ?_) | (with_reducible refine w_asg3 ?_) | (with_reducible refine w_asg4 ?_) | (with_reducible refine w_ex2 ?_) | (with_reducible refine w_ex3 ?_) | (with_reducible refine w_ex4 ?_) | (with_reducible refine w_par ?_) | (with_reducible refine w_par3 ?_) | (with_reducible refine w_expr ?_) | (with_reducible refine w_for ?_) | (with_reducible refine w_skip ?_) | (with_reducible refine w_fn ?_) | (with_reducible refine w_acons ?_) | (with_reducible refine w_anil ?_) | (with_reducible refine w_aapp ?_) | (with_reducible refine w_bin ?_) | (with_reducible refine w_un ?_) | (with_reducible refine w_c ?_) | (with_reducible refine w_tof ?_) | (with_reducible refine w_tob ?_) | (with_reducible refine w_tand ?_) | (with_reducible refine w_tor ?_) | (with_reducible refine w_tnot ?_) | (with_reducible refine w_eand ?_) | (with_reducible refine w_eor ?_) | (with_reducible refine w_enot ?_) | (with_reducible refine w_exb ?_) | (with_reducible refine w_exi ?_) | (with_reducible refine w_if ?_) | (with_reducible refine w_slice ?_) | (with_reducible refine w_onone ?_) | (with_reducible refine w_osome ?_) | (with_reducible refine w_lc ?_) | (with_reducible refine w_lc2 ?_) | (with_reducible refine w_mtl ?_) | (with_reducible refine w_iseq ?_) | (with_reducible refine w_irng ?_) | (with_reducible refine w_ienum ?_) | (with_reducible refine w_ibin ?_) | (with_reducible refine w_true ?_) | (with_reducible refine cond_t ?_) | (with_reducible refine cond_f ?_))
local macro_rules | `(tactic| walk_at "ex2") => `(tactic| first | (with_reducible refine w_addI ?_) | (with_reducible refine w_subI ?_) | (with_reducible refine w_ltI ?_) | (with_reducible refine w_leI ?_) | (with_reducible refine w_gtI ?_) | (with_reducible refine w_geI ?_) | (with_reducible refine w_eqI ?_) | (with_reducible refine w_neI ?_) | (with_reducible refine w_negI ?_) | (with_reducible refine w_maxI ?_) | (with_reducible refine w_minI ?_) | (with_reducible refine w_lenT ?_) | (with_reducible refine w_slT ?_) | (with_reducible refine w_sseq ?_) | (with_reducible refine w_senum ?_) | (with_reducible refine w_szip ?_) | (with_reducible refine w_eqB ?_) | (with_reducible refine w_neB ?_))
local macro_rules | `(tactic| walk_at "ex3") => `(tactic| first | ((with_reducible apply w_var); (focus exact rfl)) | ((with_reducible apply w_aug); (focus exact rfl)) | ((with_reducible apply w_thaw); (focus exact rfl); (focus with_reducible assumption)) | ((with_reducible apply w_idxZ); (focus exact rfl); (focus with_reducible assumption)) | ((with_reducible apply wr_by); (focus with_reducible assumption)) | ((with_reducible apply w_via); (focus exact rfl)) | ((with_reducible apply w_mkTup); (focus exact Nat.le_of_ble_eq_true rfl)) | ((with_reducible apply w_mkLst); (focus exact Nat.le_of_ble_eq_true rfl)) | ((with_reducible apply w_ix); (focus exact rfl); (focus exact rfl)) | ((with_reducible apply w_lenL); (focus with_reducible assumption)) | ((with_reducible apply w_lenL); (focus with_reducible exact get_end)) | ((with_reducible apply w_isl); (focus with_reducible assumption)) | ((with_reducible apply w_append); (focus with_reducible assumption); (focus with_reducible assumption)) | ((with_reducible apply w_slL); (focus with_reducible assumption)) | ((with_reducible apply w_enumL); (focus with_reducible assumption)) | ((with_reducible apply w_tupL); (focus with_reducible assumption)) | ((with_reducible apply w_sdyn); (focus with_reducible assumption)) | ((with_reducible apply w_isi); (focus exact rfl)) | ((with_reducible apply w_isi2); (focus exact rfl)) | ((with_reducible apply w_eqS); (focus decide +kernel); (focus decide +kernel)) | ((with_reducible apply cond_af); (focus exact rfl)) | ((with_reducible apply cond_at); (focus exact rfl)) | ((with_reducible apply cond_af); (focus decide +kernel)) | ((with_reducible apply cond_at); (focus decide +kernel)))
local macro_rules | `(tactic| walk_at "go") => `(tactic| repeat (first | walk_at "ex1" | walk_at "ex2" | walk_at "ex3"))
theorem lc_draw {S : Sto} {B v : Nat} {c : Int} {K : Nat} {xs : List D} {env : Ev} {e : EM} {P : Nat → D → Prop} (h : Bag S B c) (hl : xs.length < 1000)
    (he : ∀ (i : Nat) (x : D) (T : Sto), xs[i]? = some x → Grw S T B → Bag T B (c + K * i) → ∃ d T1, e (env.set v (some x)) T = .ok d T1 ∧ Grw T T1 B ∧ Bag T1 B (c + K * (i + 1)) ∧ P i d) :
    ∃ acc T, startLc (gN v) tTrue e env (.fix xs) S = .ok (.ref S.length) T ∧ S.length < T.length ∧ T[S.length]? = some (.lst acc) ∧ Grw S T B ∧ Bag T B (c + K * xs.length) ∧ acc.length = xs.length ∧ ∀ i d, acc[i]? = some d → P i d := by
  have hB := h.lt
  obtain ⟨acc, T, h1, h2, h3, h4, h5, h6, h7⟩ := startLc_J (xs := xs) (g := gN v) (e := e) (env := env) (st := S)
    (fun i acc T => S.length < T.length ∧ T[S.length]? = some (.lst acc) ∧ Grw S T B ∧ Bag T B (c + K * i) ∧ (acc.length = i ∧ i ≤ xs.length) ∧ ∀ j d, acc[j]? = some d → P j d)
    (fun i acc T hJ => Nat.lt_of_le_of_lt (by have := hJ.2.2.2.2.1; omega : acc.length ≤ 1000) (by decide)) ⟨by simp, get_end, .app, by simpa using h.app, ⟨rfl, by omega⟩, fun _ _ h => by simp at h⟩ fun i x acc T hx ⟨g1, g2, g3, g4, g5, g6⟩ => by
      obtain ⟨d, T1, e1, G, B1, hP⟩ := he i x T hx g3 g4
      have hi : i < xs.length := (List.getElem?_eq_some_iff.mp hx).1
      have gl := G.len
      refine ⟨env.set v (some x), T, d, T1, rfl, e1, by rw [G.at_ _ g1 (by omega)]; exact g2, by simp; omega, List.getElem?_set_self (by omega), (g3.trans G).set (Nat.le_refl _), B1.set (by omega), ⟨by simp [g5.1], by omega⟩, fun j d' hj => ?_⟩
      by_cases hj2 : j < acc.length
      · rw [List.getElem?_append_left hj2] at hj
        exact g6 j d' hj
      · have hjl : j < (acc ++ [d]).length := (List.getElem?_eq_some_iff.mp hj).1
        have : j = acc.length := by simp at hjl; omega
        subst this
        simp at hj
        subst hj
        rw [g5.1]
        exact hP
  exact ⟨acc, T, h1, h2, h3, h4, h5, h6.1, h7⟩
def hsW : Nat → List Nat → List D
  | _, [] => []
  | i, w :: l => if 1 ≤ w ∧ w ≤ 3 then .tup [.int (i : Nat), .int (w : Nat)] :: hsW (i + 1) l else hsW (i + 1) l
def wkW : Nat → List Nat → List D
  | _, [] => []
  | i, w :: l => if w = 4 then .int (i : Nat) :: wkW (i + 1) l else wkW (i + 1) l
theorem hsW_snoc : ∀ (i : Nat) (l : List Nat) (w : Nat), hsW i (l ++ [w]) = hsW i l ++ (if 1 ≤ w ∧ w ≤ 3 then [.tup [.int (i + l.length : Nat), .int (w : Nat)]] else [])
  | i, [], w => by
    simp only [List.nil_append, hsW, List.length_nil, Nat.add_zero]
  | i, v :: l, w => by
    simp only [List.cons_append, hsW, hsW_snoc (i + 1) l w, List.length_cons]
    rw [show i + 1 + l.length = i + (l.length + 1) by omega]
    split <;> rfl
theorem wkW_snoc : ∀ (i : Nat) (l : List Nat) (w : Nat), wkW i (l ++ [w]) = wkW i l ++ (if w = 4 then [.int (i + l.length : Nat)] else [])
  | i, [], w => by
    simp only [List.nil_append, wkW, List.length_nil, Nat.add_zero]
  | i, v :: l, w => by
    simp only [List.cons_append, wkW, wkW_snoc (i + 1) l w, List.length_cons]
    rw [show i + 1 + l.length = i + (l.length + 1) by omega]
    split <;> rfl
theorem hsW_len : ∀ (i : Nat) (l : List Nat), (hsW i l).length ≤ l.length
  | _, [] => Nat.le_refl _
  | i, w :: l => by
    have := hsW_len (i + 1) l
    simp only [hsW, List.length_cons]
    split
    · simp only [List.length_cons]; omega
    · omega
theorem wkW_len : ∀ (i : Nat) (l : List Nat), (wkW i l).length ≤ l.length
  | _, [] => Nat.le_refl _
  | i, w :: l => by
    have := wkW_len (i + 1) l
    simp only [wkW, List.length_cons]
    split
    · simp only [List.length_cons]; omega
    · omega
theorem hsW_ok : ∀ (i : Nat) (l : List Nat) (n : Nat), i + l.length ≤ n → ∀ c ∈ hsW i l, HshOk n c
  | _, [], _, _, c, h => by simp [hsW] at h
  | i, w :: l, n, hn, c, h => by
    simp only [List.length_cons] at hn
    simp only [hsW] at h
    split at h
    · rename_i hw
      rcases List.mem_cons.mp h with rfl | h
      · exact ⟨i, w, rfl, by omega, hw.1, hw.2⟩
      · exact hsW_ok (i + 1) l n (by omega) c h
    · exact hsW_ok (i + 1) l n (by omega) c h
theorem wkW_ok : ∀ (i : Nat) (l : List Nat) (n : Nat), i + l.length ≤ n → ∀ c ∈ wkW i l, WakOk n c
  | _, [], _, _, c, h => by simp [wkW] at h
  | i, w :: l, n, hn, c, h => by
    simp only [List.length_cons] at hn
    simp only [wkW] at h
    split at h
    · rcases List.mem_cons.mp h with rfl | h
      · exact ⟨i, rfl, by omega⟩
      · exact wkW_ok (i + 1) l n (by omega) c h
    · exact wkW_ok (i + 1) l n (by omega) c h
structure RuleDr (ws : List D) (n : Nat) (r : D) : Prop where
  ex : ∃ (cs chs : List D) (l : List Nat), r = .tup [.tup cs, .tup chs, .tup (hsW 0 l), .tup (wkW 0 l)] ∧ cs.length ≤ 4 ∧ chs.length ≤ 3 ∧ (∀ c ∈ cs, CondOk ws n c) ∧ (∀ c ∈ chs, ChgOk ws c) ∧ l.length = n ∧ ∀ w ∈ l, w ≤ 4
theorem RuleDr.ok {ws : List D} {n : Nat} {r : D} (h : RuleDr ws n r) : RuleOk ws n r := by
  obtain ⟨cs, chs, l, rfl, _, _, h1, h2, h3, _⟩ := h.ex
  exact ⟨cs, chs, _, _, rfl, h1, h2, hsW_ok 0 l n (by omega), wkW_ok 0 l n (by omega)⟩
def allW : Nat → List (List Nat)
  | 0 => [[]]
  | n + 1 => (allW n).flatMap fun l => (List.range 5).map fun w => w :: l
theorem allW_mem : ∀ {l : List Nat}, (∀ w ∈ l, w ≤ 4) → l ∈ allW l.length
  | [], _ => by simp [allW]
  | w :: l, h => by
    simp only [List.length_cons, allW, List.mem_flatMap, List.mem_map, List.mem_range]
    exact ⟨l, allW_mem fun x hx => h x (List.mem_cons_of_mem _ hx), w, by have := h w List.mem_cons_self; omega, rfl⟩
def hwOk (n : Nat) (l : List Nat) : Bool := hushesD n (.tup (hsW 0 l)) && wakesD n (.tup (wkW 0 l)) (hsW 0 l)
theorem hw_all : ∀ n < 6, (allW n).all (hwOk n) = true := by decide +kernel
theorem cond_D {ws : List D} {n : Nat} {c : D} (h : CondOk ws n c) : condD ws n c = true ∧ wordsD c = true := by
  rcases h with ⟨w, x, p, m, rfl, hw, hm, hp⟩ | ⟨w, q, rfl, hw, hq⟩
  · have hx : x < ws.length := (List.getElem?_eq_some_iff.mp hm).1
    have e : wI (ws.getD (wI (.int (x : Int))).toNat .non) = (m : Int) := by
      simp only [wI, Int.toNat_natCast, List.getD, hm, Option.getD_some]
    have b1 : withinD 0 ((ws.length : Int) - 1) (.int (x : Int)) = true := by simp only [withinD, Bool.and_eq_true, decide_eq_true_eq]; omega
    have b2 : withinD 0 ((m : Int) - 1) (.int (p : Int)) = true := by simp only [withinD, Bool.and_eq_true, decide_eq_true_eq]; omega
    have hwo : wordIn ["is", "not", "below"] (.str w) = true := by rcases hw with rfl | rfl | rfl <;> decide +kernel
    refine ⟨?_, ?_⟩
    · show ((wordIn ["is", "not", "below"] (.str w) && withinD 0 ((ws.length : Int) - 1) (.int (x : Int)) && withinD 0 (wI (ws.getD (wI (.int (x : Int))).toNat .non) - 1) (.int (p : Int))) || momentD n _) = true
      rw [e, b1, b2, hwo]
      rfl
    · show scalD (.str w) = true
      rcases hw with rfl | rfl | rfl <;> decide +kernel
  · have b1 : withinD 0 ((n : Int) - 1) (.int (q : Int)) = true := by simp only [withinD, Bool.and_eq_true, decide_eq_true_eq]; omega
    have hwo : wordIn ["hushed", "awake"] (.str w) = true := by rcases hw with rfl | rfl <;> decide +kernel
    refine ⟨?_, ?_⟩
    · show (spotD ws _ _ || (wordIn ["hushed", "awake"] (.str w) && withinD 0 ((n : Int) - 1) (.int (q : Int)))) = true
      rw [b1, hwo]
      simp
    · show scalD (.str w) = true
      rcases hw with rfl | rfl <;> decide +kernel
theorem chg_D {ws : List D} {c : D} (h : ChgOk ws c) : changeD ws c = true ∧ wordsD c = true := by
  obtain ⟨w, x, p, m, rfl, hw, hm, hp⟩ := h
  have hx : x < ws.length := (List.getElem?_eq_some_iff.mp hm).1
  have e : wI (ws.getD (wI (.int (x : Int))).toNat .non) = (m : Int) := by
    simp only [wI, Int.toNat_natCast, List.getD, hm, Option.getD_some]
  have b1 : withinD 0 ((ws.length : Int) - 1) (.int (x : Int)) = true := by simp only [withinD, Bool.and_eq_true, decide_eq_true_eq]; omega
  have b2 : withinD 0 ((m : Int) - 1) (.int (p : Int)) = true := by simp only [withinD, Bool.and_eq_true, decide_eq_true_eq]; omega
  have hwo : wordIn ["put", "turn"] (.str w) = true := by rcases hw with rfl | rfl <;> decide +kernel
  refine ⟨?_, ?_⟩
  · show (wordIn ["put", "turn"] (.str w) && withinD 0 ((ws.length : Int) - 1) (.int (x : Int)) && withinD 0 (wI (ws.getD (wI (.int (x : Int))).toNat .non) - 1) (.int (p : Int))) = true
    rw [e, b1, b2, hwo]
    rfl
  · show scalD (.str w) = true
    rcases hw with rfl | rfl <;> decide +kernel
theorem RuleDr.D {ws : List D} {n : Nat} {r : D} (h : RuleDr ws n r) (hn : n ≤ 5) : (ruleWords r && ruleD ws n r) = true := by
  obtain ⟨cs, chs, l, rfl, l4, l3, h1, h2, h3, h4⟩ := h.ex
  have hw := List.all_eq_true.mp (hw_all n (by omega)) l (by rw [← h3]; exact allW_mem h4)
  unfold hwOk at hw
  simp only [Bool.and_eq_true] at hw
  have a1 : cs.all (condD ws n) = true := List.all_eq_true.mpr fun c hc => (cond_D (h1 c hc)).1
  have a2 : chs.all (changeD ws) = true := List.all_eq_true.mpr fun c hc => (chg_D (h2 c hc)).1
  have a3 : cs.all wordsD = true := List.all_eq_true.mpr fun c hc => (cond_D (h1 c hc)).2
  have a4 : chs.all wordsD = true := List.all_eq_true.mpr fun c hc => (chg_D (h2 c hc)).2
  simp only [ruleWords, ruleD, tupsD, rowD, a1, a2, a3, a4, hw.1, hw.2, decide_eq_true l4, decide_eq_true l3, Bool.and_self]

end Hd
set_option Elab.async false
set_option linter.all false
set_option maxRecDepth 100000
set_option maxHeartbeats 1000000
namespace Hd
open PySem U
local macro_rules | `(tactic| walk_at "ex1") => `(tactic| first | (with_reducible refine w_seq ?_) | (with_reducible refine w_set ?_) | (with_reducible refine w_ret ?_) | (with_reducible refine w_sif ?_) | (with_reducible refine w_asg2 ?_) | (with_reducible refine w_asg3 ?_) | (with_reducible refine w_asg4 ?_) | (with_reducible refine w_ex2 ?_) | (with_reducible refine w_ex3 ?_) | (with_reducible refine w_ex4 ?_) | (with_reducible refine w_par ?_) | (with_reducible refine w_par3 ?_) | (with_reducible refine w_expr ?_) | (with_reducible refine w_for ?_) | (with_reducible refine w_skip ?_) | (with_reducible refine w_fn ?_) | (with_reducible refine w_acons ?_) | (with_reducible refine w_anil ?_) | (with_reducible refine w_aapp ?_) | (with_reducible refine w_bin ?_) | (with_reducible refine w_un ?_) | (with_reducible refine w_c ?_) | (with_reducible refine w_tof ?_) | (with_reducible refine w_tob ?_) | (with_reducible refine w_tand ?_) | (with_reducible refine w_tor ?_) | (with_reducible refine w_tnot ?_) | (with_reducible refine w_eand ?_) | (with_reducible refine w_eor ?_) | (with_reducible refine w_enot ?_) | (with_reducible refine w_exb ?_) | (with_reducible refine w_exi ?_) | (with_reducible refine w_if ?_) | (with_reducible refine w_slice ?_) | (with_reducible refine w_onone ?_) | (with_reducible refine w_osome ?_) | (with_reducible refine w_lc ?_) | (with_reducible refine w_lc2 ?_) | (with_reducible refine w_mtl ?_) | (with_reducible refine w_iseq ?_) | (with_reducible refine w_irng ?_) | (with_reducible refine w_ienum ?_) | (with_reducible refine w_ibin ?_) | (with_reducible refine w_true ?_) | (with_reducible refine cond_t ?_) | (with_reducible refine cond_f ?_))
local macro_rules | `(tactic| walk_at "ex2") => `(tactic| first | (with_reducible refine w_addI ?_) | (with_reducible refine w_subI ?_) | (with_reducible refine w_ltI ?_) | (with_reducible refine w_leI ?_) | (with_reducible refine w_gtI ?_) | (with_reducible refine w_geI ?_) | (with_reducible refine w_eqI ?_) | (with_reducible refine w_neI ?_) | (with_reducible refine w_negI ?_) | (with_reducible refine w_maxI ?_) | (with_reducible refine w_minI ?_) | (with_reducible refine w_lenT ?_) | (with_reducible refine w_slT ?_) | (with_reducible refine w_sseq ?_) | (with_reducible refine w_senum ?_) | (with_reducible refine w_szip ?_) | (with_reducible refine w_eqB ?_) | (with_reducible refine w_neB ?_))
local macro_rules | `(tactic| walk_at "ex3") => `(tactic| first | ((with_reducible apply w_var); (focus exact rfl)) | ((with_reducible apply w_aug); (focus exact rfl)) | ((with_reducible apply w_thaw); (focus exact rfl); (focus with_reducible assumption)) | ((with_reducible apply w_idxZ); (focus exact rfl); (focus with_reducible assumption)) | ((with_reducible apply wr_by); (focus with_reducible assumption)) | ((with_reducible apply w_via); (focus exact rfl)) | ((with_reducible apply w_mkTup); (focus exact Nat.le_of_ble_eq_true rfl)) | ((with_reducible apply w_mkLst); (focus exact Nat.le_of_ble_eq_true rfl)) | ((with_reducible apply w_ix); (focus exact rfl); (focus exact rfl)) | ((with_reducible apply w_lenL); (focus with_reducible assumption)) | ((with_reducible apply w_lenL); (focus with_reducible exact get_end)) | ((with_reducible apply w_isl); (focus with_reducible assumption)) | ((with_reducible apply w_append); (focus with_reducible assumption); (focus with_reducible assumption)) | ((with_reducible apply w_slL); (focus with_reducible assumption)) | ((with_reducible apply w_enumL); (focus with_reducible assumption)) | ((with_reducible apply w_tupL); (focus with_reducible assumption)) | ((with_reducible apply w_sdyn); (focus with_reducible assumption)) | ((with_reducible apply w_isi); (focus exact rfl)) | ((with_reducible apply w_isi2); (focus exact rfl)) | ((with_reducible apply w_eqS); (focus decide +kernel); (focus decide +kernel)) | ((with_reducible apply cond_af); (focus exact rfl)) | ((with_reducible apply cond_at); (focus exact rfl)) | ((with_reducible apply cond_af); (focus decide +kernel)) | ((with_reducible apply cond_at); (focus decide +kernel)))
local macro_rules | `(tactic| walk_at "go") => `(tactic| repeat (first | walk_at "ex1" | walk_at "ex2" | walk_at "ex3"))
theorem fTup_at {T : Sto} {k : Nat} {xs : List D} (h : T[k]? = some (.lst xs)) : fTup [.ref k] T = .ok (.tup xs) T := by
  unfold fTup seqOf lstOf
  simp only [h]
theorem rule_turn {T2 T : Sto} {B n i : Nat} {c : Int} {ws : List D} {l : List Nat} {a3 a4 : Nat} {x5 x8 : Option D} (hT2 : B < T2.length) (hn5 : n ≤ 5) (hi : i < n) (hl : l.length = i) (hl4 : ∀ w ∈ l, w ≤ 4) (hg : Grw T2 T B) (hlen : T2.length + 1 < T.length) (h6 : T[T2.length]? = some (.lst (hsW 0 l))) (h7 : T[T2.length + 1]? = some (.lst (wkW 0 l))) (hB : Bag T B c) (hc : c + 2 < 1000000000) :
    ∃ (w : Nat) (T1 : Sto) (y8 : Option D), sSeq (sSet 8 (eFn s__law_take (aCons (eVar 0) (aCons (eC (.int 5)) aNil)))) (sSeq (sIf (tOf (eBin (dEq false) (eVar 8) (eC (.int 0)))) (sExpr (eMtL mAppend (eVar 6) (aCons (eFn mkTup (aCons (eVar 5) (aCons (eBin dAdd (eC (.int 1)) (eFn s__law_take (aCons (eVar 0) (aCons (eC (.int 3)) aNil)))) aNil))) aNil))) sSkip) (sIf (tOf (eBin (dEq false) (eVar 8) (eC (.int 1)))) (sExpr (eMtL mAppend (eVar 7) (aCons (eVar 5) aNil))) sSkip))
      [some (.ref B), some (.tup ws), some (.int (n : Int)), some (.ref a3), some (.ref a4), some (.int (i : Int)), some (.ref T2.length), some (.ref (T2.length + 1)), x8, none] T = .nx [some (.ref B), some (.tup ws), some (.int (n : Int)), some (.ref a3), some (.ref a4), some (.int (i : Int)), some (.ref T2.length), some (.ref (T2.length + 1)), y8, none] T1 ∧ w ≤ 4 ∧ Grw T2 T1 B ∧ T2.length + 1 < T1.length ∧ T1[T2.length]? = some (.lst (hsW 0 (l ++ [w]))) ∧ T1[T2.length + 1]? = some (.lst (wkW 0 (l ++ [w]))) ∧ Bag T1 B (c + 2) := by
  obtain ⟨v, S1, t1, hv, B1, G1, Q1⟩ := take_go (many := 5) hB (by omega) (by omega) (by omega)
  have k6 : S1[T2.length]? = some (.lst (hsW 0 l)) := by rw [G1.at_ _ (by omega) (by omega)]; exact h6
  have k7 : S1[T2.length + 1]? = some (.lst (wkW 0 l)) := by rw [G1.at_ _ (by omega) (by omega)]; exact h7
  have lh : (hsW 0 l).length < most := Nat.lt_of_le_of_lt (Nat.le_trans (hsW_len 0 l) (show l.length ≤ 5 by omega)) (by decide)
  have lw : (wkW 0 l).length < most := Nat.lt_of_le_of_lt (Nat.le_trans (wkW_len 0 l) (show l.length ≤ 5 by omega)) (by decide)
  have il : (i : Nat) = 0 + l.length := by omega
  have tst : ∀ (k : Int) (T' : Sto), tOf (eBin (dEq false) (eVar 8) (eC (.int k))) [some (.ref B), some (.tup ws), some (.int (n : Int)), some (.ref a3), some (.ref a4), some (.int (i : Int)), some (.ref T2.length), some (.ref (T2.length + 1)), some (.int (v : Int)), none] T' = .ok ((v : Int) == k) T' := fun k T' => by
    rw [ev_tof, ev_bin]
    show (dEq false (.int (v : Int)) (.int k) T').bind toB = _
    rw [eqI, ev_bok]
    rfl
  by_cases h0 : v = 0
  · subst h0
    obtain ⟨b, S2, t2, hb, B2, G2, Q2⟩ := take_go (many := 3) B1 (by omega) (by omega) (by omega)
    have k6' : S2[T2.length]? = some (.lst (hsW 0 l)) := by rw [G2.at_ _ (by omega) (by omega)]; exact k6
    have k7' : S2[T2.length + 1]? = some (.lst (wkW 0 l)) := by rw [G2.at_ _ (by omega) (by omega)]; exact k7
    refine ⟨1 + b, S2.set T2.length (.lst (hsW 0 (l ++ [1 + b]))), some (.int ((0 : Nat) : Int)), ?_, by omega, ((hg.trans G1).trans G2).set (Nat.le_refl _), by simp; omega, List.getElem?_set_self (by omega), ?_, (B2.set (by omega)).mono (by omega)⟩
    · refine set_to (d := .int ((0 : Nat) : Int)) (st1 := S1) (take_ev rfl rfl t1) (seq_to (env1 := [some (.ref B), some (.tup ws), some (.int (n : Int)), some (.ref a3), some (.ref a4), some (.int (i : Int)), some (.ref T2.length), some (.ref (T2.length + 1)), some (.int ((0 : Nat) : Int)), none]) (st1 := S2.set T2.length (.lst (hsW 0 (l ++ [1 + b])))) ?_ ?_)
      · rw [ev_sif]
        show R.then _ (tOf _ [some (.ref B), some (.tup ws), some (.int (n : Int)), some (.ref a3), some (.ref a4), some (.int (i : Int)), some (.ref T2.length), some (.ref (T2.length + 1)), some (.int ((0 : Nat) : Int)), none] S1) _ = _
        rw [tst 0 S1, ev_tok]
        show sExpr _ [some (.ref B), some (.tup ws), some (.int (n : Int)), some (.ref a3), some (.ref a4), some (.int (i : Int)), some (.ref T2.length), some (.ref (T2.length + 1)), some (.int ((0 : Nat) : Int)), none] S1 = _
        rw [ev_expr, app_run2 (T1 := S2) (k := T2.length) (d := .tup [.int (i : Int), .int ((1 + b : Nat) : Int)]) rfl k6 k6' ?_ lh, hsW_snoc, if_pos (by omega), ← il]
        · rfl
        · rw [ev_fn, ev_acons]
          show (((R.ok (D.int (i : Int)) S1).bind _).bind mkTup) = _
          rw [ev_bok, ev_acons, ev_bin, ev_c, ev_bok, take_ev rfl rfl t2, ev_bok, ev_addI, ev_bok, ev_anil, ev_bok, ev_bok, ev_bok, show (1 : Int) + (b : Int) = ((1 + b : Nat) : Int) by omega]
          rfl
      · rw [ev_sif, tst 1]
        rfl
    · rw [List.getElem?_set_ne (by omega), k7', wkW_snoc, if_neg (by omega), List.append_nil]
  · have f0 : ((v : Int) == 0) = false := by rw [beq_eq_false_iff_ne]; omega
    by_cases h1 : v = 1
    · subst h1
      refine ⟨4, S1.set (T2.length + 1) (.lst (wkW 0 (l ++ [4]))), some (.int ((1 : Nat) : Int)), ?_, by omega, (hg.trans G1).set (by omega), by simp; omega, ?_, List.getElem?_set_self (by omega), (B1.set (by omega)).mono (by omega)⟩
      · refine set_to (d := .int ((1 : Nat) : Int)) (st1 := S1) (take_ev rfl rfl t1) (if_to (st1 := S1) (by have hz := tst 0 S1; rw [f0] at hz; exact hz) ?_)
        rw [ev_sif]
        show R.then _ (tOf _ [some (.ref B), some (.tup ws), some (.int (n : Int)), some (.ref a3), some (.ref a4), some (.int (i : Int)), some (.ref T2.length), some (.ref (T2.length + 1)), some (.int ((1 : Nat) : Int)), none] S1) _ = _
        rw [tst 1 S1, ev_tok]
        show sExpr _ [some (.ref B), some (.tup ws), some (.int (n : Int)), some (.ref a3), some (.ref a4), some (.int (i : Int)), some (.ref T2.length), some (.ref (T2.length + 1)), some (.int ((1 : Nat) : Int)), none] S1 = _
        rw [ev_expr, app_run (k := T2.length + 1) (d := .int (i : Int)) rfl k7 rfl lw, wkW_snoc, if_pos rfl, ← il]
        rfl
      · rw [List.getElem?_set_ne (by omega), k6, hsW_snoc, if_neg (by omega), List.append_nil]
    · have f1 : ((v : Int) == 1) = false := by rw [beq_eq_false_iff_ne]; omega
      refine ⟨0, S1, some (.int (v : Int)), ?_, by omega, hg.trans G1, by omega, ?_, ?_, B1.mono (by omega)⟩
      · refine set_to (d := .int (v : Int)) (st1 := S1) (take_ev rfl rfl t1) (if_to (st1 := S1) (by have hz := tst 0 S1; rw [f0] at hz; exact hz) ?_)
        rw [ev_sif]
        show R.then _ (tOf _ [some (.ref B), some (.tup ws), some (.int (n : Int)), some (.ref a3), some (.ref a4), some (.int (i : Int)), some (.ref T2.length), some (.ref (T2.length + 1)), some (.int (v : Int)), none] S1) _ = _
        rw [tst 1 S1, f1, ev_tok]
        rfl
      · rw [k6, hsW_snoc, if_neg (by omega), List.append_nil]
      · rw [k7, wkW_snoc, if_neg (by omega), List.append_nil]
theorem rule_run {S : Sto} {B n : Nat} {c : Int} {ws : List D} (h : Bag S B c) (hc : c + 40 < 1000000000) (hn : 0 < n) (hn5 : n ≤ 5) (W : WhOk ws) : ∃ d T, m__law_rule [.ref B, .tup ws, .int (n : Int)] S = .ok d T ∧ Grw S T B ∧ Bag T B (c + 40) ∧ RuleDr ws n d := by
  have hBl := h.lt
  -- the test
  obtain ⟨v, S1, t1, hv, B1, G1, Q1⟩ := take_go (many := 6) h (by omega) (by omega) (by omega)
  obtain ⟨k1, hk1, k14⟩ : ∃ k : Nat, L2.atI [D.int 1, .int 1, .int 0, .int 2, .int 3, .int 4] (v : Int) = some (.int (k : Int)) ∧ k ≤ 4 := by
    have : v = 0 ∨ v = 1 ∨ v = 2 ∨ v = 3 ∨ v = 4 ∨ v = 5 := by omega
    rcases this with rfl | rfl | rfl | rfl | rfl | rfl
    · exact ⟨1, rfl, by omega⟩
    · exact ⟨1, rfl, by omega⟩
    · exact ⟨0, rfl, by omega⟩
    · exact ⟨2, rfl, by omega⟩
    · exact ⟨3, rfl, by omega⟩
    · exact ⟨4, rfl, by omega⟩
  obtain ⟨cs, T1, l1, l2, l3, l4, l5, l6, l7⟩ := lc_draw (S := S1) (v := 9) (K := 3) (xs := rngL 0 k1) (env := [some (.ref B), some (.tup ws), some (.int (n : Int)), none, none, none, none, none, none, none]) (e := eFn m__law_condition (aCons (eVar 0) (aCons (eVar 1) (aCons (eVar 2) aNil)))) (P := fun _ d => CondOk ws n d) B1 (by rw [rngL_length]; omega) fun i x T hx hg hb => by
    obtain ⟨hi, rfl⟩ := rngL_get hx
    obtain ⟨d, T', e1, e2, e3, e4, e5⟩ := cond_run (n := n) hb (by omega) hn hn5 W
    exact ⟨d, T', e1, e2, e4.mono (by omega), e5⟩
  rw [rngL_length] at l5 l6
  -- the changes
  obtain ⟨v2, S2, t2, hv2, B2, G2, Q2⟩ := take_go (many := 5) l5 (by omega) (by omega) (by omega)
  obtain ⟨k2, hk2, k23⟩ : ∃ k : Nat, L2.atI [D.int 1, .int 1, .int 2, .int 0, .int 3] (v2 : Int) = some (.int (k : Int)) ∧ k ≤ 3 := by
    have : v2 = 0 ∨ v2 = 1 ∨ v2 = 2 ∨ v2 = 3 ∨ v2 = 4 := by omega
    rcases this with rfl | rfl | rfl | rfl | rfl
    · exact ⟨1, rfl, by omega⟩
    · exact ⟨1, rfl, by omega⟩
    · exact ⟨2, rfl, by omega⟩
    · exact ⟨0, rfl, by omega⟩
    · exact ⟨3, rfl, by omega⟩
  obtain ⟨chs, T2, m1, m2, m3, m4, m5, m6, m7⟩ := lc_draw (S := S2) (v := 9) (K := 3) (xs := rngL 0 k2) (env := [some (.ref B), some (.tup ws), some (.int (n : Int)), some (.ref S1.length), none, none, none, none, none, none]) (e := eFn m__law_change (aCons (eVar 0) (aCons (eVar 1) aNil))) (P := fun _ d => ChgOk ws d) B2 (by rw [rngL_length]; omega) fun i x T hx hg hb => by
    obtain ⟨hi, rfl⟩ := rngL_get hx
    obtain ⟨d, T', e1, e2, e3, e4, e5⟩ := chg_run hb (by omega) W
    exact ⟨d, T', e1, e2, e4.mono (by omega), e5⟩
  rw [rngL_length] at m5 m6
  have hBT2 : B < T2.length := m5.lt
  have a3 : T2[S1.length]? = some (.lst cs) := by rw [m4.at_ _ (by omega) (by omega), G2.at_ _ (by omega) (by omega)]; exact l3
  have a3l : S1.length < T2.length := (List.getElem?_eq_some_iff.mp a3).1
  -- hushes and wakes
  have hr3 : iRng (eVar 2) [some (.ref B), some (.tup ws), some (.int (n : Int)), some (.ref S1.length), some (.ref S2.length), none, some (.ref T2.length), some (.ref (T2.length + 1)), none, none] (T2 ++ [.lst []] ++ [.lst []]) = .ok (.fix (rngL 0 n)) (T2 ++ [.lst []] ++ [.lst []]) := irng_of rfl (Nat.le_trans hn5 (by decide))
  obtain ⟨env', T3, f1, l, x5, x8, he, hl, hl4, hg, hlen, h6, h7, hB3⟩ := startFor_J (s := .fix (rngL 0 n)) (g := gN 5) (xs := rngL 0 n) (env := [some (.ref B), some (.tup ws), some (.int (n : Int)), some (.ref S1.length), some (.ref S2.length), none, some (.ref T2.length), some (.ref (T2.length + 1)), none, none]) (st := T2 ++ [.lst []] ++ [.lst []])
    (body := sSeq (sSet 8 (eFn s__law_take (aCons (eVar 0) (aCons (eC (.int 5)) aNil)))) (sSeq (sIf (tOf (eBin (dEq false) (eVar 8) (eC (.int 0)))) (sExpr (eMtL mAppend (eVar 6) (aCons (eFn mkTup (aCons (eVar 5) (aCons (eBin dAdd (eC (.int 1)) (eFn s__law_take (aCons (eVar 0) (aCons (eC (.int 3)) aNil)))) aNil))) aNil))) sSkip) (sIf (tOf (eBin (dEq false) (eVar 8) (eC (.int 1)))) (sExpr (eMtL mAppend (eVar 7) (aCons (eVar 5) aNil))) sSkip)))
    (fun i env T => ∃ (l : List Nat) (x5 x8 : Option D), env = [some (.ref B), some (.tup ws), some (.int (n : Int)), some (.ref S1.length), some (.ref S2.length), x5, some (.ref T2.length), some (.ref (T2.length + 1)), x8, none] ∧ l.length = i ∧ (∀ w ∈ l, w ≤ 4) ∧ Grw T2 T B ∧ T2.length + 1 < T.length ∧ T[T2.length]? = some (.lst (hsW 0 l)) ∧ T[T2.length + 1]? = some (.lst (wkW 0 l)) ∧ Bag T B (c + 24 + 2 * i))
    (fun _ _ _ _ => rfl) ⟨[], none, none, rfl, rfl, fun _ h => by simp at h, Grw.app.trans Grw.app, by simp, by rw [List.append_assoc]; exact at_end0, by rw [List.append_assoc]; exact at_end1, ((m5.app).app).mono (by omega)⟩ fun i x env T hx ⟨l, x5, x8, he, hl, hl4, hg, hlen, h6, h7, hB3⟩ => by
      obtain ⟨hi, rfl⟩ := rngL_get hx
      subst he
      obtain ⟨w, T1, y8, e1, e2, e3, e4, e5, e6, e7⟩ := rule_turn (ws := ws) (a3 := S1.length) (a4 := S2.length) (x5 := x5) (x8 := x8) hBT2 hn5 hi hl hl4 hg hlen h6 h7 hB3 (by omega)
      exact ⟨_, _, _, _, rfl, e1, l ++ [w], _, _, rfl, by simp [hl], fun u hu => by rcases List.mem_append.mp hu with hu | hu; exact hl4 u hu; simp only [List.mem_singleton] at hu; omega, e3, e4, e5, e6, e7.mono (by omega)⟩
  rw [rngL_length] at hl hB3
  have b3 : T3[S1.length]? = some (.lst cs) := by rw [hg.at_ _ a3l (by omega)]; exact a3
  have b4 : T3[S2.length]? = some (.lst chs) := by rw [hg.at_ _ m2 (by have := B2.lt; omega)]; exact m3
  refine ⟨.tup [.tup cs, .tup chs, .tup (hsW 0 l), .tup (wkW 0 l)], T3, ?_, ((((G1.trans l4).trans G2).trans m4).trans hg), hB3.mono (by omega), ⟨cs, chs, l, rfl, by omega, by omega, fun c hc => ?_, fun c hc => ?_, hl, hl4⟩⟩
  · have key : b__law_rule [some (.ref B), some (.tup ws), some (.int (n : Int)), none, none, none, none, none, none, none] S = .rt (.tup [.tup cs, .tup chs, .tup (hsW 0 l), .tup (wkW 0 l)]) T3 := by
      unfold b__law_rule
      refine set_to (d := .ref S1.length) (st1 := T1) ?_ (set_to (d := .ref S2.length) (st1 := T2) ?_ (par_to (x := .ref T2.length) (s1 := T2 ++ [.lst []]) (y := .ref (T2.length + 1)) (s2 := T2 ++ [.lst []] ++ [.lst []]) rfl ?_ (seq_to (env1 := env') (st1 := T3) ?_ ?_)))
      · rw [ev_lc, irng_of (n := k1) (st1 := S1) (by
          rw [ev_bin]
          show (R.ok (D.tup [D.int 1, .int 1, .int 0, .int 2, .int 3, .int 4]) S).bind _ = _
          rw [ev_bok, take_ev rfl rfl t1, ev_bok]
          exact ixS rfl hk1) (Nat.le_trans k14 (by decide)), ev_bok]
        show (startLc _ _ _ [some (.ref B), some (.tup ws), some (.int (n : Int)), none, none, none, none, none, none, none] _ S1).hush = _
        rw [l1]
        rfl
      · show cLc _ _ _ _ _ [some (.ref B), some (.tup ws), some (.int (n : Int)), some (.ref S1.length), none, none, none, none, none, none] T1 = _
        rw [ev_lc, irng_of (n := k2) (st1 := S2) (by
          rw [ev_bin]
          show (R.ok (D.tup [D.int 1, .int 1, .int 2, .int 0, .int 3]) T1).bind _ = _
          rw [ev_bok, take_ev rfl rfl t2, ev_bok]
          exact ixS rfl hk2) (Nat.le_trans k23 (by decide)), ev_bok]
        show (startLc _ _ _ [some (.ref B), some (.tup ws), some (.int (n : Int)), some (.ref S1.length), none, none, none, none, none, none] _ S2).hush = _
        rw [m1]
        rfl
      · show R.ok (D.ref (T2 ++ [Ob.lst []]).length) (T2 ++ [Ob.lst []] ++ [Ob.lst []]) = _
        rw [List.length_append]
        rfl
      · simp only [List.set_cons_succ, List.set_cons_zero]
        rw [ev_for, hr3, ev_tok]
        exact f1
      · subst he
        have q1 := fTup_at b3
        have q2 := fTup_at b4
        have q3 := fTup_at h6
        have q4 := fTup_at h7
        simp only [ev_ret, ev_fn, ev_acons, ev_anil, ev_var, ev_bok, ev_tok, List.getElem?_cons_zero, List.getElem?_cons_succ, q1, q2, q3, q4, mkTup_4]
    unfold m__law_rule
    rw [ev_mkfn, if_pos (show [D.ref B, .tup ws, .int (n : Int)].length = 3 from rfl)]
    show endFn (b__law_rule [some (.ref B), some (.tup ws), some (.int (n : Int)), none, none, none, none, none, none, none] S) = _
    rw [key]
    rfl
  · obtain ⟨i, hi⟩ := List.getElem?_of_mem hc
    exact l7 i c hi
  · obtain ⟨i, hi⟩ := List.getElem?_of_mem hc
    exact m7 i c hi

end Hd
set_option Elab.async false
set_option linter.all false
set_option maxRecDepth 100000
set_option maxHeartbeats 1000000
namespace Hd
open PySem U
local macro_rules | `(tactic| walk_at "ex1") => `(tactic| first | (with_reducible refine w_seq ?_) | (with_reducible refine w_set ?_) | (with_reducible refine w_ret ?_) | (with_reducible refine w_sif ?_) | (with_reducible refine w_asg2 ?_) | (with_reducible refine w_asg3 ?_) | (with_reducible refine w_asg4 ?_) | (with_reducible refine w_ex2 ?_) | (with_reducible refine w_ex3 ?_) | (with_reducible refine w_ex4 ?_) | (with_reducible refine w_par ?_) | (with_reducible refine w_par3 ?_) | (with_reducible refine w_expr ?_) | (with_reducible refine w_for ?_) | (with_reducible refine w_skip ?_) | (with_reducible refine w_fn ?_) | (with_reducible refine w_acons ?_) | (with_reducible refine w_anil ?_) | (with_reducible refine w_aapp ?_) | (with_reducible refine w_bin ?_) | (with_reducible refine w_un ?_) | (with_reducible refine w_c ?_) | (with_reducible refine w_tof ?_) | (with_reducible refine w_tob ?_) | (with_reducible refine w_tand ?_) | (with_reducible refine w_tor ?_) | (with_reducible refine w_tnot ?_) | (with_reducible refine w_eand ?_) | (with_reducible refine w_eor ?_) | (with_reducible refine w_enot ?_) | (with_reducible refine w_exb ?_) | (with_reducible refine w_exi ?_) | (with_reducible refine w_if ?_) | (with_reducible refine w_slice ?_) | (with_reducible refine w_onone ?_) | (with_reducible refine w_osome ?_) | (with_reducible refine w_lc ?_) | (with_reducible refine w_lc2 ?_) | (with_reducible refine w_mtl ?_) | (with_reducible refine w_iseq ?_) | (with_reducible refine w_irng ?_) | (with_reducible refine w_ienum ?_) | (with_reducible refine w_ibin ?_) | (with_reducible refine w_true ?_) | (with_reducible refine cond_t ?_) | (with_reducible refine cond_f ?_))
local macro_rules | `(tactic| walk_at "ex2") => `(tactic| first | (with_reducible refine w_addI ?_) | (with_reducible refine w_subI ?_) | (with_reducible refine w_ltI ?_) | (with_reducible refine w_leI ?_) | (with_reducible refine w_gtI ?_) | (with_reducible refine w_geI ?_) | (with_reducible refine w_eqI ?_) | (with_reducible refine w_neI ?_) | (with_reducible refine w_negI ?_) | (with_reducible refine w_maxI ?_) | (with_reducible refine w_minI ?_) | (with_reducible refine w_lenT ?_) | (with_reducible refine w_slT ?_) | (with_reducible refine w_sseq ?_) | (with_reducible refine w_senum ?_) | (with_reducible refine w_szip ?_) | (with_reducible refine w_eqB ?_) | (with_reducible refine w_neB ?_))
local macro_rules | `(tactic| walk_at "ex3") => `(tactic| first | ((with_reducible apply w_var); (focus exact rfl)) | ((with_reducible apply w_aug); (focus exact rfl)) | ((with_reducible apply w_thaw); (focus exact rfl); (focus with_reducible assumption)) | ((with_reducible apply w_idxZ); (focus exact rfl); (focus with_reducible assumption)) | ((with_reducible apply wr_by); (focus with_reducible assumption)) | ((with_reducible apply w_via); (focus exact rfl)) | ((with_reducible apply w_mkTup); (focus exact Nat.le_of_ble_eq_true rfl)) | ((with_reducible apply w_mkLst); (focus exact Nat.le_of_ble_eq_true rfl)) | ((with_reducible apply w_ix); (focus exact rfl); (focus exact rfl)) | ((with_reducible apply w_lenL); (focus with_reducible assumption)) | ((with_reducible apply w_lenL); (focus with_reducible exact get_end)) | ((with_reducible apply w_isl); (focus with_reducible assumption)) | ((with_reducible apply w_append); (focus with_reducible assumption); (focus with_reducible assumption)) | ((with_reducible apply w_slL); (focus with_reducible assumption)) | ((with_reducible apply w_enumL); (focus with_reducible assumption)) | ((with_reducible apply w_tupL); (focus with_reducible assumption)) | ((with_reducible apply w_sdyn); (focus with_reducible assumption)) | ((with_reducible apply w_isi); (focus exact rfl)) | ((with_reducible apply w_isi2); (focus exact rfl)) | ((with_reducible apply w_eqS); (focus decide +kernel); (focus decide +kernel)) | ((with_reducible apply cond_af); (focus exact rfl)) | ((with_reducible apply cond_at); (focus exact rfl)) | ((with_reducible apply cond_af); (focus decide +kernel)) | ((with_reducible apply cond_at); (focus decide +kernel)))
local macro_rules | `(tactic| walk_at "go") => `(tactic| repeat (first | walk_at "ex1" | walk_at "ex2" | walk_at "ex3"))
theorem rules_run {S : Sto} {B n : Nat} {c : Int} {ws : List D} (h : Bag S B c) (hc : c + 200 < 1000000000) (hn5 : n ≤ 5) (W : WhOk ws) : ∃ rs T, m__law_rules [.ref B, .tup ws, .int (n : Int)] S = .ok (.tup rs) T ∧ Grw S T B ∧ Bag T B (c + 200) ∧ rs.length = n ∧ ∀ r ∈ rs, RuleDr ws n r := by
  obtain ⟨rs, T, l1, l2, l3, l4, l5, l6, l7⟩ := lc_draw (S := S) (v := 3) (K := 40) (xs := rngL 0 n) (env := [some (.ref B), some (.tup ws), some (.int (n : Int)), none]) (e := eFn m__law_rule (aCons (eVar 0) (aCons (eVar 1) (aCons (eVar 2) aNil)))) (P := fun _ d => RuleDr ws n d) h (by rw [rngL_length]; omega) fun i x T hx hg hb => by
    obtain ⟨hi, rfl⟩ := rngL_get hx
    obtain ⟨d, T', e1, e2, e4, e5⟩ := rule_run (n := n) hb (by omega) (by omega) hn5 W
    exact ⟨d, T', e1, e2, e4.mono (by omega), e5⟩
  rw [rngL_length] at l5 l6
  refine ⟨rs, T, ?_, l4, l5.mono (by omega), l6, fun r hr => by obtain ⟨i, hi⟩ := List.getElem?_of_mem hr; exact l7 i r hi⟩
  have key : b__law_rules [some (.ref B), some (.tup ws), some (.int (n : Int)), none] S = .rt (.tup rs) T := by
    unfold b__law_rules
    rw [ev_ret, ev_fn, ev_acons, ev_lc, irng_of (n := n) (st1 := S) rfl (Nat.le_trans hn5 (by decide)), ev_bok]
    show (((((startLc _ _ _ [some (.ref B), some (.tup ws), some (.int (n : Int)), none] _ S).hush).bind _).bind _)).then _ _ = _
    rw [l1, ev_hok, ev_bok, ev_anil, ev_bok, ev_bok, fTup_at l3, ev_tok]
  unfold m__law_rules
  rw [ev_mkfn, if_pos (show [D.ref B, .tup ws, .int (n : Int)].length = 3 from rfl)]
  show endFn (b__law_rules [some (.ref B), some (.tup ws), some (.int (n : Int)), none] S) = _
  rw [key]
  rfl
structure DrawOk (ws rs : List D) : Prop where
  wh : WhOk ws
  n5 : rs.length ≤ 5
  ru : ∀ r ∈ rs, RuleDr ws rs.length r
theorem rising_ok {n : Nat} {l : List Nat} (h1 : l.Pairwise (· < ·)) (h2 : ∀ x ∈ l, x < n) : risingD n (.tup (l.map fun (x : Nat) => D.int x)) = true := by
  simp only [risingD, Bool.and_eq_true]
  refine ⟨List.all_eq_true.mpr fun d hd => ?_, zip_all fun i x y hx hy => ?_⟩
  · obtain ⟨x, hx, rfl⟩ := List.mem_map.mp hd
    have := h2 x hx
    have a1 : (0 : Int) ≤ (x : Int) := by omega
    have a2 : (x : Int) ≤ (n : Int) - 1 := by omega
    simp only [withinD, decide_eq_true a1, Bool.true_and]
    exact decide_eq_true a2
  · rw [List.getElem?_drop] at hy
    rw [List.getElem?_map] at hx hy
    obtain ⟨a, ha, rfl⟩ := Option.map_eq_some_iff.mp hx
    obtain ⟨b, hb, rfl⟩ := Option.map_eq_some_iff.mp hy
    have hi : i < l.length := (List.getElem?_eq_some_iff.mp ha).1
    have hj : 1 + i < l.length := (List.getElem?_eq_some_iff.mp hb).1
    have := List.pairwise_iff_getElem.mp h1 i (1 + i) hi hj (by omega)
    rw [(List.getElem?_eq_some_iff.mp ha).2, (List.getElem?_eq_some_iff.mp hb).2] at this
    simp only [wI]
    exact decide_eq_true (by omega)

end Hd
set_option Elab.async false
set_option linter.all false
set_option maxRecDepth 100000
set_option maxHeartbeats 1000000
namespace Hd
open PySem U
local macro_rules | `(tactic| walk_at "ex1") => `(tactic| first | (with_reducible refine w_seq ?_) | (with_reducible refine w_set ?_) | (with_reducible refine w_ret ?_) | (with_reducible refine w_sif ?_) | (with_reducible refine w_asg2 ?_) | (with_reducible refine w_asg3 ?_) | (with_reducible refine w_asg4 ?_) | (with_reducible refine w_ex2 ?_) | (with_reducible refine w_ex3 ?_) | (with_reducible refine w_ex4 ?_) | (with_reducible refine w_par ?_) | (with_reducible refine w_par3 ?_) | (with_reducible refine w_expr ?_) | (with_reducible refine w_for ?_) | (with_reducible refine w_skip ?_) | (with_reducible refine w_fn ?_) | (with_reducible refine w_acons ?_) | (with_reducible refine w_anil ?_) | (with_reducible refine w_aapp ?_) | (with_reducible refine w_bin ?_) | (with_reducible refine w_un ?_) | (with_reducible refine w_c ?_) | (with_reducible refine w_tof ?_) | (with_reducible refine w_tob ?_) | (with_reducible refine w_tand ?_) | (with_reducible refine w_tor ?_) | (with_reducible refine w_tnot ?_) | (with_reducible refine w_eand ?_) | (with_reducible refine w_eor ?_) | (with_reducible refine w_enot ?_) | (with_reducible refine w_exb ?_) | (with_reducible refine w_exi ?_) | (with_reducible refine w_if ?_) | (with_reducible refine w_slice ?_) | (with_reducible refine w_onone ?_) | (with_reducible refine w_osome ?_) | (with_reducible refine w_lc ?_) | (with_reducible refine w_lc2 ?_) | (with_reducible refine w_mtl ?_) | (with_reducible refine w_iseq ?_) | (with_reducible refine w_irng ?_) | (with_reducible refine w_ienum ?_) | (with_reducible refine w_ibin ?_) | (with_reducible refine w_true ?_) | (with_reducible refine cond_t ?_) | (with_reducible refine cond_f ?_))
local macro_rules | `(tactic| walk_at "ex2") => `(tactic| first | (with_reducible refine w_addI ?_) | (with_reducible refine w_subI ?_) | (with_reducible refine w_ltI ?_) | (with_reducible refine w_leI ?_) | (with_reducible refine w_gtI ?_) | (with_reducible refine w_geI ?_) | (with_reducible refine w_eqI ?_) | (with_reducible refine w_neI ?_) | (with_reducible refine w_negI ?_) | (with_reducible refine w_maxI ?_) | (with_reducible refine w_minI ?_) | (with_reducible refine w_lenT ?_) | (with_reducible refine w_slT ?_) | (with_reducible refine w_sseq ?_) | (with_reducible refine w_senum ?_) | (with_reducible refine w_szip ?_) | (with_reducible refine w_eqB ?_) | (with_reducible refine w_neB ?_))
local macro_rules | `(tactic| walk_at "ex3") => `(tactic| first | ((with_reducible apply w_var); (focus exact rfl)) | ((with_reducible apply w_aug); (focus exact rfl)) | ((with_reducible apply w_thaw); (focus exact rfl); (focus with_reducible assumption)) | ((with_reducible apply w_idxZ); (focus exact rfl); (focus with_reducible assumption)) | ((with_reducible apply wr_by); (focus with_reducible assumption)) | ((with_reducible apply w_via); (focus exact rfl)) | ((with_reducible apply w_mkTup); (focus exact Nat.le_of_ble_eq_true rfl)) | ((with_reducible apply w_mkLst); (focus exact Nat.le_of_ble_eq_true rfl)) | ((with_reducible apply w_ix); (focus exact rfl); (focus exact rfl)) | ((with_reducible apply w_lenL); (focus with_reducible assumption)) | ((with_reducible apply w_lenL); (focus with_reducible exact get_end)) | ((with_reducible apply w_isl); (focus with_reducible assumption)) | ((with_reducible apply w_append); (focus with_reducible assumption); (focus with_reducible assumption)) | ((with_reducible apply w_slL); (focus with_reducible assumption)) | ((with_reducible apply w_enumL); (focus with_reducible assumption)) | ((with_reducible apply w_tupL); (focus with_reducible assumption)) | ((with_reducible apply w_sdyn); (focus with_reducible assumption)) | ((with_reducible apply w_isi); (focus exact rfl)) | ((with_reducible apply w_isi2); (focus exact rfl)) | ((with_reducible apply w_eqS); (focus decide +kernel); (focus decide +kernel)) | ((with_reducible apply cond_af); (focus exact rfl)) | ((with_reducible apply cond_at); (focus exact rfl)) | ((with_reducible apply cond_af); (focus decide +kernel)) | ((with_reducible apply cond_at); (focus decide +kernel)))
local macro_rules | `(tactic| walk_at "go") => `(tactic| repeat (first | walk_at "ex1" | walk_at "ex2" | walk_at "ex3"))
theorem drawn_run_ok {ws rs : List D} {l : List Nat} (Dr : DrawOk ws rs) (h1 : l.Pairwise (· < ·)) (h2 : ∀ x ∈ l, x < rs.length) (h3 : l.length ≤ rs.length) : RunOk ws rs (l.map fun (x : Nat) => D.int x) where
  book := fun r hr => (Dr.ru r hr).ok
  n5 := Dr.n5
  w3 := Dr.wh.l3
  w4 := fun w hw => let ⟨m, e, _, h⟩ := Dr.wh.w w hw; ⟨m, e, h⟩
  offI := List.all_eq_true.mpr fun d hd => by obtain ⟨x, _, rfl⟩ := List.mem_map.mp hd; rfl
  offL := by rw [List.length_map]; exact Nat.le_trans h3 Dr.n5
theorem WhOk.D {ws : List D} (W : WhOk ws) : wheelsD (.tup ws) = true := by
  have h1 := W.l1
  have h3 := W.l3
  have hp := W.pr
  have ha : ws.all (withinD 2 4) = true := List.all_eq_true.mpr fun w hw => by
    obtain ⟨m, rfl, h2, h4⟩ := W.w w hw
    simp only [withinD, Bool.and_eq_true, decide_eq_true_eq]
    omega
  simp only [wheelsD, ha, decide_eq_true h1, decide_eq_true h3, decide_eq_true hp, Bool.and_self]
theorem cond_dk {ws : List D} {n : Nat} {c : D} {S : Sto} (h : CondOk ws n c) : dk S c = true := by
  rcases h with ⟨w, x, p, m, rfl, _⟩ | ⟨w, q, rfl, _⟩ <;> simp [dk, dks]
theorem chg_dk {ws : List D} {c : D} {S : Sto} (h : ChgOk ws c) : dk S c = true := by
  obtain ⟨w, x, p, m, rfl, _⟩ := h
  simp [dk, dks]
theorem rule_dk {ws : List D} {n : Nat} {r : D} {S : Sto} (h : RuleOk ws n r) : dk S r = true := by
  obtain ⟨cs, chs, hs, wk, rfl, h1, h2, h3, h4⟩ := h
  refine dk_of fun x hx => ?_
  have : x = .tup cs ∨ x = .tup chs ∨ x = .tup hs ∨ x = .tup wk := by simpa using hx
  rcases this with rfl | rfl | rfl | rfl
  · exact dk_of fun c hc => cond_dk (h1 c hc)
  · exact dk_of fun c hc => chg_dk (h2 c hc)
  · exact dk_of fun c hc => by obtain ⟨q, b, rfl, _⟩ := h3 c hc; simp [U.dk, dks]
  · exact dk_of fun c hc => by obtain ⟨q, rfl, _⟩ := h4 c hc; simp [U.dk]
theorem DrawOk.made {ws rs : List D} {S : Sto} (Dr : DrawOk ws rs) : mkIns "Book" s_Book_init [.tup ws, .tup rs] S = .ok (.ref S.length) (S ++ [bookO ws rs]) :=
  book_made (dk_of fun w hw => by obtain ⟨m, rfl, _⟩ := Dr.wh.w w hw; simp only [dk]) (dk_of fun r hr => rule_dk (Dr.ru r hr).ok) Dr.wh.D Dr.n5 (List.all_eq_true.mpr fun r hr => (Dr.ru r hr).D Dr.n5)

end Hd
set_option Elab.async false
set_option linter.all false
set_option maxRecDepth 100000
set_option maxHeartbeats 1000000
namespace Hd
open PySem U
local macro_rules | `(tactic| walk_at "ex1") => `(tactic| first | (with_reducible refine w_seq ?_) | (with_reducible refine w_set ?_) | (with_reducible refine w_ret ?_) | (with_reducible refine w_sif ?_) | (with_reducible refine w_asg2 ?_) | (with_reducible refine w_asg3 ?_) | (with_reducible refine w_asg4 ?_) | (with_reducible refine w_ex2 ?_) | (with_reducible refine w_ex3 ?_) | (with_reducible refine w_ex4 ?_) | (with_reducible refine w_par ?_) | (with_reducible refine w_par3 ?_) | (with_reducible refine w_expr ?_) | (with_reducible refine w_for ?_) | (with_reducible refine w_skip ?_) | (with_reducible refine w_fn ?_) | (with_reducible refine w_acons ?_) | (with_reducible refine w_anil ?_) | (with_reducible refine w_aapp ?_) | (with_reducible refine w_bin ?_) | (with_reducible refine w_un ?_) | (with_reducible refine w_c ?_) | (with_reducible refine w_tof ?_) | (with_reducible refine w_tob ?_) | (with_reducible refine w_tand ?_) | (with_reducible refine w_tor ?_) | (with_reducible refine w_tnot ?_) | (with_reducible refine w_eand ?_) | (with_reducible refine w_eor ?_) | (with_reducible refine w_enot ?_) | (with_reducible refine w_exb ?_) | (with_reducible refine w_exi ?_) | (with_reducible refine w_if ?_) | (with_reducible refine w_slice ?_) | (with_reducible refine w_onone ?_) | (with_reducible refine w_osome ?_) | (with_reducible refine w_lc ?_) | (with_reducible refine w_lc2 ?_) | (with_reducible refine w_mtl ?_) | (with_reducible refine w_iseq ?_) | (with_reducible refine w_irng ?_) | (with_reducible refine w_ienum ?_) | (with_reducible refine w_ibin ?_) | (with_reducible refine w_true ?_) | (with_reducible refine cond_t ?_) | (with_reducible refine cond_f ?_))
local macro_rules | `(tactic| walk_at "ex2") => `(tactic| first | (with_reducible refine w_addI ?_) | (with_reducible refine w_subI ?_) | (with_reducible refine w_ltI ?_) | (with_reducible refine w_leI ?_) | (with_reducible refine w_gtI ?_) | (with_reducible refine w_geI ?_) | (with_reducible refine w_eqI ?_) | (with_reducible refine w_neI ?_) | (with_reducible refine w_negI ?_) | (with_reducible refine w_maxI ?_) | (with_reducible refine w_minI ?_) | (with_reducible refine w_lenT ?_) | (with_reducible refine w_slT ?_) | (with_reducible refine w_sseq ?_) | (with_reducible refine w_senum ?_) | (with_reducible refine w_szip ?_) | (with_reducible refine w_eqB ?_) | (with_reducible refine w_neB ?_))
local macro_rules | `(tactic| walk_at "ex3") => `(tactic| first | ((with_reducible apply w_var); (focus exact rfl)) | ((with_reducible apply w_aug); (focus exact rfl)) | ((with_reducible apply w_thaw); (focus exact rfl); (focus with_reducible assumption)) | ((with_reducible apply w_idxZ); (focus exact rfl); (focus with_reducible assumption)) | ((with_reducible apply wr_by); (focus with_reducible assumption)) | ((with_reducible apply w_via); (focus exact rfl)) | ((with_reducible apply w_mkTup); (focus exact Nat.le_of_ble_eq_true rfl)) | ((with_reducible apply w_mkLst); (focus exact Nat.le_of_ble_eq_true rfl)) | ((with_reducible apply w_ix); (focus exact rfl); (focus exact rfl)) | ((with_reducible apply w_lenL); (focus with_reducible assumption)) | ((with_reducible apply w_lenL); (focus with_reducible exact get_end)) | ((with_reducible apply w_isl); (focus with_reducible assumption)) | ((with_reducible apply w_append); (focus with_reducible assumption); (focus with_reducible assumption)) | ((with_reducible apply w_slL); (focus with_reducible assumption)) | ((with_reducible apply w_enumL); (focus with_reducible assumption)) | ((with_reducible apply w_tupL); (focus with_reducible assumption)) | ((with_reducible apply w_sdyn); (focus with_reducible assumption)) | ((with_reducible apply w_isi); (focus exact rfl)) | ((with_reducible apply w_isi2); (focus exact rfl)) | ((with_reducible apply w_eqS); (focus decide +kernel); (focus decide +kernel)) | ((with_reducible apply cond_af); (focus exact rfl)) | ((with_reducible apply cond_at); (focus exact rfl)) | ((with_reducible apply cond_af); (focus decide +kernel)) | ((with_reducible apply cond_at); (focus decide +kernel)))
local macro_rules | `(tactic| walk_at "go") => `(tactic| repeat (first | walk_at "ex1" | walk_at "ex2" | walk_at "ex3"))
section
variable {T : Sto} {bk : Nat} {ws rs off : List D} {s : D}
theorem c4 {f : Fm} {env : Ev} {l : List U.Arg} {i j k m : Nat} {a b c d : D} (h1 : env[i]? = some (some a)) (h2 : env[j]? = some (some b)) (h3 : env[k]? = some (some c)) (h4 : env[m]? = some (some d)) : eFn (via l f) (aApp (aCons (eVar i) (aCons (eVar j) (aCons (eVar k) aNil))) (aCons (eVar m) aNil)) env T = via l f [a, b, c, d] T := by
  unfold eFn aApp aCons aNil eVar
  rw [h1, h2, h3, h4]
  rfl
theorem c3 {f : Fm} {env : Ev} {l : List U.Arg} {i j m : Nat} {a b d : D} (h1 : env[i]? = some (some a)) (h2 : env[j]? = some (some b)) (h4 : env[m]? = some (some d)) : eFn (via l f) (aApp (aCons (eVar i) (aCons (eVar j) aNil)) (aCons (eVar m) aNil)) env T = via l f [a, b, d] T := by
  unfold eFn aApp aCons aNil eVar
  rw [h1, h2, h4]
  rfl
end

end Hd
set_option Elab.async false
set_option linter.all false
set_option maxRecDepth 100000
set_option maxHeartbeats 1000000
namespace Hd
open PySem U
local macro_rules | `(tactic| walk_at "ex1") => `(tactic| first | (with_reducible refine w_seq ?_) | (with_reducible refine w_set ?_) | (with_reducible refine w_ret ?_) | (with_reducible refine w_sif ?_) | (with_reducible refine w_asg2 ?_) | (with_reducible refine w_asg3 ?_) | (with_reducible refine w_asg4 ?_) | (with_reducible refine w_ex2 ?_) | (with_reducible refine w_ex3 ?_) | (with_reducible refine w_ex4 ?_) | (with_reducible refine w_par ?_) | (with_reducible refine w_par3 ?_) | (with_reducible refine w_expr ?_) | (with_reducible refine w_for ?_) | (with_reducible refine w_skip ?_) | (with_reducible refine w_fn ?_) | (with_reducible refine w_acons ?_) | (with_reducible refine w_anil ?_) | (with_reducible refine w_aapp ?_) | (with_reducible refine w_bin ?_) | (with_reducible refine w_un ?_) | (with_reducible refine w_c ?_) | (with_reducible refine w_tof ?_) | (with_reducible refine w_tob ?_) | (with_reducible refine w_tand ?_) | (with_reducible refine w_tor ?_) | (with_reducible refine w_tnot ?_) | (with_reducible refine w_eand ?_) | (with_reducible refine w_eor ?_) | (with_reducible refine w_enot ?_) | (with_reducible refine w_exb ?_) | (with_reducible refine w_exi ?_) | (with_reducible refine w_if ?_) | (with_reducible refine w_slice ?_) | (with_reducible refine w_onone ?_) | (with_reducible refine w_osome ?_) | (with_reducible refine w_lc ?_) | (with_reducible refine w_lc2 ?_) | (with_reducible refine w_mtl ?_) | (with_reducible refine w_iseq ?_) | (with_reducible refine w_irng ?_) | (with_reducible refine w_ienum ?_) | (with_reducible refine w_ibin ?_) | (with_reducible refine w_true ?_) | (with_reducible refine cond_t ?_) | (with_reducible refine cond_f ?_))
local macro_rules | `(tactic| walk_at "ex2") => `(tactic| first | (with_reducible refine w_addI ?_) | (with_reducible refine w_subI ?_) | (with_reducible refine w_ltI ?_) | (with_reducible refine w_leI ?_) | (with_reducible refine w_gtI ?_) | (with_reducible refine w_geI ?_) | (with_reducible refine w_eqI ?_) | (with_reducible refine w_neI ?_) | (with_reducible refine w_negI ?_) | (with_reducible refine w_maxI ?_) | (with_reducible refine w_minI ?_) | (with_reducible refine w_lenT ?_) | (with_reducible refine w_slT ?_) | (with_reducible refine w_sseq ?_) | (with_reducible refine w_senum ?_) | (with_reducible refine w_szip ?_) | (with_reducible refine w_eqB ?_) | (with_reducible refine w_neB ?_))
local macro_rules | `(tactic| walk_at "ex3") => `(tactic| first | ((with_reducible apply w_var); (focus exact rfl)) | ((with_reducible apply w_aug); (focus exact rfl)) | ((with_reducible apply w_thaw); (focus exact rfl); (focus with_reducible assumption)) | ((with_reducible apply w_idxZ); (focus exact rfl); (focus with_reducible assumption)) | ((with_reducible apply wr_by); (focus with_reducible assumption)) | ((with_reducible apply w_via); (focus exact rfl)) | ((with_reducible apply w_mkTup); (focus exact Nat.le_of_ble_eq_true rfl)) | ((with_reducible apply w_mkLst); (focus exact Nat.le_of_ble_eq_true rfl)) | ((with_reducible apply w_ix); (focus exact rfl); (focus exact rfl)) | ((with_reducible apply w_lenL); (focus with_reducible assumption)) | ((with_reducible apply w_lenL); (focus with_reducible exact get_end)) | ((with_reducible apply w_isl); (focus with_reducible assumption)) | ((with_reducible apply w_append); (focus with_reducible assumption); (focus with_reducible assumption)) | ((with_reducible apply w_slL); (focus with_reducible assumption)) | ((with_reducible apply w_enumL); (focus with_reducible assumption)) | ((with_reducible apply w_tupL); (focus with_reducible assumption)) | ((with_reducible apply w_sdyn); (focus with_reducible assumption)) | ((with_reducible apply w_isi); (focus exact rfl)) | ((with_reducible apply w_isi2); (focus exact rfl)) | ((with_reducible apply w_eqS); (focus decide +kernel); (focus decide +kernel)) | ((with_reducible apply cond_af); (focus exact rfl)) | ((with_reducible apply cond_at); (focus exact rfl)) | ((with_reducible apply cond_af); (focus decide +kernel)) | ((with_reducible apply cond_at); (focus decide +kernel)))
local macro_rules | `(tactic| walk_at "go") => `(tactic| repeat (first | walk_at "ex1" | walk_at "ex2" | walk_at "ex3"))
section
variable {B : Nat} {ps : List (Nat × Ob)} {T : Sto} {c : Int}
theorem take_s (H : Stg B ps T c) {many : Int} (h0 : 0 < many) (h1 : many < 1000000000000000000000000000000000000000000000000000000000001) (hc : c + 1 < 1000000000) : ∃ (v : Nat) (T' : Sto), s__law_take [.ref B, .int many] T = .ok (.int (v : Int)) T' ∧ (v : Int) < many ∧ Stg B ps T' (c + 1) := by
  obtain ⟨v, T', t, hv, b, G, _⟩ := take_go (many := many) H.bag h0 h1 hc
  exact ⟨v, T', t, hv, H.grw G b⟩
structure OffOk (ws rs off : List D) : Prop where
  run : RunOk ws rs off
  rise : risingD rs.length (.tup off) = true
  ex : ∃ l : List Nat, off = l.map (fun (x : Nat) => D.int x) ∧ l.Pairwise (· < ·) ∧ (∀ x ∈ l, x < rs.length) ∧ l.length ≤ rs.length
theorem OffOk.of {ws rs : List D} (Dr : DrawOk ws rs) {l : List Nat} (p1 : l.Pairwise (· < ·)) (p2 : ∀ x ∈ l, x < rs.length) (p3 : l.length ≤ rs.length) : OffOk ws rs (l.map fun (x : Nat) => D.int x) := ⟨drawn_run_ok Dr p1 p2 p3, rising_ok p1 p2, l, rfl, p1, p2, p3⟩
theorem OffOk.nil {ws rs : List D} (Dr : DrawOk ws rs) : OffOk ws rs [] := OffOk.of (l := []) Dr List.Pairwise.nil (fun _ h => absurd h List.not_mem_nil) (Nat.zero_le _)
theorem DrawOk.few {ws rs : List D} (Dr : DrawOk ws rs) : FewC rs := fun cs a b c h => by
  obtain ⟨cs', chs, l, e, h4, _⟩ := (Dr.ru _ h).ex
  cases e
  exact Nat.le_trans h4 (by decide)
end
end Hd
set_option Elab.async false
set_option linter.all false
set_option maxRecDepth 100000
set_option maxHeartbeats 1000000
namespace Hd
open PySem U
local macro_rules | `(tactic| walk_at "ex1") => `(tactic| first | (with_reducible refine w_seq ?_) | (with_reducible refine w_set ?_) | (with_reducible refine w_ret ?_) | (with_reducible refine w_sif ?_) | (with_reducible refine w_asg2 ?_) | (with_reducible refine w_asg3 ?_) | (with_reducible refine w_asg4 ?_) | (with_reducible refine w_ex2 ?_) | (with_reducible refine w_ex3 ?_) | (with_reducible refine w_ex4 ?_) | (with_reducible refine w_par ?_) | (with_reducible refine w_par3 ?_) | (with_reducible refine w_expr ?_) | (with_reducible refine w_for ?_) | (with_reducible refine w_skip ?_) | (with_reducible refine w_fn ?_) | (with_reducible refine w_acons ?_) | (with_reducible refine w_anil ?_) | (with_reducible refine w_aapp ?_) | (with_reducible refine w_bin ?_) | (with_reducible refine w_un ?_) | (with_reducible refine w_c ?_) | (with_reducible refine w_tof ?_) | (with_reducible refine w_tob ?_) | (with_reducible refine w_tand ?_) | (with_reducible refine w_tor ?_) | (with_reducible refine w_tnot ?_) | (with_reducible refine w_eand ?_) | (with_reducible refine w_eor ?_) | (with_reducible refine w_enot ?_) | (with_reducible refine w_exb ?_) | (with_reducible refine w_exi ?_) | (with_reducible refine w_if ?_) | (with_reducible refine w_slice ?_) | (with_reducible refine w_onone ?_) | (with_reducible refine w_osome ?_) | (with_reducible refine w_lc ?_) | (with_reducible refine w_lc2 ?_) | (with_reducible refine w_mtl ?_) | (with_reducible refine w_iseq ?_) | (with_reducible refine w_irng ?_) | (with_reducible refine w_ienum ?_) | (with_reducible refine w_ibin ?_) | (with_reducible refine w_true ?_) | (with_reducible refine cond_t ?_) | (with_reducible refine cond_f ?_))
local macro_rules | `(tactic| walk_at "ex2") => `(tactic| first | (with_reducible refine w_addI ?_) | (with_reducible refine w_subI ?_) | (with_reducible refine w_ltI ?_) | (with_reducible refine w_leI ?_) | (with_reducible refine w_gtI ?_) | (with_reducible refine w_geI ?_) | (with_reducible refine w_eqI ?_) | (with_reducible refine w_neI ?_) | (with_reducible refine w_negI ?_) | (with_reducible refine w_maxI ?_) | (with_reducible refine w_minI ?_) | (with_reducible refine w_lenT ?_) | (with_reducible refine w_slT ?_) | (with_reducible refine w_sseq ?_) | (with_reducible refine w_senum ?_) | (with_reducible refine w_szip ?_) | (with_reducible refine w_eqB ?_) | (with_reducible refine w_neB ?_))
local macro_rules | `(tactic| walk_at "ex3") => `(tactic| first | ((with_reducible apply w_var); (focus exact rfl)) | ((with_reducible apply w_aug); (focus exact rfl)) | ((with_reducible apply w_thaw); (focus exact rfl); (focus with_reducible assumption)) | ((with_reducible apply w_idxZ); (focus exact rfl); (focus with_reducible assumption)) | ((with_reducible apply wr_by); (focus with_reducible assumption)) | ((with_reducible apply w_via); (focus exact rfl)) | ((with_reducible apply w_mkTup); (focus exact Nat.le_of_ble_eq_true rfl)) | ((with_reducible apply w_mkLst); (focus exact Nat.le_of_ble_eq_true rfl)) | ((with_reducible apply w_ix); (focus exact rfl); (focus exact rfl)) | ((with_reducible apply w_lenL); (focus with_reducible assumption)) | ((with_reducible apply w_lenL); (focus with_reducible exact get_end)) | ((with_reducible apply w_isl); (focus with_reducible assumption)) | ((with_reducible apply w_append); (focus with_reducible assumption); (focus with_reducible assumption)) | ((with_reducible apply w_slL); (focus with_reducible assumption)) | ((with_reducible apply w_enumL); (focus with_reducible assumption)) | ((with_reducible apply w_tupL); (focus with_reducible assumption)) | ((with_reducible apply w_sdyn); (focus with_reducible assumption)) | ((with_reducible apply w_isi); (focus exact rfl)) | ((with_reducible apply w_isi2); (focus exact rfl)) | ((with_reducible apply w_eqS); (focus decide +kernel); (focus decide +kernel)) | ((with_reducible apply cond_af); (focus exact rfl)) | ((with_reducible apply cond_at); (focus exact rfl)) | ((with_reducible apply cond_af); (focus decide +kernel)) | ((with_reducible apply cond_at); (focus decide +kernel)))
local macro_rules | `(tactic| walk_at "go") => `(tactic| repeat (first | walk_at "ex1" | walk_at "ex2" | walk_at "ex3"))
theorem drawn_run {S : Sto} {B : Nat} {c : Int} (h : Bag S B c) (hc : c + 220 < 1000000000) : ∃ ws rs T, m__law_drawn [.ref B] S = .ok (.tup [.tup ws, .tup rs]) T ∧ Grw S T B ∧ Bag T B (c + 220) ∧ DrawOk ws rs := by
  obtain ⟨ws, T1, e1, G1, B1, W⟩ := wheels_run h (by omega)
  obtain ⟨v, T2, t2, hv, B2, G2, Q2⟩ := take_go (many := 6) B1 (by omega) (by omega) (by omega)
  obtain ⟨n, hn, hn5⟩ : ∃ n : Nat, L2.atI [D.int 3, .int 5, .int 2, .int 4, .int 1, .int 0] (v : Int) = some (.int (n : Int)) ∧ n ≤ 5 := by
    have : v = 0 ∨ v = 1 ∨ v = 2 ∨ v = 3 ∨ v = 4 ∨ v = 5 := by omega
    rcases this with rfl | rfl | rfl | rfl | rfl | rfl
    · exact ⟨3, rfl, by omega⟩
    · exact ⟨5, rfl, by omega⟩
    · exact ⟨2, rfl, by omega⟩
    · exact ⟨4, rfl, by omega⟩
    · exact ⟨1, rfl, by omega⟩
    · exact ⟨0, rfl, by omega⟩
  obtain ⟨rs, T3, e3, G3, B3, hl, hr⟩ := rules_run (n := n) B2 (by omega) hn5 W
  refine ⟨ws, rs, T3, ?_, (G1.trans G2).trans G3, B3.mono (by omega), ⟨W, by omega, by rw [hl]; exact hr⟩⟩
  have key : b__law_drawn [some (.ref B), none] S = .rt (.tup [.tup ws, .tup rs]) T3 := by
    unfold b__law_drawn
    refine set_to (d := .tup ws) (st1 := T1) e1 ?_
    simp only [List.set_cons_succ, List.set_cons_zero]
    have hm : eBin dIx (eFn mkTup (aCons (eC (.int 3)) (aCons (eC (.int 5)) (aCons (eC (.int 2)) (aCons (eC (.int 4)) (aCons (eC (.int 1)) (aCons (eC (.int 0)) aNil))))))) (eFn s__law_take (aCons (eVar 0) (aCons (eC (.int 6)) aNil))) [some (.ref B), some (.tup ws)] T1 = .ok (.int (n : Int)) T2 := by
      rw [ev_bin]
      show (R.ok (D.tup [D.int 3, .int 5, .int 2, .int 4, .int 1, .int 0]) T1).bind _ = _
      rw [ev_bok, take_ev rfl rfl t2, ev_bok]
      exact ixS rfl hn
    have v0 : eVar 0 [some (.ref B), some (.tup ws)] T1 = .ok (.ref B) T1 := rfl
    have v1 : eVar 1 [some (.ref B), some (.tup ws)] T1 = .ok (.tup ws) T1 := rfl
    rw [ev_ret, ev_fn, ev_acons, v1, ev_bok, ev_acons, ev_fn, ev_acons, v0, ev_bok, ev_acons, v1, ev_bok, ev_acons, hm, ev_bok, ev_anil, ev_bok, ev_bok, ev_bok, ev_bok, e3, ev_bok, ev_anil, ev_bok, ev_bok, ev_bok, mkTup2, ev_tok]
  unfold m__law_drawn
  rw [ev_mkfn, if_pos (show [D.ref B].length = 1 from rfl)]
  show endFn (b__law_drawn [some (.ref B), none] S) = _
  rw [key]
  rfl
section
variable {B : Nat} {ps : List (Nat × Ob)} {T : Sto} {c : Int}
theorem drawn_s (H : Stg B ps T c) (hc : c + 220 < 1000000000) : ∃ ws rs T', m__law_drawn [.ref B] T = .ok (.tup [.tup ws, .tup rs]) T' ∧ Stg B ps T' (c + 220) ∧ DrawOk ws rs := by
  obtain ⟨ws, rs, T', d, G, b, Dr⟩ := drawn_run H.bag hc
  exact ⟨ws, rs, T', d, H.grw G b, Dr⟩
end

end Hd
set_option Elab.async false
set_option linter.all false
set_option maxRecDepth 100000
set_option maxHeartbeats 1000000
namespace Hd
open PySem U
local macro_rules | `(tactic| walk_at "ex1") => `(tactic| first | (with_reducible refine w_seq ?_) | (with_reducible refine w_set ?_) | (with_reducible refine w_ret ?_) | (with_reducible refine w_sif ?_) | (with_reducible refine w_asg2 ?_) | (with_reducible refine w_asg3 ?_) | (with_reducible refine w_asg4 ?_) | (with_reducible refine w_ex2 ?_) | (with_reducible refine w_ex3 ?_) | (with_reducible refine w_ex4 ?_) | (with_reducible refine w_par ?_) | (with_reducible refine w_par3 ?_) | (with_reducible refine w_expr ?_) | (with_reducible refine w_for ?_) | (with_reducible refine w_skip ?_) | (with_reducible refine w_fn ?_) | (with_reducible refine w_acons ?_) | (with_reducible refine w_anil ?_) | (with_reducible refine w_aapp ?_) | (with_reducible refine w_bin ?_) | (with_reducible refine w_un ?_) | (with_reducible refine w_c ?_) | (with_reducible refine w_tof ?_) | (with_reducible refine w_tob ?_) | (with_reducible refine w_tand ?_) | (with_reducible refine w_tor ?_) | (with_reducible refine w_tnot ?_) | (with_reducible refine w_eand ?_) | (with_reducible refine w_eor ?_) | (with_reducible refine w_enot ?_) | (with_reducible refine w_exb ?_) | (with_reducible refine w_exi ?_) | (with_reducible refine w_if ?_) | (with_reducible refine w_slice ?_) | (with_reducible refine w_onone ?_) | (with_reducible refine w_osome ?_) | (with_reducible refine w_lc ?_) | (with_reducible refine w_lc2 ?_) | (with_reducible refine w_mtl ?_) | (with_reducible refine w_iseq ?_) | (with_reducible refine w_irng ?_) | (with_reducible refine w_ienum ?_) | (with_reducible refine w_ibin ?_) | (with_reducible refine w_true ?_) | (with_reducible refine cond_t ?_) | (with_reducible refine cond_f ?_))
local macro_rules | `(tactic| walk_at "ex2") => `(tactic| first | (with_reducible refine w_addI ?_) | (with_reducible refine w_subI ?_) | (with_reducible refine w_ltI ?_) | (with_reducible refine w_leI ?_) | (with_reducible refine w_gtI ?_) | (with_reducible refine w_geI ?_) | (with_reducible refine w_eqI ?_) | (with_reducible refine w_neI ?_) | (with_reducible refine w_negI ?_) | (with_reducible refine w_maxI ?_) | (with_reducible refine w_minI ?_) | (with_reducible refine w_lenT ?_) | (with_reducible refine w_slT ?_) | (with_reducible refine w_sseq ?_) | (with_reducible refine w_senum ?_) | (with_reducible refine w_szip ?_) | (with_reducible refine w_eqB ?_) | (with_reducible refine w_neB ?_))
local macro_rules | `(tactic| walk_at "ex3") => `(tactic| first | ((with_reducible apply w_var); (focus exact rfl)) | ((with_reducible apply w_aug); (focus exact rfl)) | ((with_reducible apply w_thaw); (focus exact rfl); (focus with_reducible assumption)) | ((with_reducible apply w_idxZ); (focus exact rfl); (focus with_reducible assumption)) | ((with_reducible apply wr_by); (focus with_reducible assumption)) | ((with_reducible apply w_via); (focus exact rfl)) | ((with_reducible apply w_mkTup); (focus exact Nat.le_of_ble_eq_true rfl)) | ((with_reducible apply w_mkLst); (focus exact Nat.le_of_ble_eq_true rfl)) | ((with_reducible apply w_ix); (focus exact rfl); (focus exact rfl)) | ((with_reducible apply w_lenL); (focus with_reducible assumption)) | ((with_reducible apply w_lenL); (focus with_reducible exact get_end)) | ((with_reducible apply w_isl); (focus with_reducible assumption)) | ((with_reducible apply w_append); (focus with_reducible assumption); (focus with_reducible assumption)) | ((with_reducible apply w_slL); (focus with_reducible assumption)) | ((with_reducible apply w_enumL); (focus with_reducible assumption)) | ((with_reducible apply w_tupL); (focus with_reducible assumption)) | ((with_reducible apply w_sdyn); (focus with_reducible assumption)) | ((with_reducible apply w_isi); (focus exact rfl)) | ((with_reducible apply w_isi2); (focus exact rfl)) | ((with_reducible apply w_eqS); (focus decide +kernel); (focus decide +kernel)) | ((with_reducible apply cond_af); (focus exact rfl)) | ((with_reducible apply cond_at); (focus exact rfl)) | ((with_reducible apply cond_af); (focus decide +kernel)) | ((with_reducible apply cond_at); (focus decide +kernel)))
local macro_rules | `(tactic| walk_at "go") => `(tactic| repeat (first | walk_at "ex1" | walk_at "ex2" | walk_at "ex3"))
def Atom (d : D) : Prop := (∃ i, d = .int i) ∨ (∃ s, d = .str s ∧ SeqAt.shaped (.str s) = true) ∨ d = .non ∨ ∃ b, d = .bl b
def Pl : Nat → D → Prop
  | 0, d => Atom d
  | n + 1, d => Atom d ∨ ∃ xs, d = .tup xs ∧ xs.length ≤ 100000 ∧ ∀ x ∈ xs, Pl n x
theorem atom_toP {d : D} (h : Atom d) (n : Nat) : ∃ p, (∀ T, toP n T d = some p) ∧ p.canLay0 = true := by
  rcases h with ⟨i, rfl⟩ | ⟨s, rfl, hs⟩ | rfl | ⟨b, rfl⟩
  · exact ⟨.int i, fun T => by cases n <;> simp only [toP], by simp [PyData.canLay0]⟩
  · refine ⟨.str s, fun T => by cases n <;> simp only [toP], ?_⟩
    unfold SeqAt.shaped at hs
    exact (Bool.and_eq_true _ _ ▸ hs).1
  · exact ⟨.none, fun T => by cases n <;> simp only [toP], by simp [PyData.canLay0]⟩
  · exact ⟨.bool b, fun T => by cases n <;> simp only [toP], by simp [PyData.canLay0]⟩
theorem mapO_toP {n : Nat} : ∀ {xs : List D}, (∀ x ∈ xs, ∃ p, (∀ T, toP n T x = some p) ∧ p.canLay0 = true) → ∃ ps, (∀ T, mapO (toP n T) xs = some ps) ∧ PyData.canLayAll0 ps = true
  | [], _ => ⟨[], fun T => rfl, by simp [PyData.canLayAll0]⟩
  | x :: xs, h => by
    obtain ⟨p, h1, h2⟩ := h x List.mem_cons_self
    obtain ⟨ps, h3, h4⟩ := mapO_toP (n := n) (xs := xs) fun y hy => h y (List.mem_cons_of_mem _ hy)
    exact ⟨p :: ps, fun T => by simp only [mapO, h1, h3], by simp [PyData.canLayAll0, h2, h4]⟩
theorem pl_toP : ∀ {n : Nat} {d : D}, Pl n d → ∃ p, (∀ T, toP n T d = some p) ∧ p.canLay0 = true
  | 0, d, h => atom_toP h 0
  | n + 1, d, h => by
    rcases h with h | ⟨xs, rfl, _, h⟩
    · exact atom_toP h _
    · obtain ⟨ps, h1, h2⟩ := mapO_toP (n := n) (xs := xs) fun x hx => pl_toP (h x hx)
      exact ⟨.tuple ps, fun T => by simp only [toP, h1, Option.map_some], by simp [PyData.canLay0, h2]⟩
theorem pl_eq {n : Nat} {d : D} {neg : Bool} (h : Pl n d) (hn : n ≤ 60) (T : Sto) : dEq neg d d T = .ok (.bl (!neg)) T := by
  obtain ⟨p, h1, h2⟩ := pl_toP h
  exact eq_same (h1 T) (h1 T) hn h2
theorem pl_up : ∀ {n : Nat} {d : D}, Pl n d → Pl (n + 1) d
  | 0, d, h => .inl h
  | n + 1, d, h => by
    rcases h with h | ⟨xs, rfl, hl, h⟩
    · exact .inl h
    · exact .inr ⟨xs, rfl, hl, fun x hx => pl_up (h x hx)⟩

end Hd
set_option Elab.async false
set_option linter.all false
set_option maxRecDepth 100000
set_option maxHeartbeats 1000000
namespace Hd
open PySem U
local macro_rules | `(tactic| walk_at "ex1") => `(tactic| first | (with_reducible refine w_seq ?_) | (with_reducible refine w_set ?_) | (with_reducible refine w_ret ?_) | (with_reducible refine w_sif ?_) | (with_reducible refine w_asg2 ?_) | (with_reducible refine w_asg3 ?_) | (with_reducible refine w_asg4 ?_) | (with_reducible refine w_ex2 ?_) | (with_reducible refine w_ex3 ?_) | (with_reducible refine w_ex4 ?_) | (with_reducible refine w_par ?_) | (with_reducible refine w_par3 ?_) | (with_reducible refine w_expr ?_) | (with_reducible refine w_for ?_) | (with_reducible refine w_skip ?_) | (with_reducible refine w_fn ?_) | (with_reducible refine w_acons ?_) | (with_reducible refine w_anil ?_) | (with_reducible refine w_aapp ?_) | (with_reducible refine w_bin ?_) | (with_reducible refine w_un ?_) | (with_reducible refine w_c ?_) | (with_reducible refine w_tof ?_) | (with_reducible refine w_tob ?_) | (with_reducible refine w_tand ?_) | (with_reducible refine w_tor ?_) | (with_reducible refine w_tnot ?_) | (with_reducible refine w_eand ?_) | (with_reducible refine w_eor ?_) | (with_reducible refine w_enot ?_) | (with_reducible refine w_exb ?_) | (with_reducible refine w_exi ?_) | (with_reducible refine w_if ?_) | (with_reducible refine w_slice ?_) | (with_reducible refine w_onone ?_) | (with_reducible refine w_osome ?_) | (with_reducible refine w_lc ?_) | (with_reducible refine w_lc2 ?_) | (with_reducible refine w_mtl ?_) | (with_reducible refine w_iseq ?_) | (with_reducible refine w_irng ?_) | (with_reducible refine w_ienum ?_) | (with_reducible refine w_ibin ?_) | (with_reducible refine w_true ?_) | (with_reducible refine cond_t ?_) | (with_reducible refine cond_f ?_))
local macro_rules | `(tactic| walk_at "ex2") => `(tactic| first | (with_reducible refine w_addI ?_) | (with_reducible refine w_subI ?_) | (with_reducible refine w_ltI ?_) | (with_reducible refine w_leI ?_) | (with_reducible refine w_gtI ?_) | (with_reducible refine w_geI ?_) | (with_reducible refine w_eqI ?_) | (with_reducible refine w_neI ?_) | (with_reducible refine w_negI ?_) | (with_reducible refine w_maxI ?_) | (with_reducible refine w_minI ?_) | (with_reducible refine w_lenT ?_) | (with_reducible refine w_slT ?_) | (with_reducible refine w_sseq ?_) | (with_reducible refine w_senum ?_) | (with_reducible refine w_szip ?_) | (with_reducible refine w_eqB ?_) | (with_reducible refine w_neB ?_))
local macro_rules | `(tactic| walk_at "ex3") => `(tactic| first | ((with_reducible apply w_var); (focus exact rfl)) | ((with_reducible apply w_aug); (focus exact rfl)) | ((with_reducible apply w_thaw); (focus exact rfl); (focus with_reducible assumption)) | ((with_reducible apply w_idxZ); (focus exact rfl); (focus with_reducible assumption)) | ((with_reducible apply wr_by); (focus with_reducible assumption)) | ((with_reducible apply w_via); (focus exact rfl)) | ((with_reducible apply w_mkTup); (focus exact Nat.le_of_ble_eq_true rfl)) | ((with_reducible apply w_mkLst); (focus exact Nat.le_of_ble_eq_true rfl)) | ((with_reducible apply w_ix); (focus exact rfl); (focus exact rfl)) | ((with_reducible apply w_lenL); (focus with_reducible assumption)) | ((with_reducible apply w_lenL); (focus with_reducible exact get_end)) | ((with_reducible apply w_isl); (focus with_reducible assumption)) | ((with_reducible apply w_append); (focus with_reducible assumption); (focus with_reducible assumption)) | ((with_reducible apply w_slL); (focus with_reducible assumption)) | ((with_reducible apply w_enumL); (focus with_reducible assumption)) | ((with_reducible apply w_tupL); (focus with_reducible assumption)) | ((with_reducible apply w_sdyn); (focus with_reducible assumption)) | ((with_reducible apply w_isi); (focus exact rfl)) | ((with_reducible apply w_isi2); (focus exact rfl)) | ((with_reducible apply w_eqS); (focus decide +kernel); (focus decide +kernel)) | ((with_reducible apply cond_af); (focus exact rfl)) | ((with_reducible apply cond_at); (focus exact rfl)) | ((with_reducible apply cond_af); (focus decide +kernel)) | ((with_reducible apply cond_at); (focus decide +kernel)))
local macro_rules | `(tactic| walk_at "go") => `(tactic| repeat (first | walk_at "ex1" | walk_at "ex2" | walk_at "ex3"))
theorem pl_ints {xs : List D} (h : ∀ y ∈ xs, ∃ i, y = .int i) (hl : xs.length ≤ 100000) : Pl 1 (.tup xs) := .inr ⟨xs, rfl, hl, fun y hy => let ⟨i, e⟩ := h y hy; .inl ⟨i, e⟩⟩

end Hd
set_option Elab.async false
set_option linter.all false
set_option maxRecDepth 100000
set_option maxHeartbeats 1000000
namespace Hd
open PySem U
local macro_rules | `(tactic| walk_at "ex1") => `(tactic| first | (with_reducible refine w_seq ?_) | (with_reducible refine w_set ?_) | (with_reducible refine w_ret ?_) | (with_reducible refine w_sif ?_) | (with_reducible refine w_asg2 ?_) | (with_reducible refine w_asg3 ?_) | (with_reducible refine w_asg4 ?_) | (with_reducible refine w_ex2 ?_) | (with_reducible refine w_ex3 ?_) | (with_reducible refine w_ex4 ?_) | (with_reducible refine w_par ?_) | (with_reducible refine w_par3 ?_) | (with_reducible refine w_expr ?_) | (with_reducible refine w_for ?_) | (with_reducible refine w_skip ?_) | (with_reducible refine w_fn ?_) | (with_reducible refine w_acons ?_) | (with_reducible refine w_anil ?_) | (with_reducible refine w_aapp ?_) | (with_reducible refine w_bin ?_) | (with_reducible refine w_un ?_) | (with_reducible refine w_c ?_) | (with_reducible refine w_tof ?_) | (with_reducible refine w_tob ?_) | (with_reducible refine w_tand ?_) | (with_reducible refine w_tor ?_) | (with_reducible refine w_tnot ?_) | (with_reducible refine w_eand ?_) | (with_reducible refine w_eor ?_) | (with_reducible refine w_enot ?_) | (with_reducible refine w_exb ?_) | (with_reducible refine w_exi ?_) | (with_reducible refine w_if ?_) | (with_reducible refine w_slice ?_) | (with_reducible refine w_onone ?_) | (with_reducible refine w_osome ?_) | (with_reducible refine w_lc ?_) | (with_reducible refine w_lc2 ?_) | (with_reducible refine w_mtl ?_) | (with_reducible refine w_iseq ?_) | (with_reducible refine w_irng ?_) | (with_reducible refine w_ienum ?_) | (with_reducible refine w_ibin ?_) | (with_reducible refine w_true ?_) | (with_reducible refine cond_t ?_) | (with_reducible refine cond_f ?_))
local macro_rules | `(tactic| walk_at "ex2") => `(tactic| first | (with_reducible refine w_addI ?_) | (with_reducible refine w_subI ?_) | (with_reducible refine w_ltI ?_) | (with_reducible refine w_leI ?_) | (with_reducible refine w_gtI ?_) | (with_reducible refine w_geI ?_) | (with_reducible refine w_eqI ?_) | (with_reducible refine w_neI ?_) | (with_reducible refine w_negI ?_) | (with_reducible refine w_maxI ?_) | (with_reducible refine w_minI ?_) | (with_reducible refine w_lenT ?_) | (with_reducible refine w_slT ?_) | (with_reducible refine w_sseq ?_) | (with_reducible refine w_senum ?_) | (with_reducible refine w_szip ?_) | (with_reducible refine w_eqB ?_) | (with_reducible refine w_neB ?_))
local macro_rules | `(tactic| walk_at "ex3") => `(tactic| first | ((with_reducible apply w_var); (focus exact rfl)) | ((with_reducible apply w_aug); (focus exact rfl)) | ((with_reducible apply w_thaw); (focus exact rfl); (focus with_reducible assumption)) | ((with_reducible apply w_idxZ); (focus exact rfl); (focus with_reducible assumption)) | ((with_reducible apply wr_by); (focus with_reducible assumption)) | ((with_reducible apply w_via); (focus exact rfl)) | ((with_reducible apply w_mkTup); (focus exact Nat.le_of_ble_eq_true rfl)) | ((with_reducible apply w_mkLst); (focus exact Nat.le_of_ble_eq_true rfl)) | ((with_reducible apply w_ix); (focus exact rfl); (focus exact rfl)) | ((with_reducible apply w_lenL); (focus with_reducible assumption)) | ((with_reducible apply w_lenL); (focus with_reducible exact get_end)) | ((with_reducible apply w_isl); (focus with_reducible assumption)) | ((with_reducible apply w_append); (focus with_reducible assumption); (focus with_reducible assumption)) | ((with_reducible apply w_slL); (focus with_reducible assumption)) | ((with_reducible apply w_enumL); (focus with_reducible assumption)) | ((with_reducible apply w_tupL); (focus with_reducible assumption)) | ((with_reducible apply w_sdyn); (focus with_reducible assumption)) | ((with_reducible apply w_isi); (focus exact rfl)) | ((with_reducible apply w_isi2); (focus exact rfl)) | ((with_reducible apply w_eqS); (focus decide +kernel); (focus decide +kernel)) | ((with_reducible apply cond_af); (focus exact rfl)) | ((with_reducible apply cond_at); (focus exact rfl)) | ((with_reducible apply cond_af); (focus decide +kernel)) | ((with_reducible apply cond_at); (focus decide +kernel)))
local macro_rules | `(tactic| walk_at "go") => `(tactic| repeat (first | walk_at "ex1" | walk_at "ex2" | walk_at "ex3"))
section
variable {ws rs : List D} {T : Sto} {n : Nat} {r : D}
theorem word_atom {w : Str} (h : w = "is" ∨ w = "not" ∨ w = "below" ∨ w = "hushed" ∨ w = "awake" ∨ w = "turn" ∨ w = "put") : Atom (.str w) := by
  rcases h with rfl | rfl | rfl | rfl | rfl | rfl | rfl <;> exact .inr (.inl ⟨_, rfl, by decide +kernel⟩)
theorem cond_pl {c : D} (h : CondOk ws n c) : Pl 1 c := by
  rcases h with ⟨w, x, p, m, rfl, hw, _⟩ | ⟨w, q, rfl, hw, _⟩
  · refine .inr ⟨_, rfl, by simp, fun y hy => ?_⟩
    simp only [List.mem_cons, List.not_mem_nil, or_false] at hy
    rcases hy with rfl | rfl | rfl
    · exact word_atom (by rcases hw with h | h | h <;> simp [h])
    · exact .inl ⟨_, rfl⟩
    · exact .inl ⟨_, rfl⟩
  · refine .inr ⟨_, rfl, by simp, fun y hy => ?_⟩
    simp only [List.mem_cons, List.not_mem_nil, or_false] at hy
    rcases hy with rfl | rfl
    · exact word_atom (by rcases hw with h | h <;> simp [h])
    · exact .inl ⟨_, rfl⟩
theorem chg_pl {c : D} (h : ChgOk ws c) : Pl 1 c := by
  obtain ⟨w, x, p, m, rfl, hw, _⟩ := h
  refine .inr ⟨_, rfl, by simp, fun y hy => ?_⟩
  simp only [List.mem_cons, List.not_mem_nil, or_false] at hy
  rcases hy with rfl | rfl | rfl
  · exact word_atom (by rcases hw with h | h <;> simp [h])
  · exact .inl ⟨_, rfl⟩
  · exact .inl ⟨_, rfl⟩
theorem hush_pl {c : D} (h : HshOk n c) : Pl 1 c := by
  obtain ⟨q, b, rfl, _⟩ := h
  exact pl_ints (fun x hx => by simp only [List.mem_cons, List.not_mem_nil, or_false] at hx; rcases hx with rfl | rfl <;> exact ⟨_, rfl⟩) (by simp)
theorem rule_pl (h : RuleDr ws n r) (hn5 : n ≤ 5) : Pl 3 r := by
  obtain ⟨cs, chs, l, rfl, h1, h2, h3, h4, h5, h6⟩ := h.ex
  have l1 := hsW_len 0 l
  have l2 := wkW_len 0 l
  refine .inr ⟨_, rfl, by simp, fun y hy => ?_⟩
  simp only [List.mem_cons, List.not_mem_nil, or_false] at hy
  rcases hy with rfl | rfl | rfl | rfl
  · exact .inr ⟨_, rfl, by omega, fun c hc => cond_pl (h3 c hc)⟩
  · exact .inr ⟨_, rfl, by omega, fun c hc => chg_pl (h4 c hc)⟩
  · exact .inr ⟨_, rfl, by omega, fun c hc => hush_pl (hsW_ok 0 l l.length (by omega) c hc)⟩
  · exact pl_up (pl_ints (fun x hx => by obtain ⟨q, e, _⟩ := wkW_ok 0 l l.length (by omega) x hx; exact ⟨_, e⟩) (by omega))
end

end Hd
set_option Elab.async false
set_option linter.all false
set_option maxRecDepth 100000
set_option maxHeartbeats 1000000
namespace Hd
open PySem U
local macro_rules | `(tactic| walk_at "ex1") => `(tactic| first | (with_reducible refine w_seq ?_) | (with_reducible refine w_set ?_) | (with_reducible refine w_ret ?_) | (with_reducible refine w_sif ?_) | (with_reducible refine w_asg2 ?_) | (with_reducible refine w_asg3 ?_) | (with_reducible refine w_asg4 ?_) | (with_reducible refine w_ex2 ?_) | (with_reducible refine w_ex3 ?_) | (with_reducible refine w_ex4 ?_) | (with_reducible refine w_par ?_) | (with_reducible refine w_par3 ?_) | (with_reducible refine w_expr ?_) | (with_reducible refine w_for ?_) | (with_reducible refine w_skip ?_) | (with_reducible refine w_fn ?_) | (with_reducible refine w_acons ?_) | (with_reducible refine w_anil ?_) | (with_reducible refine w_aapp ?_) | (with_reducible refine w_bin ?_) | (with_reducible refine w_un ?_) | (with_reducible refine w_c ?_) | (with_reducible refine w_tof ?_) | (with_reducible refine w_tob ?_) | (with_reducible refine w_tand ?_) | (with_reducible refine w_tor ?_) | (with_reducible refine w_tnot ?_) | (with_reducible refine w_eand ?_) | (with_reducible refine w_eor ?_) | (with_reducible refine w_enot ?_) | (with_reducible refine w_exb ?_) | (with_reducible refine w_exi ?_) | (with_reducible refine w_if ?_) | (with_reducible refine w_slice ?_) | (with_reducible refine w_onone ?_) | (with_reducible refine w_osome ?_) | (with_reducible refine w_lc ?_) | (with_reducible refine w_lc2 ?_) | (with_reducible refine w_mtl ?_) | (with_reducible refine w_iseq ?_) | (with_reducible refine w_irng ?_) | (with_reducible refine w_ienum ?_) | (with_reducible refine w_ibin ?_) | (with_reducible refine w_true ?_) | (with_reducible refine cond_t ?_) | (with_reducible refine cond_f ?_))
local macro_rules | `(tactic| walk_at "ex2") => `(tactic| first | (with_reducible refine w_addI ?_) | (with_reducible refine w_subI ?_) | (with_reducible refine w_ltI ?_) | (with_reducible refine w_leI ?_) | (with_reducible refine w_gtI ?_) | (with_reducible refine w_geI ?_) | (with_reducible refine w_eqI ?_) | (with_reducible refine w_neI ?_) | (with_reducible refine w_negI ?_) | (with_reducible refine w_maxI ?_) | (with_reducible refine w_minI ?_) | (with_reducible refine w_lenT ?_) | (with_reducible refine w_slT ?_) | (with_reducible refine w_sseq ?_) | (with_reducible refine w_senum ?_) | (with_reducible refine w_szip ?_) | (with_reducible refine w_eqB ?_) | (with_reducible refine w_neB ?_))
local macro_rules | `(tactic| walk_at "ex3") => `(tactic| first | ((with_reducible apply w_var); (focus exact rfl)) | ((with_reducible apply w_aug); (focus exact rfl)) | ((with_reducible apply w_thaw); (focus exact rfl); (focus with_reducible assumption)) | ((with_reducible apply w_idxZ); (focus exact rfl); (focus with_reducible assumption)) | ((with_reducible apply wr_by); (focus with_reducible assumption)) | ((with_reducible apply w_via); (focus exact rfl)) | ((with_reducible apply w_mkTup); (focus exact Nat.le_of_ble_eq_true rfl)) | ((with_reducible apply w_mkLst); (focus exact Nat.le_of_ble_eq_true rfl)) | ((with_reducible apply w_ix); (focus exact rfl); (focus exact rfl)) | ((with_reducible apply w_lenL); (focus with_reducible assumption)) | ((with_reducible apply w_lenL); (focus with_reducible exact get_end)) | ((with_reducible apply w_isl); (focus with_reducible assumption)) | ((with_reducible apply w_append); (focus with_reducible assumption); (focus with_reducible assumption)) | ((with_reducible apply w_slL); (focus with_reducible assumption)) | ((with_reducible apply w_enumL); (focus with_reducible assumption)) | ((with_reducible apply w_tupL); (focus with_reducible assumption)) | ((with_reducible apply w_sdyn); (focus with_reducible assumption)) | ((with_reducible apply w_isi); (focus exact rfl)) | ((with_reducible apply w_isi2); (focus exact rfl)) | ((with_reducible apply w_eqS); (focus decide +kernel); (focus decide +kernel)) | ((with_reducible apply cond_af); (focus exact rfl)) | ((with_reducible apply cond_at); (focus exact rfl)) | ((with_reducible apply cond_af); (focus decide +kernel)) | ((with_reducible apply cond_at); (focus decide +kernel)))
local macro_rules | `(tactic| walk_at "go") => `(tactic| repeat (first | walk_at "ex1" | walk_at "ex2" | walk_at "ex3"))
structure RlO (ws : List D) (n : Nat) (r : D) : Prop where
  d : (ruleWords r && ruleD ws n r) = true
  k : ∀ S, dk S r = true
  pl : Pl 3 r
structure Bk (ws rs : List D) : Prop where
  made : ∀ S, mkIns "Book" s_Book_init [.tup ws, .tup rs] S = .ok (.ref S.length) (S ++ [bookO ws rs])
  plw : Pl 4 (.tup ws)
  plr : Pl 4 (.tup rs)
  w3 : ws.length ≤ 3
  n5 : rs.length ≤ 5
section
variable {ws rs : List D} {n : Nat} {r : D} {T : Sto}
theorem rl_of {cs chs wk : List D} {l : List Nat} (hn : n ≤ 5) (h1 : ∀ c ∈ cs, CondOk ws n c) (l4 : cs.length ≤ 4) (h2 : ∀ c ∈ chs, ChgOk ws c) (l3 : chs.length ≤ 3) (h3 : l.length = n) (h4 : ∀ w ∈ l, w ≤ 4) (hk : wk = wkW 0 l ∨ wk = []) : RlO ws n (.tup [.tup cs, .tup chs, .tup (hsW 0 l), .tup wk]) := by
  have q1 := hsW_len 0 l
  have q2 := wkW_len 0 l
  have wok : ∀ c ∈ wk, WakOk n c := fun c hc => by
    rcases hk with rfl | rfl
    · exact wkW_ok 0 l n (by omega) c hc
    · cases hc
  have wl : wk.length ≤ 5 := by
    rcases hk with rfl | rfl
    · omega
    · exact Nat.zero_le _
  have ok : RuleOk ws n (.tup [.tup cs, .tup chs, .tup (hsW 0 l), .tup wk]) := ⟨cs, chs, _, wk, rfl, h1, h2, hsW_ok 0 l n (by omega), wok⟩
  refine ⟨?_, fun S => rule_dk ok, ?_⟩
  · have hw := List.all_eq_true.mp (hw_all n (by omega)) l (by rw [← h3]; exact allW_mem h4)
    unfold hwOk at hw
    simp only [Bool.and_eq_true] at hw
    have a1 : cs.all (condD ws n) = true := List.all_eq_true.mpr fun c hc => (cond_D (h1 c hc)).1
    have a2 : chs.all (changeD ws) = true := List.all_eq_true.mpr fun c hc => (chg_D (h2 c hc)).1
    have a3 : cs.all wordsD = true := List.all_eq_true.mpr fun c hc => (cond_D (h1 c hc)).2
    have a4 : chs.all wordsD = true := List.all_eq_true.mpr fun c hc => (chg_D (h2 c hc)).2
    have a5 : wakesD n (.tup wk) (hsW 0 l) = true := by
      rcases hk with rfl | rfl
      · exact hw.2
      · unfold wakesD
        simp [memI, risingD]
    simp only [ruleWords, ruleD, tupsD, rowD, a1, a2, a3, a4, hw.1, a5, decide_eq_true l4, decide_eq_true l3, Bool.and_self]
  · refine .inr ⟨_, rfl, by simp, fun y hy => ?_⟩
    simp only [List.mem_cons, List.not_mem_nil, or_false] at hy
    rcases hy with rfl | rfl | rfl | rfl
    · exact .inr ⟨_, rfl, by omega, fun c hc => cond_pl (h1 c hc)⟩
    · exact .inr ⟨_, rfl, by omega, fun c hc => chg_pl (h2 c hc)⟩
    · exact .inr ⟨_, rfl, by omega, fun c hc => hush_pl (hsW_ok 0 l l.length (by omega) c hc)⟩
    · exact pl_up (pl_ints (fun x hx => by obtain ⟨q, e, _⟩ := wok x hx; exact ⟨_, e⟩) (by omega))
theorem whp (W : WhOk ws) : Pl 4 (.tup ws) := by
  have := W.l3
  exact pl_up (pl_up (pl_up (pl_ints (fun y hy => by obtain ⟨m, e, _⟩ := W.w y hy; exact ⟨_, e⟩) (by omega))))
theorem bk_of (W : WhOk ws) (n5 : rs.length ≤ 5) (h : ∀ r ∈ rs, RlO ws rs.length r) : Bk ws rs where
  made := fun S => book_made (dk_of fun w hw => by obtain ⟨m, rfl, _⟩ := W.w w hw; simp only [dk]) (dk_of fun r hr => (h r hr).k S) W.D n5 (List.all_eq_true.mpr fun r hr => (h r hr).d)
  plw := whp W
  plr := .inr ⟨rs, rfl, by omega, fun r hr => (h r hr).pl⟩
  w3 := W.l3
  n5 := n5
theorem rl_dr (hn : n ≤ 5) (h : RuleDr ws n r) : RlO ws n r := ⟨h.D hn, fun S => rule_dk h.ok, rule_pl h hn⟩
theorem bk_dr (Dr : DrawOk ws rs) : Bk ws rs := bk_of Dr.wh Dr.n5 fun r hr => rl_dr Dr.n5 (Dr.ru r hr)
theorem prod_rev : ∀ {xs : List D}, xs.all isI = true → prodD xs.reverse = prodD xs
  | [], _ => rfl
  | x :: xs, h => by
    simp only [List.all_cons, Bool.and_eq_true] at h
    obtain ⟨i, rfl⟩ : ∃ i, x = .int i := ⟨_, isI_eq h.1⟩
    rw [List.reverse_cons, prod_snoc (by rw [List.all_reverse]; exact h.2), prod_rev h.2]
    simp only [prodD]
    exact Int.mul_comm _ _
theorem wh_rev (W : WhOk ws) : WhOk ws.reverse where
  l1 := by rw [List.length_reverse]; exact W.l1
  l3 := by rw [List.length_reverse]; exact W.l3
  w := fun w hw => W.w w (List.mem_reverse.mp hw)
  pr := by
    rw [prod_rev (List.all_eq_true.mpr fun x hx => by obtain ⟨m, rfl, _⟩ := W.w x hx; rfl)]
    exact W.pr
end

end Hd
set_option Elab.async false
set_option linter.all false
set_option maxRecDepth 100000
set_option maxHeartbeats 1000000
namespace Hd
open PySem U
local macro_rules | `(tactic| walk_at "ex1") => `(tactic| first | (with_reducible refine w_seq ?_) | (with_reducible refine w_set ?_) | (with_reducible refine w_ret ?_) | (with_reducible refine w_sif ?_) | (with_reducible refine w_asg2 ?_) | (with_reducible refine w_asg3 ?_) | (with_reducible refine w_asg4 ?_) | (with_reducible refine w_ex2 ?_) | (with_reducible refine w_ex3 ?_) | (with_reducible refine w_ex4 ?_) | (with_reducible refine w_par ?_) | (with_reducible refine w_par3 ?_) | (with_reducible refine w_expr ?_) | (with_reducible refine w_for ?_) | (with_reducible refine w_skip ?_) | (with_reducible refine w_fn ?_) | (with_reducible refine w_acons ?_) | (with_reducible refine w_anil ?_) | (with_reducible refine w_aapp ?_) | (with_reducible refine w_bin ?_) | (with_reducible refine w_un ?_) | (with_reducible refine w_c ?_) | (with_reducible refine w_tof ?_) | (with_reducible refine w_tob ?_) | (with_reducible refine w_tand ?_) | (with_reducible refine w_tor ?_) | (with_reducible refine w_tnot ?_) | (with_reducible refine w_eand ?_) | (with_reducible refine w_eor ?_) | (with_reducible refine w_enot ?_) | (with_reducible refine w_exb ?_) | (with_reducible refine w_exi ?_) | (with_reducible refine w_if ?_) | (with_reducible refine w_slice ?_) | (with_reducible refine w_onone ?_) | (with_reducible refine w_osome ?_) | (with_reducible refine w_lc ?_) | (with_reducible refine w_lc2 ?_) | (with_reducible refine w_mtl ?_) | (with_reducible refine w_iseq ?_) | (with_reducible refine w_irng ?_) | (with_reducible refine w_ienum ?_) | (with_reducible refine w_ibin ?_) | (with_reducible refine w_true ?_) | (with_reducible refine cond_t ?_) | (with_reducible refine cond_f ?_))
local macro_rules | `(tactic| walk_at "ex2") => `(tactic| first | (with_reducible refine w_addI ?_) | (with_reducible refine w_subI ?_) | (with_reducible refine w_ltI ?_) | (with_reducible refine w_leI ?_) | (with_reducible refine w_gtI ?_) | (with_reducible refine w_geI ?_) | (with_reducible refine w_eqI ?_) | (with_reducible refine w_neI ?_) | (with_reducible refine w_negI ?_) | (with_reducible refine w_maxI ?_) | (with_reducible refine w_minI ?_) | (with_reducible refine w_lenT ?_) | (with_reducible refine w_slT ?_) | (with_reducible refine w_sseq ?_) | (with_reducible refine w_senum ?_) | (with_reducible refine w_szip ?_) | (with_reducible refine w_eqB ?_) | (with_reducible refine w_neB ?_))
local macro_rules | `(tactic| walk_at "ex3") => `(tactic| first | ((with_reducible apply w_var); (focus exact rfl)) | ((with_reducible apply w_aug); (focus exact rfl)) | ((with_reducible apply w_thaw); (focus exact rfl); (focus with_reducible assumption)) | ((with_reducible apply w_idxZ); (focus exact rfl); (focus with_reducible assumption)) | ((with_reducible apply wr_by); (focus with_reducible assumption)) | ((with_reducible apply w_via); (focus exact rfl)) | ((with_reducible apply w_mkTup); (focus exact Nat.le_of_ble_eq_true rfl)) | ((with_reducible apply w_mkLst); (focus exact Nat.le_of_ble_eq_true rfl)) | ((with_reducible apply w_ix); (focus exact rfl); (focus exact rfl)) | ((with_reducible apply w_lenL); (focus with_reducible assumption)) | ((with_reducible apply w_lenL); (focus with_reducible exact get_end)) | ((with_reducible apply w_isl); (focus with_reducible assumption)) | ((with_reducible apply w_append); (focus with_reducible assumption); (focus with_reducible assumption)) | ((with_reducible apply w_slL); (focus with_reducible assumption)) | ((with_reducible apply w_enumL); (focus with_reducible assumption)) | ((with_reducible apply w_tupL); (focus with_reducible assumption)) | ((with_reducible apply w_sdyn); (focus with_reducible assumption)) | ((with_reducible apply w_isi); (focus exact rfl)) | ((with_reducible apply w_isi2); (focus exact rfl)) | ((with_reducible apply w_eqS); (focus decide +kernel); (focus decide +kernel)) | ((with_reducible apply cond_af); (focus exact rfl)) | ((with_reducible apply cond_at); (focus exact rfl)) | ((with_reducible apply cond_af); (focus decide +kernel)) | ((with_reducible apply cond_at); (focus decide +kernel)))
local macro_rules | `(tactic| walk_at "go") => `(tactic| repeat (first | walk_at "ex1" | walk_at "ex2" | walk_at "ex3"))
section
variable {ws rs : List D} {n : Nat} {r : D} {T : Sto} {B : Nat} {ps : List (Nat × Ob)} {c : Int}
theorem eq_nilT (h : Pl 4 (.tup rs)) (T : Sto) : dEq false (.tup rs) (.tup []) T = .ok (.bl rs.isEmpty) T := by
  obtain ⟨p, h1, h2⟩ := pl_toP h
  have e0 : toP 4 T (.tup []) = some (.tuple []) := rfl
  rw [eq_val (h1 T) e0 (by decide) h2 (by simp [PyData.canLay0, PyData.canLayAll0])]
  have h1 := h1 T
  simp only [toP, Option.map_eq_some_iff] at h1
  obtain ⟨qs, hq, rfl⟩ := h1
  cases rs with
  | nil => cases hq; simp [PyData.eqv, PyData.eqvAll]
  | cons x xs =>
    cases qs with
    | nil =>
      simp only [mapO] at hq
      split at hq <;> first | cases hq | (split at hq <;> cases hq)
    | cons y ys => simp [PyData.eqv, PyData.eqvAll]
theorem near_s (H : Stg B ps T c) (Dr : DrawOk ws rs) (hc : c + 5 < 1000000000) : ∃ ws' rs' T', m__law_near [.ref B, .tup ws, .tup rs] T = .ok (.tup [.tup ws', .tup rs']) T' ∧ Stg B ps T' (c + 5) ∧ Bk ws' rs' := by
  have n5 := Dr.n5
  obtain ⟨v, T1, q1, hv, H1⟩ := take_s H (many := 5) (by omega) (by omega) (by omega)
  have qn := eq_nilT (bk_dr Dr).plr T1
  have qr : fRevU [.tup ws, .int (-1)] T1 = .ok (.tup ws.reverse) T1 := rfl
  have key : WR (m__law_near [.ref B, .tup ws, .tup rs] T) (fun d t => ∃ ws' rs', d = .tup [.tup ws', .tup rs'] ∧ Stg B ps t (c + 5) ∧ Bk ws' rs') := by
    refine w_def rfl ?_
    show WS (b__law_near [some (.ref B), some (.tup ws), some (.tup rs), none, none, none, none, none, none, none] T) _ _ _ _
    unfold b__law_near
    walk_at "go"
    refine cond_by (fun e => ?_) (fun e0 => ?_)
    · walk_at "go"
      exact ⟨_, _, rfl, H1.mono (by omega), bk_of (wh_rev Dr.wh) (Nat.zero_le _) (fun r h => by cases h)⟩
    walk_at "go"
    refine cond_by (fun e => ?_) (fun e1 => ?_)
    · walk_at "go"
      exact ⟨_, _, rfl, H1.mono (by omega), bk_dr Dr⟩
    walk_at "go"
    refine cond_by (fun e => ?_) (fun e2 => ?_)
    · walk_at "go"
      exact ⟨_, _, rfl, H1.mono (by omega), bk_dr Dr⟩
    have hpos : 0 < rs.length := by
      cases rs with
      | nil => cases e2
      | cons x xs => simp
    obtain ⟨a, T2, q2, ha, H2⟩ := take_s H1 (many := (rs.length : Int)) (by omega) (by omega) (by omega)
    have hal : a < rs.length := by omega
    obtain ⟨r, hr⟩ : ∃ r, rs[a]? = some r := ⟨_, List.getElem?_eq_getElem hal⟩
    have q3 : dIx (.tup rs) (.int (a : Int)) T2 = .ok r T2 := ixS rfl (atI_nat hr)
    have hdr := Dr.ru r (List.mem_of_getElem? hr)
    obtain ⟨cs, chs, l, rfl, l4, l3, h1, h2, h3, h4⟩ := hdr.ex
    have few1 : (rs.take a).length + 1 ≤ most := Nat.le_trans (show _ ≤ 6 by rw [List.length_take]; omega) (by decide)
    have fin : ∀ (E : Ev) (T' : Sto) (r' : D), Stg B ps T' (c + 5) → E[1]? = some (some (.tup ws)) → E[2]? = some (some (.tup rs)) → E[4]? = some (some (.int (a : Int))) → E[5]? = some (some r') → RlO ws rs.length r' →
        WS (sRet (eFn mkTup (aCons (eVar 1) (aCons (eBin dAdd (eBin dAdd (eSlice (eVar 2) oNone (oSome (eVar 4))) (eFn mkTup (aCons (eVar 5) aNil))) (eSlice (eVar 2) (oSome (eBin dAdd (eVar 4) (eC (.int 1)))) oNone)) aNil))) E T') (fun _ _ => False) (fun d t => ∃ ws' rs', d = .tup [.tup ws', .tup rs'] ∧ Stg B ps t (c + 5) ∧ Bk ws' rs') (fun _ _ => False) (fun _ _ => False) := fun E T' r' HT k1 k2 k4 k5 hr' => by
      refine w_ret (w_fn (w_acons (w_var k1 (w_acons (w_bin (w_bin (w_slice (w_var k2 (w_onone (w_osome (w_var k4 (w_exi (w_slT ?_)))))))))))))
      refine w_fn (w_acons (w_var k5 (w_anil (w_mkTup (Nat.le_of_ble_eq_true rfl) ?_))))
      rw [cut_to]
      refine w_addT few1 ?_
      refine w_slice (w_var k2 (w_osome (w_bin (w_var k4 (w_c (w_addI (w_exi (w_onone (w_slT ?_)))))))))
      rw [show ((a : Int) + 1) = ((a + 1 : Nat) : Int) from rfl, cut_from]
      refine w_addT (Nat.le_trans (show _ ≤ 20 by simp; omega) (by decide)) ?_
      refine w_anil (w_mkTup (Nat.le_of_ble_eq_true rfl) ⟨ws, _, rfl, HT, ?_⟩)
      have hlen : (rs.take a ++ [r'] ++ rs.drop (a + 1)).length = rs.length := by
        simp only [List.length_append, List.length_take, List.length_drop, List.length_singleton]
        omega
      refine bk_of Dr.wh (by omega) fun x hx => ?_
      rw [hlen]
      rcases List.mem_append.mp hx with hx | hx
      · rcases List.mem_append.mp hx with hx | hx
        · exact rl_dr n5 (Dr.ru x (List.mem_of_mem_take hx))
        · rw [List.mem_singleton.mp hx]; exact hr'
      · exact rl_dr n5 (Dr.ru x (List.mem_of_mem_drop hx))
    obtain ⟨tail, htail⟩ : ∃ t : SM, t = sRet (eFn mkTup (aCons (eVar 1) (aCons (eBin dAdd (eBin dAdd (eSlice (eVar 2) oNone (oSome (eVar 4))) (eFn mkTup (aCons (eVar 5) aNil))) (eSlice (eVar 2) (oSome (eBin dAdd (eVar 4) (eC (.int 1)))) oNone)) aNil))) := ⟨_, rfl⟩
    rw [← htail] at fin ⊢
    walk_at "go"
    rw [show cutD cs (some 1) none = cs.drop 1 from cut_from (b := 1)]
    have H3 := H2.new (.lst [.tup [.tup (cs.drop 1), .tup chs, .tup (hsW 0 l), .tup (wkW 0 l)], .tup [.tup cs, .tup chs, .tup (hsW 0 l), .tup []], .tup [.tup cs, .tup [], .tup (hsW 0 l), .tup (wkW 0 l)]])
    have H3' := H3.tail.mono (show c + 1 + 1 ≤ c + 5 by omega)
    walk_at "go"
    have hv3 : v = 2 ∨ v = 3 ∨ v = 4 := by
      have a0 : v ≠ 0 := fun h => by subst h; cases e0
      have a1 : v ≠ 1 := fun h => by subst h; cases e1
      omega
    rcases hv3 with rfl | rfl | rfl
    · refine w_ix (seq_lst get_end) (atI_nat (i := 0) rfl) ?_
      refine ws_imp (fin _ _ _ H3' ?_ ?_ ?_ ?_ (rl_of (cs := cs.drop 1) n5 (fun c hc => h1 c (List.mem_of_mem_drop hc)) (by rw [List.length_drop]; omega) h2 l3 h3 h4 (.inl rfl))) (fun _ _ h => h.elim) (fun _ _ h => h) (fun _ _ h => h.elim) (fun _ _ h => h.elim) <;> rfl
    · refine w_ix (seq_lst get_end) (atI_nat (i := 1) rfl) ?_
      refine ws_imp (fin _ _ _ H3' ?_ ?_ ?_ ?_ (rl_of (wk := []) n5 h1 l4 h2 l3 h3 h4 (.inr rfl))) (fun _ _ h => h.elim) (fun _ _ h => h) (fun _ _ h => h.elim) (fun _ _ h => h.elim) <;> rfl
    · refine w_ix (seq_lst get_end) (atI_nat (i := 2) rfl) ?_
      refine ws_imp (fin _ _ _ H3' ?_ ?_ ?_ ?_ (rl_of (chs := []) n5 h1 l4 (fun c hc => absurd hc List.not_mem_nil) (Nat.zero_le _) h3 h4 (.inl rfl))) (fun _ _ h => h.elim) (fun _ _ h => h) (fun _ _ h => h.elim) (fun _ _ h => h.elim) <;> rfl
  obtain ⟨d, t, e, ws', rs', rfl, h1, h2⟩ := wr_out key
  exact ⟨ws', rs', t, e, h1, h2⟩
end

end Hd
set_option Elab.async false
set_option linter.all false
set_option maxRecDepth 100000
set_option maxHeartbeats 1000000
namespace Hd
open PySem U
local macro_rules | `(tactic| walk_at "ex1") => `(tactic| first | (with_reducible refine w_seq ?_) | (with_reducible refine w_set ?_) | (with_reducible refine w_ret ?_) | (with_reducible refine w_sif ?_) | (with_reducible refine w_asg2 ?_) | (with_reducible refine w_asg3 ?_) | (with_reducible refine w_asg4 ?_) | (with_reducible refine w_ex2 ?_) | (with_reducible refine w_ex3 ?_) | (with_reducible refine w_ex4 ?_) | (with_reducible refine w_par ?_) | (with_reducible refine w_par3 ?_) | (with_reducible refine w_expr ?_) | (with_reducible refine w_for ?_) | (with_reducible refine w_skip ?_) | (with_reducible refine w_fn ?_) | (with_reducible refine w_acons ?_) | (with_reducible refine w_anil ?_) | (with_reducible refine w_aapp ?_) | (with_reducible refine w_bin ?_) | (with_reducible refine w_un ?_) | (with_reducible refine w_c ?_) | (with_reducible refine w_tof ?_) | (with_reducible refine w_tob ?_) | (with_reducible refine w_tand ?_) | (with_reducible refine w_tor ?_) | (with_reducible refine w_tnot ?_) | (with_reducible refine w_eand ?_) | (with_reducible refine w_eor ?_) | (with_reducible refine w_enot ?_) | (with_reducible refine w_exb ?_) | (with_reducible refine w_exi ?_) | (with_reducible refine w_if ?_) | (with_reducible refine w_slice ?_) | (with_reducible refine w_onone ?_) | (with_reducible refine w_osome ?_) | (with_reducible refine w_lc ?_) | (with_reducible refine w_lc2 ?_) | (with_reducible refine w_mtl ?_) | (with_reducible refine w_iseq ?_) | (with_reducible refine w_irng ?_) | (with_reducible refine w_ienum ?_) | (with_reducible refine w_ibin ?_) | (with_reducible refine w_true ?_) | (with_reducible refine cond_t ?_) | (with_reducible refine cond_f ?_))
local macro_rules | `(tactic| walk_at "ex2") => `(tactic| first | (with_reducible refine w_addI ?_) | (with_reducible refine w_subI ?_) | (with_reducible refine w_ltI ?_) | (with_reducible refine w_leI ?_) | (with_reducible refine w_gtI ?_) | (with_reducible refine w_geI ?_) | (with_reducible refine w_eqI ?_) | (with_reducible refine w_neI ?_) | (with_reducible refine w_negI ?_) | (with_reducible refine w_maxI ?_) | (with_reducible refine w_minI ?_) | (with_reducible refine w_lenT ?_) | (with_reducible refine w_slT ?_) | (with_reducible refine w_sseq ?_) | (with_reducible refine w_senum ?_) | (with_reducible refine w_szip ?_) | (with_reducible refine w_eqB ?_) | (with_reducible refine w_neB ?_))
local macro_rules | `(tactic| walk_at "ex3") => `(tactic| first | ((with_reducible apply w_var); (focus exact rfl)) | ((with_reducible apply w_aug); (focus exact rfl)) | ((with_reducible apply w_thaw); (focus exact rfl); (focus with_reducible assumption)) | ((with_reducible apply w_idxZ); (focus exact rfl); (focus with_reducible assumption)) | ((with_reducible apply wr_by); (focus with_reducible assumption)) | ((with_reducible apply w_via); (focus exact rfl)) | ((with_reducible apply w_mkTup); (focus exact Nat.le_of_ble_eq_true rfl)) | ((with_reducible apply w_mkLst); (focus exact Nat.le_of_ble_eq_true rfl)) | ((with_reducible apply w_ix); (focus exact rfl); (focus exact rfl)) | ((with_reducible apply w_lenL); (focus with_reducible assumption)) | ((with_reducible apply w_lenL); (focus with_reducible exact get_end)) | ((with_reducible apply w_isl); (focus with_reducible assumption)) | ((with_reducible apply w_append); (focus with_reducible assumption); (focus with_reducible assumption)) | ((with_reducible apply w_slL); (focus with_reducible assumption)) | ((with_reducible apply w_enumL); (focus with_reducible assumption)) | ((with_reducible apply w_tupL); (focus with_reducible assumption)) | ((with_reducible apply w_sdyn); (focus with_reducible assumption)) | ((with_reducible apply w_isi); (focus exact rfl)) | ((with_reducible apply w_isi2); (focus exact rfl)) | ((with_reducible apply w_eqS); (focus decide +kernel); (focus decide +kernel)) | ((with_reducible apply cond_af); (focus exact rfl)) | ((with_reducible apply cond_at); (focus exact rfl)) | ((with_reducible apply cond_af); (focus decide +kernel)) | ((with_reducible apply cond_at); (focus decide +kernel)))
local macro_rules | `(tactic| walk_at "go") => `(tactic| repeat (first | walk_at "ex1" | walk_at "ex2" | walk_at "ex3"))
section
variable {ws rs ws2 rs2 : List D} {T : Sto} {i j : Nat}
theorem isiCD_own {c : Str} {n : Nat} {fs : List (Str × D)} (h : T[n]? = some (.ins c fs)) : dIsiCD c (.ref n) T = .ok (.bl true) T := by
  unfold dIsiCD tyD
  simp only [h, if_true]
  unfold dIsiC
  simp only [h, if_true]
theorem isiCD_no {c : Str} {d : D} {q : String} (h : tyD T d = some q) (hq : q ≠ "own") : dIsiCD c d T = .ok (.bl false) T := by
  unfold dIsiCD
  simp only [h]
  rw [if_neg hq]
theorem beq_run {a b : Bool} (h1 : T[i]? = some (bookO ws rs)) (h2 : T[j]? = some (bookO ws2 rs2)) (q1 : dEq false (.tup ws) (.tup ws2) T = .ok (.bl a) T) (q2 : dEq false (.tup rs) (.tup rs2) T = .ok (.bl b) T) : m_Book_eq [.ref i, .ref j] T = .ok (.bl (a && b)) T := by
  have hj2 : T[j]? = some (.ins "Book" [("wheels", .tup ws2), ("rules", .tup rs2)]) := h2
  have q0 := isiCD_own hj2
  have f1 := book_wheels (bookO_at h1)
  have f2 := book_rules (bookO_at h1)
  have f3 := book_wheels (bookO_at h2)
  have f4 := book_rules (bookO_at h2)
  have key : WR (m_Book_eq [.ref i, .ref j] T) (fun d t => d = .bl (a && b) ∧ t = T) := by
    refine w_def rfl ?_
    show WS (b_Book_eq [some (.ref i), some (.ref j)] T) _ _ _ _
    unfold b_Book_eq
    cases a <;> walk_at "go" <;> exact ⟨rfl, rfl⟩
  obtain ⟨d, t, e, rfl, rfl⟩ := wr_out key
  exact e
theorem bno_run {z : D} {q : String} (h : tyD T z = some q) (hq : q ≠ "own") : m_Book_eq [.ref i, z] T = .ok (.bl false) T := by
  have q0 := isiCD_no (c := "Book") h hq
  have key : WR (m_Book_eq [.ref i, z] T) (fun d t => d = .bl false ∧ t = T) := by
    refine w_def rfl ?_
    show WS (b_Book_eq [some (.ref i), some z] T) _ _ _ _
    unfold b_Book_eq
    walk_at "go"
    exact ⟨rfl, rfl⟩
  obtain ⟨d, t, e, rfl, rfl⟩ := wr_out key
  exact e
theorem eqM_no {z : D} {q : String} (h1 : T[i]? = some (bookO ws rs)) (h : tyD T z = some q) (hq : q ≠ "own") : dEqM "Book" m_Book_eq (.ref i) z T = .ok (.bl false) T := by
  have h2 : T[i]? = some (.ins "Book" [("wheels", .tup ws), ("rules", .tup rs)]) := h1
  unfold dEqM
  simp only [h2, if_true, h]
  rw [if_neg hq, bno_run h hq]
theorem eqB_no {z : D} {q : String} (h1 : T[i]? = some (bookO ws rs)) (h : tyD T z = some q) (hq : q ≠ "own") : dEqB "Book" m_Book_eq z (.ref i) T = .ok (.bl false) T := by
  have h2 : T[i]? = some (.ins "Book" [("wheels", .tup ws), ("rules", .tup rs)]) := h1
  unfold dEqB
  simp only [h2, if_true, h]
  rw [if_neg hq, bno_run h hq]
theorem eqO_at {c : Str} {f : Fm} {fs gs : List (Str × D)} {b : Bool} (h1 : T[i]? = some (.ins c fs)) (h2 : T[j]? = some (.ins c gs)) (q : f [.ref i, .ref j] T = .ok (.bl b) T) : dEqO c f (.ref i) (.ref j) T = .ok (.bl b) T := by
  unfold dEqO
  simp only [h1, h2, and_self, if_true, q]
theorem blen_run (h1 : T[i]? = some (bookO ws rs)) (hl : rs.length ≤ 5) : fLenI "Book" m_Book_len [.ref i] T = .ok (.int (rs.length : Int)) T := by
  have f2 := book_rules (bookO_at h1)
  have h2 : T[i]? = some (.ins "Book" [("wheels", .tup ws), ("rules", .tup rs)]) := h1
  have key : WR (m_Book_len [.ref i] T) (fun d t => d = .int (rs.length : Int) ∧ t = T) := by
    refine w_def rfl ?_
    show WS (b_Book_len [some (.ref i)] T) _ _ _ _
    unfold b_Book_len
    walk_at "go"
    exact ⟨rfl, rfl⟩
  obtain ⟨d, t, e, rfl, rfl⟩ := wr_out key
  unfold fLenI
  simp only [h2, if_true, e]
  rw [if_pos (by omega)]
theorem bnot_run (h1 : T[i]? = some (bookO ws rs)) (hl : rs.length ≤ 5) : fNotI "Book" m_Book_len (.ref i) T = .ok (.bl rs.isEmpty) T := by
  unfold fNotI
  rw [blen_run h1 hl]
  cases rs with
  | nil => rfl
  | cons x xs =>
    show R.ok (D.bl (((xs.length + 1 : Nat) : Int) == 0)) T = _
    rw [beq_eq_false_iff_ne.mpr (by omega)]
    rfl
end

end Hd
set_option Elab.async false
set_option linter.all false
set_option maxRecDepth 100000
set_option maxHeartbeats 1000000
namespace Hd
open PySem U
local macro_rules | `(tactic| walk_at "ex1") => `(tactic| first | (with_reducible refine w_seq ?_) | (with_reducible refine w_set ?_) | (with_reducible refine w_ret ?_) | (with_reducible refine w_sif ?_) | (with_reducible refine w_asg2 ?_) | (with_reducible refine w_asg3 ?_) | (with_reducible refine w_asg4 ?_) | (with_reducible refine w_ex2 ?_) | (with_reducible refine w_ex3 ?_) | (with_reducible refine w_ex4 ?_) | (with_reducible refine w_par ?_) | (with_reducible refine w_par3 ?_) | (with_reducible refine w_expr ?_) | (with_reducible refine w_for ?_) | (with_reducible refine w_skip ?_) | (with_reducible refine w_fn ?_) | (with_reducible refine w_acons ?_) | (with_reducible refine w_anil ?_) | (with_reducible refine w_aapp ?_) | (with_reducible refine w_bin ?_) | (with_reducible refine w_un ?_) | (with_reducible refine w_c ?_) | (with_reducible refine w_tof ?_) | (with_reducible refine w_tob ?_) | (with_reducible refine w_tand ?_) | (with_reducible refine w_tor ?_) | (with_reducible refine w_tnot ?_) | (with_reducible refine w_eand ?_) | (with_reducible refine w_eor ?_) | (with_reducible refine w_enot ?_) | (with_reducible refine w_exb ?_) | (with_reducible refine w_exi ?_) | (with_reducible refine w_if ?_) | (with_reducible refine w_slice ?_) | (with_reducible refine w_onone ?_) | (with_reducible refine w_osome ?_) | (with_reducible refine w_lc ?_) | (with_reducible refine w_lc2 ?_) | (with_reducible refine w_mtl ?_) | (with_reducible refine w_iseq ?_) | (with_reducible refine w_irng ?_) | (with_reducible refine w_ienum ?_) | (with_reducible refine w_ibin ?_) | (with_reducible refine w_true ?_) | (with_reducible refine cond_t ?_) | (with_reducible refine cond_f ?_))
local macro_rules | `(tactic| walk_at "ex2") => `(tactic| first | (with_reducible refine w_addI ?_) | (with_reducible refine w_subI ?_) | (with_reducible refine w_ltI ?_) | (with_reducible refine w_leI ?_) | (with_reducible refine w_gtI ?_) | (with_reducible refine w_geI ?_) | (with_reducible refine w_eqI ?_) | (with_reducible refine w_neI ?_) | (with_reducible refine w_negI ?_) | (with_reducible refine w_maxI ?_) | (with_reducible refine w_minI ?_) | (with_reducible refine w_lenT ?_) | (with_reducible refine w_slT ?_) | (with_reducible refine w_sseq ?_) | (with_reducible refine w_senum ?_) | (with_reducible refine w_szip ?_) | (with_reducible refine w_eqB ?_) | (with_reducible refine w_neB ?_))
local macro_rules | `(tactic| walk_at "ex3") => `(tactic| first | ((with_reducible apply w_var); (focus exact rfl)) | ((with_reducible apply w_aug); (focus exact rfl)) | ((with_reducible apply w_thaw); (focus exact rfl); (focus with_reducible assumption)) | ((with_reducible apply w_idxZ); (focus exact rfl); (focus with_reducible assumption)) | ((with_reducible apply wr_by); (focus with_reducible assumption)) | ((with_reducible apply w_via); (focus exact rfl)) | ((with_reducible apply w_mkTup); (focus exact Nat.le_of_ble_eq_true rfl)) | ((with_reducible apply w_mkLst); (focus exact Nat.le_of_ble_eq_true rfl)) | ((with_reducible apply w_ix); (focus exact rfl); (focus exact rfl)) | ((with_reducible apply w_lenL); (focus with_reducible assumption)) | ((with_reducible apply w_lenL); (focus with_reducible exact get_end)) | ((with_reducible apply w_isl); (focus with_reducible assumption)) | ((with_reducible apply w_append); (focus with_reducible assumption); (focus with_reducible assumption)) | ((with_reducible apply w_slL); (focus with_reducible assumption)) | ((with_reducible apply w_enumL); (focus with_reducible assumption)) | ((with_reducible apply w_tupL); (focus with_reducible assumption)) | ((with_reducible apply w_sdyn); (focus with_reducible assumption)) | ((with_reducible apply w_isi); (focus exact rfl)) | ((with_reducible apply w_isi2); (focus exact rfl)) | ((with_reducible apply w_eqS); (focus decide +kernel); (focus decide +kernel)) | ((with_reducible apply cond_af); (focus exact rfl)) | ((with_reducible apply cond_at); (focus exact rfl)) | ((with_reducible apply cond_af); (focus decide +kernel)) | ((with_reducible apply cond_at); (focus decide +kernel)))
local macro_rules | `(tactic| walk_at "go") => `(tactic| repeat (first | walk_at "ex1" | walk_at "ex2" | walk_at "ex3"))
structure TxOk (n : Nat) (y : Str) : Prop where
  len : y.length ≤ n
  ok : ∀ c ∈ y.cps.toList, c < 0x110000
theorem TxOk.up {n m : Nat} {y : Str} (h : TxOk n y) (hm : n ≤ m) : TxOk m y := ⟨Nat.le_trans h.len hm, h.ok⟩
theorem TxOk.app {n m : Nat} {x y : Str} (h : TxOk n x) (h2 : TxOk m y) : TxOk (n + m) (x ++ y) := by
  have e : (x ++ y).cps = x.cps ++ y.cps := rfl
  refine ⟨?_, fun c hc => ?_⟩
  · show (x ++ y).cps.size ≤ _
    rw [e, Array.size_append]
    have := h.len
    have := h2.len
    unfold Str.length at *
    omega
  · rw [e, Array.toList_append] at hc
    rcases List.mem_append.mp hc with hc | hc
    · exact h.ok c hc
    · exact h2.ok c hc
theorem TxOk.lit {y : Str} {n : Nat} (h : (decide (y.length ≤ n) && y.cps.toList.all fun c => decide (c < 0x110000)) = true) : TxOk n y := by
  simp only [Bool.and_eq_true, decide_eq_true_eq, List.all_eq_true] at h
  exact ⟨h.1, h.2⟩
theorem TxOk.shaped {n : Nat} {y : Str} (h : TxOk n y) : SeqAt.shaped (.str y) = true := by
  have e : PyData.canLay0 (.str y) = true := by
    simp only [PyData.canLay0]
    show y.cps.all (· < 0x110000) = true
    rw [← Array.all_toList]
    exact List.all_eq_true.mpr fun c hc => decide_eq_true (h.ok c hc)
  unfold SeqAt.shaped
  rw [e]
  simp [PyData.depth]
theorem TxOk.joinS {n k : Nat} {sep : Str} (hs : TxOk k sep) : ∀ {ys : List Str}, (∀ y ∈ ys, TxOk n y) → TxOk (ys.length * (n + k)) (Str.join sep ys)
  | [], _ => ⟨Nat.zero_le _, fun c hc => by cases hc⟩
  | [x], h => ⟨Nat.le_trans (h x List.mem_cons_self).len (by simp only [List.length_singleton]; omega), (h x List.mem_cons_self).ok⟩
  | x :: z :: r, h => by
    have h1 := h x List.mem_cons_self
    have h2 := TxOk.joinS hs (ys := z :: r) fun y hy => h y (List.mem_cons_of_mem _ hy)
    have e : Str.join sep (x :: z :: r) = x ++ sep ++ Str.join sep (z :: r) := rfl
    rw [e]
    refine ((h1.app hs).app h2).up ?_
    simp only [List.length_cons, Nat.succ_mul]
    omega
theorem TxOk.join {n k : Nat} {sep : Str} {ys : List Str} (hs : TxOk k sep) (h : ∀ y ∈ ys, TxOk n y) : TxOk (ys.length * (n + k)) (Txt.join sep ys) := by
  have e : Txt.join sep ys = Str.join sep ys := TL.join_eq sep ys
  rw [e]
  exact TxOk.joinS hs h
def txt (d : D) : Str := match d with
  | .int i => (toString i : String)
  | .str y => y
  | _ => Str.empty
def TxD (n : Nat) (d : D) : Prop := TxOk n (txt d) ∧ ((∃ i : Int, d = .int i ∧ i.natAbs.log2 < 1920) ∨ ∃ y, d = .str y)
theorem small_all : ((List.range 2500).all fun n => (decide (((toString (n : Int) : String) : Str).length ≤ 8) && (((toString (n : Int) : String) : Str).cps.toList.all fun c => decide (c < 0x110000)))) = true := by decide +kernel
theorem txd_int {n : Nat} (h : n < 2500) : TxD 8 (.int (n : Int)) := by
  have e := List.all_eq_true.mp small_all n (List.mem_range.mpr h)
  refine ⟨TxOk.lit e, .inl ⟨_, rfl, ?_⟩⟩
  have h2 : (n : Int).natAbs < 2 ^ 12 := by simp; omega
  by_cases h0 : (n : Int).natAbs = 0
  · rw [h0]; decide
  · have := (Nat.log2_lt h0).mpr h2
    omega
theorem txd_str {y : Str} {n : Nat} (h : TxOk n y) : TxD n (.str y) := ⟨h, .inr ⟨y, rfl⟩⟩
section
variable {T : Sto}
theorem strI_run {n : Nat} {d : D} (h : TxD n d) : fStrI [d] T = .ok (.str (txt d)) T := by
  rcases h.2 with ⟨i, rfl, hi⟩ | ⟨y, rfl⟩
  · unfold fStrI
    simp only
    rw [if_pos hi]
    rfl
  · rfl
theorem words_map {xs : List D} {f : D → Str} : words (xs.map fun x => .str (f x)) = some (xs.map f) := by
  induction xs with
  | nil => rfl
  | cons x xs ih => simp only [List.map_cons, words, ih, Option.map_some]
theorem sum_le {f : D → Str} {n : Nat} : ∀ {xs : List D}, (∀ x ∈ xs, TxOk n (f x)) → ((xs.map f).map (·.length)).sum ≤ xs.length * n
  | [], _ => by simp
  | x :: xs, h => by
    have := sum_le (xs := xs) fun y hy => h y (List.mem_cons_of_mem _ hy)
    have := (h x List.mem_cons_self).len
    simp only [List.map_cons, List.sum_cons, List.length_cons, Nat.succ_mul]
    omega
theorem join_run {l : Nat} {xs : List D} {f : D → Str} {n : Nat} {sep : Str} (h : T[l]? = some (.lst (xs.map fun x => .str (f x)))) (hf : ∀ x ∈ xs, TxOk n (f x)) (hs : sep.length ≤ 10) (hl : xs.length ≤ 100) (hn : n ≤ 100000) : dJoin sep (.ref l) T = .ok (.str (Txt.join sep (xs.map f))) T := by
  unfold dJoin
  have e : seqOf T (.ref l) = some (xs.map fun x => .str (f x)) := seq_lst h
  rw [e]
  simp only [words_map]
  have h1 := sum_le hf
  have h2 : xs.length * n ≤ 100 * 100000 := Nat.mul_le_mul hl hn
  have h3 : xs.length * sep.length ≤ 100 * 10 := Nat.mul_le_mul hl hs
  rw [if_pos (by rw [List.length_map]; omega)]
def spT (xs : List D) : Str := Txt.join " " (xs.map txt)
theorem spT_ok {n : Nat} {xs : List D} (h : ∀ x ∈ xs, TxD n x) : TxOk (xs.length * (n + 1)) (spT xs) := by
  have := TxOk.join (n := n) (k := 1) (sep := " ") (ys := xs.map txt) (TxOk.lit (by decide +kernel)) fun y hy => by
    obtain ⟨x, hx, rfl⟩ := List.mem_map.mp hy
    exact (h x hx).1
  rw [List.length_map] at this
  exact this
theorem spaced_run {n : Nat} {xs : List D} (h : ∀ x ∈ xs, TxD n x) (hl : xs.length ≤ 100) (hn : n ≤ 1000) : ∃ ex, m_spaced [.tup xs] T = .ok (.str (spT xs)) (T ++ ex) := by
  have key : WR (m_spaced [.tup xs] T) (fun d t => d = .str (spT xs) ∧ ∃ ex, t = T ++ ex) := by
    refine w_def rfl ?_
    show WS (b_spaced [some (.tup xs), none] T) _ _ _ _
    unfold b_spaced
    walk_at "go"
    refine w_lcmap (f := fun x => .str (txt x)) rfl (Nat.le_trans hl (by decide)) (fun x hx acc => ⟨_, rfl, ?_⟩) ?_
    · have q := strI_run (T := T ++ [.lst acc]) (h x hx)
      exact wr_eq (w_fn (w_acons (w_var rfl (w_anil (wr_by q ⟨rfl, rfl⟩)))))
    · exact wr_by (join_run get_end (fun x hx => (h x hx).1) (by decide +kernel) hl (by omega)) ⟨rfl, _, rfl⟩
  obtain ⟨d, t, e, rfl, ex, rfl⟩ := wr_out key
  exact ⟨ex, e⟩
theorem w_fmt {env : Ev} {g : EM} {PD : D → Sto → Prop} (k : WR (g env T) fun d s => (∃ y, d = .str y ∧ y.length ≤ sizeLine ∧ PD (.str y) s) ∨ ∃ i : Int, d = .int i ∧ i.natAbs.log2 < 1920 ∧ PD (.str (toString i : String)) s) : WR (eFmt g env T) PD := by
  unfold eFmt
  refine wr_bind (wr_imp k fun d s h => ?_)
  rcases h with ⟨y, rfl, h1, h2⟩ | ⟨i, rfl, h1, h2⟩
  · simp only
    rw [if_pos h1]
    exact ⟨h2⟩
  · simp only
    rw [if_pos h1]
    exact ⟨h2⟩
theorem w_joins0 {env : Ev} {acc : Str} {PD : D → Sto → Prop} (k : PD (.str acc) T) : WR (joinEs [] acc env T) PD := ⟨k⟩
theorem w_joins {env : Ev} {g : EM} {gs : List EM} {acc : Str} {PD : D → Sto → Prop} (k : WR (g env T) fun d s => ∃ y, d = .str y ∧ (acc ++ y).length ≤ sizeLine ∧ WR (joinEs gs (acc ++ y) env s) PD) : WR (joinEs (g :: gs) acc env T) PD := by
  unfold joinEs
  refine wr_bind (wr_imp k fun d s ⟨y, e, h1, h2⟩ => ?_)
  subst e
  simp only
  rw [if_pos h1]
  exact h2
end

end Hd
set_option Elab.async false
set_option linter.all false
set_option maxRecDepth 100000
set_option maxHeartbeats 1000000
namespace Hd
open PySem U
local macro_rules | `(tactic| walk_at "ex1") => `(tactic| first | (with_reducible refine w_seq ?_) | (with_reducible refine w_set ?_) | (with_reducible refine w_ret ?_) | (with_reducible refine w_sif ?_) | (with_reducible refine w_asg2 ?_) | (with_reducible refine w_asg3 ?_) | (with_reducible refine w_asg4 ?_) | (with_reducible refine w_ex2 ?_) | (with_reducible refine w_ex3 ?_) | (with_reducible refine w_ex4 ?_) | (with_reducible refine w_par ?_) | (with_reducible refine w_par3 ?_) | (with_reducible refine w_expr ?_) | (with_reducible refine w_for ?_) | (with_reducible refine w_skip ?_) | (with_reducible refine w_fn ?_) | (with_reducible refine w_acons ?_) | (with_reducible refine w_anil ?_) | (with_reducible refine w_aapp ?_) | (with_reducible refine w_bin ?_) | (with_reducible refine w_un ?_) | (with_reducible refine w_c ?_) | (with_reducible refine w_tof ?_) | (with_reducible refine w_tob ?_) | (with_reducible refine w_tand ?_) | (with_reducible refine w_tor ?_) | (with_reducible refine w_tnot ?_) | (with_reducible refine w_eand ?_) | (with_reducible refine w_eor ?_) | (with_reducible refine w_enot ?_) | (with_reducible refine w_exb ?_) | (with_reducible refine w_exi ?_) | (with_reducible refine w_if ?_) | (with_reducible refine w_slice ?_) | (with_reducible refine w_onone ?_) | (with_reducible refine w_osome ?_) | (with_reducible refine w_lc ?_) | (with_reducible refine w_lc2 ?_) | (with_reducible refine w_mtl ?_) | (with_reducible refine w_iseq ?_) | (with_reducible refine w_irng ?_) | (with_reducible refine w_ienum ?_) | (with_reducible refine w_ibin ?_) | (with_reducible refine w_true ?_) | (with_reducible refine cond_t ?_) | (with_reducible refine cond_f ?_))
local macro_rules | `(tactic| walk_at "ex2") => `(tactic| first | (with_reducible refine w_addI ?_) | (with_reducible refine w_subI ?_) | (with_reducible refine w_ltI ?_) | (with_reducible refine w_leI ?_) | (with_reducible refine w_gtI ?_) | (with_reducible refine w_geI ?_) | (with_reducible refine w_eqI ?_) | (with_reducible refine w_neI ?_) | (with_reducible refine w_negI ?_) | (with_reducible refine w_maxI ?_) | (with_reducible refine w_minI ?_) | (with_reducible refine w_lenT ?_) | (with_reducible refine w_slT ?_) | (with_reducible refine w_sseq ?_) | (with_reducible refine w_senum ?_) | (with_reducible refine w_szip ?_) | (with_reducible refine w_eqB ?_) | (with_reducible refine w_neB ?_))
local macro_rules | `(tactic| walk_at "ex3") => `(tactic| first | ((with_reducible apply w_var); (focus exact rfl)) | ((with_reducible apply w_aug); (focus exact rfl)) | ((with_reducible apply w_thaw); (focus exact rfl); (focus with_reducible assumption)) | ((with_reducible apply w_idxZ); (focus exact rfl); (focus with_reducible assumption)) | ((with_reducible apply wr_by); (focus with_reducible assumption)) | ((with_reducible apply w_via); (focus exact rfl)) | ((with_reducible apply w_mkTup); (focus exact Nat.le_of_ble_eq_true rfl)) | ((with_reducible apply w_mkLst); (focus exact Nat.le_of_ble_eq_true rfl)) | ((with_reducible apply w_ix); (focus exact rfl); (focus exact rfl)) | ((with_reducible apply w_lenL); (focus with_reducible assumption)) | ((with_reducible apply w_lenL); (focus with_reducible exact get_end)) | ((with_reducible apply w_isl); (focus with_reducible assumption)) | ((with_reducible apply w_append); (focus with_reducible assumption); (focus with_reducible assumption)) | ((with_reducible apply w_slL); (focus with_reducible assumption)) | ((with_reducible apply w_enumL); (focus with_reducible assumption)) | ((with_reducible apply w_tupL); (focus with_reducible assumption)) | ((with_reducible apply w_sdyn); (focus with_reducible assumption)) | ((with_reducible apply w_isi); (focus exact rfl)) | ((with_reducible apply w_isi2); (focus exact rfl)) | ((with_reducible apply w_eqS); (focus decide +kernel); (focus decide +kernel)) | ((with_reducible apply cond_af); (focus exact rfl)) | ((with_reducible apply cond_at); (focus exact rfl)) | ((with_reducible apply cond_af); (focus decide +kernel)) | ((with_reducible apply cond_at); (focus decide +kernel)))
local macro_rules | `(tactic| walk_at "go") => `(tactic| repeat (first | walk_at "ex1" | walk_at "ex2" | walk_at "ex3"))
section
variable {ws rs ws2 rs2 : List D} {T : Sto} {i j : Nat}
def numT (n : Nat) : Str := ((toString (n : Int) : String) : Str)
def repT (ws rs : List D) : Str := (((("Book(" : Str) ++ numT ws.length) ++ ", ") ++ numT rs.length) ++ ")"
theorem addS {a b : Str} (h : a.length + b.length ≤ 1000) : dAdd (.str a) (.str b) T = .ok (.str (a ++ b)) T := by
  show (if a.length + b.length ≤ most then _ else _) = _
  rw [if_pos (Nat.le_trans h (by decide))]
theorem num_tx {n : Nat} (h : n < 2500) : TxOk 8 (numT n) := (txd_int h).1
theorem rp1 (h : ws.length ≤ 5) : TxOk 13 (("Book(" : Str) ++ numT ws.length) := (TxOk.lit (n := 5) (by decide +kernel)).app (num_tx (by omega))
theorem rp2 (h : ws.length ≤ 5) : TxOk 15 ((("Book(" : Str) ++ numT ws.length) ++ ", ") := (rp1 h).app (TxOk.lit (n := 2) (by decide +kernel))
theorem rp3 (h : ws.length ≤ 5) (h2 : rs.length ≤ 5) : TxOk 23 (((("Book(" : Str) ++ numT ws.length) ++ ", ") ++ numT rs.length) := (rp2 h).app (num_tx (by omega))
theorem rp4 (h : ws.length ≤ 5) (h2 : rs.length ≤ 5) : TxOk 24 (repT ws rs) := (rp3 h h2).app (TxOk.lit (n := 1) (y := ")") (by decide +kernel))
theorem szl {n : Nat} {y : Str} (h : TxOk n y) (hn : n ≤ 1000) : y.length ≤ sizeLine := by
  have := h.len
  rw [sizeLine_eq]
  omega
theorem brepr_run (h1 : T[i]? = some (bookO ws rs)) (w3 : ws.length ≤ 5) (n5 : rs.length ≤ 5) : fStrO "Book" m_Book_repr [.ref i] T = .ok (.str (repT ws rs)) T := by
  have h2 : T[i]? = some (.ins "Book" [("wheels", .tup ws), ("rules", .tup rs)]) := h1
  have f1 := book_wheels (bookO_at h1)
  have f2 := book_rules (bookO_at h1)
  have emp : Str.empty ++ ("Book(" : Str) = "Book(" := by decide +kernel
  have nl : ∀ n : Nat, n ≤ 5 → ((n : Int)).natAbs.log2 < 1920 := fun n h => by
    have : n = 0 ∨ n = 1 ∨ n = 2 ∨ n = 3 ∨ n = 4 ∨ n = 5 := by omega
    rcases this with rfl | rfl | rfl | rfl | rfl | rfl <;> decide +kernel
  have key : WR (m_Book_repr [.ref i] T) (fun d t => d = .str (repT ws rs) ∧ t = T) := by
    refine w_def rfl ?_
    show WS (b_Book_repr [some (.ref i)] T) _ _ _ _
    unfold b_Book_repr
    refine w_ret ?_
    refine w_joins (w_c ⟨_, rfl, by rw [emp]; exact szl (TxOk.lit (n := 5) (by decide +kernel)) (by decide), ?_⟩)
    rw [emp]
    refine w_joins (w_fmt (w_fn (w_acons (w_un (w_var rfl (wr_by f1 (w_anil (w_lenT (.inr ⟨_, rfl, nl _ w3, ?_⟩)))))))))
    refine ⟨_, rfl, szl (rp1 w3) (by decide), ?_⟩
    refine w_joins (w_c ⟨_, rfl, szl (rp2 w3) (by decide), ?_⟩)
    refine w_joins (w_fmt (w_fn (w_acons (w_un (w_var rfl (wr_by f2 (w_anil (w_lenT (.inr ⟨_, rfl, nl _ n5, ?_⟩)))))))))
    refine ⟨_, rfl, szl (rp3 w3 n5) (by decide), ?_⟩
    refine w_joins (w_c ⟨_, rfl, szl (rp4 w3 n5) (by decide), ?_⟩)
    exact w_joins0 ⟨rfl, rfl⟩
  obtain ⟨d, t, e, rfl, rfl⟩ := wr_out key
  unfold fStrO
  simp only [h2, if_true, e]
end

end Hd
set_option Elab.async false
set_option linter.all false
set_option maxRecDepth 100000
set_option maxHeartbeats 1000000
namespace Hd
open PySem U
local macro_rules | `(tactic| walk_at "ex1") => `(tactic| first | (with_reducible refine w_seq ?_) | (with_reducible refine w_set ?_) | (with_reducible refine w_ret ?_) | (with_reducible refine w_sif ?_) | (with_reducible refine w_asg2 ?_) | (with_reducible refine w_asg3 ?_) | (with_reducible refine w_asg4 ?_) | (with_reducible refine w_ex2 ?_) | (with_reducible refine w_ex3 ?_) | (with_reducible refine w_ex4 ?_) | (with_reducible refine w_par ?_) | (with_reducible refine w_par3 ?_) | (with_reducible refine w_expr ?_) | (with_reducible refine w_for ?_) | (with_reducible refine w_skip ?_) | (with_reducible refine w_fn ?_) | (with_reducible refine w_acons ?_) | (with_reducible refine w_anil ?_) | (with_reducible refine w_aapp ?_) | (with_reducible refine w_bin ?_) | (with_reducible refine w_un ?_) | (with_reducible refine w_c ?_) | (with_reducible refine w_tof ?_) | (with_reducible refine w_tob ?_) | (with_reducible refine w_tand ?_) | (with_reducible refine w_tor ?_) | (with_reducible refine w_tnot ?_) | (with_reducible refine w_eand ?_) | (with_reducible refine w_eor ?_) | (with_reducible refine w_enot ?_) | (with_reducible refine w_exb ?_) | (with_reducible refine w_exi ?_) | (with_reducible refine w_if ?_) | (with_reducible refine w_slice ?_) | (with_reducible refine w_onone ?_) | (with_reducible refine w_osome ?_) | (with_reducible refine w_lc ?_) | (with_reducible refine w_lc2 ?_) | (with_reducible refine w_mtl ?_) | (with_reducible refine w_iseq ?_) | (with_reducible refine w_irng ?_) | (with_reducible refine w_ienum ?_) | (with_reducible refine w_ibin ?_) | (with_reducible refine w_true ?_) | (with_reducible refine cond_t ?_) | (with_reducible refine cond_f ?_))
local macro_rules | `(tactic| walk_at "ex2") => `(tactic| first | (with_reducible refine w_addI ?_) | (with_reducible refine w_subI ?_) | (with_reducible refine w_ltI ?_) | (with_reducible refine w_leI ?_) | (with_reducible refine w_gtI ?_) | (with_reducible refine w_geI ?_) | (with_reducible refine w_eqI ?_) | (with_reducible refine w_neI ?_) | (with_reducible refine w_negI ?_) | (with_reducible refine w_maxI ?_) | (with_reducible refine w_minI ?_) | (with_reducible refine w_lenT ?_) | (with_reducible refine w_slT ?_) | (with_reducible refine w_sseq ?_) | (with_reducible refine w_senum ?_) | (with_reducible refine w_szip ?_) | (with_reducible refine w_eqB ?_) | (with_reducible refine w_neB ?_))
local macro_rules | `(tactic| walk_at "ex3") => `(tactic| first | ((with_reducible apply w_var); (focus exact rfl)) | ((with_reducible apply w_aug); (focus exact rfl)) | ((with_reducible apply w_thaw); (focus exact rfl); (focus with_reducible assumption)) | ((with_reducible apply w_idxZ); (focus exact rfl); (focus with_reducible assumption)) | ((with_reducible apply wr_by); (focus with_reducible assumption)) | ((with_reducible apply w_via); (focus exact rfl)) | ((with_reducible apply w_mkTup); (focus exact Nat.le_of_ble_eq_true rfl)) | ((with_reducible apply w_mkLst); (focus exact Nat.le_of_ble_eq_true rfl)) | ((with_reducible apply w_ix); (focus exact rfl); (focus exact rfl)) | ((with_reducible apply w_lenL); (focus with_reducible assumption)) | ((with_reducible apply w_lenL); (focus with_reducible exact get_end)) | ((with_reducible apply w_isl); (focus with_reducible assumption)) | ((with_reducible apply w_append); (focus with_reducible assumption); (focus with_reducible assumption)) | ((with_reducible apply w_slL); (focus with_reducible assumption)) | ((with_reducible apply w_enumL); (focus with_reducible assumption)) | ((with_reducible apply w_tupL); (focus with_reducible assumption)) | ((with_reducible apply w_sdyn); (focus with_reducible assumption)) | ((with_reducible apply w_isi); (focus exact rfl)) | ((with_reducible apply w_isi2); (focus exact rfl)) | ((with_reducible apply w_eqS); (focus decide +kernel); (focus decide +kernel)) | ((with_reducible apply cond_af); (focus exact rfl)) | ((with_reducible apply cond_at); (focus exact rfl)) | ((with_reducible apply cond_af); (focus decide +kernel)) | ((with_reducible apply cond_at); (focus decide +kernel)))
local macro_rules | `(tactic| walk_at "go") => `(tactic| repeat (first | walk_at "ex1" | walk_at "ex2" | walk_at "ex3"))
theorem w_lcgrow {s : Src} {g : GM} {e : EM} {env : Ev} {st : Sto} {xs : List D} {PD : D → Sto → Prop} (P : Nat → D → Sto → Prop) (h0 : ∀ ex, s.at (st ++ ex) = some xs) (hm : xs.length ≤ 100000)
    (hP : ∀ i d t ex, P i d t → P i d (t ++ ex)) (hS : ∀ i d t o, st.length < t.length → P i d t → P i d (t.set st.length o))
    (h : ∀ i x acc ex, xs[i]? = some x → ∃ env1 st1 d ex2, g x env (st ++ [.lst acc] ++ ex) = some (env1, st1) ∧ e env1 (st ++ [.lst acc] ++ ex) = .ok d (st ++ [.lst acc] ++ ex ++ ex2) ∧ P i d (st ++ [.lst acc] ++ ex ++ ex2))
    (k : ∀ acc ex, acc.length = xs.length → (∀ i d, acc[i]? = some d → P i d (st ++ [.lst acc] ++ ex)) → PD (.ref st.length) (st ++ [.lst acc] ++ ex)) : WR (startLc g tTrue e env s st) PD := by
  have lay : ∀ (acc : List D) (ex : Sto) (d : D), (st ++ [Ob.lst acc] ++ ex).set st.length (.lst (acc ++ [d])) = st ++ [.lst (acc ++ [d])] ++ ex := fun acc ex d => by
    rw [List.append_assoc, List.append_assoc]
    exact set_end0
  have run : ∀ (n i : Nat) (acc : List D) (ex : Sto), xs.length = i + n → acc.length = i → (∀ j d, acc[j]? = some d → P j d (st ++ [.lst acc] ++ ex)) → ∃ acc' ex', runLc s g tTrue e st.length env (n + 1) i (st ++ [.lst acc] ++ ex) = .ok (.ref st.length) (st ++ [.lst acc'] ++ ex') ∧ acc'.length = xs.length ∧ ∀ j d, acc'[j]? = some d → P j d (st ++ [.lst acc'] ++ ex') := by
    intro n
    induction n with
    | zero =>
      intro i acc ex hn hl hacc
      refine ⟨acc, ex, ?_, by omega, hacc⟩
      unfold runLc
      rw [List.append_assoc, h0]
      simp only
      rw [List.getElem?_eq_none (by omega)]
    | succ n ih =>
      intro i acc ex hn hl hacc
      have hi : i < xs.length := by omega
      obtain ⟨env1, st1, d, ex2, g1, g2, g3⟩ := h i xs[i] acc ex (List.getElem?_eq_getElem hi)
      have hsl : st.length < (st ++ [Ob.lst acc] ++ ex ++ ex2).length := by simp
      obtain ⟨acc', ex', r1, r2, r3⟩ := ih (i + 1) (acc ++ [d]) (ex ++ ex2) (by omega) (by simp [hl]) (fun j d' hj => by
        rw [← lay acc (ex ++ ex2) d, ← List.append_assoc (st ++ [Ob.lst acc]) ex ex2]
        refine hS j d' _ _ hsl ?_
        by_cases hj2 : j < acc.length
        · rw [List.getElem?_append_left hj2] at hj
          exact hP j d' _ ex2 (hacc j d' hj)
        · have hjl : j < (acc ++ [d]).length := (List.getElem?_eq_some_iff.mp hj).1
          have : j = acc.length := by simp at hjl; omega
          subst this
          simp at hj
          subst hj
          rw [hl]
          exact g3)
      refine ⟨acc', ex', ?_, r2, r3⟩
      unfold runLc
      rw [show s.at (st ++ [Ob.lst acc] ++ ex) = some xs by rw [List.append_assoc]; exact h0 _]
      simp only
      rw [List.getElem?_eq_getElem hi]
      simp only [g1, tTrue, R.bind, if_true, g2]
      have e4 : (st ++ [Ob.lst acc] ++ ex ++ ex2)[st.length]? = some (.lst acc) := by rw [List.append_assoc, List.append_assoc]; exact at_end0
      rw [e4]
      simp only
      rw [if_pos (Nat.lt_of_le_of_lt (show acc.length ≤ 100000 by omega) (by decide)), List.append_assoc (st ++ [Ob.lst acc]) ex ex2, lay acc (ex ++ ex2) d]
      exact r1
  obtain ⟨acc, ex, r1, r2, r3⟩ := run xs.length 0 [] [] (by omega) rfl (fun j d hj => by simp at hj)
  refine wr_by ?_ (k acc ex r2 r3)
  unfold startLc
  rw [show s.at st = some xs by have := h0 []; rwa [List.append_nil] at this]
  simp only
  rw [List.append_nil] at r1
  exact r1

end Hd
set_option Elab.async false
set_option linter.all false
set_option maxRecDepth 100000
set_option maxHeartbeats 1000000
namespace Hd
open PySem U
local macro_rules | `(tactic| walk_at "ex1") => `(tactic| first | (with_reducible refine w_seq ?_) | (with_reducible refine w_set ?_) | (with_reducible refine w_ret ?_) | (with_reducible refine w_sif ?_) | (with_reducible refine w_asg2 ?_) | (with_reducible refine w_asg3 ?_) | (with_reducible refine w_asg4 ?_) | (with_reducible refine w_ex2 ?_) | (with_reducible refine w_ex3 ?_) | (with_reducible refine w_ex4 ?_) | (with_reducible refine w_par ?_) | (with_reducible refine w_par3 ?_) | (with_reducible refine w_expr ?_) | (with_reducible refine w_for ?_) | (with_reducible refine w_skip ?_) | (with_reducible refine w_fn ?_) | (with_reducible refine w_acons ?_) | (with_reducible refine w_anil ?_) | (with_reducible refine w_aapp ?_) | (with_reducible refine w_bin ?_) | (with_reducible refine w_un ?_) | (with_reducible refine w_c ?_) | (with_reducible refine w_tof ?_) | (with_reducible refine w_tob ?_) | (with_reducible refine w_tand ?_) | (with_reducible refine w_tor ?_) | (with_reducible refine w_tnot ?_) | (with_reducible refine w_eand ?_) | (with_reducible refine w_eor ?_) | (with_reducible refine w_enot ?_) | (with_reducible refine w_exb ?_) | (with_reducible refine w_exi ?_) | (with_reducible refine w_if ?_) | (with_reducible refine w_slice ?_) | (with_reducible refine w_onone ?_) | (with_reducible refine w_osome ?_) | (with_reducible refine w_lc ?_) | (with_reducible refine w_lc2 ?_) | (with_reducible refine w_mtl ?_) | (with_reducible refine w_iseq ?_) | (with_reducible refine w_irng ?_) | (with_reducible refine w_ienum ?_) | (with_reducible refine w_ibin ?_) | (with_reducible refine w_true ?_) | (with_reducible refine cond_t ?_) | (with_reducible refine cond_f ?_))
local macro_rules | `(tactic| walk_at "ex2") => `(tactic| first | (with_reducible refine w_addI ?_) | (with_reducible refine w_subI ?_) | (with_reducible refine w_ltI ?_) | (with_reducible refine w_leI ?_) | (with_reducible refine w_gtI ?_) | (with_reducible refine w_geI ?_) | (with_reducible refine w_eqI ?_) | (with_reducible refine w_neI ?_) | (with_reducible refine w_negI ?_) | (with_reducible refine w_maxI ?_) | (with_reducible refine w_minI ?_) | (with_reducible refine w_lenT ?_) | (with_reducible refine w_slT ?_) | (with_reducible refine w_sseq ?_) | (with_reducible refine w_senum ?_) | (with_reducible refine w_szip ?_) | (with_reducible refine w_eqB ?_) | (with_reducible refine w_neB ?_))
local macro_rules | `(tactic| walk_at "ex3") => `(tactic| first | ((with_reducible apply w_var); (focus exact rfl)) | ((with_reducible apply w_aug); (focus exact rfl)) | ((with_reducible apply w_thaw); (focus exact rfl); (focus with_reducible assumption)) | ((with_reducible apply w_idxZ); (focus exact rfl); (focus with_reducible assumption)) | ((with_reducible apply wr_by); (focus with_reducible assumption)) | ((with_reducible apply w_via); (focus exact rfl)) | ((with_reducible apply w_mkTup); (focus exact Nat.le_of_ble_eq_true rfl)) | ((with_reducible apply w_mkLst); (focus exact Nat.le_of_ble_eq_true rfl)) | ((with_reducible apply w_ix); (focus exact rfl); (focus exact rfl)) | ((with_reducible apply w_lenL); (focus with_reducible assumption)) | ((with_reducible apply w_lenL); (focus with_reducible exact get_end)) | ((with_reducible apply w_isl); (focus with_reducible assumption)) | ((with_reducible apply w_append); (focus with_reducible assumption); (focus with_reducible assumption)) | ((with_reducible apply w_slL); (focus with_reducible assumption)) | ((with_reducible apply w_enumL); (focus with_reducible assumption)) | ((with_reducible apply w_tupL); (focus with_reducible assumption)) | ((with_reducible apply w_sdyn); (focus with_reducible assumption)) | ((with_reducible apply w_isi); (focus exact rfl)) | ((with_reducible apply w_isi2); (focus exact rfl)) | ((with_reducible apply w_eqS); (focus decide +kernel); (focus decide +kernel)) | ((with_reducible apply cond_af); (focus exact rfl)) | ((with_reducible apply cond_at); (focus exact rfl)) | ((with_reducible apply cond_af); (focus decide +kernel)) | ((with_reducible apply cond_at); (focus decide +kernel)))
local macro_rules | `(tactic| walk_at "go") => `(tactic| repeat (first | walk_at "ex1" | walk_at "ex2" | walk_at "ex3"))
theorem emp_ok : TxOk 0 Str.empty := TxOk.lit (by decide +kernel)
theorem sz_ok {n : Nat} {y : Str} (h : TxOk n y) (hn : n ≤ 16000000) : y.length ≤ sizeLine := by
  have := h.len
  rw [sizeLine_eq]
  omega

end Hd
set_option Elab.async false
set_option linter.all false
set_option maxRecDepth 100000
set_option maxHeartbeats 1000000
namespace Hd
open PySem U
local macro_rules | `(tactic| walk_at "ex1") => `(tactic| first | (with_reducible refine w_seq ?_) | (with_reducible refine w_set ?_) | (with_reducible refine w_ret ?_) | (with_reducible refine w_sif ?_) | (with_reducible refine w_asg2 ?_) | (with_reducible refine w_asg3 ?_) | (with_reducible refine w_asg4 ?_) | (with_reducible refine w_ex2 ?_) | (with_reducible refine w_ex3 ?_) | (with_reducible refine w_ex4 ?_) | (with_reducible refine w_par ?_) | (with_reducible refine w_par3 ?_) | (with_reducible refine w_expr ?_) | (with_reducible refine w_for ?_) | (with_reducible refine w_skip ?_) | (with_reducible refine w_fn ?_) | (with_reducible refine w_acons ?_) | (with_reducible refine w_anil ?_) | (with_reducible refine w_aapp ?_) | (with_reducible refine w_bin ?_) | (with_reducible refine w_un ?_) | (with_reducible refine w_c ?_) | (with_reducible refine w_tof ?_) | (with_reducible refine w_tob ?_) | (with_reducible refine w_tand ?_) | (with_reducible refine w_tor ?_) | (with_reducible refine w_tnot ?_) | (with_reducible refine w_eand ?_) | (with_reducible refine w_eor ?_) | (with_reducible refine w_enot ?_) | (with_reducible refine w_exb ?_) | (with_reducible refine w_exi ?_) | (with_reducible refine w_if ?_) | (with_reducible refine w_slice ?_) | (with_reducible refine w_onone ?_) | (with_reducible refine w_osome ?_) | (with_reducible refine w_lc ?_) | (with_reducible refine w_lc2 ?_) | (with_reducible refine w_mtl ?_) | (with_reducible refine w_iseq ?_) | (with_reducible refine w_irng ?_) | (with_reducible refine w_ienum ?_) | (with_reducible refine w_ibin ?_) | (with_reducible refine w_true ?_) | (with_reducible refine cond_t ?_) | (with_reducible refine cond_f ?_))
local macro_rules | `(tactic| walk_at "ex2") => `(tactic| first | (with_reducible refine w_addI ?_) | (with_reducible refine w_subI ?_) | (with_reducible refine w_ltI ?_) | (with_reducible refine w_leI ?_) | (with_reducible refine w_gtI ?_) | (with_reducible refine w_geI ?_) | (with_reducible refine w_eqI ?_) | (with_reducible refine w_neI ?_) | (with_reducible refine w_negI ?_) | (with_reducible refine w_maxI ?_) | (with_reducible refine w_minI ?_) | (with_reducible refine w_lenT ?_) | (with_reducible refine w_slT ?_) | (with_reducible refine w_sseq ?_) | (with_reducible refine w_senum ?_) | (with_reducible refine w_szip ?_) | (with_reducible refine w_eqB ?_) | (with_reducible refine w_neB ?_))
local macro_rules | `(tactic| walk_at "ex3") => `(tactic| first | ((with_reducible apply w_var); (focus exact rfl)) | ((with_reducible apply w_aug); (focus exact rfl)) | ((with_reducible apply w_thaw); (focus exact rfl); (focus with_reducible assumption)) | ((with_reducible apply w_idxZ); (focus exact rfl); (focus with_reducible assumption)) | ((with_reducible apply wr_by); (focus with_reducible assumption)) | ((with_reducible apply w_via); (focus exact rfl)) | ((with_reducible apply w_mkTup); (focus exact Nat.le_of_ble_eq_true rfl)) | ((with_reducible apply w_mkLst); (focus exact Nat.le_of_ble_eq_true rfl)) | ((with_reducible apply w_ix); (focus exact rfl); (focus exact rfl)) | ((with_reducible apply w_lenL); (focus with_reducible assumption)) | ((with_reducible apply w_lenL); (focus with_reducible exact get_end)) | ((with_reducible apply w_isl); (focus with_reducible assumption)) | ((with_reducible apply w_append); (focus with_reducible assumption); (focus with_reducible assumption)) | ((with_reducible apply w_slL); (focus with_reducible assumption)) | ((with_reducible apply w_enumL); (focus with_reducible assumption)) | ((with_reducible apply w_tupL); (focus with_reducible assumption)) | ((with_reducible apply w_sdyn); (focus with_reducible assumption)) | ((with_reducible apply w_isi); (focus exact rfl)) | ((with_reducible apply w_isi2); (focus exact rfl)) | ((with_reducible apply w_eqS); (focus decide +kernel); (focus decide +kernel)) | ((with_reducible apply cond_af); (focus exact rfl)) | ((with_reducible apply cond_at); (focus exact rfl)) | ((with_reducible apply cond_af); (focus decide +kernel)) | ((with_reducible apply cond_at); (focus decide +kernel)))
local macro_rules | `(tactic| walk_at "go") => `(tactic| repeat (first | walk_at "ex1" | walk_at "ex2" | walk_at "ex3"))
section
variable {T : Sto} {ws rs : List D} {bk : Nat}
theorem w_lcfun {s : Src} {g : GM} {e : EM} {env : Ev} {st : Sto} {xs : List D} {PD : D → Sto → Prop} (f : D → D) (h0 : ∀ ex, s.at (st ++ ex) = some xs) (hm : xs.length ≤ 100000)
    (h : ∀ x ∈ xs, ∀ T', ∃ env1 ex2, g x env T' = some (env1, T') ∧ e env1 T' = .ok (f x) (T' ++ ex2)) (k : ∀ ex, PD (.ref st.length) (st ++ [.lst (xs.map f)] ++ ex)) : WR (startLc g tTrue e env s st) PD := by
  refine w_lcgrow (fun i d t => ∀ x, xs[i]? = some x → d = f x) h0 hm (fun _ _ _ _ h => h) (fun _ _ _ _ _ h => h) (fun i x acc ex hx => ?_) fun acc ex hl hp => ?_
  · obtain ⟨env1, ex2, e1, e2⟩ := h x (List.mem_of_getElem? hx) (st ++ [.lst acc] ++ ex)
    exact ⟨env1, _, _, ex2, e1, e2, fun x' hx' => by rw [hx] at hx'; cases hx'; rfl⟩
  · have e : acc = xs.map f := by
      refine List.ext_getElem? fun i => ?_
      rw [List.getElem?_map]
      cases h1 : acc[i]? with
      | none => rw [List.getElem?_eq_none (by have := List.getElem?_eq_none_iff.mp h1; omega)]; rfl
      | some d =>
        have hi := (List.getElem?_eq_some_iff.mp h1).1
        have hx : xs[i]? = some (xs[i]'(by omega)) := List.getElem?_eq_getElem (by omega)
        rw [hx, hp i d h1 _ hx]
        rfl
    rw [e]
    exact k ex
def rowT (d : D) : Str := spT (tupsD d)
def forT (d : D) : Str := match d with
  | .tup [x, y] => ((Str.empty ++ txt x) ++ " for ") ++ txt y
  | _ => Str.empty
def strD (d : D) : Str := match d with
  | .str y => y
  | _ => Str.empty
def partT (ys : List Str) : Str := if ys.length > 0 then Txt.join ", " ys else "-"
def RowOk (d : D) : Prop := ∃ xs, d = .tup xs ∧ xs.length ≤ 3 ∧ ∀ x ∈ xs, TxD 8 x
theorem rowT_ok {d : D} (h : RowOk d) : TxOk 30 (rowT d) := by
  obtain ⟨xs, rfl, hl, h⟩ := h
  have : xs.length * 9 ≤ 3 * 9 := Nat.mul_le_mul_right 9 hl
  exact (spT_ok h).up (by omega)
theorem partT_ok {ys : List Str} (h : ∀ y ∈ ys, TxOk 30 y) (hl : ys.length ≤ 6) : TxOk 300 (partT ys) := by
  unfold partT
  split
  · have : ys.length * 32 ≤ 6 * 32 := Nat.mul_le_mul_right 32 hl
    exact (TxOk.join (k := 2) (TxOk.lit (by decide +kernel)) h).up (by omega)
  · exact TxOk.lit (by decide +kernel)
theorem word8 {w : Str} (h : w = "is" ∨ w = "not" ∨ w = "below" ∨ w = "hushed" ∨ w = "awake" ∨ w = "turn" ∨ w = "put") : TxD 8 (.str w) := by
  rcases h with rfl | rfl | rfl | rfl | rfl | rfl | rfl <;> exact txd_str (TxOk.lit (by decide +kernel))
theorem cond_row (Dr : DrawOk ws rs) {n : Nat} (hn : n ≤ 5) {c : D} (h : CondOk ws n c) : RowOk c := by
  have w4 : ∀ (x m : Nat), ws[x]? = some (.int (m : Int)) → m ≤ 4 := fun x m hx => by
    obtain ⟨m', e, _, h4⟩ := Dr.wh.w _ (List.mem_of_getElem? hx)
    cases e
    omega
  have w3 := Dr.wh.l3
  rcases h with ⟨w, x, p, m, rfl, hw, hx, hp⟩ | ⟨w, q, rfl, hw, hq⟩
  · have := w4 x m hx
    have hxl := (List.getElem?_eq_some_iff.mp hx).1
    refine ⟨_, rfl, by simp, fun y hy => ?_⟩
    simp only [List.mem_cons, List.not_mem_nil, or_false] at hy
    rcases hy with rfl | rfl | rfl
    · exact word8 (by rcases hw with h | h | h <;> simp [h])
    · exact txd_int (by omega)
    · exact txd_int (by omega)
  · refine ⟨_, rfl, by simp, fun y hy => ?_⟩
    simp only [List.mem_cons, List.not_mem_nil, or_false] at hy
    rcases hy with rfl | rfl
    · exact word8 (by rcases hw with h | h <;> simp [h])
    · exact txd_int (by omega)
theorem chg_row (Dr : DrawOk ws rs) {c : D} (h : ChgOk ws c) : RowOk c := by
  have w3 := Dr.wh.l3
  obtain ⟨w, x, p, m, rfl, hw, hx, hp⟩ := h
  obtain ⟨m', e, _, h4⟩ := Dr.wh.w _ (List.mem_of_getElem? hx)
  cases e
  have hxl := (List.getElem?_eq_some_iff.mp hx).1
  refine ⟨_, rfl, by simp, fun y hy => ?_⟩
  simp only [List.mem_cons, List.not_mem_nil, or_false] at hy
  rcases hy with rfl | rfl | rfl
  · exact word8 (by rcases hw with h | h <;> simp [h])
  · exact txd_int (by omega)
  · exact txd_int (by omega)
theorem row_run {d : D} (h : RowOk d) : ∃ ex, m_spaced [d] T = .ok (.str (rowT d)) (T ++ ex) := by
  obtain ⟨xs, rfl, hl, h⟩ := h
  exact spaced_run h (by omega) (by omega)
theorem forT_ok {d : D} {n : Nat} (hn : n ≤ 5) (h : HshOk n d) : TxOk 30 (forT d) ∧ ∃ x y : Nat, d = .tup [.int (x : Int), .int (y : Int)] ∧ x < 2500 ∧ y < 2500 := by
  obtain ⟨q, b, rfl, h1, h2, h3⟩ := h
  refine ⟨?_, q, b, rfl, by omega, by omega⟩
  show TxOk 30 (((Str.empty ++ txt (.int (q : Int))) ++ " for ") ++ txt (.int (b : Int)))
  exact ((((emp_ok.app (txd_int (n := q) (by omega)).1).app (TxOk.lit (n := 5) (y := " for ") (by decide +kernel)))).app (txd_int (n := b) (by omega)).1).up (by omega)
def ruleT (d : D) : Str := match d with
  | .tup [.tup cs, .tup chs, .tup hs, .tup wk] => Txt.join " / " [partT (cs.map rowT), partT (chs.map rowT), partT (hs.map forT), partT (wk.map txt)]
  | _ => Str.empty
theorem w_joinsF {env : Ev} {PD : D → Sto → Prop} {i j : Nat} {x y : Nat} (hi : env[i]? = some (some (.int (x : Int)))) (hj : env[j]? = some (some (.int (y : Int)))) (hx : x < 2500) (hy : y < 2500) (k : PD (.str (forT (.tup [.int (x : Int), .int (y : Int)]))) T) : WR (joinEs [(eFmt (eVar i)), (eC (.str " for ")), (eFmt (eVar j))] Str.empty env T) PD := by
  have lg : ∀ n : Nat, n < 2500 → ((n : Int)).natAbs.log2 < 1920 := fun n hn => by
    rcases (txd_int hn).2 with ⟨i, e, hi⟩ | ⟨y, e⟩
    · cases e; exact hi
    · cases e
  refine w_joins (w_fmt (w_var hi (.inr ⟨_, rfl, lg x hx, ?_⟩)))
  refine ⟨_, rfl, sz_ok (emp_ok.app (txd_int hx).1) (by omega), ?_⟩
  refine w_joins (w_c ⟨_, rfl, sz_ok ((emp_ok.app (txd_int hx).1).app (TxOk.lit (n := 5) (y := " for ") (by decide +kernel))) (by omega), ?_⟩)
  refine w_joins (w_fmt (w_var hj (.inr ⟨_, rfl, lg y hy, ?_⟩)))
  refine ⟨_, rfl, sz_ok (((emp_ok.app (txd_int hx).1).app (TxOk.lit (n := 5) (y := " for ") (by decide +kernel))).app (txd_int hy).1) (by omega), ?_⟩
  exact w_joins0 k
theorem ruleT_ok (Dr : DrawOk ws rs) {r : D} (h : RuleDr ws rs.length r) : TxOk 1300 (ruleT r) := by
  have n5 := Dr.n5
  obtain ⟨cs, chs, l, rfl, h1, h2, h3, h4, h5, h6⟩ := h.ex
  have e : ruleT (.tup [.tup cs, .tup chs, .tup (hsW 0 l), .tup (wkW 0 l)]) = Txt.join " / " [partT (cs.map rowT), partT (chs.map rowT), partT ((hsW 0 l).map forT), partT ((wkW 0 l).map txt)] := rfl
  rw [e]
  refine (TxOk.join (n := 300) (k := 3) (TxOk.lit (by decide +kernel)) fun y hy => ?_).up (by simp)
  have lh := hsW_len 0 l
  have lw := wkW_len 0 l
  simp only [List.mem_cons, List.not_mem_nil, or_false] at hy
  rcases hy with rfl | rfl | rfl | rfl
  · exact partT_ok (fun y hy => by obtain ⟨c, hc, rfl⟩ := List.mem_map.mp hy; exact rowT_ok (cond_row Dr n5 (h3 c hc))) (by rw [List.length_map]; omega)
  · exact partT_ok (fun y hy => by obtain ⟨c, hc, rfl⟩ := List.mem_map.mp hy; exact rowT_ok (chg_row Dr (h4 c hc))) (by rw [List.length_map]; omega)
  · exact partT_ok (fun y hy => by obtain ⟨c, hc, rfl⟩ := List.mem_map.mp hy; exact (forT_ok n5 (hsW_ok 0 l rs.length (by omega) c hc)).1) (by rw [List.length_map]; omega)
  · exact partT_ok (fun y hy => by
      obtain ⟨c, hc, rfl⟩ := List.mem_map.mp hy
      obtain ⟨q, rfl, hq⟩ := wkW_ok 0 l rs.length (by omega) c hc
      exact ((txd_int (n := q) (by omega)).1).up (by omega)) (by rw [List.length_map]; omega)
def partAt (S : Sto) (d : D) : Str := match d with
  | .ref l => match S[l]? with
    | some (.lst ds) => partT (ds.map strD)
    | _ => Str.empty
  | _ => Str.empty
theorem part_step {S : Sto} {env : Ev} {i l : Nat} {ys : List Str} (hi : env[i]? = some (some (.ref l))) (h : S[l]? = some (.lst (ys.map D.str))) (hy : ∀ y ∈ ys, TxOk 30 y) (hl : ys.length ≤ 6) :
    (eIf (tOf (eBin dGt (eFn fLen (aCons (eVar i) aNil)) (eC (.int 0)))) (eUn (dJoin ", ") (eVar i)) (eC (.str "-"))) env S = .ok (.str (partT ys)) S := by
  have q := join_run (T := S) (l := l) (xs := ys.map D.str) (f := strD) (n := 30) (sep := ", ") (by rw [h]; congr 2; rw [List.map_map]; rfl) (fun x hx => by obtain ⟨y, hy', rfl⟩ := List.mem_map.mp hx; exact hy y hy') (by decide +kernel) (by rw [List.length_map]; omega) (by omega)
  have e2 : (ys.map D.str).map strD = ys := by rw [List.map_map]; exact List.map_id' ys
  rw [e2] at q
  refine wr_eq ?_
  refine w_if (w_tof (w_bin (w_fn (w_acons (w_var hi (w_anil (w_lenL h ?_)))))))
  walk_at "go"
  refine cond_by (fun h0 => ?_) (fun h0 => ?_)
  · refine w_un (w_var hi (wr_by q ⟨?_, rfl⟩))
    unfold partT
    rw [if_pos (by have := of_decide_eq_true h0; rw [List.length_map] at this; omega)]
  · walk_at "go"
    refine ⟨?_, rfl⟩
    unfold partT
    rw [if_neg (by have := of_decide_eq_false h0; rw [List.length_map] at this; omega)]
theorem rule_line_run (Dr : DrawOk ws rs) {r : D} (h : RuleDr ws rs.length r) : ∃ ex, m_rule_line [r] T = .ok (.str (ruleT r)) (T ++ ex) := by
  have n5 := Dr.n5
  obtain ⟨cs, chs, l, rfl, h1, h2, h3, h4, h5, h6⟩ := h.ex
  obtain ⟨hs, ehs⟩ : ∃ hs, hs = hsW 0 l := ⟨_, rfl⟩
  obtain ⟨wk, ewk⟩ : ∃ wk, wk = wkW 0 l := ⟨_, rfl⟩
  have lh : hs.length ≤ 5 := by rw [ehs]; have := hsW_len 0 l; omega
  have lw : wk.length ≤ 5 := by rw [ewk]; have := wkW_len 0 l; omega
  have okh : ∀ d ∈ hs, HshOk rs.length d := by rw [ehs]; exact hsW_ok 0 l rs.length (by omega)
  have okw : ∀ d ∈ wk, WakOk rs.length d := by rw [ewk]; exact wkW_ok 0 l rs.length (by omega)
  rw [← ehs, ← ewk]
  have key : WR (m_rule_line [.tup [.tup cs, .tup chs, .tup hs, .tup wk]] T) (fun d t => d = .str (ruleT (.tup [.tup cs, .tup chs, .tup hs, .tup wk])) ∧ ∃ ex, t = T ++ ex) := by
    refine w_def rfl ?_
    show WS (b_rule_line [some (.tup [.tup cs, .tup chs, .tup hs, .tup wk]), none, none, none, none, none, none, none, none, none, none] T) _ _ _ _
    unfold b_rule_line
    walk_at "go"
    refine w_lcfun (f := fun x => .str (rowT x)) (fun _ => rfl) (by omega) (fun x hx T' => ?_) fun ex1 => ?_
    · obtain ⟨ex, q⟩ := row_run (T := T') (cond_row Dr n5 (h3 x hx))
      exact ⟨_, ex, rfl, wr_eq (w_fn (w_acons (w_var rfl (w_anil (wr_by q ⟨rfl, rfl⟩)))))⟩
    have a1 : (T ++ [Ob.lst (cs.map fun x => .str (rowT x))] ++ ex1)[T.length]? = some (.lst ((cs.map rowT).map D.str)) := by rw [List.map_map]; exact get0 get_end
    obtain ⟨E1, hE1⟩ : ∃ E1, T ++ [Ob.lst (cs.map fun x => .str (rowT x))] ++ ex1 = T ++ E1 := ⟨_, List.append_assoc _ _ _⟩
    rw [hE1] at a1 ⊢
    obtain ⟨i1, hi1⟩ : ∃ i, i = T.length := ⟨_, rfl⟩
    rw [← hi1] at a1 ⊢
    walk_at "go"
    refine w_lcfun (f := fun x => .str (rowT x)) (fun _ => rfl) (by omega) (fun x hx T' => ?_) fun ex2 => ?_
    · obtain ⟨ex, q⟩ := row_run (T := T') (chg_row Dr (h4 x hx))
      exact ⟨_, ex, rfl, wr_eq (w_fn (w_acons (w_var rfl (w_anil (wr_by q ⟨rfl, rfl⟩)))))⟩
    have a2 : (T ++ E1 ++ [Ob.lst (chs.map fun x => .str (rowT x))] ++ ex2)[(T ++ E1).length]? = some (.lst ((chs.map rowT).map D.str)) := by rw [List.map_map]; exact get0 get_end
    have a1 := get0 (ex := ex2) (get0 (ex := [Ob.lst (chs.map fun x => .str (rowT x))]) a1)
    obtain ⟨E2, hE2⟩ : ∃ E2, T ++ E1 ++ [Ob.lst (chs.map fun x => .str (rowT x))] ++ ex2 = T ++ E2 := ⟨_, by rw [List.append_assoc, List.append_assoc]⟩
    rw [hE2] at a1 a2 ⊢
    obtain ⟨i2, hi2⟩ : ∃ i, i = (T ++ E1).length := ⟨_, rfl⟩
    rw [← hi2] at a2 ⊢
    walk_at "go"
    refine w_lcfun (f := fun x => .str (forT x)) (fun _ => rfl) (by omega) (fun x hx T' => ?_) fun ex3 => ?_
    · obtain ⟨_, p, q, rfl, hp, hq⟩ := forT_ok n5 (okh x hx)
      exact ⟨_, [], rfl, by rw [List.append_nil]; exact wr_eq (w_joinsF (i := 8) (j := 10) rfl rfl hp hq ⟨rfl, rfl⟩)⟩
    have a3 : (T ++ E2 ++ [Ob.lst (hs.map fun x => .str (forT x))] ++ ex3)[(T ++ E2).length]? = some (.lst ((hs.map forT).map D.str)) := by rw [List.map_map]; exact get0 get_end
    have a1 := get0 (ex := ex3) (get0 (ex := [Ob.lst (hs.map fun x => .str (forT x))]) a1)
    have a2 := get0 (ex := ex3) (get0 (ex := [Ob.lst (hs.map fun x => .str (forT x))]) a2)
    obtain ⟨E3, hE3⟩ : ∃ E3, T ++ E2 ++ [Ob.lst (hs.map fun x => .str (forT x))] ++ ex3 = T ++ E3 := ⟨_, by rw [List.append_assoc, List.append_assoc]⟩
    rw [hE3] at a1 a2 a3 ⊢
    obtain ⟨i3, hi3⟩ : ∃ i, i = (T ++ E2).length := ⟨_, rfl⟩
    rw [← hi3] at a3 ⊢
    walk_at "go"
    refine w_lcfun (f := fun x => .str (txt x)) (fun _ => rfl) (by omega) (fun x hx T' => ?_) fun ex4 => ?_
    · obtain ⟨q, rfl, hq⟩ := okw x hx
      exact ⟨_, [], rfl, by rw [List.append_nil]; exact wr_eq (w_fn (w_acons (w_var rfl (w_anil (wr_by (strI_run (txd_int (n := q) (by omega))) ⟨rfl, rfl⟩)))))⟩
    have a4 : (T ++ E3 ++ [Ob.lst (wk.map fun x => .str (txt x))] ++ ex4)[(T ++ E3).length]? = some (.lst ((wk.map txt).map D.str)) := by rw [List.map_map]; exact get0 get_end
    have a1 := get0 (ex := ex4) (get0 (ex := [Ob.lst (wk.map fun x => .str (txt x))]) a1)
    have a2 := get0 (ex := ex4) (get0 (ex := [Ob.lst (wk.map fun x => .str (txt x))]) a2)
    have a3 := get0 (ex := ex4) (get0 (ex := [Ob.lst (wk.map fun x => .str (txt x))]) a3)
    obtain ⟨E4, hE4⟩ : ∃ E4, T ++ E3 ++ [Ob.lst (wk.map fun x => .str (txt x))] ++ ex4 = T ++ E4 := ⟨_, by rw [List.append_assoc, List.append_assoc]⟩
    rw [hE4] at a1 a2 a3 a4 ⊢
    obtain ⟨i4, hi4⟩ : ∃ i, i = (T ++ E3).length := ⟨_, rfl⟩
    rw [← hi4] at a4 ⊢
    have b1 : ∀ y ∈ cs.map rowT, TxOk 30 y := fun y hy => by obtain ⟨c, hc, rfl⟩ := List.mem_map.mp hy; exact rowT_ok (cond_row Dr n5 (h3 c hc))
    have b2 : ∀ y ∈ chs.map rowT, TxOk 30 y := fun y hy => by obtain ⟨c, hc, rfl⟩ := List.mem_map.mp hy; exact rowT_ok (chg_row Dr (h4 c hc))
    have b3 : ∀ y ∈ hs.map forT, TxOk 30 y := fun y hy => by obtain ⟨c, hc, rfl⟩ := List.mem_map.mp hy; exact (forT_ok n5 (okh c hc)).1
    have b4 : ∀ y ∈ wk.map txt, TxOk 30 y := fun y hy => by
      obtain ⟨c, hc, rfl⟩ := List.mem_map.mp hy
      obtain ⟨q, rfl, hq⟩ := okw c hc
      exact ((txd_int (n := q) (by omega)).1).up (by omega)
    have c1 : (cs.map rowT).length ≤ 6 := by rw [List.length_map]; omega
    have c2 : (chs.map rowT).length ≤ 6 := by rw [List.length_map]; omega
    have c3 : (hs.map forT).length ≤ 6 := by rw [List.length_map]; omega
    have c4 : (wk.map txt).length ≤ 6 := by rw [List.length_map]; omega
    rw [show ruleT (.tup [.tup cs, .tup chs, .tup hs, .tup wk]) = Txt.join " / " [partT (cs.map rowT), partT (chs.map rowT), partT (hs.map forT), partT (wk.map txt)] from rfl]
    generalize cs.map rowT = y1 at a1 b1 c1 ⊢
    generalize chs.map rowT = y2 at a2 b2 c2 ⊢
    generalize hs.map forT = y3 at a3 b3 c3 ⊢
    generalize wk.map txt = y4 at a4 b4 c4 ⊢
    clear hE1 hE2 hE3 hE4
    obtain ⟨S, hS⟩ : ∃ S, S = T ++ E4 := ⟨_, rfl⟩
    rw [← hS] at a1 a2 a3 a4 ⊢
    walk_at "go"
    refine w_sdyn get_end ?_
    have pa : ∀ (i : Nat) (ys : List Str), S[i]? = some (.lst (ys.map D.str)) → partAt S (.ref i) = partT ys := fun i ys h => by
      unfold partAt
      simp only [h]
      rw [List.map_map]
      exact congrArg partT (List.map_id' ys)
    refine w_lcmap (xs := [.ref i1, .ref i2, .ref i3, .ref i4]) (f := fun x => .str (partAt S x)) (lst_at get_end) (Nat.le_of_ble_eq_true rfl) (fun x hx acc => ⟨_, rfl, ?_⟩) ?_
    · simp only [List.mem_cons, List.not_mem_nil, or_false] at hx
      rcases hx with rfl | rfl | rfl | rfl
      · rw [pa i1 y1 a1]; exact part_step rfl (get0 (get0 a1)) b1 c1
      · rw [pa i2 y2 a2]; exact part_step rfl (get0 (get0 a2)) b2 c2
      · rw [pa i3 y3 a3]; exact part_step rfl (get0 (get0 a3)) b3 c3
      · rw [pa i4 y4 a4]; exact part_step rfl (get0 (get0 a4)) b4 c4
    · refine wr_by (join_run (xs := [.ref i1, .ref i2, .ref i3, .ref i4]) (f := partAt S) (n := 300) get_end (fun x hx => ?_) (by decide +kernel) (by simp) (by omega)) ⟨?_, ?_⟩
      · simp only [List.mem_cons, List.not_mem_nil, or_false] at hx
        rcases hx with rfl | rfl | rfl | rfl
        · rw [pa i1 y1 a1]; exact partT_ok b1 c1
        · rw [pa i2 y2 a2]; exact partT_ok b2 c2
        · rw [pa i3 y3 a3]; exact partT_ok b3 c3
        · rw [pa i4 y4 a4]; exact partT_ok b4 c4
      · simp only [List.map_cons, List.map_nil, pa i1 y1 a1, pa i2 y2 a2, pa i3 y3 a3, pa i4 y4 a4]
      · exact ⟨_, by rw [hS, List.append_assoc T, List.append_assoc T]⟩
  obtain ⟨d, t, e, rfl, ex, rfl⟩ := wr_out key
  exact ⟨ex, e⟩
def bookT (ws rs : List D) : Str := Txt.join "\n" ((("wheels " : Str) ++ spT ws) :: rs.map ruleT)
theorem bstr_run (Dr : DrawOk ws rs) (hb : T[bk]? = some (bookO ws rs)) : ∃ ex, fStrO "Book" m_Book_str [.ref bk] T = .ok (.str (bookT ws rs)) (T ++ ex) := by
  have n5 := Dr.n5
  have w3 := Dr.wh.l3
  have q1 := book_wheels (bookO_at hb)
  have q2 := book_rules (bookO_at hb)
  have tw : ∀ x ∈ ws, TxD 8 x := fun x hx => by
    obtain ⟨m, rfl, _, h4⟩ := Dr.wh.w x hx
    exact txd_int (by omega)
  obtain ⟨ex1, q3⟩ := spaced_run (T := T) tw (by omega) (by omega)
  have okw : TxOk 100 (("wheels " : Str) ++ spT ws) := ((TxOk.lit (n := 7) (y := "wheels ") (by decide +kernel)).app ((spT_ok tw).up (m := 27) (by omega))).up (by omega)
  have q4 : ∀ S : Sto, dAdd (.str "wheels ") (.str (spT ws)) S = .ok (.str (("wheels " : Str) ++ spT ws)) S := fun S => by
    show (if ("wheels " : Str).length + (spT ws).length ≤ most then _ else _) = _
    have h1 := (spT_ok tw).len
    have h2 : ("wheels " : Str).length = 7 := by decide +kernel
    rw [if_pos]
    rw [h2]
    exact Nat.le_trans (show _ ≤ 100 by omega) (by decide)
  have lines : ∃ ex n, m_book_lines [.tup ws, .tup rs] T = .ok (.ref n) (T ++ ex) ∧ (T ++ ex)[n]? = some (.lst (((("wheels " : Str) ++ spT ws) :: rs.map ruleT).map D.str)) := by
    have key : WR (m_book_lines [.tup ws, .tup rs] T) (fun d t => ∃ ex n, d = .ref n ∧ t = T ++ ex ∧ t[n]? = some (.lst (((("wheels " : Str) ++ spT ws) :: rs.map ruleT).map D.str))) := by
      refine w_def rfl ?_
      show WS (b_book_lines [some (.tup ws), some (.tup rs), none] T) _ _ _ _
      unfold b_book_lines
      have q4' := q4 (T ++ ex1)
      walk_at "go"
      refine w_lcfun (f := fun x => .str (ruleT x)) (fun _ => rfl) (by omega) (fun x hx T' => ?_) fun ex2 => ?_
      · obtain ⟨ex, q⟩ := rule_line_run (T := T') Dr (Dr.ru x hx)
        exact ⟨_, ex, rfl, wr_eq (w_fn (w_acons (w_var rfl (w_anil (wr_by q ⟨rfl, rfl⟩)))))⟩
      refine w_addL (xs := [.str (("wheels " : Str) ++ spT ws)]) (ys := rs.map fun x => .str (ruleT x)) (get0 (get0 get_end)) (get0 get_end) (by simp only [List.length_append, List.length_map, List.length_singleton]; exact Nat.le_trans (show _ ≤ 6 by omega) (by decide)) ?_
      refine ⟨_, _, rfl, by simp only [List.append_assoc]; rfl, ?_⟩
      rw [get_end, List.map_cons, List.map_map]
      rfl
    obtain ⟨d, t, e, ex, n, rfl, rfl, h⟩ := wr_out key
    exact ⟨ex, n, e, h⟩
  obtain ⟨ex, n, q5, z5⟩ := lines
  have key : WR (m_Book_str [.ref bk] T) (fun d t => d = .str (bookT ws rs) ∧ ∃ ex, t = T ++ ex) := by
    refine w_def rfl ?_
    show WS (b_Book_str [some (.ref bk)] T) _ _ _ _
    unfold b_Book_str
    walk_at "go"
    have q6 := join_run (T := T ++ ex) (l := n) (xs := ((("wheels " : Str) ++ spT ws) :: rs.map ruleT).map D.str) (f := strD) (n := 1300) (sep := "\n") (by rw [z5]; congr 2; rw [List.map_map (f := D.str)]; rfl) (fun x hx => by
      obtain ⟨y, hy, rfl⟩ := List.mem_map.mp hx
      rcases List.mem_cons.mp hy with rfl | hy
      · exact okw.up (by omega)
      · obtain ⟨r, hr, rfl⟩ := List.mem_map.mp hy
        exact ruleT_ok Dr (Dr.ru r hr)) (by decide +kernel) (by simp only [List.length_map, List.length_cons]; omega) (by omega)
    have e2 : (((("wheels " : Str) ++ spT ws) :: rs.map ruleT).map D.str).map strD = (("wheels " : Str) ++ spT ws) :: rs.map ruleT := by rw [List.map_map]; exact List.map_id' _
    rw [e2] at q6
    exact wr_by q6 ⟨rfl, _, rfl⟩
  obtain ⟨d, t, e, rfl, ex, rfl⟩ := wr_out key
  refine ⟨ex, ?_⟩
  unfold fStrO
  have hb2 : T[bk]? = some (.ins "Book" [("wheels", .tup ws), ("rules", .tup rs)]) := hb
  simp only [hb2, if_true, e]
end

end Hd
set_option Elab.async false
set_option linter.all false
set_option maxRecDepth 100000
set_option maxHeartbeats 1000000
namespace Hd
open PySem U
local macro_rules | `(tactic| walk_at "ex1") => `(tactic| first | (with_reducible refine w_seq ?_) | (with_reducible refine w_set ?_) | (with_reducible refine w_ret ?_) | (with_reducible refine w_sif ?_) | (with_reducible refine w_asg2 ?_) | (with_reducible refine w_asg3 ?_) | (with_reducible refine w_asg4 ?_) | (with_reducible refine w_ex2 ?_) | (with_reducible refine w_ex3 ?_) | (with_reducible refine w_ex4 ?_) | (with_reducible refine w_par ?_) | (with_reducible refine w_par3 ?_) | (with_reducible refine w_expr ?_) | (with_reducible refine w_for ?_) | (with_reducible refine w_skip ?_) | (with_reducible refine w_fn ?_) | (with_reducible refine w_acons ?_) | (with_reducible refine w_anil ?_) | (with_reducible refine w_aapp ?_) | (with_reducible refine w_bin ?_) | (with_reducible refine w_un ?_) | (with_reducible refine w_c ?_) | (with_reducible refine w_tof ?_) | (with_reducible refine w_tob ?_) | (with_reducible refine w_tand ?_) | (with_reducible refine w_tor ?_) | (with_reducible refine w_tnot ?_) | (with_reducible refine w_eand ?_) | (with_reducible refine w_eor ?_) | (with_reducible refine w_enot ?_) | (with_reducible refine w_exb ?_) | (with_reducible refine w_exi ?_) | (with_reducible refine w_if ?_) | (with_reducible refine w_slice ?_) | (with_reducible refine w_onone ?_) | (with_reducible refine w_osome ?_) | (with_reducible refine w_lc ?_) | (with_reducible refine w_lc2 ?_) | (with_reducible refine w_mtl ?_) | (with_reducible refine w_iseq ?_) | (with_reducible refine w_irng ?_) | (with_reducible refine w_ienum ?_) | (with_reducible refine w_ibin ?_) | (with_reducible refine w_true ?_) | (with_reducible refine cond_t ?_) | (with_reducible refine cond_f ?_))
local macro_rules | `(tactic| walk_at "ex2") => `(tactic| first | (with_reducible refine w_addI ?_) | (with_reducible refine w_subI ?_) | (with_reducible refine w_ltI ?_) | (with_reducible refine w_leI ?_) | (with_reducible refine w_gtI ?_) | (with_reducible refine w_geI ?_) | (with_reducible refine w_eqI ?_) | (with_reducible refine w_neI ?_) | (with_reducible refine w_negI ?_) | (with_reducible refine w_maxI ?_) | (with_reducible refine w_minI ?_) | (with_reducible refine w_lenT ?_) | (with_reducible refine w_slT ?_) | (with_reducible refine w_sseq ?_) | (with_reducible refine w_senum ?_) | (with_reducible refine w_szip ?_) | (with_reducible refine w_eqB ?_) | (with_reducible refine w_neB ?_))
local macro_rules | `(tactic| walk_at "ex3") => `(tactic| first | ((with_reducible apply w_var); (focus exact rfl)) | ((with_reducible apply w_aug); (focus exact rfl)) | ((with_reducible apply w_thaw); (focus exact rfl); (focus with_reducible assumption)) | ((with_reducible apply w_idxZ); (focus exact rfl); (focus with_reducible assumption)) | ((with_reducible apply wr_by); (focus with_reducible assumption)) | ((with_reducible apply w_via); (focus exact rfl)) | ((with_reducible apply w_mkTup); (focus exact Nat.le_of_ble_eq_true rfl)) | ((with_reducible apply w_mkLst); (focus exact Nat.le_of_ble_eq_true rfl)) | ((with_reducible apply w_ix); (focus exact rfl); (focus exact rfl)) | ((with_reducible apply w_lenL); (focus with_reducible assumption)) | ((with_reducible apply w_lenL); (focus with_reducible exact get_end)) | ((with_reducible apply w_isl); (focus with_reducible assumption)) | ((with_reducible apply w_append); (focus with_reducible assumption); (focus with_reducible assumption)) | ((with_reducible apply w_slL); (focus with_reducible assumption)) | ((with_reducible apply w_enumL); (focus with_reducible assumption)) | ((with_reducible apply w_tupL); (focus with_reducible assumption)) | ((with_reducible apply w_sdyn); (focus with_reducible assumption)) | ((with_reducible apply w_isi); (focus exact rfl)) | ((with_reducible apply w_isi2); (focus exact rfl)) | ((with_reducible apply w_eqS); (focus decide +kernel); (focus decide +kernel)) | ((with_reducible apply cond_af); (focus exact rfl)) | ((with_reducible apply cond_at); (focus exact rfl)) | ((with_reducible apply cond_af); (focus decide +kernel)) | ((with_reducible apply cond_at); (focus decide +kernel)))
local macro_rules | `(tactic| walk_at "go") => `(tactic| repeat (first | walk_at "ex1" | walk_at "ex2" | walk_at "ex3"))
section
variable {ws rs ws2 rs2 : List D} {T : Sto} {i j : Nat} {ob : Ob}
theorem l1 (z : T[0]? = some ob) (Dr : DrawOk ws rs) (K2 : Bk ws2 rs2) {e1 e4 e5 e6 e7 e8 e9 : Option D} :
    WS (b_law_1 [some (.ref 0), e1, some (.tup [.tup ws, .tup rs]), some (.tup [.tup ws2, .tup rs2]), e4, e5, e6, e7, e8, e9] T) (fun e s => s[0]? = some ob ∧ ∃ x3 x6 x7 x8 x9, e = [some (.ref 0), e1, some (.tup [.tup ws, .tup rs]), x3, e4, e5, x6, x7, x8, x9]) (fun _ _ => False) (fun _ _ => False) (fun _ _ => False) := by
  have K1 := bk_dr Dr
  have w3 := K2.w3
  have n5 := K2.n5
  have w3' := K1.w3
  have n5' := K1.n5
  obtain ⟨pw, w1, w2⟩ := pl_toP K1.plw
  obtain ⟨pr, r1, r2⟩ := pl_toP K1.plr
  obtain ⟨pw2, v1, v2⟩ := pl_toP K2.plw
  obtain ⟨pr2, s1, s2⟩ := pl_toP K2.plr
  have t1 : ∀ S, toP 5 S (.tup [.tup ws, .tup rs]) = some (.tuple [pw, pr]) := fun S => by show (mapO (toP 4 S) [.tup ws, .tup rs]).map PyData.tuple = _; simp only [mapO, w1 S, r1 S, Option.map_some]
  have t2 : ∀ S, toP 5 S (.tup [.tup ws2, .tup rs2]) = some (.tuple [pw2, pr2]) := fun S => by show (mapO (toP 4 S) [.tup ws2, .tup rs2]).map PyData.tuple = _; simp only [mapO, v1 S, s1 S, Option.map_some]
  have c1 : (PyData.tuple [pw, pr]).canLay0 = true := by simp [PyData.canLay0, PyData.canLayAll0, w2, r2]
  have c2 : (PyData.tuple [pw2, pr2]).canLay0 = true := by simp [PyData.canLay0, PyData.canLayAll0, v2, s2]
  obtain ⟨A, hA⟩ : ∃ A, A = PyData.eqv pw pw2 := ⟨_, rfl⟩
  obtain ⟨B, hB⟩ : ∃ B, B = PyData.eqv pr pr2 := ⟨_, rfl⟩
  have qA : ∀ S, dEq false (.tup ws) (.tup ws2) S = .ok (.bl A) S := fun S => by rw [eq_val (w1 S) (v1 S) (by decide) w2 v2, hA]; rfl
  have qB : ∀ S, dEq false (.tup rs) (.tup rs2) S = .ok (.bl B) S := fun S => by rw [eq_val (r1 S) (s1 S) (by decide) r2 s2, hB]; rfl
  have qA' : ∀ S, dEq false (.tup ws2) (.tup ws) S = .ok (.bl A) S := fun S => by rw [eq_val (v1 S) (w1 S) (by decide) v2 w2, hA, PySem.W.eqv_comm pw]; rfl
  have qB' : ∀ S, dEq false (.tup rs2) (.tup rs) S = .ok (.bl B) S := fun S => by rw [eq_val (s1 S) (r1 S) (by decide) s2 r2, hB, PySem.W.eqv_comm pr]; rfl
  have qx : ∀ S, dEq false (.tup [.tup ws, .tup rs]) (.tup [.tup ws2, .tup rs2]) S = .ok (.bl (A && B)) S := fun S => by
    rw [eq_val (t1 S) (t2 S) (by decide) c1 c2, hA, hB]
    simp [PyData.eqv, PyData.eqvAll]
  have qs1 : ∀ S, dEq true (.tup [.tup ws, .tup rs]) (.tup [.tup ws, .tup rs]) S = .ok (.bl false) S := fun S => eq_same (t1 S) (t1 S) (by decide) c1
  have qs2 : ∀ S, dEq true (.tup [.tup ws2, .tup rs2]) (.tup [.tup ws2, .tup rs2]) S = .ok (.bl false) S := fun S => eq_same (t2 S) (t2 S) (by decide) c2
  have m1 := K1.made T
  have m2 := K2.made (T ++ [bookO ws rs])
  obtain ⟨T2, h2⟩ : ∃ T2, T2 = T ++ [bookO ws rs] ++ [bookO ws2 rs2] := ⟨_, rfl⟩
  rw [← h2] at m2
  obtain ⟨i, hi⟩ : ∃ i, i = T.length := ⟨_, rfl⟩
  obtain ⟨j, hj⟩ : ∃ j, j = (T ++ [bookO ws rs]).length := ⟨_, rfl⟩
  have gi : T2[i]? = some (bookO ws rs) := by rw [h2, hi]; exact get0 get_end
  have gj : T2[j]? = some (bookO ws2 rs2) := by rw [h2, hj]; exact get_end
  have z2 : T2[0]? = some ob := by rw [h2]; exact get0 (get0 z)
  rw [← hi] at m1
  rw [← hj] at m2
  have gi' : T2[i]? = some (.ins "Book" [("wheels", .tup ws), ("rules", .tup rs)]) := gi
  have gj' : T2[j]? = some (.ins "Book" [("wheels", .tup ws2), ("rules", .tup rs2)]) := gj
  have a12 := eqO_at gi' gj' (beq_run gi gj (qA T2) (qB T2))
  have a21 := eqO_at gj' gi' (beq_run gj gi (qA' T2) (qB' T2))
  have a11 := eqO_at gi' gi' (beq_run gi gi (pl_eq (neg := false) K1.plw (by decide) T2) (pl_eq (neg := false) K1.plr (by decide) T2))
  have n12 : dNeO "Book" m_Book_eq (.ref i) (.ref j) T2 = .ok (.bl (!(A && B))) T2 := by
    unfold dNeO
    rw [a12]
    rfl
  have bl := blen_run gj n5
  have bn := bnot_run gj n5
  have qn := eq_nilT K2.plr T2
  have qxx := qx T2
  have br2 := brepr_run gj (by omega) n5
  have br1 := brepr_run gi (by omega) n5'
  have eqAB : ((!(A && B)) == (A && B)) = false := by cases A <;> cases B <;> rfl
  have neAB : (!((A && B) == (A && B))) = false := by cases A <;> cases B <;> rfl
  have l1b : ws2.length ≤ 5 := by omega
  have s1 := addS (T := T2) (a := "Book(") (b := numT ws2.length) (by have := (num_tx (n := ws2.length) (by omega)).len; have h5 : ("Book(" : Str).length = 5 := (by decide +kernel); omega)
  have s2 := addS (T := T2) (a := ("Book(" : Str) ++ numT ws2.length) (b := ", ") (by have := (rp1 l1b).len; have h5 : (", " : Str).length = 2 := (by decide +kernel); omega)
  have s3 := addS (T := T2) (a := (("Book(" : Str) ++ numT ws2.length) ++ ", ") (b := numT rs2.length) (by have := (rp2 l1b).len; have := (num_tx (n := rs2.length) (by omega)).len; omega)
  have s4 := addS (T := T2) (a := ((("Book(" : Str) ++ numT ws2.length) ++ ", ") ++ numT rs2.length) (b := ")") (by have := (rp3 l1b n5).len; have h5 : (")" : Str).length = 1 := (by decide +kernel); omega)
  have f1 : fStrI [.int (ws2.length : Int)] T2 = .ok (.str (numT ws2.length)) T2 := strI_run (txd_int (n := ws2.length) (by omega))
  have f2 : fStrI [.int (rs2.length : Int)] T2 = .ok (.str (numT rs2.length)) T2 := strI_run (txd_int (n := rs2.length) (by omega))
  have d4 : dNeS (.str (repT ws2 rs2)) (.str (repT ws2 rs2)) T2 = .ok (.bl false) T2 := by unfold dNeS; simp
  unfold b_law_1
  walk_at "go"
  refine cond_af neAB ?_
  walk_at "go"
  refine cond_af neAB ?_
  walk_at "go"
  refine cond_af eqAB ?_
  walk_at "go"
  refine cond_af (by simp) ?_
  walk_at "go"
  refine cond_af (by cases rs2.isEmpty <;> rfl) ?_
  walk_at "go"
  refine wr_by (show dNeS (.str (repT ws2 rs2)) (.str (repT ws2 rs2)) T2 = .ok (.bl false) T2 from d4) ?_
  walk_at "go"
  obtain ⟨ex, bs⟩ := bstr_run Dr gi
  walk_at "go"
  obtain ⟨T3, h3⟩ : ∃ T3, T3 = T2 ++ ex := ⟨_, rfl⟩
  have gi3 : T3[i]? = some (bookO ws rs) := by rw [h3]; exact get0 gi
  have gj3 : T3[j]? = some (bookO ws2 rs2) := by rw [h3]; exact get0 gj
  have z3 : T3[0]? = some ob := by rw [h3]; exact get0 z2
  rw [← h3]
  refine w_lcmap (f := fun _ => .bl false) rfl (by show 6 ≤ most; decide) (fun x hx acc => ?_) ?_
  · have gi4 : (T3 ++ [Ob.lst acc])[i]? = some (bookO ws rs) := get0 gi3
    have ty : ∃ q, tyD (T3 ++ [Ob.lst acc]) x = some q ∧ q ≠ "own" := by
      simp only [List.mem_cons, List.not_mem_nil, or_false] at hx
      rcases hx with rfl | rfl | rfl | rfl | rfl | rfl
      · exact ⟨_, rfl, by decide⟩
      · exact ⟨_, rfl, by decide⟩
      · exact ⟨_, rfl, by decide⟩
      · exact ⟨_, rfl, by decide⟩
      · exact ⟨_, rfl, by decide⟩
      · exact ⟨_, rfl, by decide⟩
    obtain ⟨q, hq, ho⟩ := ty
    have o1 := eqM_no gi4 hq ho
    have o2 := eqB_no gi4 hq ho
    refine ⟨_, rfl, wr_eq ?_⟩
    walk_at "go"
    exact ⟨rfl, rfl⟩
  · walk_at "go"
    obtain ⟨L, hL⟩ : ∃ L, L = Ob.lst (List.map (fun _ => D.bl false) [D.non, D.tup [D.tup ws, D.tup rs], D.tup ws, D.str (repT ws rs), D.str (bookT ws rs), D.int 0]) := ⟨_, rfl⟩
    have gL : (T3 ++ [L])[T3.length]? = some (.lst ([false, false, false, false, false, false].map D.bl)) := by rw [hL]; exact get_end
    rw [← hL]
    have g1 := book_wheels (bookO_at (show (T3 ++ [L])[i]? = some (bookO ws rs) from get0 gi3))
    have g2 := book_rules (bookO_at (show (T3 ++ [L])[i]? = some (bookO ws rs) from get0 gi3))
    have g3 := book_wheels (bookO_at (show (T3 ++ [L])[j]? = some (bookO ws2 rs2) from get0 gj3))
    have g4 := book_rules (bookO_at (show (T3 ++ [L])[j]? = some (bookO ws2 rs2) from get0 gj3))
    have g5 := qs1 (T3 ++ [L])
    have g6 := qs2 (T3 ++ [L])
    refine w_aa gL ?_
    walk_at "go"
    exact ⟨get0 z3, _, _, _, _, _, rfl⟩
end

end Hd
set_option Elab.async false
set_option linter.all false
set_option maxRecDepth 100000
set_option maxHeartbeats 1000000
namespace Hd
open PySem U
local macro_rules | `(tactic| walk_at "ex1") => `(tactic| first | (with_reducible refine w_seq ?_) | (with_reducible refine w_set ?_) | (with_reducible refine w_ret ?_) | (with_reducible refine w_sif ?_) | (with_reducible refine w_asg2 ?_) | (with_reducible refine w_asg3 ?_) | (with_reducible refine w_asg4 ?_) | (with_reducible refine w_ex2 ?_) | (with_reducible refine w_ex3 ?_) | (with_reducible refine w_ex4 ?_) | (with_reducible refine w_par ?_) | (with_reducible refine w_par3 ?_) | (with_reducible refine w_expr ?_) | (with_reducible refine w_for ?_) | (with_reducible refine w_skip ?_) | (with_reducible refine w_fn ?_) | (with_reducible refine w_acons ?_) | (with_reducible refine w_anil ?_) | (with_reducible refine w_aapp ?_) | (with_reducible refine w_bin ?_) | (with_reducible refine w_un ?_) | (with_reducible refine w_c ?_) | (with_reducible refine w_tof ?_) | (with_reducible refine w_tob ?_) | (with_reducible refine w_tand ?_) | (with_reducible refine w_tor ?_) | (with_reducible refine w_tnot ?_) | (with_reducible refine w_eand ?_) | (with_reducible refine w_eor ?_) | (with_reducible refine w_enot ?_) | (with_reducible refine w_exb ?_) | (with_reducible refine w_exi ?_) | (with_reducible refine w_if ?_) | (with_reducible refine w_slice ?_) | (with_reducible refine w_onone ?_) | (with_reducible refine w_osome ?_) | (with_reducible refine w_lc ?_) | (with_reducible refine w_lc2 ?_) | (with_reducible refine w_mtl ?_) | (with_reducible refine w_iseq ?_) | (with_reducible refine w_irng ?_) | (with_reducible refine w_ienum ?_) | (with_reducible refine w_ibin ?_) | (with_reducible refine w_true ?_) | (with_reducible refine cond_t ?_) | (with_reducible refine cond_f ?_))
local macro_rules | `(tactic| walk_at "ex2") => `(tactic| first | (with_reducible refine w_addI ?_) | (with_reducible refine w_subI ?_) | (with_reducible refine w_ltI ?_) | (with_reducible refine w_leI ?_) | (with_reducible refine w_gtI ?_) | (with_reducible refine w_geI ?_) | (with_reducible refine w_eqI ?_) | (with_reducible refine w_neI ?_) | (with_reducible refine w_negI ?_) | (with_reducible refine w_maxI ?_) | (with_reducible refine w_minI ?_) | (with_reducible refine w_lenT ?_) | (with_reducible refine w_slT ?_) | (with_reducible refine w_sseq ?_) | (with_reducible refine w_senum ?_) | (with_reducible refine w_szip ?_) | (with_reducible refine w_eqB ?_) | (with_reducible refine w_neB ?_))
local macro_rules | `(tactic| walk_at "ex3") => `(tactic| first | ((with_reducible apply w_var); (focus exact rfl)) | ((with_reducible apply w_aug); (focus exact rfl)) | ((with_reducible apply w_thaw); (focus exact rfl); (focus with_reducible assumption)) | ((with_reducible apply w_idxZ); (focus exact rfl); (focus with_reducible assumption)) | ((with_reducible apply wr_by); (focus with_reducible assumption)) | ((with_reducible apply w_via); (focus exact rfl)) | ((with_reducible apply w_mkTup); (focus exact Nat.le_of_ble_eq_true rfl)) | ((with_reducible apply w_mkLst); (focus exact Nat.le_of_ble_eq_true rfl)) | ((with_reducible apply w_ix); (focus exact rfl); (focus exact rfl)) | ((with_reducible apply w_lenL); (focus with_reducible assumption)) | ((with_reducible apply w_lenL); (focus with_reducible exact get_end)) | ((with_reducible apply w_isl); (focus with_reducible assumption)) | ((with_reducible apply w_append); (focus with_reducible assumption); (focus with_reducible assumption)) | ((with_reducible apply w_slL); (focus with_reducible assumption)) | ((with_reducible apply w_enumL); (focus with_reducible assumption)) | ((with_reducible apply w_tupL); (focus with_reducible assumption)) | ((with_reducible apply w_sdyn); (focus with_reducible assumption)) | ((with_reducible apply w_isi); (focus exact rfl)) | ((with_reducible apply w_isi2); (focus exact rfl)) | ((with_reducible apply w_eqS); (focus decide +kernel); (focus decide +kernel)) | ((with_reducible apply cond_af); (focus exact rfl)) | ((with_reducible apply cond_at); (focus exact rfl)) | ((with_reducible apply cond_af); (focus decide +kernel)) | ((with_reducible apply cond_at); (focus decide +kernel)))
local macro_rules | `(tactic| walk_at "go") => `(tactic| repeat (first | walk_at "ex1" | walk_at "ex2" | walk_at "ex3"))
def all0 (T : Sto) : List (Nat × Ob) := (List.range T.length).filterMap fun i => (T[i]?).map fun o => (i, o)
section
variable {T T' st : Sto} {B : Nat} {c : Int} {k : Nat}
theorem all0_mem {p : Nat × Ob} : p ∈ all0 T ↔ T[p.1]? = some p.2 := by
  unfold all0
  rw [List.mem_filterMap]
  constructor
  · rintro ⟨i, hi, e⟩
    obtain ⟨o, ho, rfl⟩ := Option.map_eq_some_iff.mp e
    exact ho
  · intro h
    exact ⟨p.1, List.mem_range.mpr (List.getElem?_eq_some_iff.mp h).1, by rw [h]; rfl⟩
theorem all0_kept (H : Stg B (all0 T) T' c) : ∀ (i : Nat) (o : Ob), T[i]? = some o → T'[i]? = some o := fun i o h => H.pin (i, o) (all0_mem.mpr h)
theorem bag_all {ob : Ob} {ns : List Int} (hob : ∀ s : Sto, s[0]? = some ob → lstOf s 0 = some (ns.map D.int)) (hn : ns.length ≤ 63) (hk : k < 100) (h0 : st[0]? = some ob) : ∃ T', s__law_bag [.ref 0, .int (k : Int)] st = .ok (.ref st.length) T' ∧ Stg st.length (all0 st) T' 0 := by
  have q1 : s__law_bag [.ref 0, .int (k : Int)] st = _ := bag_of (hob st h0) (by omega) (by omega)
  refine ⟨_, q1, ⟨⟨_, _, _, get_end, ⟨(bagX_range _ _).1, (bagX_range _ _).2, by omega, by omega⟩, Int.le_refl _⟩, fun p hp => ?_, fun p hp => ?_⟩⟩
  · exact get0 (all0_mem.mp hp)
  · have := (List.getElem?_eq_some_iff.mp (all0_mem.mp hp)).1
    exact Nat.ne_of_lt this
theorem bag_keep (b : Bag T B c) (h : ∀ o, T[B]? = some o → T'[B]? = some o) : Bag T' B c := by
  obtain ⟨g, x, c', h1, h2, h3⟩ := b
  exact ⟨g, x, c', h _ h1, h2, h3⟩
theorem bag_ex (b : Bag T B c) : ∃ o, T[B]? = some o := by
  obtain ⟨g, x, c', h1, h2, h3⟩ := b
  exact ⟨_, h1⟩
theorem l2 {st : Sto} {ob : Ob} {ns : List Int} {e2 e3 e4 e5 e6 e7 e8 e9 : Option D} (hob : ∀ s : Sto, s[0]? = some ob → lstOf s 0 = some (ns.map D.int)) (hn : ns.length ≤ 63) (hk : k < 20) (h0 : st[0]? = some ob) :
    WS (b_law_2 [some (.ref 0), some (.int (k : Int)), e2, e3, e4, e5, e6, e7, e8, e9] st) (fun e s => s[0]? = some ob ∧ ∃ x1 x2 x3 x4 x5 x6 x7 x8 x9, e = [some (.ref 0), x1, x2, x3, x4, x5, x6, x7, x8, x9]) (fun _ _ => False) (fun _ _ => False) (fun _ _ => False) := by
  unfold b_law_2
  obtain ⟨S0, q0, H0⟩ := bag_all (k := 2 * k) hob hn (by omega) h0
  have z0 : S0[0]? = some ob := all0_kept H0 0 ob h0
  obtain ⟨S1, q1, H1⟩ := bag_all (k := 2 * k + 1) hob hn (by omega) z0
  rw [show ((2 * k : Nat) : Int) = 2 * (k : Int) by omega] at q0
  rw [show ((2 * k + 1 : Nat) : Int) = 2 * (k : Int) + 1 by omega] at q1
  have d1 : dMul (.int 2) (.int (k : Int)) st = .ok (.int (2 * (k : Int))) st := rfl
  have d2 : dMul (.int 2) (.int (k : Int)) S0 = .ok (.int (2 * (k : Int))) S0 := rfl
  have l0 := H0.bag.lt
  have hpos : 0 < st.length := (List.getElem?_eq_some_iff.mp h0).1
  obtain ⟨o2, g2⟩ := bag_ex H1.bag
  have H2 : Stg st.length [(0, ob), (S0.length, o2)] S1 0 := by
    refine ⟨bag_keep H0.bag fun o h => all0_kept H1 _ o h, fun p hp => ?_, fun p hp => ?_⟩
    · simp only [List.mem_cons, List.not_mem_nil, or_false] at hp
      rcases hp with rfl | rfl
      · exact all0_kept H1 0 ob z0
      · exact g2
    · simp only [List.mem_cons, List.not_mem_nil, or_false] at hp
      rcases hp with rfl | rfl
      · show 0 ≠ st.length
        omega
      · show S0.length ≠ st.length
        omega
  obtain ⟨ws, rs, S2, q2, H3, Dr⟩ := drawn_s H2 (by omega)
  obtain ⟨wa, ra, S3, q3, H4, Ka⟩ := near_s H3 Dr (by omega)
  obtain ⟨wb, rb, S4, q4, H5, Kb⟩ := near_s H4 Dr (by omega)
  have H6 : Stg S0.length [(0, ob)] S4 0 := by
    refine ⟨bag_keep H1.bag fun o h => ?_, fun p hp => ?_, fun p hp => ?_⟩
    · rw [g2] at h
      cases h
      exact H5.at (by simp)
    · obtain rfl := List.mem_singleton.mp hp
      exact H5.at (by simp)
    · obtain rfl := List.mem_singleton.mp hp
      show 0 ≠ S0.length
      omega
  obtain ⟨wc, rc, S5, q5, H7, Dc⟩ := drawn_s H6 (by omega)
  have z5 : S5[0]? = some ob := H7.at (by simp)
  walk_at "go"
  refine w_loopF (fun _ e t => t[0]? = some ob ∧ ∃ e1 x3 e4 e5 x6 x7 x8 x9, e = [some (.ref 0), e1, some (.tup [.tup ws, .tup rs]), x3, e4, e5, x6, x7, x8, x9]) ⟨z5, _, _, _, _, _, _, _, _, rfl⟩ (fun i x e t hx ⟨z, e1, x3, e4, e5, x6, x7, x8, x9, he⟩ => ?_) (fun e t ⟨z, e1, x3, e4, e5, x6, x7, x8, x9, he⟩ => ⟨z, _, _, _, _, _, _, _, _, _, he⟩)
  subst he
  have hx2 : ∃ w r, x = .tup [.tup w, .tup r] ∧ Bk w r := by
    match i, hx with
    | 0, hx => cases hx; exact ⟨_, _, rfl, Ka⟩
    | 1, hx => cases hx; exact ⟨_, _, rfl, Kb⟩
    | 2, hx => cases hx; exact ⟨_, _, rfl, bk_dr Dc⟩
  obtain ⟨w, r, rfl, K2⟩ := hx2
  refine ⟨_, _, rfl, ?_⟩
  exact ws_imp (l1 z Dr K2 (e1 := e1) (e4 := e4) (e5 := e5) (e6 := x6) (e7 := x7) (e8 := x8) (e9 := x9)) (fun e t ⟨a, b1, b2, b3, b4, b5, h⟩ => ⟨a, _, _, _, _, _, _, _, _, h⟩) (fun _ _ h => h.elim) (fun _ _ h => h.elim) (fun _ _ h => h.elim)
end
theorem law_true {ob : Ob} {ns : List Int} (hob : ∀ s : Sto, s[0]? = some ob → lstOf s 0 = some (ns.map D.int)) (hn : ns.length ≤ 63) : ∃ st', m_law [.ref 0] [ob] = .ok (.bl true) st' := by
  have key : WR (m_law [.ref 0] [ob]) (fun d _ => d = .bl true) := by
    refine w_def rfl ?_
    show WS (b_law [some (.ref 0), none, none, none, none, none, none, none, none, none] [ob]) _ _ _ _
    unfold b_law
    have hl : fLen [.ref 0] [ob] = .ok (.int ((ns.length : Nat) : Int)) [ob] := by
      unfold fLen seqOf
      simp only [hob [ob] rfl, List.length_map]
    have hd : dDiv (.int ((ns.length : Nat) : Int)) (.int 2) [ob] = .ok (.int ((ns.length / 2 : Nat) : Int)) [ob] := by
      rw [divI (by decide) (by decide)]
      rfl
    have hN : iMax 3 (iMin 8 ((ns.length / 2 : Nat) : Int)) = ((max 3 (min 8 (ns.length / 2)) : Nat) : Int) := by
      unfold iMax iMin
      split <;> split <;> omega
    walk_at "go"
    refine w_rng hN (Nat.le_trans (show max 3 (min 8 (ns.length / 2)) ≤ 20 by omega) (by decide)) ?_
    refine w_loopF (fun _ e t => t[0]? = some ob ∧ ∃ x1 x2 x3 x4 x5 x6 x7 x8 x9, e = [some (.ref 0), x1, x2, x3, x4, x5, x6, x7, x8, x9]) ⟨rfl, _, _, _, _, _, _, _, _, _, rfl⟩ (fun i x e t hx ⟨z, x1, x2, x3, x4, x5, x6, x7, x8, x9, he⟩ => ?_) (fun e t ⟨z, x1, x2, x3, x4, x5, x6, x7, x8, x9, he⟩ => w_ret (w_c rfl))
    subst he
    obtain ⟨hi, rfl⟩ := rngL_get hx
    refine ⟨_, _, rfl, ?_⟩
    exact ws_imp (l2 (k := i) (e2 := x2) (e3 := x3) (e4 := x4) (e5 := x5) (e6 := x6) (e7 := x7) (e8 := x8) (e9 := x9) hob hn (by omega) z) (fun e t h => h) (fun _ _ h => h.elim) (fun _ _ h => h.elim) (fun _ _ h => h.elim)
  obtain ⟨d, t, e, rfl⟩ := wr_out key
  exact ⟨t, e⟩

end Hd
set_option Elab.async false
set_option linter.all false
set_option maxRecDepth 100000
set_option maxHeartbeats 0
open PySem PySem.W PySem.Calls PyProof.Rows
abbrev Hd.rw : PySem.W.OpenLaw := PySem.Challenge.rw_hushrules_k03_books_alike
theorem PySem.Challenge.cw_hushrules_k03_books_alike_holds : PySem.Challenge.rw_hushrules_k03_books_alike.Holds := by
  w_on; o_law
  refine HandSHeadRun.head_any (r := Hd.RR) (q := view Hd.RR.prog [44]) (H := Hd.hk) (ob := Hd.ob) (M := 8000) (loose := Hd.loose) (d := HandSHeadRun.topDef Hd.RR.prog 44) (kwd := []) Hd.ob_eq (by kernel_rfl) (fun s => by kernel_rfl) Hd.run (by kernel_rfl) (by kernel_rfl) (by kernel_rfl) (by rfl) (by first | assumption | decide +kernel) (by decide +kernel) ⟨rfl, rfl, rfl, rfl, rfl, by decide +kernel⟩ ?hw ?hc
  case hw => w_witness2
  case hc =>
    refine U.walkW (law := Hd.rw) (n := 63) (k := 9) (x := "_law_script") rfl (by decide) (by kernel_rfl) ⟨rfl, by decide, by decide⟩ ?F
    intro w mg fa h Y G hm0
    obtain ⟨K, KX, c⟩ := Y
    have hm : mg ("law" : PySem.Str) = some (.ref fa) := by
      have e : (HandSHeadRun.topDef Hd.RR.prog 44).name = ("law" : PySem.Str) := by kernel_rfl
      rw [← e]
      exact hm0
    have T := Hd.txt_of KX G c
    obtain ⟨fd, hb, hF⟩ := Hd.E_law (P := Hd.rw.prog) (w := w) T
    have e := hm.symm.trans T.g_law
    cases e
    exact ⟨K, fd, Hd.m_law, KX, hb, fun ob ns hl hs => Hd.law_true (fun s z => hs.at z) hl, hF⟩
