import PyProof.Rows.All
import Wide.All
import OpenK.AllK
import Wide.FinOn
import HandS.ForMost
import HandS.HeadWalk
import HandS.HeadHook4
import HandS.Defaults
import PySem.Challenge.RW_sortpost_k08_refused
import HandS.More
import HandS.Star
import HandS.AnyAll
import HandS.CallRecv
import HandS.Exc
import HandS.ExcOwn
import KE.KExcSuper
import HandS.Lambda
import HandS.Head0
import HandS.Head1
import HandS.Head2
import HandS.HeadEnd
import HandS.EndTab
import KE.KNestM
import HandS.GenList
import HandS.FStr
import HandS.Replace
import HandS.SortKw
import KE.KSortTupG
import KE.KSortKeySt
import KE.KDictZip
import PyProof.ListNew
import PyProof.ListRange
import HandS.ExcInit
import HandS.IsInst
import HandS.ReplaceList
import HandS.Conv
import HandS.TryMany
import HandS.ExcField
import HandS.SetKeys
import HandS.DictComp
import PyProof.DictMoreH
import HandS.Walk
import HandS.Iter
import HandS.ExcIs
import KE.KExcIs
import PyProof.StrOps2
section
set_option Elab.async false
set_option linter.all false
set_option maxRecDepth 100000
set_option maxHeartbeats 4000000
/-! the text of the program by places -/
namespace So
open PySem PySem.Spec PyProof.Rows L2
def topS (i : Nat) : Stmt := PySem.Challenge.pw_sortpost_k08_refused.main.body.getD i (.Pass ⟨0, 0, 0, 0⟩)
abbrev s_is_name : Stmt := topS 18
abbrev N_is_name : List Str := ["thing", "sign"]
theorem sc_is_name : FnScope ["thing", "sign"] ["thing"] (defScope s_is_name) := ⟨rfl, rfl, rfl, by decide +kernel, rfl, by decide +kernel, by decide +kernel⟩
def d_is_name : He.DefD := ⟨("is_name", none), "is_name", "is_name", defArgs s_is_name, defBody s_is_name, defScope s_is_name, [], []⟩
abbrev s_is_size : Stmt := topS 19
abbrev N_is_size : List Str := ["thing"]
theorem sc_is_size : FnScope ["thing"] ["thing"] (defScope s_is_size) := ⟨rfl, rfl, rfl, by decide +kernel, rfl, by decide +kernel, by decide +kernel⟩
def d_is_size : He.DefD := ⟨("is_size", none), "is_size", "is_size", defArgs s_is_size, defBody s_is_size, defScope s_is_size, [], []⟩
abbrev s_is_letter : Stmt := topS 20
abbrev N_is_letter : List Str := ["thing", "sender", "words", "size", "word"]
theorem sc_is_letter : FnScope ["thing", "sender", "words", "size", "word"] ["thing"] (defScope s_is_letter) := ⟨rfl, rfl, rfl, by decide +kernel, rfl, by decide +kernel, by decide +kernel⟩
def d_is_letter : He.DefD := ⟨("is_letter", none), "is_letter", "is_letter", defArgs s_is_letter, defBody s_is_letter, defScope s_is_letter, [], []⟩
abbrev s_name_key : Stmt := topS 21
abbrev N_name_key : List Str := ["name"]
theorem sc_name_key : FnScope ["name"] ["name"] (defScope s_name_key) := ⟨rfl, rfl, rfl, by decide +kernel, rfl, by decide +kernel, by decide +kernel⟩
def d_name_key : He.DefD := ⟨("name_key", none), "name_key", "name_key", defArgs s_name_key, defBody s_name_key, defScope s_name_key, [], []⟩
abbrev s_in_order : Stmt := topS 22
abbrev N_in_order : List Str := ["names"]
theorem sc_in_order : FnScope ["names"] ["names"] (defScope s_in_order) := ⟨rfl, rfl, rfl, by decide +kernel, rfl, by decide +kernel, by decide +kernel⟩
def d_in_order : He.DefD := ⟨("in_order", none), "in_order", "in_order", defArgs s_in_order, defBody s_in_order, defScope s_in_order, [], []⟩
abbrev s_Rule_init : Stmt := inClass (topS 33) 0
abbrev N_Rule_init : List Str := ["self", "words", "condition", "deeds"]
theorem sc_Rule_init : FnScope ["self", "words", "condition", "deeds"] ["self", "words", "condition", "deeds"] (defScope s_Rule_init) := ⟨rfl, rfl, rfl, by decide +kernel, rfl, by decide +kernel, by decide +kernel⟩
def d_Rule_init : He.DefD := ⟨("Rule", some "__init__"), "__init__", "Rule.__init__", defArgs s_Rule_init, defBody s_Rule_init, defScope s_Rule_init, [], []⟩
abbrev s_Reader_init : Stmt := inClass (topS 34) 0
abbrev N_Reader_init : List Str := ["self", "words", "row"]
theorem sc_Reader_init : FnScope ["self", "words", "row"] ["self", "words", "row"] (defScope s_Reader_init) := ⟨rfl, rfl, rfl, by decide +kernel, rfl, by decide +kernel, by decide +kernel⟩
def d_Reader_init : He.DefD := ⟨("Reader", some "__init__"), "__init__", "Reader.__init__", defArgs s_Reader_init, defBody s_Reader_init, defScope s_Reader_init, [], []⟩
abbrev s_Reader_fail : Stmt := inClass (topS 34) 1
abbrev N_Reader_fail : List Str := ["self"]
theorem sc_Reader_fail : FnScope ["self"] ["self"] (defScope s_Reader_fail) := ⟨rfl, rfl, rfl, by decide +kernel, rfl, by decide +kernel, by decide +kernel⟩
def d_Reader_fail : He.DefD := ⟨("Reader", some "fail"), "fail", "Reader.fail", defArgs s_Reader_fail, defBody s_Reader_fail, defScope s_Reader_fail, [], []⟩
abbrev s_Reader_peek : Stmt := inClass (topS 34) 2
abbrev N_Reader_peek : List Str := ["self"]
theorem sc_Reader_peek : FnScope ["self"] ["self"] (defScope s_Reader_peek) := ⟨rfl, rfl, rfl, by decide +kernel, rfl, by decide +kernel, by decide +kernel⟩
def d_Reader_peek : He.DefD := ⟨("Reader", some "peek"), "peek", "Reader.peek", defArgs s_Reader_peek, defBody s_Reader_peek, defScope s_Reader_peek, [], []⟩
abbrev s_Reader_take : Stmt := inClass (topS 34) 3
abbrev N_Reader_take : List Str := ["self", "word"]
theorem sc_Reader_take : FnScope ["self", "word"] ["self", "word"] (defScope s_Reader_take) := ⟨rfl, rfl, rfl, by decide +kernel, rfl, by decide +kernel, by decide +kernel⟩
def d_Reader_take : He.DefD := ⟨("Reader", some "take"), "take", "Reader.take", defArgs s_Reader_take, defBody s_Reader_take, defScope s_Reader_take, [], []⟩
abbrev s_Reader_skip : Stmt := inClass (topS 34) 4
abbrev N_Reader_skip : List Str := ["self", "word"]
theorem sc_Reader_skip : FnScope ["self", "word"] ["self", "word"] (defScope s_Reader_skip) := ⟨rfl, rfl, rfl, by decide +kernel, rfl, by decide +kernel, by decide +kernel⟩
def d_Reader_skip : He.DefD := ⟨("Reader", some "skip"), "skip", "Reader.skip", defArgs s_Reader_skip, defBody s_Reader_skip, defScope s_Reader_skip, [], []⟩
abbrev s_Reader_take_name : Stmt := inClass (topS 34) 5
abbrev N_Reader_take_name : List Str := ["self", "word"]
theorem sc_Reader_take_name : FnScope ["self", "word"] ["self"] (defScope s_Reader_take_name) := ⟨rfl, rfl, rfl, by decide +kernel, rfl, by decide +kernel, by decide +kernel⟩
def d_Reader_take_name : He.DefD := ⟨("Reader", some "take_name"), "take_name", "Reader.take_name", defArgs s_Reader_take_name, defBody s_Reader_take_name, defScope s_Reader_take_name, [], []⟩
abbrev s_Reader_take_number : Stmt := inClass (topS 34) 6
abbrev N_Reader_take_number : List Str := ["self", "word"]
theorem sc_Reader_take_number : FnScope ["self", "word"] ["self"] (defScope s_Reader_take_number) := ⟨rfl, rfl, rfl, by decide +kernel, rfl, by decide +kernel, by decide +kernel⟩
def d_Reader_take_number : He.DefD := ⟨("Reader", some "take_number"), "take_number", "Reader.take_number", defArgs s_Reader_take_number, defBody s_Reader_take_number, defScope s_Reader_take_number, [], []⟩
abbrev s_Reader_read_rule : Stmt := inClass (topS 34) 7
abbrev N_Reader_read_rule : List Str := ["self", "condition", "deeds"]
theorem sc_Reader_read_rule : FnScope ["self", "condition", "deeds"] ["self"] (defScope s_Reader_read_rule) := ⟨rfl, rfl, rfl, by decide +kernel, rfl, by decide +kernel, by decide +kernel⟩
def d_Reader_read_rule : He.DefD := ⟨("Reader", some "read_rule"), "read_rule", "Reader.read_rule", defArgs s_Reader_read_rule, defBody s_Reader_read_rule, defScope s_Reader_read_rule, [], []⟩
abbrev s_Reader_read_condition : Stmt := inClass (topS 34) 8
abbrev N_Reader_read_condition : List Str := ["self", "parts"]
theorem sc_Reader_read_condition : FnScope ["self", "parts"] ["self"] (defScope s_Reader_read_condition) := ⟨rfl, rfl, rfl, by decide +kernel, rfl, by decide +kernel, by decide +kernel⟩
def d_Reader_read_condition : He.DefD := ⟨("Reader", some "read_condition"), "read_condition", "Reader.read_condition", defArgs s_Reader_read_condition, defBody s_Reader_read_condition, defScope s_Reader_read_condition, [], []⟩
abbrev s_Reader_read_joined : Stmt := inClass (topS 34) 9
abbrev N_Reader_read_joined : List Str := ["self", "parts"]
theorem sc_Reader_read_joined : FnScope ["self", "parts"] ["self"] (defScope s_Reader_read_joined) := ⟨rfl, rfl, rfl, by decide +kernel, rfl, by decide +kernel, by decide +kernel⟩
def d_Reader_read_joined : He.DefD := ⟨("Reader", some "read_joined"), "read_joined", "Reader.read_joined", defArgs s_Reader_read_joined, defBody s_Reader_read_joined, defScope s_Reader_read_joined, [], []⟩
abbrev s_Reader_read_single : Stmt := inClass (topS 34) 10
abbrev N_Reader_read_single : List Str := ["self", "inner"]
theorem sc_Reader_read_single : FnScope ["self", "inner"] ["self"] (defScope s_Reader_read_single) := ⟨rfl, rfl, rfl, by decide +kernel, rfl, by decide +kernel, by decide +kernel⟩
def d_Reader_read_single : He.DefD := ⟨("Reader", some "read_single"), "read_single", "Reader.read_single", defArgs s_Reader_read_single, defBody s_Reader_read_single, defScope s_Reader_read_single, [], []⟩
abbrev s_Reader_read_fact : Stmt := inClass (topS 34) 11
abbrev N_Reader_read_fact : List Str := ["self", "kind", "named", "_"]
theorem sc_Reader_read_fact : FnScope ["self", "kind", "named", "_"] ["self"] (defScope s_Reader_read_fact) := ⟨rfl, rfl, rfl, by decide +kernel, rfl, by decide +kernel, by decide +kernel⟩
def d_Reader_read_fact : He.DefD := ⟨("Reader", some "read_fact"), "read_fact", "Reader.read_fact", defArgs s_Reader_read_fact, defBody s_Reader_read_fact, defScope s_Reader_read_fact, [], []⟩
abbrev s_Reader_read_deed : Stmt := inClass (topS 34) 12
abbrev N_Reader_read_deed : List Str := ["self", "kind"]
theorem sc_Reader_read_deed : FnScope ["self", "kind"] ["self"] (defScope s_Reader_read_deed) := ⟨rfl, rfl, rfl, by decide +kernel, rfl, by decide +kernel, by decide +kernel⟩
def d_Reader_read_deed : He.DefD := ⟨("Reader", some "read_deed"), "read_deed", "Reader.read_deed", defArgs s_Reader_read_deed, defBody s_Reader_read_deed, defScope s_Reader_read_deed, [], []⟩
abbrev s_is_number : Stmt := topS 35
abbrev N_is_number : List Str := ["word", "sign"]
theorem sc_is_number : FnScope ["word", "sign"] ["word"] (defScope s_is_number) := ⟨rfl, rfl, rfl, by decide +kernel, rfl, by decide +kernel, by decide +kernel⟩
def d_is_number : He.DefD := ⟨("is_number", none), "is_number", "is_number", defArgs s_is_number, defBody s_is_number, defScope s_is_number, [], []⟩
abbrev s_words_of : Stmt := topS 36
abbrev N_words_of : List Str := ["row", "sign", "word"]
theorem sc_words_of : FnScope ["row", "sign", "word"] ["row"] (defScope s_words_of) := ⟨rfl, rfl, rfl, by decide +kernel, rfl, by decide +kernel, by decide +kernel⟩
def d_words_of : He.DefD := ⟨("words_of", none), "words_of", "words_of", defArgs s_words_of, defBody s_words_of, defScope s_words_of, [], []⟩
abbrev s_rule_of : Stmt := topS 37
abbrev N_rule_of : List Str := ["words", "row", "rule"]
theorem sc_rule_of : FnScope ["words", "row", "rule"] ["words", "row"] (defScope s_rule_of) := ⟨rfl, rfl, rfl, by decide +kernel, rfl, by decide +kernel, by decide +kernel⟩
def d_rule_of : He.DefD := ⟨("rule_of", none), "rule_of", "rule_of", defArgs s_rule_of, defBody s_rule_of, defScope s_rule_of, [], []⟩
abbrev s_read : Stmt := topS 38
abbrev N_read : List Str := ["text", "rules", "number", "row", "words"]
theorem sc_read : FnScope ["text", "rules", "number", "row", "words"] ["text"] (defScope s_read) := ⟨rfl, rfl, rfl, by decide +kernel, rfl, by decide +kernel, by decide +kernel⟩
def d_read : He.DefD := ⟨("read", none), "read", "read", defArgs s_read, defBody s_read, defScope s_read, [], []⟩
abbrev s_check_names : Stmt := topS 39
abbrev N_check_names : List Str := ["rules"]
theorem sc_check_names : FnScope ["rules"] ["rules"] (defScope s_check_names) := ⟨rfl, rfl, rfl, by decide +kernel, rfl, by decide +kernel, by decide +kernel⟩
def d_check_names : He.DefD := ⟨("check_names", none), "check_names", "check_names", defArgs s_check_names, defBody s_check_names, defScope s_check_names, [], []⟩
abbrev s_word_names : Stmt := topS 40
abbrev N_word_names : List Str := ["rules", "named", "fact", "name"]
theorem sc_word_names : FnScope ["rules", "named", "fact", "name"] ["rules"] (defScope s_word_names) := ⟨rfl, rfl, rfl, by decide +kernel, rfl, by decide +kernel, by decide +kernel⟩
def d_word_names : He.DefD := ⟨("word_names", none), "word_names", "word_names", defArgs s_word_names, defBody s_word_names, defScope s_word_names, [], []⟩
abbrev s_facts_of : Stmt := topS 41
abbrev N_facts_of : List Str := ["rules", "found", "rule"]
theorem sc_facts_of : FnScope ["rules", "found", "rule"] ["rules"] (defScope s_facts_of) := ⟨rfl, rfl, rfl, by decide +kernel, rfl, by decide +kernel, by decide +kernel⟩
def d_facts_of : He.DefD := ⟨("facts_of", none), "facts_of", "facts_of", defArgs s_facts_of, defBody s_facts_of, defScope s_facts_of, [], []⟩
abbrev s_add_facts : Stmt := topS 42
abbrev N_add_facts : List Str := ["condition", "found", "kind", "part"]
theorem sc_add_facts : FnScope ["condition", "found", "kind", "part"] ["condition", "found"] (defScope s_add_facts) := ⟨rfl, rfl, rfl, by decide +kernel, rfl, by decide +kernel, by decide +kernel⟩
def d_add_facts : He.DefD := ⟨("add_facts", none), "add_facts", "add_facts", defArgs s_add_facts, defBody s_add_facts, defScope s_add_facts, [], []⟩
abbrev s_sort : Stmt := topS 67
abbrev N_sort : List Str := ["rules", "letter", "rows"]
theorem sc_sort : FnScope ["rules", "letter", "rows"] ["rules", "letter"] (defScope s_sort) := ⟨rfl, rfl, rfl, by decide +kernel, rfl, by decide +kernel, by decide +kernel⟩
def d_sort : He.DefD := ⟨("sort", none), "sort", "sort", defArgs s_sort, defBody s_sort, defScope s_sort, [], []⟩
abbrev s_acting : Stmt := topS 68
abbrev N_acting : List Str := ["rules", "letter", "rows"]
theorem sc_acting : FnScope ["rules", "letter", "rows"] ["rules", "letter"] (defScope s_acting) := ⟨rfl, rfl, rfl, by decide +kernel, rfl, by decide +kernel, by decide +kernel⟩
def d_acting : He.DefD := ⟨("acting", none), "acting", "acting", defArgs s_acting, defBody s_acting, defScope s_acting, [], []⟩
abbrev s_check_letter : Stmt := topS 69
abbrev N_check_letter : List Str := ["letter"]
theorem sc_check_letter : FnScope ["letter"] ["letter"] (defScope s_check_letter) := ⟨rfl, rfl, rfl, by decide +kernel, rfl, by decide +kernel, by decide +kernel⟩
def d_check_letter : He.DefD := ⟨("check_letter", none), "check_letter", "check_letter", defArgs s_check_letter, defBody s_check_letter, defScope s_check_letter, [], []⟩
abbrev s_way_through : Stmt := topS 70
abbrev N_way_through : List Str := ["rules", "letter", "way", "number", "rule"]
theorem sc_way_through : FnScope ["rules", "letter", "way", "number", "rule"] ["rules", "letter"] (defScope s_way_through) := ⟨rfl, rfl, rfl, by decide +kernel, rfl, by decide +kernel, by decide +kernel⟩
def d_way_through : He.DefD := ⟨("way_through", none), "way_through", "way_through", defArgs s_way_through, defBody s_way_through, defScope s_way_through, [], []⟩
abbrev s_Way_init : Stmt := inClass (topS 71) 0
abbrev N_Way_init : List Str := ["self", "letter", "words"]
theorem sc_Way_init : FnScope ["self", "letter", "words"] ["self", "letter"] (defScope s_Way_init) := ⟨rfl, rfl, rfl, by decide +kernel, rfl, by decide +kernel, by decide +kernel⟩
def d_Way_init : He.DefD := ⟨("Way", some "__init__"), "__init__", "Way.__init__", defArgs s_Way_init, defBody s_Way_init, defScope s_Way_init, [], []⟩
abbrev s_Way_outcome : Stmt := inClass (topS 71) 1
abbrev N_Way_outcome : List Str := ["self"]
theorem sc_Way_outcome : FnScope ["self"] ["self"] (defScope s_Way_outcome) := ⟨rfl, rfl, rfl, by decide +kernel, rfl, by decide +kernel, by decide +kernel⟩
def d_Way_outcome : He.DefD := ⟨("Way", some "outcome"), "outcome", "Way.outcome", defArgs s_Way_outcome, defBody s_Way_outcome, defScope s_Way_outcome, [], []⟩
abbrev s_Way_act : Stmt := inClass (topS 71) 2
abbrev N_Way_act : List Str := ["self", "number", "deeds", "kind", "name"]
theorem sc_Way_act : FnScope ["self", "number", "deeds", "kind", "name"] ["self", "number", "deeds"] (defScope s_Way_act) := ⟨rfl, rfl, rfl, by decide +kernel, rfl, by decide +kernel, by decide +kernel⟩
def d_Way_act : He.DefD := ⟨("Way", some "act"), "act", "Way.act", defArgs s_Way_act, defBody s_Way_act, defScope s_Way_act, [], []⟩
abbrev s_Way_holds : Stmt := inClass (topS 71) 3
abbrev N_Way_holds : List Str := ["self", "condition", "kind", "part"]
theorem sc_Way_holds : FnScope ["self", "condition", "kind", "part"] ["self", "condition"] (defScope s_Way_holds) := ⟨rfl, rfl, rfl, by decide +kernel, rfl, by decide +kernel, by decide +kernel⟩
def d_Way_holds : He.DefD := ⟨("Way", some "holds"), "holds", "Way.holds", defArgs s_Way_holds, defBody s_Way_holds, defScope s_Way_holds, [], []⟩
abbrev s_Way_fact_holds : Stmt := inClass (topS 71) 4
abbrev N_Way_fact_holds : List Str := ["self", "kind", "worth", "fact"]
theorem sc_Way_fact_holds : FnScope ["self", "kind", "worth", "fact"] ["self", "kind", "worth", "fact"] (defScope s_Way_fact_holds) := ⟨rfl, rfl, rfl, by decide +kernel, rfl, by decide +kernel, by decide +kernel⟩
def d_Way_fact_holds : He.DefD := ⟨("Way", some "fact_holds"), "fact_holds", "Way.fact_holds", defArgs s_Way_fact_holds, defBody s_Way_fact_holds, defScope s_Way_fact_holds, [], []⟩
abbrev s_Way_has_pair : Stmt := inClass (topS 71) 5
abbrev N_Way_has_pair : List Str := ["self", "one", "other", "at"]
theorem sc_Way_has_pair : FnScope ["self", "one", "other", "at"] ["self", "one", "other"] (defScope s_Way_has_pair) := ⟨rfl, rfl, rfl, by decide +kernel, rfl, by decide +kernel, by decide +kernel⟩
def d_Way_has_pair : He.DefD := ⟨("Way", some "has_pair"), "has_pair", "Way.has_pair", defArgs s_Way_has_pair, defBody s_Way_has_pair, defScope s_Way_has_pair, [], []⟩
abbrev s_ring : Stmt := topS 74
abbrev N_ring : List Str := ["house", "name", "people", "space", "ways", "person", "letter"]
theorem sc_ring : FnScope ["house", "name", "people", "space", "ways", "person", "letter"] ["house", "name"] (defScope s_ring) := ⟨rfl, rfl, rfl, by decide +kernel, rfl, by decide +kernel, by decide +kernel⟩
def d_ring : He.DefD := ⟨("ring", none), "ring", "ring", defArgs s_ring, defBody s_ring, defScope s_ring, [], []⟩
abbrev s_is_house : Stmt := topS 75
abbrev N_is_house : List Str := ["thing", "name", "text"]
theorem sc_is_house : FnScope ["thing", "name", "text"] ["thing"] (defScope s_is_house) := ⟨rfl, rfl, rfl, by decide +kernel, rfl, by decide +kernel, by decide +kernel⟩
def d_is_house : He.DefD := ⟨("is_house", none), "is_house", "is_house", defArgs s_is_house, defBody s_is_house, defScope s_is_house, [], []⟩
abbrev s_read_house : Stmt := topS 76
abbrev N_read_house : List Str := ["house", "people", "name"]
theorem sc_read_house : FnScope ["house", "people", "name"] ["house"] (defScope s_read_house) := ⟨rfl, rfl, rfl, by decide +kernel, rfl, by decide +kernel, by decide +kernel⟩
def d_read_house : He.DefD := ⟨("read_house", none), "read_house", "read_house", defArgs s_read_house, defBody s_read_house, defScope s_read_house, [], []⟩
abbrev s_all_rules : Stmt := topS 77
abbrev N_all_rules : List Str := ["people", "found", "rules"]
theorem sc_all_rules : FnScope ["people", "found", "rules"] ["people"] (defScope s_all_rules) := ⟨rfl, rfl, rfl, by decide +kernel, rfl, by decide +kernel, by decide +kernel⟩
def d_all_rules : He.DefD := ⟨("all_rules", none), "all_rules", "all_rules", defArgs s_all_rules, defBody s_all_rules, defScope s_all_rules, [], []⟩
abbrev s_House_init : Stmt := inClass (topS 81) 0
abbrev N_House_init : List Str := ["self", "house", "name"]
theorem sc_House_init : FnScope ["self", "house", "name"] ["self", "house"] (defScope s_House_init) := ⟨rfl, rfl, rfl, by decide +kernel, rfl, by decide +kernel, by decide +kernel⟩
def d_House_init : He.DefD := ⟨("House", some "__init__"), "__init__", "House.__init__", defArgs s_House_init, defBody s_House_init, defScope s_House_init, [], []⟩
abbrev s_House_deliver : Stmt := inClass (topS 81) 1
abbrev N_House_deliver : List Str := ["self", "name", "letter", "number", "reached", "at", "receivers", "receiver"]
theorem sc_House_deliver : FnScope ["self", "name", "letter", "number", "reached", "at", "receivers", "receiver"] ["self", "name", "letter"] (defScope s_House_deliver) := ⟨rfl, rfl, rfl, by decide +kernel, rfl, by decide +kernel, by decide +kernel⟩
def d_House_deliver : He.DefD := ⟨("House", some "deliver"), "deliver", "House.deliver", defArgs s_House_deliver, defBody s_House_deliver, defScope s_House_deliver, [], []⟩
abbrev s_House_sort_at : Stmt := inClass (topS 81) 2
abbrev N_House_sort_at : List Str := ["self", "name", "letter", "number", "way", "folder", "receiver"]
theorem sc_House_sort_at : FnScope ["self", "name", "letter", "number", "way", "folder", "receiver"] ["self", "name", "letter", "number"] (defScope s_House_sort_at) := ⟨rfl, rfl, rfl, by decide +kernel, rfl, by decide +kernel, by decide +kernel⟩
def d_House_sort_at : He.DefD := ⟨("House", some "sort_at"), "sort_at", "House.sort_at", defArgs s_House_sort_at, defBody s_House_sort_at, defScope s_House_sort_at, [], []⟩
abbrev s_House_way : Stmt := inClass (topS 81) 3
abbrev N_House_way : List Str := ["self", "number"]
theorem sc_House_way : FnScope ["self", "number"] ["self", "number"] (defScope s_House_way) := ⟨rfl, rfl, rfl, by decide +kernel, rfl, by decide +kernel, by decide +kernel⟩
def d_House_way : He.DefD := ⟨("House", some "way"), "way", "House.way", defArgs s_House_way, defBody s_House_way, defScope s_House_way, [], []⟩
abbrev s_House_filed : Stmt := inClass (topS 81) 4
abbrev N_House_filed : List Str := ["self", "name", "folder"]
theorem sc_House_filed : FnScope ["self", "name", "folder"] ["self", "name", "folder"] (defScope s_House_filed) := ⟨rfl, rfl, rfl, by decide +kernel, rfl, by decide +kernel, by decide +kernel⟩
def d_House_filed : He.DefD := ⟨("House", some "filed"), "filed", "House.filed", defArgs s_House_filed, defBody s_House_filed, defScope s_House_filed, [], []⟩
abbrev s_House_outside : Stmt := inClass (topS 81) 5
abbrev N_House_outside : List Str := ["self", "name"]
theorem sc_House_outside : FnScope ["self", "name"] ["self", "name"] (defScope s_House_outside) := ⟨rfl, rfl, rfl, by decide +kernel, rfl, by decide +kernel, by decide +kernel⟩
def d_House_outside : He.DefD := ⟨("House", some "outside"), "outside", "House.outside", defArgs s_House_outside, defBody s_House_outside, defScope s_House_outside, [], []⟩
abbrev s_House_teach : Stmt := inClass (topS 81) 6
abbrev N_House_teach : List Str := ["self", "name", "rules", "people"]
theorem sc_House_teach : FnScope ["self", "name", "rules", "people"] ["self", "name", "rules"] (defScope s_House_teach) := ⟨rfl, rfl, rfl, by decide +kernel, rfl, by decide +kernel, by decide +kernel⟩
def d_House_teach : He.DefD := ⟨("House", some "teach"), "teach", "House.teach", defArgs s_House_teach, defBody s_House_teach, defScope s_House_teach, [], []⟩
abbrev s_House_rules : Stmt := inClass (topS 81) 7
abbrev N_House_rules : List Str := ["self", "name"]
theorem sc_House_rules : FnScope ["self", "name"] ["self", "name"] (defScope s_House_rules) := ⟨rfl, rfl, rfl, by decide +kernel, rfl, by decide +kernel, by decide +kernel⟩
def d_House_rules : He.DefD := ⟨("House", some "rules"), "rules", "House.rules", defArgs s_House_rules, defBody s_House_rules, defScope s_House_rules, [], []⟩
abbrev s_House_check_person : Stmt := inClass (topS 81) 9
abbrev N_House_check_person : List Str := ["self", "name"]
theorem sc_House_check_person : FnScope ["self", "name"] ["self", "name"] (defScope s_House_check_person) := ⟨rfl, rfl, rfl, by decide +kernel, rfl, by decide +kernel, by decide +kernel⟩
def d_House_check_person : He.DefD := ⟨("House", some "check_person"), "check_person", "House.check_person", defArgs s_House_check_person, defBody s_House_check_person, defScope s_House_check_person, [], []⟩
abbrev s_reaching : Stmt := topS 83
abbrev N_reaching : List Str := ["rules", "name", "rows", "space", "run", "filed"]
theorem sc_reaching : FnScope ["rules", "name", "rows", "space", "run", "filed"] ["rules", "name"] (defScope s_reaching) := ⟨rfl, rfl, rfl, by decide +kernel, rfl, by decide +kernel, by decide +kernel⟩
def d_reaching : He.DefD := ⟨("reaching", none), "reaching", "reaching", defArgs s_reaching, defBody s_reaching, defScope s_reaching, [], []⟩
abbrev s_law_draw : Stmt := topS 85
abbrev N_law_draw : List Str := ["_law_cell", "_law_k", "_law_many", "_law_primes"]
theorem sc_law_draw : FnScope ["_law_cell", "_law_k", "_law_many", "_law_primes"] ["_law_cell", "_law_k", "_law_many"] (defScope s_law_draw) := ⟨rfl, rfl, rfl, by decide +kernel, rfl, by decide +kernel, by decide +kernel⟩
def d_law_draw : He.DefD := ⟨("_law_draw", none), "_law_draw", "_law_draw", defArgs s_law_draw, defBody s_law_draw, defScope s_law_draw, [], []⟩
abbrev s_law_cell_at : Stmt := topS 86
abbrev N_law_cell_at : List Str := ["_law_script", "_law_k"]
theorem sc_law_cell_at : FnScope ["_law_script", "_law_k"] ["_law_script", "_law_k"] (defScope s_law_cell_at) := ⟨rfl, rfl, rfl, by decide +kernel, rfl, by decide +kernel, by decide +kernel⟩
def d_law_cell_at : He.DefD := ⟨("_law_cell_at", none), "_law_cell_at", "_law_cell_at", defArgs s_law_cell_at, defBody s_law_cell_at, defScope s_law_cell_at, [], []⟩
abbrev s_law_digits : Stmt := topS 87
abbrev N_law_digits : List Str := ["_law_script", "_law_at", "_law_many", "_law_base", "_law_cell", "_law_found", "_law_left", "_law_turn", "_law_blend", "_law_more"]
theorem sc_law_digits : FnScope ["_law_script", "_law_at", "_law_many", "_law_base", "_law_cell", "_law_found", "_law_left", "_law_turn", "_law_blend", "_law_more"] ["_law_script", "_law_at", "_law_many", "_law_base"] (defScope s_law_digits) := ⟨rfl, rfl, rfl, by decide +kernel, rfl, by decide +kernel, by decide +kernel⟩
def d_law_digits : He.DefD := ⟨("_law_digits", none), "_law_digits", "_law_digits", defArgs s_law_digits, defBody s_law_digits, defScope s_law_digits, [], []⟩
abbrev s_law_kinds : Stmt := topS 88
abbrev N_law_kinds : List Str := ["_law_ask", "error", "_law_found"]
theorem sc_law_kinds : FnScope ["_law_ask", "error", "_law_found"] ["_law_ask"] (defScope s_law_kinds) := ⟨rfl, rfl, rfl, by decide +kernel, rfl, by decide +kernel, by decide +kernel⟩
def d_law_kinds : He.DefD := ⟨("_law_kinds", none), "_law_kinds", "_law_kinds", defArgs s_law_kinds, defBody s_law_kinds, defScope s_law_kinds, [], []⟩
abbrev s_law_is : Stmt := topS 89
abbrev N_law_is : List Str := ["_law_ask", "_law_at", "_law_one"]
theorem sc_law_is : FnScope ["_law_ask", "_law_at", "_law_one"] ["_law_ask", "_law_at"] (defScope s_law_is) := ⟨rfl, rfl, rfl, by decide +kernel, rfl, by decide +kernel, by decide +kernel⟩
def d_law_is : He.DefD := ⟨("_law_is", none), "_law_is", "_law_is", defArgs s_law_is, defBody s_law_is, defScope s_law_is, [], []⟩
abbrev s_law_letters_right : Stmt := topS 90
abbrev N_law_letters_right : List Str := ["_law_house", "_law_number", "_law_words", "_law_bad", "_law_some"]
theorem sc_law_letters_right : FnScope ["_law_house", "_law_number", "_law_words", "_law_bad", "_law_some"] ["_law_house", "_law_number"] (defScope s_law_letters_right) := ⟨rfl, rfl, rfl, by decide +kernel, rfl, by decide +kernel, by decide +kernel⟩
def d_law_letters_right : He.DefD := ⟨("_law_letters_right", none), "_law_letters_right", "_law_letters_right", defArgs s_law_letters_right, defBody s_law_letters_right, defScope s_law_letters_right, [], []⟩
abbrev s_law_names_right : Stmt := topS 91
abbrev N_law_names_right : List Str := ["_law_house", "_law_number", "_law_some", "_law_asks", "_law_ask"]
theorem sc_law_names_right : FnScope ["_law_house", "_law_number", "_law_some", "_law_asks", "_law_ask"] ["_law_house", "_law_number"] (defScope s_law_names_right) := ⟨rfl, rfl, rfl, by decide +kernel, rfl, by decide +kernel, by decide +kernel⟩
def d_law_names_right : He.DefD := ⟨("_law_names_right", none), "_law_names_right", "_law_names_right", defArgs s_law_names_right, defBody s_law_names_right, defScope s_law_names_right, [], []⟩
abbrev s_law_houses_right : Stmt := topS 92
abbrev N_law_houses_right : List Str := ["_law_six", "_law_name", "_law_bad", "_law_some", "_law_five", "_law_house"]
theorem sc_law_houses_right : FnScope ["_law_six", "_law_name", "_law_bad", "_law_some", "_law_five", "_law_house"] [] (defScope s_law_houses_right) := ⟨rfl, rfl, rfl, by decide +kernel, rfl, by decide +kernel, by decide +kernel⟩
def d_law_houses_right : He.DefD := ⟨("_law_houses_right", none), "_law_houses_right", "_law_houses_right", defArgs s_law_houses_right, defBody s_law_houses_right, defScope s_law_houses_right, [], []⟩
abbrev s_law : Stmt := topS 93
abbrev N_law : List Str := ["_law_script", "_law_number", "_law_house"]
theorem sc_law : FnScope ["_law_script", "_law_number", "_law_house"] ["_law_script"] (defScope s_law) := ⟨rfl, rfl, rfl, by decide +kernel, rfl, by decide +kernel, by decide +kernel⟩
def d_law : He.DefD := ⟨("law", none), "law", "law", defArgs s_law, defBody s_law, defScope s_law, [], []⟩
abbrev s_BadRule_init : Stmt := inClass (topS 7) 0
end So
end

section
set_option Elab.async false
set_option linter.all false
set_option maxRecDepth 100000
set_option maxHeartbeats 4000000
/-! what the top has written, as facts; defs as FnR; frames of heaps -/
namespace So
open PySem PySem.Spec PyProof.Rows L2
open GxR (TabB TabG Tabbed)

abbrev a_is_name (K : PySem.W.Frag) : Addr := He.ga K "is_name"
abbrev a_is_size (K : PySem.W.Frag) : Addr := He.ga K "is_size"
abbrev a_is_letter (K : PySem.W.Frag) : Addr := He.ga K "is_letter"
abbrev a_name_key (K : PySem.W.Frag) : Addr := He.ga K "name_key"
abbrev a_in_order (K : PySem.W.Frag) : Addr := He.ga K "in_order"
abbrev a_Rule_init (K : PySem.W.Frag) : Addr := He.ma K (He.ga K "Rule") "__init__"
abbrev a_Reader_init (K : PySem.W.Frag) : Addr := He.ma K (He.ga K "Reader") "__init__"
abbrev a_Reader_fail (K : PySem.W.Frag) : Addr := He.ma K (He.ga K "Reader") "fail"
abbrev a_Reader_peek (K : PySem.W.Frag) : Addr := He.ma K (He.ga K "Reader") "peek"
abbrev a_Reader_take (K : PySem.W.Frag) : Addr := He.ma K (He.ga K "Reader") "take"
abbrev a_Reader_skip (K : PySem.W.Frag) : Addr := He.ma K (He.ga K "Reader") "skip"
abbrev a_Reader_take_name (K : PySem.W.Frag) : Addr := He.ma K (He.ga K "Reader") "take_name"
abbrev a_Reader_take_number (K : PySem.W.Frag) : Addr := He.ma K (He.ga K "Reader") "take_number"
abbrev a_Reader_read_rule (K : PySem.W.Frag) : Addr := He.ma K (He.ga K "Reader") "read_rule"
abbrev a_Reader_read_condition (K : PySem.W.Frag) : Addr := He.ma K (He.ga K "Reader") "read_condition"
abbrev a_Reader_read_joined (K : PySem.W.Frag) : Addr := He.ma K (He.ga K "Reader") "read_joined"
abbrev a_Reader_read_single (K : PySem.W.Frag) : Addr := He.ma K (He.ga K "Reader") "read_single"
abbrev a_Reader_read_fact (K : PySem.W.Frag) : Addr := He.ma K (He.ga K "Reader") "read_fact"
abbrev a_Reader_read_deed (K : PySem.W.Frag) : Addr := He.ma K (He.ga K "Reader") "read_deed"
abbrev a_is_number (K : PySem.W.Frag) : Addr := He.ga K "is_number"
abbrev a_words_of (K : PySem.W.Frag) : Addr := He.ga K "words_of"
abbrev a_rule_of (K : PySem.W.Frag) : Addr := He.ga K "rule_of"
abbrev a_read (K : PySem.W.Frag) : Addr := He.ga K "read"
abbrev a_check_names (K : PySem.W.Frag) : Addr := He.ga K "check_names"
abbrev a_word_names (K : PySem.W.Frag) : Addr := He.ga K "word_names"
abbrev a_facts_of (K : PySem.W.Frag) : Addr := He.ga K "facts_of"
abbrev a_add_facts (K : PySem.W.Frag) : Addr := He.ga K "add_facts"
abbrev a_sort (K : PySem.W.Frag) : Addr := He.ga K "sort"
abbrev a_acting (K : PySem.W.Frag) : Addr := He.ga K "acting"
abbrev a_check_letter (K : PySem.W.Frag) : Addr := He.ga K "check_letter"
abbrev a_way_through (K : PySem.W.Frag) : Addr := He.ga K "way_through"
abbrev a_Way_init (K : PySem.W.Frag) : Addr := He.ma K (He.ga K "Way") "__init__"
abbrev a_Way_outcome (K : PySem.W.Frag) : Addr := He.ma K (He.ga K "Way") "outcome"
abbrev a_Way_act (K : PySem.W.Frag) : Addr := He.ma K (He.ga K "Way") "act"
abbrev a_Way_holds (K : PySem.W.Frag) : Addr := He.ma K (He.ga K "Way") "holds"
abbrev a_Way_fact_holds (K : PySem.W.Frag) : Addr := He.ma K (He.ga K "Way") "fact_holds"
abbrev a_Way_has_pair (K : PySem.W.Frag) : Addr := He.ma K (He.ga K "Way") "has_pair"
abbrev a_ring (K : PySem.W.Frag) : Addr := He.ga K "ring"
abbrev a_is_house (K : PySem.W.Frag) : Addr := He.ga K "is_house"
abbrev a_read_house (K : PySem.W.Frag) : Addr := He.ga K "read_house"
abbrev a_all_rules (K : PySem.W.Frag) : Addr := He.ga K "all_rules"
abbrev a_House_init (K : PySem.W.Frag) : Addr := He.ma K (He.ga K "House") "__init__"
abbrev a_House_deliver (K : PySem.W.Frag) : Addr := He.ma K (He.ga K "House") "deliver"
abbrev a_House_sort_at (K : PySem.W.Frag) : Addr := He.ma K (He.ga K "House") "sort_at"
abbrev a_House_way (K : PySem.W.Frag) : Addr := He.ma K (He.ga K "House") "way"
abbrev a_House_filed (K : PySem.W.Frag) : Addr := He.ma K (He.ga K "House") "filed"
abbrev a_House_outside (K : PySem.W.Frag) : Addr := He.ma K (He.ga K "House") "outside"
abbrev a_House_teach (K : PySem.W.Frag) : Addr := He.ma K (He.ga K "House") "teach"
abbrev a_House_rules (K : PySem.W.Frag) : Addr := He.ma K (He.ga K "House") "rules"
abbrev a_House_check_person (K : PySem.W.Frag) : Addr := He.ma K (He.ga K "House") "check_person"
abbrev a_reaching (K : PySem.W.Frag) : Addr := He.ga K "reaching"
abbrev a_law_draw (K : PySem.W.Frag) : Addr := He.ga K "_law_draw"
abbrev a_law_cell_at (K : PySem.W.Frag) : Addr := He.ga K "_law_cell_at"
abbrev a_law_digits (K : PySem.W.Frag) : Addr := He.ga K "_law_digits"
abbrev a_law_kinds (K : PySem.W.Frag) : Addr := He.ga K "_law_kinds"
abbrev a_law_is (K : PySem.W.Frag) : Addr := He.ga K "_law_is"
abbrev a_law_letters_right (K : PySem.W.Frag) : Addr := He.ga K "_law_letters_right"
abbrev a_law_names_right (K : PySem.W.Frag) : Addr := He.ga K "_law_names_right"
abbrev a_law_houses_right (K : PySem.W.Frag) : Addr := He.ga K "_law_houses_right"
abbrev a_law (K : PySem.W.Frag) : Addr := He.ga K "law"
abbrev C_Rule (K : PySem.W.Frag) : Addr := He.ga K "Rule"
abbrev C_Reader (K : PySem.W.Frag) : Addr := He.ga K "Reader"
abbrev C_Way (K : PySem.W.Frag) : Addr := He.ga K "Way"
abbrev C_House (K : PySem.W.Frag) : Addr := He.ga K "House"
abbrev C_SortError (K : PySem.W.Frag) : Addr := He.ga K "SortError"
abbrev C_BadRule (K : PySem.W.Frag) : Addr := He.ga K "BadRule"
abbrev C_BadText (K : PySem.W.Frag) : Addr := He.ga K "BadText"
abbrev C_BadLetter (K : PySem.W.Frag) : Addr := He.ga K "BadLetter"
abbrev C_BadName (K : PySem.W.Frag) : Addr := He.ga K "BadName"
abbrev C_BadHouse (K : PySem.W.Frag) : Addr := He.ga K "BadHouse"
abbrev C_TooMany (K : PySem.W.Frag) : Addr := He.ga K "TooMany"
abbrev C_NoLetter (K : PySem.W.Frag) : Addr := He.ga K "NoLetter"
abbrev cc_is_name (K : PySem.W.Frag) : Addr := (He.cT K ("is_name", none)).1
abbrev tb_is_name (K : PySem.W.Frag) : Addr := (He.cT K ("is_name", none)).2
abbrev cc_is_letter (K : PySem.W.Frag) : Addr := (He.cT K ("is_letter", none)).1
abbrev tb_is_letter (K : PySem.W.Frag) : Addr := (He.cT K ("is_letter", none)).2
abbrev cc_is_number (K : PySem.W.Frag) : Addr := (He.cT K ("is_number", none)).1
abbrev tb_is_number (K : PySem.W.Frag) : Addr := (He.cT K ("is_number", none)).2
abbrev cc_Way_holds (K : PySem.W.Frag) : Addr := (He.cT K ("Way", some "holds")).1
abbrev tb_Way_holds (K : PySem.W.Frag) : Addr := (He.cT K ("Way", some "holds")).2
abbrev cc_is_house (K : PySem.W.Frag) : Addr := (He.cT K ("is_house", none)).1
abbrev tb_is_house (K : PySem.W.Frag) : Addr := (He.cT K ("is_house", none)).2
abbrev cc_law_letters_right (K : PySem.W.Frag) : Addr := (He.cT K ("_law_letters_right", none)).1
abbrev tb_law_letters_right (K : PySem.W.Frag) : Addr := (He.cT K ("_law_letters_right", none)).2
abbrev cc_law_names_right (K : PySem.W.Frag) : Addr := (He.cT K ("_law_names_right", none)).1
abbrev tb_law_names_right (K : PySem.W.Frag) : Addr := (He.cT K ("_law_names_right", none)).2
abbrev cc_law_houses_right (K : PySem.W.Frag) : Addr := (He.cT K ("_law_houses_right", none)).1
abbrev tb_law_houses_right (K : PySem.W.Frag) : Addr := (He.cT K ("_law_houses_right", none)).2
abbrev tabs (K : PySem.W.Frag) : List Addr := [tb_is_name K, tb_is_letter K, tb_is_number K, tb_Way_holds K, tb_is_house K]
abbrev ltabs (K : PySem.W.Frag) : List (Addr × Str) := [(tb_law_letters_right K, ("_law_letters_right" : Str) ++ ".<locals>." ++ "<lambda>"), (tb_law_names_right K, ("_law_names_right" : Str) ++ ".<locals>." ++ "<lambda>"), (tb_law_houses_right K, ("_law_houses_right" : Str) ++ ".<locals>." ++ "<lambda>")]
abbrev FD (K : PySem.W.Frag) (x qual : Str) (st : Stmt) (f : Addr) : Prop := ∃ fd, FunD K x qual (defArgs st) (defBody st) (defScope st) [] [] f fd
/-- what is said of the classes of errors -/
structure ExcT (K : PySem.W.Frag) : Prop where
  x_SortError : PySem.W.excIn K (C_SortError K) PySem.HandSPX.veTail "ValueError.__new__" = true
  x_BadText : PySem.W.excIn K (C_BadText K) PySem.HandSPX.veTail "ValueError.__new__" = true
  x_BadLetter : PySem.W.excIn K (C_BadLetter K) PySem.HandSPX.veTail "ValueError.__new__" = true
  x_BadName : PySem.W.excIn K (C_BadName K) PySem.HandSPX.veTail "ValueError.__new__" = true
  x_BadHouse : PySem.W.excIn K (C_BadHouse K) PySem.HandSPX.veTail "ValueError.__new__" = true
  x_TooMany : PySem.W.excIn K (C_TooMany K) PySem.HandSPX.veTail "ValueError.__new__" = true
  x_NoLetter : PySem.W.excIn K (C_NoLetter K) PySem.HandSPX.veTail "ValueError.__new__" = true
  k_SortError : PySem.W.keepIn K (.ref (C_SortError K)) = true
  s_SortError : PySem.W.subIn K (.ref (C_SortError K)) (.type "BaseException") = some true
  y_SortError : PySem.W.typeIn K (.ref (C_SortError K)) = some (.type "type")
  k_BadRule : PySem.W.keepIn K (.ref (C_BadRule K)) = true
  s_BadRule : PySem.W.subIn K (.ref (C_BadRule K)) (.type "BaseException") = some true
  y_BadRule : PySem.W.typeIn K (.ref (C_BadRule K)) = some (.type "type")
  k_BadText : PySem.W.keepIn K (.ref (C_BadText K)) = true
  s_BadText : PySem.W.subIn K (.ref (C_BadText K)) (.type "BaseException") = some true
  y_BadText : PySem.W.typeIn K (.ref (C_BadText K)) = some (.type "type")
  k_BadLetter : PySem.W.keepIn K (.ref (C_BadLetter K)) = true
  s_BadLetter : PySem.W.subIn K (.ref (C_BadLetter K)) (.type "BaseException") = some true
  y_BadLetter : PySem.W.typeIn K (.ref (C_BadLetter K)) = some (.type "type")
  k_BadName : PySem.W.keepIn K (.ref (C_BadName K)) = true
  s_BadName : PySem.W.subIn K (.ref (C_BadName K)) (.type "BaseException") = some true
  y_BadName : PySem.W.typeIn K (.ref (C_BadName K)) = some (.type "type")
  k_BadHouse : PySem.W.keepIn K (.ref (C_BadHouse K)) = true
  s_BadHouse : PySem.W.subIn K (.ref (C_BadHouse K)) (.type "BaseException") = some true
  y_BadHouse : PySem.W.typeIn K (.ref (C_BadHouse K)) = some (.type "type")
  k_TooMany : PySem.W.keepIn K (.ref (C_TooMany K)) = true
  s_TooMany : PySem.W.subIn K (.ref (C_TooMany K)) (.type "BaseException") = some true
  y_TooMany : PySem.W.typeIn K (.ref (C_TooMany K)) = some (.type "type")
  k_NoLetter : PySem.W.keepIn K (.ref (C_NoLetter K)) = true
  s_NoLetter : PySem.W.subIn K (.ref (C_NoLetter K)) (.type "BaseException") = some true
  y_NoLetter : PySem.W.typeIn K (.ref (C_NoLetter K)) = some (.type "type")
abbrev a_BadRule_init (K : PySem.W.Frag) : Addr := He.ma K (He.ga K "BadRule") "__init__"
/-- what is said of BadRule, whose own init asks its base's -/
structure BrT (K : PySem.W.Frag) : Prop where
  cls : ∃ nm q N bs bm sn sub ab col dd k0 k1 k2 k3 k5, K.lookup (C_BadRule K) = some (excClassObj nm q (C_BadRule K) N bs bm true sn sub ab col dd k0 k1 k2 k3 k5 "ValueError.__new__") ∧ PySem.HandSPX.refsVE bm = true
  sa : PySem.W.findIn K (.ref (C_BadRule K)) "__setattr__" = some (some (.builtin "object.__setattr__"))
  ga : PySem.W.findIn K (.ref (C_BadRule K)) "__getattribute__" = some (some (.builtin "BaseException.__getattribute__"))
  gg : PySem.W.findIn K (.ref (C_BadRule K)) "__getattr__" = some none
  nR : PySem.W.findIn K (.ref (C_BadRule K)) "row" = some none
  nW : PySem.W.findIn K (.ref (C_BadRule K)) "word" = some none
  iC : PySem.W.findIn K (.ref (C_BadRule K)) "__init__" = some (some (.ref (a_BadRule_init K)))
  tC : PySem.W.typeIn K (.ref (a_BadRule_init K)) = some (.type "function")
  hd : PySem.W.hasDictIn K (C_BadRule K) = true
  te : PySem.W.exmOne K (.ref (C_BadRule K)) (.ref (C_BadRule K)) = some true
  su : PySem.W.ks_superIn K (C_BadRule K) (C_BadRule K) "__init__" = some (some (.builtin "ValueError.__init__"))
  sV : PySem.W.subIn K (.ref (C_BadRule K)) (.type "ValueError") = some true
  mr : PySem.W.mroIn K (C_BadRule K) (.ref (C_BadRule K)) = some true
  tp : PySem.W.nsIn K cStatics "thirdparty.any" = some none
  fn : ∃ (oc : Value) (od : Option Addr) (doc pm : Value) (an : Option Addr) (cda : Addr) (ct : Value) (osl : Array (Option Value)) (cc : Addr) (vs : Array Value) (file : Str) (tf : Tok) (ccl : Value) (cdd : Option Addr) (ccs : Array (Option Value)) (cl : Value) (cld : Option Addr) (csl : Array (Option Value)),
    K.lookup (a_BadRule_init K) = some ⟨oc, od, .func (PySem.W.ksFn "__init__" "BadRule.__init__" (defArgs s_BadRule_init) (defBody s_BadRule_init) (defScope s_BadRule_init) .none .none doc pm an (.ref cda) ct cc), osl⟩ ∧ PySem.W.codeIn K (.ref cda) "BadRule.__init__" = true ∧
    K.lookup cda = some ⟨ccl, cdd, .fields vs, ccs⟩ ∧ vs[2]? = some (.str file tf) ∧ ((("/claim/cut.py" : String) : Str) == file) = true ∧ K.lookup cc = some ⟨cl, cld, .cell (some (.ref (C_BadRule K))), csl⟩

structure Txt (w : World) (K : PySem.W.Frag) (mg : Str → Option Value) (base : Heap) : Prop where
  f_is_name : FD K "is_name" "is_name" s_is_name (a_is_name K)
  g_is_name : mg "is_name" = some (.ref (a_is_name K))
  f_is_size : FD K "is_size" "is_size" s_is_size (a_is_size K)
  g_is_size : mg "is_size" = some (.ref (a_is_size K))
  f_is_letter : FD K "is_letter" "is_letter" s_is_letter (a_is_letter K)
  g_is_letter : mg "is_letter" = some (.ref (a_is_letter K))
  f_name_key : FD K "name_key" "name_key" s_name_key (a_name_key K)
  g_name_key : mg "name_key" = some (.ref (a_name_key K))
  f_in_order : FD K "in_order" "in_order" s_in_order (a_in_order K)
  g_in_order : mg "in_order" = some (.ref (a_in_order K))
  f_Rule_init : FD K "__init__" "Rule.__init__" s_Rule_init (a_Rule_init K)
  f_Reader_init : FD K "__init__" "Reader.__init__" s_Reader_init (a_Reader_init K)
  f_Reader_fail : FD K "fail" "Reader.fail" s_Reader_fail (a_Reader_fail K)
  m_Reader_fail : Meth K (C_Reader K) "fail" (a_Reader_fail K)
  f_Reader_peek : FD K "peek" "Reader.peek" s_Reader_peek (a_Reader_peek K)
  m_Reader_peek : Meth K (C_Reader K) "peek" (a_Reader_peek K)
  f_Reader_take : FD K "take" "Reader.take" s_Reader_take (a_Reader_take K)
  m_Reader_take : Meth K (C_Reader K) "take" (a_Reader_take K)
  f_Reader_skip : FD K "skip" "Reader.skip" s_Reader_skip (a_Reader_skip K)
  m_Reader_skip : Meth K (C_Reader K) "skip" (a_Reader_skip K)
  f_Reader_take_name : FD K "take_name" "Reader.take_name" s_Reader_take_name (a_Reader_take_name K)
  m_Reader_take_name : Meth K (C_Reader K) "take_name" (a_Reader_take_name K)
  f_Reader_take_number : FD K "take_number" "Reader.take_number" s_Reader_take_number (a_Reader_take_number K)
  m_Reader_take_number : Meth K (C_Reader K) "take_number" (a_Reader_take_number K)
  f_Reader_read_rule : FD K "read_rule" "Reader.read_rule" s_Reader_read_rule (a_Reader_read_rule K)
  m_Reader_read_rule : Meth K (C_Reader K) "read_rule" (a_Reader_read_rule K)
  f_Reader_read_condition : FD K "read_condition" "Reader.read_condition" s_Reader_read_condition (a_Reader_read_condition K)
  m_Reader_read_condition : Meth K (C_Reader K) "read_condition" (a_Reader_read_condition K)
  f_Reader_read_joined : FD K "read_joined" "Reader.read_joined" s_Reader_read_joined (a_Reader_read_joined K)
  m_Reader_read_joined : Meth K (C_Reader K) "read_joined" (a_Reader_read_joined K)
  f_Reader_read_single : FD K "read_single" "Reader.read_single" s_Reader_read_single (a_Reader_read_single K)
  m_Reader_read_single : Meth K (C_Reader K) "read_single" (a_Reader_read_single K)
  f_Reader_read_fact : FD K "read_fact" "Reader.read_fact" s_Reader_read_fact (a_Reader_read_fact K)
  m_Reader_read_fact : Meth K (C_Reader K) "read_fact" (a_Reader_read_fact K)
  f_Reader_read_deed : FD K "read_deed" "Reader.read_deed" s_Reader_read_deed (a_Reader_read_deed K)
  m_Reader_read_deed : Meth K (C_Reader K) "read_deed" (a_Reader_read_deed K)
  f_is_number : FD K "is_number" "is_number" s_is_number (a_is_number K)
  g_is_number : mg "is_number" = some (.ref (a_is_number K))
  f_words_of : FD K "words_of" "words_of" s_words_of (a_words_of K)
  g_words_of : mg "words_of" = some (.ref (a_words_of K))
  f_rule_of : FD K "rule_of" "rule_of" s_rule_of (a_rule_of K)
  g_rule_of : mg "rule_of" = some (.ref (a_rule_of K))
  f_read : FD K "read" "read" s_read (a_read K)
  g_read : mg "read" = some (.ref (a_read K))
  f_check_names : FD K "check_names" "check_names" s_check_names (a_check_names K)
  g_check_names : mg "check_names" = some (.ref (a_check_names K))
  f_word_names : FD K "word_names" "word_names" s_word_names (a_word_names K)
  g_word_names : mg "word_names" = some (.ref (a_word_names K))
  f_facts_of : FD K "facts_of" "facts_of" s_facts_of (a_facts_of K)
  g_facts_of : mg "facts_of" = some (.ref (a_facts_of K))
  f_add_facts : FD K "add_facts" "add_facts" s_add_facts (a_add_facts K)
  g_add_facts : mg "add_facts" = some (.ref (a_add_facts K))
  f_sort : FD K "sort" "sort" s_sort (a_sort K)
  g_sort : mg "sort" = some (.ref (a_sort K))
  f_acting : FD K "acting" "acting" s_acting (a_acting K)
  g_acting : mg "acting" = some (.ref (a_acting K))
  f_check_letter : FD K "check_letter" "check_letter" s_check_letter (a_check_letter K)
  g_check_letter : mg "check_letter" = some (.ref (a_check_letter K))
  f_way_through : FD K "way_through" "way_through" s_way_through (a_way_through K)
  g_way_through : mg "way_through" = some (.ref (a_way_through K))
  f_Way_init : FD K "__init__" "Way.__init__" s_Way_init (a_Way_init K)
  f_Way_outcome : FD K "outcome" "Way.outcome" s_Way_outcome (a_Way_outcome K)
  m_Way_outcome : Meth K (C_Way K) "outcome" (a_Way_outcome K)
  f_Way_act : FD K "act" "Way.act" s_Way_act (a_Way_act K)
  m_Way_act : Meth K (C_Way K) "act" (a_Way_act K)
  f_Way_holds : FD K "holds" "Way.holds" s_Way_holds (a_Way_holds K)
  m_Way_holds : Meth K (C_Way K) "holds" (a_Way_holds K)
  f_Way_fact_holds : FD K "fact_holds" "Way.fact_holds" s_Way_fact_holds (a_Way_fact_holds K)
  m_Way_fact_holds : Meth K (C_Way K) "fact_holds" (a_Way_fact_holds K)
  f_Way_has_pair : FD K "has_pair" "Way.has_pair" s_Way_has_pair (a_Way_has_pair K)
  m_Way_has_pair : Meth K (C_Way K) "has_pair" (a_Way_has_pair K)
  f_ring : FD K "ring" "ring" s_ring (a_ring K)
  g_ring : mg "ring" = some (.ref (a_ring K))
  f_is_house : FD K "is_house" "is_house" s_is_house (a_is_house K)
  g_is_house : mg "is_house" = some (.ref (a_is_house K))
  f_read_house : FD K "read_house" "read_house" s_read_house (a_read_house K)
  g_read_house : mg "read_house" = some (.ref (a_read_house K))
  f_all_rules : FD K "all_rules" "all_rules" s_all_rules (a_all_rules K)
  g_all_rules : mg "all_rules" = some (.ref (a_all_rules K))
  f_House_init : FD K "__init__" "House.__init__" s_House_init (a_House_init K)
  f_House_deliver : FD K "deliver" "House.deliver" s_House_deliver (a_House_deliver K)
  m_House_deliver : Meth K (C_House K) "deliver" (a_House_deliver K)
  f_House_sort_at : FD K "sort_at" "House.sort_at" s_House_sort_at (a_House_sort_at K)
  m_House_sort_at : Meth K (C_House K) "sort_at" (a_House_sort_at K)
  f_House_way : FD K "way" "House.way" s_House_way (a_House_way K)
  m_House_way : Meth K (C_House K) "way" (a_House_way K)
  f_House_filed : FD K "filed" "House.filed" s_House_filed (a_House_filed K)
  m_House_filed : Meth K (C_House K) "filed" (a_House_filed K)
  f_House_outside : FD K "outside" "House.outside" s_House_outside (a_House_outside K)
  m_House_outside : Meth K (C_House K) "outside" (a_House_outside K)
  f_House_teach : FD K "teach" "House.teach" s_House_teach (a_House_teach K)
  m_House_teach : Meth K (C_House K) "teach" (a_House_teach K)
  f_House_rules : FD K "rules" "House.rules" s_House_rules (a_House_rules K)
  m_House_rules : Meth K (C_House K) "rules" (a_House_rules K)
  f_House_check_person : FD K "check_person" "House.check_person" s_House_check_person (a_House_check_person K)
  m_House_check_person : Meth K (C_House K) "check_person" (a_House_check_person K)
  f_reaching : FD K "reaching" "reaching" s_reaching (a_reaching K)
  g_reaching : mg "reaching" = some (.ref (a_reaching K))
  f_law_draw : FD K "_law_draw" "_law_draw" s_law_draw (a_law_draw K)
  g_law_draw : mg "_law_draw" = some (.ref (a_law_draw K))
  f_law_cell_at : FD K "_law_cell_at" "_law_cell_at" s_law_cell_at (a_law_cell_at K)
  g_law_cell_at : mg "_law_cell_at" = some (.ref (a_law_cell_at K))
  f_law_digits : FD K "_law_digits" "_law_digits" s_law_digits (a_law_digits K)
  g_law_digits : mg "_law_digits" = some (.ref (a_law_digits K))
  f_law_kinds : FD K "_law_kinds" "_law_kinds" s_law_kinds (a_law_kinds K)
  g_law_kinds : mg "_law_kinds" = some (.ref (a_law_kinds K))
  f_law_is : FD K "_law_is" "_law_is" s_law_is (a_law_is K)
  g_law_is : mg "_law_is" = some (.ref (a_law_is K))
  f_law_letters_right : FD K "_law_letters_right" "_law_letters_right" s_law_letters_right (a_law_letters_right K)
  g_law_letters_right : mg "_law_letters_right" = some (.ref (a_law_letters_right K))
  f_law_names_right : FD K "_law_names_right" "_law_names_right" s_law_names_right (a_law_names_right K)
  g_law_names_right : mg "_law_names_right" = some (.ref (a_law_names_right K))
  f_law_houses_right : FD K "_law_houses_right" "_law_houses_right" s_law_houses_right (a_law_houses_right K)
  g_law_houses_right : mg "_law_houses_right" = some (.ref (a_law_houses_right K))
  f_law : FD K "law" "law" s_law (a_law K)
  g_law : mg "law" = some (.ref (a_law K))
  c_Rule : Cls K (C_Rule K)
  mk_Rule : Mk K (C_Rule K) (a_Rule_init K)
  g_Rule : mg "Rule" = some (.ref (C_Rule K))
  n_Rule_words : NoAttr K (C_Rule K) "words"
  n_Rule_condition : NoAttr K (C_Rule K) "condition"
  n_Rule_deeds : NoAttr K (C_Rule K) "deeds"
  c_Reader : Cls K (C_Reader K)
  mk_Reader : Mk K (C_Reader K) (a_Reader_init K)
  g_Reader : mg "Reader" = some (.ref (C_Reader K))
  n_Reader_words : NoAttr K (C_Reader K) "words"
  n_Reader_row : NoAttr K (C_Reader K) "row"
  n_Reader_at : NoAttr K (C_Reader K) "at"
  c_Way : Cls K (C_Way K)
  mk_Way : Mk K (C_Way K) (a_Way_init K)
  g_Way : mg "Way" = some (.ref (C_Way K))
  n_Way_words : NoAttr K (C_Way K) "words"
  n_Way_marks : NoAttr K (C_Way K) "marks"
  n_Way_folders : NoAttr K (C_Way K) "folders"
  n_Way_receivers : NoAttr K (C_Way K) "receivers"
  n_Way_acts : NoAttr K (C_Way K) "acts"
  n_Way_stopped : NoAttr K (C_Way K) "stopped"
  n_Way_sender : NoAttr K (C_Way K) "sender"
  n_Way_size : NoAttr K (C_Way K) "size"
  c_House : Cls K (C_House K)
  mk_House : Mk K (C_House K) (a_House_init K)
  g_House : mg "House" = some (.ref (C_House K))
  n_House_people : NoAttr K (C_House K) "people"
  n_House_texts : NoAttr K (C_House K) "texts"
  n_House_ways : NoAttr K (C_House K) "ways"
  n_House_filings : NoAttr K (C_House K) "filings"
  n_House_sent : NoAttr K (C_House K) "sent"
  g_SortError : mg "SortError" = some (.ref (C_SortError K))
  g_BadRule : mg "BadRule" = some (.ref (C_BadRule K))
  g_BadText : mg "BadText" = some (.ref (C_BadText K))
  g_BadLetter : mg "BadLetter" = some (.ref (C_BadLetter K))
  g_BadName : mg "BadName" = some (.ref (C_BadName K))
  g_BadHouse : mg "BadHouse" = some (.ref (C_BadHouse K))
  g_TooMany : mg "TooMany" = some (.ref (C_TooMany K))
  g_NoLetter : mg "NoLetter" = some (.ref (C_NoLetter K))
  z_all : mg "all" = none
  z_isinstance : mg "isinstance" = none
  z_str : mg "str" = none
  z_len : mg "len" = none
  z_bool : mg "bool" = none
  z_int : mg "int" = none
  z_tuple : mg "tuple" = none
  z_list : mg "list" = none
  z_sorted : mg "sorted" = none
  z_min : mg "min" = none
  z_range : mg "range" = none
  z_enumerate : mg "enumerate" = none
  z_any : mg "any" = none
  z_dict : mg "dict" = none
  z_abs : mg "abs" = none
  z_sum : mg "sum" = none
  z_ValueError : mg "ValueError" = none
  i_NONE : ∃ t, mg "NONE" = some (.int 0 t)
  i_ALL : ∃ t, mg "ALL" = some (.int 1 t)
  i_SIGNS : ∃ t, mg "SIGNS" = some (.str ("abcdefghijklmnopqrstuvwxyz" : Str) t)
  i_LONGEST_NAME : ∃ t, mg "LONGEST_NAME" = some (.int 10 t)
  i_BIGGEST_SIZE : ∃ t, mg "BIGGEST_SIZE" = some (.int 99999 t)
  i_MOST_WORDS : ∃ t, mg "MOST_WORDS" = some (.int 60 t)
  i_MOST_NAMES : ∃ t, mg "MOST_NAMES" = some (.int 4 t)
  i_LONGEST_NUMBER : ∃ t, mg "LONGEST_NUMBER" = some (.int 5 t)
  i_DIGITS : ∃ t, mg "DIGITS" = some (.str ("0123456789" : Str) t)
  g_FACTS : mg "FACTS" = some (.ref (He.ga K "FACTS"))
  g_DEEDS : mg "DEEDS" = some (.ref (He.ga K "DEEDS"))
  g_WORD_FACTS : mg "WORD_FACTS" = some (.ref (He.ga K "WORD_FACTS"))
  g_TOLD : mg "TOLD" = some (.ref (He.ga K "TOLD"))
  i_FOLDERS : ∃ t, mg "FOLDERS" = some (.int 0 t)
  i_RECEIVERS : ∃ t, mg "RECEIVERS" = some (.int 1 t)
  i_MOST_PEOPLE : ∃ t, mg "MOST_PEOPLE" = some (.int 5 t)
  t_FACTS : ∃ es n, KDict K w (He.ga K "FACTS") es n
  v_FACTS : ∀ q ∈ ([("from", 1), ("has", 1), ("first", 1), ("last", 1), ("pair", 2), ("marked", 1)] : List (Str × Int)), ∃ u, PySem.W.nsIn K (He.ga K "FACTS") q.1 = some (some u) ∧ RelV (.int q.2) u
  t_DEEDS : ∀ H, SqT K H (He.ga K "DEEDS") [.str "mark", .str "unmark", .str "file", .str "pass"]
  n_FACTS : PySem.W.nsIn K (He.ga K "FACTS") "" = some none
  t_WORD_FACTS : ∀ H, SqT K H (He.ga K "WORD_FACTS") [.str "has", .str "first", .str "last", .str "pair"]
  t_is_name : TabB base mg (cc_is_name K) (tb_is_name K)
  t_is_letter : TabB base mg (cc_is_letter K) (tb_is_letter K)
  t_is_number : TabB base mg (cc_is_number K) (tb_is_number K)
  t_Way_holds : TabB base mg (cc_Way_holds K) (tb_Way_holds K)
  t_is_house : TabB base mg (cc_is_house K) (tb_is_house K)
  t_law_letters_right : TabB base mg (cc_law_letters_right K) (tb_law_letters_right K)
  t_law_names_right : TabB base mg (cc_law_names_right K) (tb_law_names_right K)
  t_law_houses_right : TabB base mg (cc_law_houses_right K) (tb_law_houses_right K)
  exc : ExcT K
  bad : BrT K
  z_super : mg "super" = none
/-! ### a def as FnR -/
section
variable {P : Program} {w : World} {K : PySem.W.Frag} {mg : Str → Option Value} {base : Heap}
theorem mkR {x qual : Str} {st : Stmt} {N ps : List Str} {k : Nat} {sp : Sp} {f : Addr} (F : FD K x qual st f) (S : FnScope N ps (defScope st))
    (hb : ∀ (kV doc pm : Value) (an : Option Addr) (cdv ct : Value) (us : List Value), us.length = ps.length → bindArgs (PySem.W.fnOf x qual (defArgs st) (defBody st) (defScope st) .none kV doc pm an cdv ct) ⟨us, []⟩ = pure (ps.zip us))
    (len : ∀ vs H Q E, sp vs H Q E → vs.length = ps.length)
    (hbody : ∀ (cdv : Value) (A : Around) (outer : List Env) (s : Shared) (H : Hp) (vs : List V) (Q : VK) (E : XK), Room k (A.deeper (envOfC qual (defScope st) s.heap.objs.size f cdv)) → sp vs H Q E →
      ∃ t, PSs (cxOf CX0 P w K mg base N qual (defScope st) f cdv A outer s H E) (defBody st) t ∧ t { nx := fun _ H' => Q .non H', rt := Q } (start N vs) H) : FnR P w K mg base CX0 (k + 1) f sp := by
  obtain ⟨fd, F⟩ := F
  have ok : FnOk P w K mg base CX0 (k + 1) f fd ps sp := F.ok S len hbody
  have b : Binds K fd ps [] := F.bindsN hb
  exact (ok.raw b .nil).imp fun vs H Q E h => by rw [List.append_nil]; exact h
theorem mkRC {x qual : Str} {st : Stmt} {N ps : List Str} {k : Nat} {sp : Sp} {f : Addr} {p : Str × Option Str} (hp : He.fAd K p = f) (F : FD K x qual st f) (S : FnScope N ps (defScope st))
    (hb : ∀ (kV doc pm : Value) (an : Option Addr) (cdv ct : Value) (us : List Value), us.length = ps.length → bindArgs (PySem.W.fnOf x qual (defArgs st) (defBody st) (defScope st) .none kV doc pm an cdv ct) ⟨us, []⟩ = pure (ps.zip us))
    (len : ∀ vs H Q E, sp vs H Q E → vs.length = ps.length)
    (hbody : ∀ (A : Around) (outer : List Env) (s : Shared) (H : Hp) (vs : List V) (Q : VK) (E : XK), Room k (A.deeper (envOfC qual (defScope st) s.heap.objs.size f (.ref (He.codeOf K p)))) → sp vs H Q E →
      ∃ t, PSs (cxOf CX0 P w K mg base N qual (defScope st) f (.ref (He.codeOf K p)) A outer s H E) (defBody st) t ∧ t { nx := fun _ H' => Q .non H', rt := Q } (start N vs) H) : FnR P w K mg base CX0 (k + 1) f sp := by
  obtain ⟨fd, F⟩ := F
  have b : Binds K fd ps [] := F.bindsN hb
  have ok : FnOk P w K mg base CX0 (k + 1) f fd ps sp := by
    obtain ⟨oc, od, dV, kV, doc, pm, an, cdv, ct, osl, rfl, lk, hcd, _, _⟩ := F.ex
    obtain ⟨c, rfl⟩ := He.codeIn_ref hcd
    subst hp
    have e : He.codeOf K p = c := He.codeOf_eq lk rfl
    subst e
    exact fn_of lk hcd S len hbody
  exact (ok.raw b .nil).imp fun vs H Q E h => by rw [List.append_nil]; exact h
end


theorem bd_is_name (kV doc pm : Value) (an : Option Addr) (cdv ct : Value) (us : List Value) (hl : us.length = (["thing"] : List Str).length) : bindArgs (PySem.W.fnOf "is_name" "is_name" (defArgs s_is_name) (defBody s_is_name) (defScope s_is_name) .none kV doc pm an cdv ct) ⟨us, []⟩ = pure ((["thing"] : List Str).zip us) := match us, hl with | [_], _ => rfl
theorem bd_is_size (kV doc pm : Value) (an : Option Addr) (cdv ct : Value) (us : List Value) (hl : us.length = (["thing"] : List Str).length) : bindArgs (PySem.W.fnOf "is_size" "is_size" (defArgs s_is_size) (defBody s_is_size) (defScope s_is_size) .none kV doc pm an cdv ct) ⟨us, []⟩ = pure ((["thing"] : List Str).zip us) := match us, hl with | [_], _ => rfl
theorem bd_is_letter (kV doc pm : Value) (an : Option Addr) (cdv ct : Value) (us : List Value) (hl : us.length = (["thing"] : List Str).length) : bindArgs (PySem.W.fnOf "is_letter" "is_letter" (defArgs s_is_letter) (defBody s_is_letter) (defScope s_is_letter) .none kV doc pm an cdv ct) ⟨us, []⟩ = pure ((["thing"] : List Str).zip us) := match us, hl with | [_], _ => rfl
theorem bd_name_key (kV doc pm : Value) (an : Option Addr) (cdv ct : Value) (us : List Value) (hl : us.length = (["name"] : List Str).length) : bindArgs (PySem.W.fnOf "name_key" "name_key" (defArgs s_name_key) (defBody s_name_key) (defScope s_name_key) .none kV doc pm an cdv ct) ⟨us, []⟩ = pure ((["name"] : List Str).zip us) := match us, hl with | [_], _ => rfl
theorem bd_in_order (kV doc pm : Value) (an : Option Addr) (cdv ct : Value) (us : List Value) (hl : us.length = (["names"] : List Str).length) : bindArgs (PySem.W.fnOf "in_order" "in_order" (defArgs s_in_order) (defBody s_in_order) (defScope s_in_order) .none kV doc pm an cdv ct) ⟨us, []⟩ = pure ((["names"] : List Str).zip us) := match us, hl with | [_], _ => rfl
theorem bd_Rule_init (kV doc pm : Value) (an : Option Addr) (cdv ct : Value) (us : List Value) (hl : us.length = (["self", "words", "condition", "deeds"] : List Str).length) : bindArgs (PySem.W.fnOf "__init__" "Rule.__init__" (defArgs s_Rule_init) (defBody s_Rule_init) (defScope s_Rule_init) .none kV doc pm an cdv ct) ⟨us, []⟩ = pure ((["self", "words", "condition", "deeds"] : List Str).zip us) := match us, hl with | [_, _, _, _], _ => rfl
theorem bd_Reader_init (kV doc pm : Value) (an : Option Addr) (cdv ct : Value) (us : List Value) (hl : us.length = (["self", "words", "row"] : List Str).length) : bindArgs (PySem.W.fnOf "__init__" "Reader.__init__" (defArgs s_Reader_init) (defBody s_Reader_init) (defScope s_Reader_init) .none kV doc pm an cdv ct) ⟨us, []⟩ = pure ((["self", "words", "row"] : List Str).zip us) := match us, hl with | [_, _, _], _ => rfl
theorem bd_Reader_fail (kV doc pm : Value) (an : Option Addr) (cdv ct : Value) (us : List Value) (hl : us.length = (["self"] : List Str).length) : bindArgs (PySem.W.fnOf "fail" "Reader.fail" (defArgs s_Reader_fail) (defBody s_Reader_fail) (defScope s_Reader_fail) .none kV doc pm an cdv ct) ⟨us, []⟩ = pure ((["self"] : List Str).zip us) := match us, hl with | [_], _ => rfl
theorem bd_Reader_peek (kV doc pm : Value) (an : Option Addr) (cdv ct : Value) (us : List Value) (hl : us.length = (["self"] : List Str).length) : bindArgs (PySem.W.fnOf "peek" "Reader.peek" (defArgs s_Reader_peek) (defBody s_Reader_peek) (defScope s_Reader_peek) .none kV doc pm an cdv ct) ⟨us, []⟩ = pure ((["self"] : List Str).zip us) := match us, hl with | [_], _ => rfl
theorem bd_Reader_take (kV doc pm : Value) (an : Option Addr) (cdv ct : Value) (us : List Value) (hl : us.length = (["self", "word"] : List Str).length) : bindArgs (PySem.W.fnOf "take" "Reader.take" (defArgs s_Reader_take) (defBody s_Reader_take) (defScope s_Reader_take) .none kV doc pm an cdv ct) ⟨us, []⟩ = pure ((["self", "word"] : List Str).zip us) := match us, hl with | [_, _], _ => rfl
theorem bd_Reader_skip (kV doc pm : Value) (an : Option Addr) (cdv ct : Value) (us : List Value) (hl : us.length = (["self", "word"] : List Str).length) : bindArgs (PySem.W.fnOf "skip" "Reader.skip" (defArgs s_Reader_skip) (defBody s_Reader_skip) (defScope s_Reader_skip) .none kV doc pm an cdv ct) ⟨us, []⟩ = pure ((["self", "word"] : List Str).zip us) := match us, hl with | [_, _], _ => rfl
theorem bd_Reader_take_name (kV doc pm : Value) (an : Option Addr) (cdv ct : Value) (us : List Value) (hl : us.length = (["self"] : List Str).length) : bindArgs (PySem.W.fnOf "take_name" "Reader.take_name" (defArgs s_Reader_take_name) (defBody s_Reader_take_name) (defScope s_Reader_take_name) .none kV doc pm an cdv ct) ⟨us, []⟩ = pure ((["self"] : List Str).zip us) := match us, hl with | [_], _ => rfl
theorem bd_Reader_take_number (kV doc pm : Value) (an : Option Addr) (cdv ct : Value) (us : List Value) (hl : us.length = (["self"] : List Str).length) : bindArgs (PySem.W.fnOf "take_number" "Reader.take_number" (defArgs s_Reader_take_number) (defBody s_Reader_take_number) (defScope s_Reader_take_number) .none kV doc pm an cdv ct) ⟨us, []⟩ = pure ((["self"] : List Str).zip us) := match us, hl with | [_], _ => rfl
theorem bd_Reader_read_rule (kV doc pm : Value) (an : Option Addr) (cdv ct : Value) (us : List Value) (hl : us.length = (["self"] : List Str).length) : bindArgs (PySem.W.fnOf "read_rule" "Reader.read_rule" (defArgs s_Reader_read_rule) (defBody s_Reader_read_rule) (defScope s_Reader_read_rule) .none kV doc pm an cdv ct) ⟨us, []⟩ = pure ((["self"] : List Str).zip us) := match us, hl with | [_], _ => rfl
theorem bd_Reader_read_condition (kV doc pm : Value) (an : Option Addr) (cdv ct : Value) (us : List Value) (hl : us.length = (["self"] : List Str).length) : bindArgs (PySem.W.fnOf "read_condition" "Reader.read_condition" (defArgs s_Reader_read_condition) (defBody s_Reader_read_condition) (defScope s_Reader_read_condition) .none kV doc pm an cdv ct) ⟨us, []⟩ = pure ((["self"] : List Str).zip us) := match us, hl with | [_], _ => rfl
theorem bd_Reader_read_joined (kV doc pm : Value) (an : Option Addr) (cdv ct : Value) (us : List Value) (hl : us.length = (["self"] : List Str).length) : bindArgs (PySem.W.fnOf "read_joined" "Reader.read_joined" (defArgs s_Reader_read_joined) (defBody s_Reader_read_joined) (defScope s_Reader_read_joined) .none kV doc pm an cdv ct) ⟨us, []⟩ = pure ((["self"] : List Str).zip us) := match us, hl with | [_], _ => rfl
theorem bd_Reader_read_single (kV doc pm : Value) (an : Option Addr) (cdv ct : Value) (us : List Value) (hl : us.length = (["self"] : List Str).length) : bindArgs (PySem.W.fnOf "read_single" "Reader.read_single" (defArgs s_Reader_read_single) (defBody s_Reader_read_single) (defScope s_Reader_read_single) .none kV doc pm an cdv ct) ⟨us, []⟩ = pure ((["self"] : List Str).zip us) := match us, hl with | [_], _ => rfl
theorem bd_Reader_read_fact (kV doc pm : Value) (an : Option Addr) (cdv ct : Value) (us : List Value) (hl : us.length = (["self"] : List Str).length) : bindArgs (PySem.W.fnOf "read_fact" "Reader.read_fact" (defArgs s_Reader_read_fact) (defBody s_Reader_read_fact) (defScope s_Reader_read_fact) .none kV doc pm an cdv ct) ⟨us, []⟩ = pure ((["self"] : List Str).zip us) := match us, hl with | [_], _ => rfl
theorem bd_Reader_read_deed (kV doc pm : Value) (an : Option Addr) (cdv ct : Value) (us : List Value) (hl : us.length = (["self"] : List Str).length) : bindArgs (PySem.W.fnOf "read_deed" "Reader.read_deed" (defArgs s_Reader_read_deed) (defBody s_Reader_read_deed) (defScope s_Reader_read_deed) .none kV doc pm an cdv ct) ⟨us, []⟩ = pure ((["self"] : List Str).zip us) := match us, hl with | [_], _ => rfl
theorem bd_is_number (kV doc pm : Value) (an : Option Addr) (cdv ct : Value) (us : List Value) (hl : us.length = (["word"] : List Str).length) : bindArgs (PySem.W.fnOf "is_number" "is_number" (defArgs s_is_number) (defBody s_is_number) (defScope s_is_number) .none kV doc pm an cdv ct) ⟨us, []⟩ = pure ((["word"] : List Str).zip us) := match us, hl with | [_], _ => rfl
theorem bd_words_of (kV doc pm : Value) (an : Option Addr) (cdv ct : Value) (us : List Value) (hl : us.length = (["row"] : List Str).length) : bindArgs (PySem.W.fnOf "words_of" "words_of" (defArgs s_words_of) (defBody s_words_of) (defScope s_words_of) .none kV doc pm an cdv ct) ⟨us, []⟩ = pure ((["row"] : List Str).zip us) := match us, hl with | [_], _ => rfl
theorem bd_rule_of (kV doc pm : Value) (an : Option Addr) (cdv ct : Value) (us : List Value) (hl : us.length = (["words", "row"] : List Str).length) : bindArgs (PySem.W.fnOf "rule_of" "rule_of" (defArgs s_rule_of) (defBody s_rule_of) (defScope s_rule_of) .none kV doc pm an cdv ct) ⟨us, []⟩ = pure ((["words", "row"] : List Str).zip us) := match us, hl with | [_, _], _ => rfl
theorem bd_read (kV doc pm : Value) (an : Option Addr) (cdv ct : Value) (us : List Value) (hl : us.length = (["text"] : List Str).length) : bindArgs (PySem.W.fnOf "read" "read" (defArgs s_read) (defBody s_read) (defScope s_read) .none kV doc pm an cdv ct) ⟨us, []⟩ = pure ((["text"] : List Str).zip us) := match us, hl with | [_], _ => rfl
theorem bd_check_names (kV doc pm : Value) (an : Option Addr) (cdv ct : Value) (us : List Value) (hl : us.length = (["rules"] : List Str).length) : bindArgs (PySem.W.fnOf "check_names" "check_names" (defArgs s_check_names) (defBody s_check_names) (defScope s_check_names) .none kV doc pm an cdv ct) ⟨us, []⟩ = pure ((["rules"] : List Str).zip us) := match us, hl with | [_], _ => rfl
theorem bd_word_names (kV doc pm : Value) (an : Option Addr) (cdv ct : Value) (us : List Value) (hl : us.length = (["rules"] : List Str).length) : bindArgs (PySem.W.fnOf "word_names" "word_names" (defArgs s_word_names) (defBody s_word_names) (defScope s_word_names) .none kV doc pm an cdv ct) ⟨us, []⟩ = pure ((["rules"] : List Str).zip us) := match us, hl with | [_], _ => rfl
theorem bd_facts_of (kV doc pm : Value) (an : Option Addr) (cdv ct : Value) (us : List Value) (hl : us.length = (["rules"] : List Str).length) : bindArgs (PySem.W.fnOf "facts_of" "facts_of" (defArgs s_facts_of) (defBody s_facts_of) (defScope s_facts_of) .none kV doc pm an cdv ct) ⟨us, []⟩ = pure ((["rules"] : List Str).zip us) := match us, hl with | [_], _ => rfl
theorem bd_add_facts (kV doc pm : Value) (an : Option Addr) (cdv ct : Value) (us : List Value) (hl : us.length = (["condition", "found"] : List Str).length) : bindArgs (PySem.W.fnOf "add_facts" "add_facts" (defArgs s_add_facts) (defBody s_add_facts) (defScope s_add_facts) .none kV doc pm an cdv ct) ⟨us, []⟩ = pure ((["condition", "found"] : List Str).zip us) := match us, hl with | [_, _], _ => rfl
theorem bd_sort (kV doc pm : Value) (an : Option Addr) (cdv ct : Value) (us : List Value) (hl : us.length = (["rules", "letter"] : List Str).length) : bindArgs (PySem.W.fnOf "sort" "sort" (defArgs s_sort) (defBody s_sort) (defScope s_sort) .none kV doc pm an cdv ct) ⟨us, []⟩ = pure ((["rules", "letter"] : List Str).zip us) := match us, hl with | [_, _], _ => rfl
theorem bd_acting (kV doc pm : Value) (an : Option Addr) (cdv ct : Value) (us : List Value) (hl : us.length = (["rules", "letter"] : List Str).length) : bindArgs (PySem.W.fnOf "acting" "acting" (defArgs s_acting) (defBody s_acting) (defScope s_acting) .none kV doc pm an cdv ct) ⟨us, []⟩ = pure ((["rules", "letter"] : List Str).zip us) := match us, hl with | [_, _], _ => rfl
theorem bd_check_letter (kV doc pm : Value) (an : Option Addr) (cdv ct : Value) (us : List Value) (hl : us.length = (["letter"] : List Str).length) : bindArgs (PySem.W.fnOf "check_letter" "check_letter" (defArgs s_check_letter) (defBody s_check_letter) (defScope s_check_letter) .none kV doc pm an cdv ct) ⟨us, []⟩ = pure ((["letter"] : List Str).zip us) := match us, hl with | [_], _ => rfl
theorem bd_way_through (kV doc pm : Value) (an : Option Addr) (cdv ct : Value) (us : List Value) (hl : us.length = (["rules", "letter"] : List Str).length) : bindArgs (PySem.W.fnOf "way_through" "way_through" (defArgs s_way_through) (defBody s_way_through) (defScope s_way_through) .none kV doc pm an cdv ct) ⟨us, []⟩ = pure ((["rules", "letter"] : List Str).zip us) := match us, hl with | [_, _], _ => rfl
theorem bd_Way_init (kV doc pm : Value) (an : Option Addr) (cdv ct : Value) (us : List Value) (hl : us.length = (["self", "letter"] : List Str).length) : bindArgs (PySem.W.fnOf "__init__" "Way.__init__" (defArgs s_Way_init) (defBody s_Way_init) (defScope s_Way_init) .none kV doc pm an cdv ct) ⟨us, []⟩ = pure ((["self", "letter"] : List Str).zip us) := match us, hl with | [_, _], _ => rfl
theorem bd_Way_outcome (kV doc pm : Value) (an : Option Addr) (cdv ct : Value) (us : List Value) (hl : us.length = (["self"] : List Str).length) : bindArgs (PySem.W.fnOf "outcome" "Way.outcome" (defArgs s_Way_outcome) (defBody s_Way_outcome) (defScope s_Way_outcome) .none kV doc pm an cdv ct) ⟨us, []⟩ = pure ((["self"] : List Str).zip us) := match us, hl with | [_], _ => rfl
theorem bd_Way_act (kV doc pm : Value) (an : Option Addr) (cdv ct : Value) (us : List Value) (hl : us.length = (["self", "number", "deeds"] : List Str).length) : bindArgs (PySem.W.fnOf "act" "Way.act" (defArgs s_Way_act) (defBody s_Way_act) (defScope s_Way_act) .none kV doc pm an cdv ct) ⟨us, []⟩ = pure ((["self", "number", "deeds"] : List Str).zip us) := match us, hl with | [_, _, _], _ => rfl
theorem bd_Way_holds (kV doc pm : Value) (an : Option Addr) (cdv ct : Value) (us : List Value) (hl : us.length = (["self", "condition"] : List Str).length) : bindArgs (PySem.W.fnOf "holds" "Way.holds" (defArgs s_Way_holds) (defBody s_Way_holds) (defScope s_Way_holds) .none kV doc pm an cdv ct) ⟨us, []⟩ = pure ((["self", "condition"] : List Str).zip us) := match us, hl with | [_, _], _ => rfl
theorem bd_Way_fact_holds (kV doc pm : Value) (an : Option Addr) (cdv ct : Value) (us : List Value) (hl : us.length = (["self", "kind", "worth", "fact"] : List Str).length) : bindArgs (PySem.W.fnOf "fact_holds" "Way.fact_holds" (defArgs s_Way_fact_holds) (defBody s_Way_fact_holds) (defScope s_Way_fact_holds) .none kV doc pm an cdv ct) ⟨us, []⟩ = pure ((["self", "kind", "worth", "fact"] : List Str).zip us) := match us, hl with | [_, _, _, _], _ => rfl
theorem bd_Way_has_pair (kV doc pm : Value) (an : Option Addr) (cdv ct : Value) (us : List Value) (hl : us.length = (["self", "one", "other"] : List Str).length) : bindArgs (PySem.W.fnOf "has_pair" "Way.has_pair" (defArgs s_Way_has_pair) (defBody s_Way_has_pair) (defScope s_Way_has_pair) .none kV doc pm an cdv ct) ⟨us, []⟩ = pure ((["self", "one", "other"] : List Str).zip us) := match us, hl with | [_, _, _], _ => rfl
theorem bd_ring (kV doc pm : Value) (an : Option Addr) (cdv ct : Value) (us : List Value) (hl : us.length = (["house", "name"] : List Str).length) : bindArgs (PySem.W.fnOf "ring" "ring" (defArgs s_ring) (defBody s_ring) (defScope s_ring) .none kV doc pm an cdv ct) ⟨us, []⟩ = pure ((["house", "name"] : List Str).zip us) := match us, hl with | [_, _], _ => rfl
theorem bd_is_house (kV doc pm : Value) (an : Option Addr) (cdv ct : Value) (us : List Value) (hl : us.length = (["thing"] : List Str).length) : bindArgs (PySem.W.fnOf "is_house" "is_house" (defArgs s_is_house) (defBody s_is_house) (defScope s_is_house) .none kV doc pm an cdv ct) ⟨us, []⟩ = pure ((["thing"] : List Str).zip us) := match us, hl with | [_], _ => rfl
theorem bd_read_house (kV doc pm : Value) (an : Option Addr) (cdv ct : Value) (us : List Value) (hl : us.length = (["house"] : List Str).length) : bindArgs (PySem.W.fnOf "read_house" "read_house" (defArgs s_read_house) (defBody s_read_house) (defScope s_read_house) .none kV doc pm an cdv ct) ⟨us, []⟩ = pure ((["house"] : List Str).zip us) := match us, hl with | [_], _ => rfl
theorem bd_all_rules (kV doc pm : Value) (an : Option Addr) (cdv ct : Value) (us : List Value) (hl : us.length = (["people"] : List Str).length) : bindArgs (PySem.W.fnOf "all_rules" "all_rules" (defArgs s_all_rules) (defBody s_all_rules) (defScope s_all_rules) .none kV doc pm an cdv ct) ⟨us, []⟩ = pure ((["people"] : List Str).zip us) := match us, hl with | [_], _ => rfl
theorem bd_House_init (kV doc pm : Value) (an : Option Addr) (cdv ct : Value) (us : List Value) (hl : us.length = (["self", "house"] : List Str).length) : bindArgs (PySem.W.fnOf "__init__" "House.__init__" (defArgs s_House_init) (defBody s_House_init) (defScope s_House_init) .none kV doc pm an cdv ct) ⟨us, []⟩ = pure ((["self", "house"] : List Str).zip us) := match us, hl with | [_, _], _ => rfl
theorem bd_House_deliver (kV doc pm : Value) (an : Option Addr) (cdv ct : Value) (us : List Value) (hl : us.length = (["self", "name", "letter"] : List Str).length) : bindArgs (PySem.W.fnOf "deliver" "House.deliver" (defArgs s_House_deliver) (defBody s_House_deliver) (defScope s_House_deliver) .none kV doc pm an cdv ct) ⟨us, []⟩ = pure ((["self", "name", "letter"] : List Str).zip us) := match us, hl with | [_, _, _], _ => rfl
theorem bd_House_sort_at (kV doc pm : Value) (an : Option Addr) (cdv ct : Value) (us : List Value) (hl : us.length = (["self", "name", "letter", "number"] : List Str).length) : bindArgs (PySem.W.fnOf "sort_at" "House.sort_at" (defArgs s_House_sort_at) (defBody s_House_sort_at) (defScope s_House_sort_at) .none kV doc pm an cdv ct) ⟨us, []⟩ = pure ((["self", "name", "letter", "number"] : List Str).zip us) := match us, hl with | [_, _, _, _], _ => rfl
theorem bd_House_way (kV doc pm : Value) (an : Option Addr) (cdv ct : Value) (us : List Value) (hl : us.length = (["self", "number"] : List Str).length) : bindArgs (PySem.W.fnOf "way" "House.way" (defArgs s_House_way) (defBody s_House_way) (defScope s_House_way) .none kV doc pm an cdv ct) ⟨us, []⟩ = pure ((["self", "number"] : List Str).zip us) := match us, hl with | [_, _], _ => rfl
theorem bd_House_filed (kV doc pm : Value) (an : Option Addr) (cdv ct : Value) (us : List Value) (hl : us.length = (["self", "name", "folder"] : List Str).length) : bindArgs (PySem.W.fnOf "filed" "House.filed" (defArgs s_House_filed) (defBody s_House_filed) (defScope s_House_filed) .none kV doc pm an cdv ct) ⟨us, []⟩ = pure ((["self", "name", "folder"] : List Str).zip us) := match us, hl with | [_, _, _], _ => rfl
theorem bd_House_outside (kV doc pm : Value) (an : Option Addr) (cdv ct : Value) (us : List Value) (hl : us.length = (["self", "name"] : List Str).length) : bindArgs (PySem.W.fnOf "outside" "House.outside" (defArgs s_House_outside) (defBody s_House_outside) (defScope s_House_outside) .none kV doc pm an cdv ct) ⟨us, []⟩ = pure ((["self", "name"] : List Str).zip us) := match us, hl with | [_, _], _ => rfl
theorem bd_House_teach (kV doc pm : Value) (an : Option Addr) (cdv ct : Value) (us : List Value) (hl : us.length = (["self", "name", "rules"] : List Str).length) : bindArgs (PySem.W.fnOf "teach" "House.teach" (defArgs s_House_teach) (defBody s_House_teach) (defScope s_House_teach) .none kV doc pm an cdv ct) ⟨us, []⟩ = pure ((["self", "name", "rules"] : List Str).zip us) := match us, hl with | [_, _, _], _ => rfl
theorem bd_House_rules (kV doc pm : Value) (an : Option Addr) (cdv ct : Value) (us : List Value) (hl : us.length = (["self", "name"] : List Str).length) : bindArgs (PySem.W.fnOf "rules" "House.rules" (defArgs s_House_rules) (defBody s_House_rules) (defScope s_House_rules) .none kV doc pm an cdv ct) ⟨us, []⟩ = pure ((["self", "name"] : List Str).zip us) := match us, hl with | [_, _], _ => rfl
theorem bd_House_check_person (kV doc pm : Value) (an : Option Addr) (cdv ct : Value) (us : List Value) (hl : us.length = (["self", "name"] : List Str).length) : bindArgs (PySem.W.fnOf "check_person" "House.check_person" (defArgs s_House_check_person) (defBody s_House_check_person) (defScope s_House_check_person) .none kV doc pm an cdv ct) ⟨us, []⟩ = pure ((["self", "name"] : List Str).zip us) := match us, hl with | [_, _], _ => rfl
theorem bd_reaching (kV doc pm : Value) (an : Option Addr) (cdv ct : Value) (us : List Value) (hl : us.length = (["rules", "name"] : List Str).length) : bindArgs (PySem.W.fnOf "reaching" "reaching" (defArgs s_reaching) (defBody s_reaching) (defScope s_reaching) .none kV doc pm an cdv ct) ⟨us, []⟩ = pure ((["rules", "name"] : List Str).zip us) := match us, hl with | [_, _], _ => rfl
theorem bd_law_draw (kV doc pm : Value) (an : Option Addr) (cdv ct : Value) (us : List Value) (hl : us.length = (["_law_cell", "_law_k", "_law_many"] : List Str).length) : bindArgs (PySem.W.fnOf "_law_draw" "_law_draw" (defArgs s_law_draw) (defBody s_law_draw) (defScope s_law_draw) .none kV doc pm an cdv ct) ⟨us, []⟩ = pure ((["_law_cell", "_law_k", "_law_many"] : List Str).zip us) := match us, hl with | [_, _, _], _ => rfl
theorem bd_law_cell_at (kV doc pm : Value) (an : Option Addr) (cdv ct : Value) (us : List Value) (hl : us.length = (["_law_script", "_law_k"] : List Str).length) : bindArgs (PySem.W.fnOf "_law_cell_at" "_law_cell_at" (defArgs s_law_cell_at) (defBody s_law_cell_at) (defScope s_law_cell_at) .none kV doc pm an cdv ct) ⟨us, []⟩ = pure ((["_law_script", "_law_k"] : List Str).zip us) := match us, hl with | [_, _], _ => rfl
theorem bd_law_digits (kV doc pm : Value) (an : Option Addr) (cdv ct : Value) (us : List Value) (hl : us.length = (["_law_script", "_law_at", "_law_many", "_law_base"] : List Str).length) : bindArgs (PySem.W.fnOf "_law_digits" "_law_digits" (defArgs s_law_digits) (defBody s_law_digits) (defScope s_law_digits) .none kV doc pm an cdv ct) ⟨us, []⟩ = pure ((["_law_script", "_law_at", "_law_many", "_law_base"] : List Str).zip us) := match us, hl with | [_, _, _, _], _ => rfl
theorem bd_law_kinds (kV doc pm : Value) (an : Option Addr) (cdv ct : Value) (us : List Value) (hl : us.length = (["_law_ask"] : List Str).length) : bindArgs (PySem.W.fnOf "_law_kinds" "_law_kinds" (defArgs s_law_kinds) (defBody s_law_kinds) (defScope s_law_kinds) .none kV doc pm an cdv ct) ⟨us, []⟩ = pure ((["_law_ask"] : List Str).zip us) := match us, hl with | [_], _ => rfl
theorem bd_law_is (kV doc pm : Value) (an : Option Addr) (cdv ct : Value) (us : List Value) (hl : us.length = (["_law_ask", "_law_at"] : List Str).length) : bindArgs (PySem.W.fnOf "_law_is" "_law_is" (defArgs s_law_is) (defBody s_law_is) (defScope s_law_is) .none kV doc pm an cdv ct) ⟨us, []⟩ = pure ((["_law_ask", "_law_at"] : List Str).zip us) := match us, hl with | [_, _], _ => rfl
theorem bd_law_letters_right (kV doc pm : Value) (an : Option Addr) (cdv ct : Value) (us : List Value) (hl : us.length = (["_law_house", "_law_number"] : List Str).length) : bindArgs (PySem.W.fnOf "_law_letters_right" "_law_letters_right" (defArgs s_law_letters_right) (defBody s_law_letters_right) (defScope s_law_letters_right) .none kV doc pm an cdv ct) ⟨us, []⟩ = pure ((["_law_house", "_law_number"] : List Str).zip us) := match us, hl with | [_, _], _ => rfl
theorem bd_law_names_right (kV doc pm : Value) (an : Option Addr) (cdv ct : Value) (us : List Value) (hl : us.length = (["_law_house", "_law_number"] : List Str).length) : bindArgs (PySem.W.fnOf "_law_names_right" "_law_names_right" (defArgs s_law_names_right) (defBody s_law_names_right) (defScope s_law_names_right) .none kV doc pm an cdv ct) ⟨us, []⟩ = pure ((["_law_house", "_law_number"] : List Str).zip us) := match us, hl with | [_, _], _ => rfl
theorem bd_law_houses_right (kV doc pm : Value) (an : Option Addr) (cdv ct : Value) (us : List Value) (hl : us.length = ([] : List Str).length) : bindArgs (PySem.W.fnOf "_law_houses_right" "_law_houses_right" (defArgs s_law_houses_right) (defBody s_law_houses_right) (defScope s_law_houses_right) .none kV doc pm an cdv ct) ⟨us, []⟩ = pure (([] : List Str).zip us) := match us, hl with | [], _ => rfl
theorem bd_law (kV doc pm : Value) (an : Option Addr) (cdv ct : Value) (us : List Value) (hl : us.length = (["_law_script"] : List Str).length) : bindArgs (PySem.W.fnOf "law" "law" (defArgs s_law) (defBody s_law) (defScope s_law) .none kV doc pm an cdv ct) ⟨us, []⟩ = pure ((["_law_script"] : List Str).zip us) := match us, hl with | [_], _ => rfl
/-! ### calls of an FnR -/
section
variable {X : Cx} {k : Nat} {f C : Addr} {sp : Sp} {x m : Str} {e o : Expr} {es : List Expr} {ta : TE} {t : TA} {p pos apos : Pos}
def tCF (sp : Sp) (t : TA) : TE := fun σ H Q => t σ H fun vs H1 => sp vs H1 Q E0
theorem pe_cF (F : FnR X.prog X.w X.K X.mg X.base CX0 k f sp) (hr : Room k X.A) (hg : Gl X x) (hm : X.mg x = some (.ref f)) (hk : PySem.W.keepIn X.K (.ref f) = true)
    (ha : PA X (e :: es) t) (hdb : (x == ("__debug__" : Str)) = false := by decide) (he : starEach (e :: es) X.env = (false, eval e X.env) :: starEach es X.env := by rfl) (hpl : (backTo pos (starEach es X.env)).any (·.1) = false := by rfl) :
    PE X (.Call (.Name x p) (e :: es) [] pos) (tCF sp t) := by
  refine ⟨fun pins s σ H Q I h => ?_⟩
  refine wpAny_Call_Name_kw (ld_glob I hg hm ?_ hdb)
  refine PySem.W.callWith_K (h₀ := X.base) I.ok.mod.kin hk (thn (ha.run pos pins s σ H _ I h) fun us s1 ⟨vs, H1, I1, r, q⟩ => ⟨I1.kIn, ?_⟩) he hpl
  exact wpAny_call (run_fnR (us := us) F hr pass0 I1 r q)
def tM0 (C : Addr) (m : Str) (sp : Sp) (ta : TE) : TE := fun σ H Q => ta σ H fun x H1 => ∃ a dx fs, x = .ref a ∧ H1 a = some (.ins C dx fs) ∧ fs.lookup m = none ∧ sp [x] H1 Q E0
theorem pe_m0F {pl : Sem Bool} (he : PE X o ta) (c : Cls X.K C) (hm : Meth X.K C m f) (F : FnR X.prog X.w X.K X.mg X.base CX0 k f sp) (hr : Room k X.A)
    (ht : eval (.Call (.Attribute o m apos) [] [] pos) X.env = (do
      let ov ← eval o X.env
      standAt apos.atName
      let (f, first) ← holding [ov] (getMethod ov m pl)
      callWith pos f first (backTo pos (starEach [] X.env)) (backToKw pos (keywordEach [] X.env))) := by rfl) :
    PE X (.Call (.Attribute o m apos) [] [] pos) (tM0 C m sp ta) := by
  refine ⟨fun pins s σ H Q I h => ?_⟩
  refine PySem.W.methodCall_KW (pl := pl) (thn (he.run pins s σ H _ I h) fun u s1 ⟨x, H1, I1, rx, a, dx, fs, ex, ea, l, q⟩ => ?_) ht
  subst ex
  obtain rfl : u = Value.ref a := rx
  refine getmeth_ok I1 ea c hm l ?_
  exact PySem.W.callWith_K0 (first := [.ref a]) I1.kIn hm.kp (wpAny_call (run_fnR (us := [.ref a]) (vs := [.ref a]) F hr pass0 I1 (.cons rfl .nil) q))
end
/-! ### frames -/
/-- a table, or a thing known by what is true of its one object -/
inductive IsTE : HO → Prop where
  | tbl (ps : Array Value) : IsTE (.tbl ps)
  | ext (φ : Heap → Prop) : IsTE (.ext φ)
def NT (o : HO) : Prop := ∀ _ : Unit, ¬ IsTE o
/-- the tables of generators and of lambdas -/
structure Tb (K : PySem.W.Frag) (H : Hp) : Prop where
  gen : ∀ p ∈ tabs K, TabG H p
  dj : (∀ p ∈ tabs K, ∀ q ∈ ltabs K, p ≠ q.1) ∧ ∀ p ∈ ltabs K, ∀ q ∈ ltabs K, p.1 = q.1 → p.2 = q.2
  lam : LamX.Tabs (ltabs K) H
instance {K : PySem.W.Frag} {H : Hp} : CoeFun (Tb K H) (fun _ => ∀ p ∈ tabs K, TabG H p) := ⟨Tb.gen⟩
structure Fr (K : PySem.W.Frag) (E : List Addr) (H H' : Hp) : Prop where
  keep : ∀ p o, p ∉ E → H p = some o → NT o → H' p = some o
  tb : Tb K H'
  live : ∀ p, H' p = none → H p = none
  ext : ∀ p φ, H p = some (.ext φ) → H' p = some (.ext φ)
section
variable {K : PySem.W.Frag} {E E' : List Addr} {H H1 H2 : Hp} {a p : Addr} {o o' : HO}
/-- no table of either kind, no code object -/
def NotT (K : PySem.W.Frag) (H : Hp) (a : Addr) : Prop := ∀ o, H a = some o → NT o
theorem Tb.ne (_ : Tb K H) (h : H a = some o) (n : NT o) : NotT K H a := fun u e => by
  rw [h] at e
  cases e
  exact n
theorem Tb.ne0 (_ : Tb K H) (h : H a = none) : NotT K H a := fun u e => by
  rw [h] at e
  cases e
theorem NotT.tabs (t : Tb K H) (n : NotT K H a) : a ∉ tabs K := fun m => by
  obtain ⟨ps, e, _⟩ := t a m
  exact n _ e () (.tbl ps)
theorem Tb.upd (t : Tb K H) (h : NotT K H a) : Tb K (upd H a o) := by
  have ext : ∀ b φ, H b = some (.ext φ) → L2.upd H a o b = some (.ext φ) := fun b φ e => by
    rw [upd_ne (fun q => h _ (by rw [← q]; exact e) () (.ext φ))]; exact e
  refine ⟨fun p m => ?_, t.dj, fun p m => ?_⟩
  · obtain ⟨ps, e, z⟩ := t p m
    exact ⟨ps, by rw [upd_ne (fun q => h.tabs t (by rw [← q]; exact m))]; exact e, z⟩
  · obtain ⟨ps, h1, h2, h3⟩ := t.lam p m
    refine ⟨ps, by rw [upd_ne (fun q => h _ (by rw [← q]; exact h1) () (.tbl ps))]; exact h1, h2, fun pos cv hc => ?_⟩
    obtain ⟨c, e1, e2⟩ := h3 pos cv hc
    exact ⟨c, e1, ext _ _ e2⟩
theorem Fr.refl (t : Tb K H) : Fr K E H H := ⟨fun _ _ _ h _ => h, t, fun _ h => h, fun _ _ h => h⟩
theorem Fr.trans (a : Fr K E H H1) (b : Fr K E H1 H2) : Fr K E H H2 := ⟨fun p o n h z => b.1 p o n (a.1 p o n h z) z, b.2, fun p h => a.3 p (b.3 p h), fun p φ h => b.4 p φ (a.4 p φ h)⟩
theorem Fr.mono (a : Fr K E H H1) (s : ∀ x ∈ E, x ∈ E') : Fr K E' H H1 := ⟨fun p o n h z => a.1 p o (fun m => n (s p m)) h z, a.2, a.3, a.4⟩
theorem Fr.nil (a : Fr K [] H H1) : Fr K E H H1 := a.mono fun _ h => nomatch h
theorem upd_live (p : Addr) (h : upd H a o p = none) : H p = none := by
  by_cases e : p = a
  · rw [e, upd_same] at h; cases h
  · rw [upd_ne e] at h; exact h
theorem Fr.new (t : Tb K H) (h : H a = none) : Fr K E H (upd H a o) := ⟨fun p o n e _ => by rw [upd_ne (ne_of_none e h)]; exact e, t.upd (t.ne0 h), upd_live, fun p φ e => by rw [upd_ne (ne_of_none e h)]; exact e⟩
theorem Fr.put (t : Tb K H) (h : H a = some o) (nt : NT o) (m : a ∈ E) : Fr K E H (upd H a o') := ⟨fun p o n e _ => by rw [upd_ne (fun q => n (by rw [q]; exact m))]; exact e, t.upd (t.ne h nt), upd_live, fun p φ e => by rw [upd_ne (fun q => nt () (by rw [q] at e; rw [h] at e; cases e; exact .ext φ))]; exact e⟩
theorem Fr.at (f : Fr K E H H1) (h : H p = some o) (n : NT o := by intro _ z; cases z) (m : p ∉ E := by simp) : H1 p = some o := f.1 p o m h n
theorem Fr.drop (f : Fr K E H H1) (d : ∀ e ∈ E, H e = none) : Fr K [] H H1 := ⟨fun p o _ h z => f.1 p o (fun m => by rw [d p m] at h; cases h) h z, f.2, f.3, f.4⟩
theorem Fr.tab {P : Addr} (t : Tb K H) (h : Tabbed P H H1) (m : P ∈ tabs K) : Fr K E H H1 := by
  have nP : ∀ p o, H p = some o → (∀ ps, o ≠ .tbl ps) → p ≠ P := fun p o e n q => by
    subst q
    obtain ⟨ps, e2, _⟩ := t p m
    rw [e] at e2
    cases e2
    exact n ps rfl
  have ex : ∀ p φ, H p = some (.ext φ) → H1 p = some (.ext φ) := fun p φ e => by rw [h.2 p (nP p _ e (by intro _ z; cases z))]; exact e
  refine ⟨fun p o _ e n => ?_, ⟨fun q mq => ?_, t.dj, fun q mq => ?_⟩, fun p e => ?_, ex⟩
  · rw [h.2 p (nP p o e fun ps z => n () (by rw [z]; exact .tbl ps))]; exact e
  · by_cases hp : q = P
    · subst hp; exact h.1
    · obtain ⟨ps, e, z⟩ := t q mq
      exact ⟨ps, by rw [h.2 q hp]; exact e, z⟩
  · obtain ⟨ps, h1, h2, h3⟩ := t.lam q mq
    refine ⟨ps, by rw [h.2 q.1 (fun z => t.dj.1 P m q mq z.symm)]; exact h1, h2, fun pos cv hc => ?_⟩
    obtain ⟨c, e1, e2⟩ := h3 pos cv hc
    exact ⟨c, e1, ex _ _ e2⟩
  · by_cases hp : p = P
    · subst hp
      obtain ⟨ps, e', _⟩ := h.1
      rw [e'] at e; cases e
    · rw [h.2 p hp] at e; exact e
/-- what is excluded is no list and no tuple: instances -/
def InsAll (H : Hp) (E : List Addr) : Prop := ∀ e ∈ E, ∃ C dx fs, H e = some (.ins C dx fs)
theorem Fr.sqL {xs : List V} (f : Fr K E H H1) (h : SqL K H a xs) (d : a ∉ E) : SqL K H1 a xs := by
  rcases h with (h | ⟨o, h⟩) | h
  · exact .inl (.inl (f.1 _ _ d h (by intro _ z; cases z)))
  · exact .inl (.inr ⟨o, f.1 _ _ d h (by intro _ z; cases z)⟩)
  · exact .inr h
end
end So
end

section
set_option Elab.async false
set_option linter.all false
set_option maxRecDepth 100000
set_option maxHeartbeats 4000000
namespace So
open PySem PySem.Spec PyProof.Rows L2
open GxR (TabG Tabbed)
/-- the cell of __class__ in BadRule's own init -/
def brCell (K : PySem.W.Frag) : Addr := match K.lookup (a_BadRule_init K) with
  | some ⟨_, _, .func fd, _⟩ => (match fd.closure with
    | [(_, c)] => c
    | _ => 0)
  | _ => 0
def brClsB (K : PySem.W.Frag) : Bool := match K.lookup (C_BadRule K) with
  | some ⟨.type t, _, .cls cd, sl⟩ => (match cd.mro, sl.toList with
    | .ref c :: bm, [_, _, _, _, some (.builtin n), _] => c == C_BadRule K && (n == "ValueError.__new__" && (cd.hasDict && (!cd.hasDel && (PySem.HandSPX.refsVE bm && decide (t = "type")))))
    | _, _ => false)
  | _ => false
def isNon : Value → Bool
  | .none => true
  | _ => false
def brFnB (K : PySem.W.Frag) : Bool := match K.lookup (a_BadRule_init K) with
  | some ⟨_, _, .func fd, _⟩ => isNon fd.defaults && (isNon fd.kwdefaults && (PySem.W.codeIn K fd.code "BadRule.__init__" && ((match fd.code with
    | .ref cda => (match K.lookup cda with
      | some ⟨_, _, .fields vs, _⟩ => (match (vs[2]? : Option Value) with
        | some (.str file _) => (("/claim/cut.py" : String) : Str) == file
        | _ => false)
      | _ => false)
    | _ => false) && (match K.lookup (brCell K) with
    | some ⟨_, _, .cell (some (.ref c)), _⟩ => c == C_BadRule K
    | _ => false))))
  | _ => false
/-- what the top has written -/
structure Facts (w : World) (K : PySem.W.Frag) : Prop where
  y_is_name : d_is_name.ok K = true
  z_is_name : He.fnW K d_is_name.at_ = d_is_name.val
  g_is_name : (He.Fa.glo "is_name").ok K = true
  y_is_size : d_is_size.ok K = true
  z_is_size : He.fnW K d_is_size.at_ = d_is_size.val
  g_is_size : (He.Fa.glo "is_size").ok K = true
  y_is_letter : d_is_letter.ok K = true
  z_is_letter : He.fnW K d_is_letter.at_ = d_is_letter.val
  g_is_letter : (He.Fa.glo "is_letter").ok K = true
  y_name_key : d_name_key.ok K = true
  z_name_key : He.fnW K d_name_key.at_ = d_name_key.val
  g_name_key : (He.Fa.glo "name_key").ok K = true
  y_in_order : d_in_order.ok K = true
  z_in_order : He.fnW K d_in_order.at_ = d_in_order.val
  g_in_order : (He.Fa.glo "in_order").ok K = true
  y_Rule_init : d_Rule_init.ok K = true
  z_Rule_init : He.fnW K d_Rule_init.at_ = d_Rule_init.val
  y_Reader_init : d_Reader_init.ok K = true
  z_Reader_init : He.fnW K d_Reader_init.at_ = d_Reader_init.val
  y_Reader_fail : d_Reader_fail.ok K = true
  z_Reader_fail : He.fnW K d_Reader_fail.at_ = d_Reader_fail.val
  m_Reader_fail : (He.Fa.meth "Reader" "fail").ok K = true
  y_Reader_peek : d_Reader_peek.ok K = true
  z_Reader_peek : He.fnW K d_Reader_peek.at_ = d_Reader_peek.val
  m_Reader_peek : (He.Fa.meth "Reader" "peek").ok K = true
  y_Reader_take : d_Reader_take.ok K = true
  z_Reader_take : He.fnW K d_Reader_take.at_ = d_Reader_take.val
  m_Reader_take : (He.Fa.meth "Reader" "take").ok K = true
  y_Reader_skip : d_Reader_skip.ok K = true
  z_Reader_skip : He.fnW K d_Reader_skip.at_ = d_Reader_skip.val
  m_Reader_skip : (He.Fa.meth "Reader" "skip").ok K = true
  y_Reader_take_name : d_Reader_take_name.ok K = true
  z_Reader_take_name : He.fnW K d_Reader_take_name.at_ = d_Reader_take_name.val
  m_Reader_take_name : (He.Fa.meth "Reader" "take_name").ok K = true
  y_Reader_take_number : d_Reader_take_number.ok K = true
  z_Reader_take_number : He.fnW K d_Reader_take_number.at_ = d_Reader_take_number.val
  m_Reader_take_number : (He.Fa.meth "Reader" "take_number").ok K = true
  y_Reader_read_rule : d_Reader_read_rule.ok K = true
  z_Reader_read_rule : He.fnW K d_Reader_read_rule.at_ = d_Reader_read_rule.val
  m_Reader_read_rule : (He.Fa.meth "Reader" "read_rule").ok K = true
  y_Reader_read_condition : d_Reader_read_condition.ok K = true
  z_Reader_read_condition : He.fnW K d_Reader_read_condition.at_ = d_Reader_read_condition.val
  m_Reader_read_condition : (He.Fa.meth "Reader" "read_condition").ok K = true
  y_Reader_read_joined : d_Reader_read_joined.ok K = true
  z_Reader_read_joined : He.fnW K d_Reader_read_joined.at_ = d_Reader_read_joined.val
  m_Reader_read_joined : (He.Fa.meth "Reader" "read_joined").ok K = true
  y_Reader_read_single : d_Reader_read_single.ok K = true
  z_Reader_read_single : He.fnW K d_Reader_read_single.at_ = d_Reader_read_single.val
  m_Reader_read_single : (He.Fa.meth "Reader" "read_single").ok K = true
  y_Reader_read_fact : d_Reader_read_fact.ok K = true
  z_Reader_read_fact : He.fnW K d_Reader_read_fact.at_ = d_Reader_read_fact.val
  m_Reader_read_fact : (He.Fa.meth "Reader" "read_fact").ok K = true
  y_Reader_read_deed : d_Reader_read_deed.ok K = true
  z_Reader_read_deed : He.fnW K d_Reader_read_deed.at_ = d_Reader_read_deed.val
  m_Reader_read_deed : (He.Fa.meth "Reader" "read_deed").ok K = true
  y_is_number : d_is_number.ok K = true
  z_is_number : He.fnW K d_is_number.at_ = d_is_number.val
  g_is_number : (He.Fa.glo "is_number").ok K = true
  y_words_of : d_words_of.ok K = true
  z_words_of : He.fnW K d_words_of.at_ = d_words_of.val
  g_words_of : (He.Fa.glo "words_of").ok K = true
  y_rule_of : d_rule_of.ok K = true
  z_rule_of : He.fnW K d_rule_of.at_ = d_rule_of.val
  g_rule_of : (He.Fa.glo "rule_of").ok K = true
  y_read : d_read.ok K = true
  z_read : He.fnW K d_read.at_ = d_read.val
  g_read : (He.Fa.glo "read").ok K = true
  y_check_names : d_check_names.ok K = true
  z_check_names : He.fnW K d_check_names.at_ = d_check_names.val
  g_check_names : (He.Fa.glo "check_names").ok K = true
  y_word_names : d_word_names.ok K = true
  z_word_names : He.fnW K d_word_names.at_ = d_word_names.val
  g_word_names : (He.Fa.glo "word_names").ok K = true
  y_facts_of : d_facts_of.ok K = true
  z_facts_of : He.fnW K d_facts_of.at_ = d_facts_of.val
  g_facts_of : (He.Fa.glo "facts_of").ok K = true
  y_add_facts : d_add_facts.ok K = true
  z_add_facts : He.fnW K d_add_facts.at_ = d_add_facts.val
  g_add_facts : (He.Fa.glo "add_facts").ok K = true
  y_sort : d_sort.ok K = true
  z_sort : He.fnW K d_sort.at_ = d_sort.val
  g_sort : (He.Fa.glo "sort").ok K = true
  y_acting : d_acting.ok K = true
  z_acting : He.fnW K d_acting.at_ = d_acting.val
  g_acting : (He.Fa.glo "acting").ok K = true
  y_check_letter : d_check_letter.ok K = true
  z_check_letter : He.fnW K d_check_letter.at_ = d_check_letter.val
  g_check_letter : (He.Fa.glo "check_letter").ok K = true
  y_way_through : d_way_through.ok K = true
  z_way_through : He.fnW K d_way_through.at_ = d_way_through.val
  g_way_through : (He.Fa.glo "way_through").ok K = true
  y_Way_init : d_Way_init.ok K = true
  z_Way_init : He.fnW K d_Way_init.at_ = d_Way_init.val
  y_Way_outcome : d_Way_outcome.ok K = true
  z_Way_outcome : He.fnW K d_Way_outcome.at_ = d_Way_outcome.val
  m_Way_outcome : (He.Fa.meth "Way" "outcome").ok K = true
  y_Way_act : d_Way_act.ok K = true
  z_Way_act : He.fnW K d_Way_act.at_ = d_Way_act.val
  m_Way_act : (He.Fa.meth "Way" "act").ok K = true
  y_Way_holds : d_Way_holds.ok K = true
  z_Way_holds : He.fnW K d_Way_holds.at_ = d_Way_holds.val
  m_Way_holds : (He.Fa.meth "Way" "holds").ok K = true
  y_Way_fact_holds : d_Way_fact_holds.ok K = true
  z_Way_fact_holds : He.fnW K d_Way_fact_holds.at_ = d_Way_fact_holds.val
  m_Way_fact_holds : (He.Fa.meth "Way" "fact_holds").ok K = true
  y_Way_has_pair : d_Way_has_pair.ok K = true
  z_Way_has_pair : He.fnW K d_Way_has_pair.at_ = d_Way_has_pair.val
  m_Way_has_pair : (He.Fa.meth "Way" "has_pair").ok K = true
  y_ring : d_ring.ok K = true
  z_ring : He.fnW K d_ring.at_ = d_ring.val
  g_ring : (He.Fa.glo "ring").ok K = true
  y_is_house : d_is_house.ok K = true
  z_is_house : He.fnW K d_is_house.at_ = d_is_house.val
  g_is_house : (He.Fa.glo "is_house").ok K = true
  y_read_house : d_read_house.ok K = true
  z_read_house : He.fnW K d_read_house.at_ = d_read_house.val
  g_read_house : (He.Fa.glo "read_house").ok K = true
  y_all_rules : d_all_rules.ok K = true
  z_all_rules : He.fnW K d_all_rules.at_ = d_all_rules.val
  g_all_rules : (He.Fa.glo "all_rules").ok K = true
  y_House_init : d_House_init.ok K = true
  z_House_init : He.fnW K d_House_init.at_ = d_House_init.val
  y_House_deliver : d_House_deliver.ok K = true
  z_House_deliver : He.fnW K d_House_deliver.at_ = d_House_deliver.val
  m_House_deliver : (He.Fa.meth "House" "deliver").ok K = true
  y_House_sort_at : d_House_sort_at.ok K = true
  z_House_sort_at : He.fnW K d_House_sort_at.at_ = d_House_sort_at.val
  m_House_sort_at : (He.Fa.meth "House" "sort_at").ok K = true
  y_House_way : d_House_way.ok K = true
  z_House_way : He.fnW K d_House_way.at_ = d_House_way.val
  m_House_way : (He.Fa.meth "House" "way").ok K = true
  y_House_filed : d_House_filed.ok K = true
  z_House_filed : He.fnW K d_House_filed.at_ = d_House_filed.val
  m_House_filed : (He.Fa.meth "House" "filed").ok K = true
  y_House_outside : d_House_outside.ok K = true
  z_House_outside : He.fnW K d_House_outside.at_ = d_House_outside.val
  m_House_outside : (He.Fa.meth "House" "outside").ok K = true
  y_House_teach : d_House_teach.ok K = true
  z_House_teach : He.fnW K d_House_teach.at_ = d_House_teach.val
  m_House_teach : (He.Fa.meth "House" "teach").ok K = true
  y_House_rules : d_House_rules.ok K = true
  z_House_rules : He.fnW K d_House_rules.at_ = d_House_rules.val
  m_House_rules : (He.Fa.meth "House" "rules").ok K = true
  y_House_check_person : d_House_check_person.ok K = true
  z_House_check_person : He.fnW K d_House_check_person.at_ = d_House_check_person.val
  m_House_check_person : (He.Fa.meth "House" "check_person").ok K = true
  y_reaching : d_reaching.ok K = true
  z_reaching : He.fnW K d_reaching.at_ = d_reaching.val
  g_reaching : (He.Fa.glo "reaching").ok K = true
  y_law_draw : d_law_draw.ok K = true
  z_law_draw : He.fnW K d_law_draw.at_ = d_law_draw.val
  g_law_draw : (He.Fa.glo "_law_draw").ok K = true
  y_law_cell_at : d_law_cell_at.ok K = true
  z_law_cell_at : He.fnW K d_law_cell_at.at_ = d_law_cell_at.val
  g_law_cell_at : (He.Fa.glo "_law_cell_at").ok K = true
  y_law_digits : d_law_digits.ok K = true
  z_law_digits : He.fnW K d_law_digits.at_ = d_law_digits.val
  g_law_digits : (He.Fa.glo "_law_digits").ok K = true
  y_law_kinds : d_law_kinds.ok K = true
  z_law_kinds : He.fnW K d_law_kinds.at_ = d_law_kinds.val
  g_law_kinds : (He.Fa.glo "_law_kinds").ok K = true
  y_law_is : d_law_is.ok K = true
  z_law_is : He.fnW K d_law_is.at_ = d_law_is.val
  g_law_is : (He.Fa.glo "_law_is").ok K = true
  y_law_letters_right : d_law_letters_right.ok K = true
  z_law_letters_right : He.fnW K d_law_letters_right.at_ = d_law_letters_right.val
  g_law_letters_right : (He.Fa.glo "_law_letters_right").ok K = true
  y_law_names_right : d_law_names_right.ok K = true
  z_law_names_right : He.fnW K d_law_names_right.at_ = d_law_names_right.val
  g_law_names_right : (He.Fa.glo "_law_names_right").ok K = true
  y_law_houses_right : d_law_houses_right.ok K = true
  z_law_houses_right : He.fnW K d_law_houses_right.at_ = d_law_houses_right.val
  g_law_houses_right : (He.Fa.glo "_law_houses_right").ok K = true
  y_law : d_law.ok K = true
  z_law : He.fnW K d_law.at_ = d_law.val
  g_law : (He.Fa.glo "law").ok K = true
  c_Rule : (He.Fa.cls "Rule").ok K = true
  mk_Rule : (He.Fa.mkr "Rule").ok K = true
  g_Rule : (He.Fa.glo "Rule").ok K = true
  n_Rule_words : (He.Fa.noat "Rule" "words").ok K = true
  n_Rule_condition : (He.Fa.noat "Rule" "condition").ok K = true
  n_Rule_deeds : (He.Fa.noat "Rule" "deeds").ok K = true
  c_Reader : (He.Fa.cls "Reader").ok K = true
  mk_Reader : (He.Fa.mkr "Reader").ok K = true
  g_Reader : (He.Fa.glo "Reader").ok K = true
  n_Reader_words : (He.Fa.noat "Reader" "words").ok K = true
  n_Reader_row : (He.Fa.noat "Reader" "row").ok K = true
  n_Reader_at : (He.Fa.noat "Reader" "at").ok K = true
  c_Way : (He.Fa.cls "Way").ok K = true
  mk_Way : (He.Fa.mkr "Way").ok K = true
  g_Way : (He.Fa.glo "Way").ok K = true
  n_Way_words : (He.Fa.noat "Way" "words").ok K = true
  n_Way_marks : (He.Fa.noat "Way" "marks").ok K = true
  n_Way_folders : (He.Fa.noat "Way" "folders").ok K = true
  n_Way_receivers : (He.Fa.noat "Way" "receivers").ok K = true
  n_Way_acts : (He.Fa.noat "Way" "acts").ok K = true
  n_Way_stopped : (He.Fa.noat "Way" "stopped").ok K = true
  n_Way_sender : (He.Fa.noat "Way" "sender").ok K = true
  n_Way_size : (He.Fa.noat "Way" "size").ok K = true
  c_House : (He.Fa.cls "House").ok K = true
  mk_House : (He.Fa.mkr "House").ok K = true
  g_House : (He.Fa.glo "House").ok K = true
  n_House_people : (He.Fa.noat "House" "people").ok K = true
  n_House_texts : (He.Fa.noat "House" "texts").ok K = true
  n_House_ways : (He.Fa.noat "House" "ways").ok K = true
  n_House_filings : (He.Fa.noat "House" "filings").ok K = true
  n_House_sent : (He.Fa.noat "House" "sent").ok K = true
  g_SortError : (He.Fa.glo "SortError").ok K = true
  g_BadRule : (He.Fa.glo "BadRule").ok K = true
  g_BadText : (He.Fa.glo "BadText").ok K = true
  g_BadLetter : (He.Fa.glo "BadLetter").ok K = true
  g_BadName : (He.Fa.glo "BadName").ok K = true
  g_BadHouse : (He.Fa.glo "BadHouse").ok K = true
  g_TooMany : (He.Fa.glo "TooMany").ok K = true
  g_NoLetter : (He.Fa.glo "NoLetter").ok K = true
  fr_all : (He.Fa.free "all").ok K = true
  fr_isinstance : (He.Fa.free "isinstance").ok K = true
  fr_str : (He.Fa.free "str").ok K = true
  fr_len : (He.Fa.free "len").ok K = true
  fr_bool : (He.Fa.free "bool").ok K = true
  fr_int : (He.Fa.free "int").ok K = true
  fr_tuple : (He.Fa.free "tuple").ok K = true
  fr_list : (He.Fa.free "list").ok K = true
  fr_sorted : (He.Fa.free "sorted").ok K = true
  fr_min : (He.Fa.free "min").ok K = true
  fr_range : (He.Fa.free "range").ok K = true
  fr_enumerate : (He.Fa.free "enumerate").ok K = true
  fr_any : (He.Fa.free "any").ok K = true
  fr_dict : (He.Fa.free "dict").ok K = true
  fr_abs : (He.Fa.free "abs").ok K = true
  fr_sum : (He.Fa.free "sum").ok K = true
  fr_ValueError : (He.Fa.free "ValueError").ok K = true
  i_NONE : (He.Fa.int "NONE" 0).ok K = true
  i_ALL : (He.Fa.int "ALL" 1).ok K = true
  i_SIGNS : (He.Fa.str "SIGNS" "abcdefghijklmnopqrstuvwxyz").ok K = true
  i_LONGEST_NAME : (He.Fa.int "LONGEST_NAME" 10).ok K = true
  i_BIGGEST_SIZE : (He.Fa.int "BIGGEST_SIZE" 99999).ok K = true
  i_MOST_WORDS : (He.Fa.int "MOST_WORDS" 60).ok K = true
  i_MOST_NAMES : (He.Fa.int "MOST_NAMES" 4).ok K = true
  i_LONGEST_NUMBER : (He.Fa.int "LONGEST_NUMBER" 5).ok K = true
  i_DIGITS : (He.Fa.str "DIGITS" "0123456789").ok K = true
  g_FACTS : (He.Fa.glo "FACTS").ok K = true
  g_DEEDS : (He.Fa.glo "DEEDS").ok K = true
  g_WORD_FACTS : (He.Fa.glo "WORD_FACTS").ok K = true
  g_TOLD : (He.Fa.glo "TOLD").ok K = true
  i_FOLDERS : (He.Fa.int "FOLDERS" 0).ok K = true
  i_RECEIVERS : (He.Fa.int "RECEIVERS" 1).ok K = true
  i_MOST_PEOPLE : (He.Fa.int "MOST_PEOPLE" 5).ok K = true
  t_FACTS : He.dicW K (He.ga K "FACTS") = some (He.keysIn w.params ["from", "has", "first", "last", "pair", "marked"])
  v_FACTS : He.valsB K (He.ga K "FACTS") [("from", .int 1), ("has", .int 1), ("first", .int 1), ("last", .int 1), ("pair", .int 2), ("marked", .int 1)] = true
  t_DEEDS : He.tupB K "DEEDS" [.str "mark", .str "unmark", .str "file", .str "pass"] = true
  n_FACTS : PySem.W.nsIn K (He.ga K "FACTS") "" = some none
  t_WORD_FACTS : He.tupB K "WORD_FACTS" [.str "has", .str "first", .str "last", .str "pair"] = true
  fr_super : (He.Fa.free "super").ok K = true
  ex_SortError : PySem.W.excIn K (C_SortError K) PySem.HandSPX.veTail "ValueError.__new__" = true
  ex_BadText : PySem.W.excIn K (C_BadText K) PySem.HandSPX.veTail "ValueError.__new__" = true
  ex_BadLetter : PySem.W.excIn K (C_BadLetter K) PySem.HandSPX.veTail "ValueError.__new__" = true
  ex_BadName : PySem.W.excIn K (C_BadName K) PySem.HandSPX.veTail "ValueError.__new__" = true
  ex_BadHouse : PySem.W.excIn K (C_BadHouse K) PySem.HandSPX.veTail "ValueError.__new__" = true
  ex_TooMany : PySem.W.excIn K (C_TooMany K) PySem.HandSPX.veTail "ValueError.__new__" = true
  ex_NoLetter : PySem.W.excIn K (C_NoLetter K) PySem.HandSPX.veTail "ValueError.__new__" = true
  ek_SortError : PySem.W.keepIn K (.ref (C_SortError K)) = true
  es_SortError : PySem.W.subIn K (.ref (C_SortError K)) (.type "BaseException") = some true
  ey_SortError : PySem.W.typeIn K (.ref (C_SortError K)) = some (.type "type")
  ek_BadRule : PySem.W.keepIn K (.ref (C_BadRule K)) = true
  es_BadRule : PySem.W.subIn K (.ref (C_BadRule K)) (.type "BaseException") = some true
  ey_BadRule : PySem.W.typeIn K (.ref (C_BadRule K)) = some (.type "type")
  ek_BadText : PySem.W.keepIn K (.ref (C_BadText K)) = true
  es_BadText : PySem.W.subIn K (.ref (C_BadText K)) (.type "BaseException") = some true
  ey_BadText : PySem.W.typeIn K (.ref (C_BadText K)) = some (.type "type")
  ek_BadLetter : PySem.W.keepIn K (.ref (C_BadLetter K)) = true
  es_BadLetter : PySem.W.subIn K (.ref (C_BadLetter K)) (.type "BaseException") = some true
  ey_BadLetter : PySem.W.typeIn K (.ref (C_BadLetter K)) = some (.type "type")
  ek_BadName : PySem.W.keepIn K (.ref (C_BadName K)) = true
  es_BadName : PySem.W.subIn K (.ref (C_BadName K)) (.type "BaseException") = some true
  ey_BadName : PySem.W.typeIn K (.ref (C_BadName K)) = some (.type "type")
  ek_BadHouse : PySem.W.keepIn K (.ref (C_BadHouse K)) = true
  es_BadHouse : PySem.W.subIn K (.ref (C_BadHouse K)) (.type "BaseException") = some true
  ey_BadHouse : PySem.W.typeIn K (.ref (C_BadHouse K)) = some (.type "type")
  ek_TooMany : PySem.W.keepIn K (.ref (C_TooMany K)) = true
  es_TooMany : PySem.W.subIn K (.ref (C_TooMany K)) (.type "BaseException") = some true
  ey_TooMany : PySem.W.typeIn K (.ref (C_TooMany K)) = some (.type "type")
  ek_NoLetter : PySem.W.keepIn K (.ref (C_NoLetter K)) = true
  es_NoLetter : PySem.W.subIn K (.ref (C_NoLetter K)) (.type "BaseException") = some true
  ey_NoLetter : PySem.W.typeIn K (.ref (C_NoLetter K)) = some (.type "type")
  b_sa : PySem.W.findIn K (.ref (C_BadRule K)) "__setattr__" = some (some (.builtin "object.__setattr__"))
  b_ga : PySem.W.findIn K (.ref (C_BadRule K)) "__getattribute__" = some (some (.builtin "BaseException.__getattribute__"))
  b_gg : PySem.W.findIn K (.ref (C_BadRule K)) "__getattr__" = some none
  b_nR : PySem.W.findIn K (.ref (C_BadRule K)) "row" = some none
  b_nW : PySem.W.findIn K (.ref (C_BadRule K)) "word" = some none
  b_iC : PySem.W.findIn K (.ref (C_BadRule K)) "__init__" = some (some (.ref (a_BadRule_init K)))
  b_tC : PySem.W.typeIn K (.ref (a_BadRule_init K)) = some (.type "function")
  b_hd : PySem.W.hasDictIn K (C_BadRule K) = true
  b_te : PySem.W.exmOne K (.ref (C_BadRule K)) (.ref (C_BadRule K)) = some true
  b_su : PySem.W.ks_superIn K (C_BadRule K) (C_BadRule K) "__init__" = some (some (.builtin "ValueError.__init__"))
  b_sV : PySem.W.subIn K (.ref (C_BadRule K)) (.type "ValueError") = some true
  b_mr : PySem.W.mroIn K (C_BadRule K) (.ref (C_BadRule K)) = some true
  b_tp : PySem.W.nsIn K cStatics "thirdparty.any" = some none
  b_cls : brClsB K = true
  b_fnW : He.fnW K ("BadRule", some "__init__") = some (("__init__" : Str), ("BadRule.__init__" : Str), defArgs s_BadRule_init, FuncBody.stmts (defBody s_BadRule_init), defScope s_BadRule_init, mainGlobals, [(("__class__" : Str), brCell K)], builtinsNs)
  b_fnB : brFnB K = true
  h_hn : PySem.W.specialIn K (.builtin "object.__class__") "__get__" = some (some (.builtin "getset_descriptor.__get__"))
  h_ht : PySem.W.takesIn K (.builtin "object.__class__") = some true
  h0g : PySem.W.findIn K (.ref (C_BadLetter K)) "__getattribute__" = some (some (.builtin "BaseException.__getattribute__"))
  h0k : PySem.W.findIn K (.ref (C_BadLetter K)) "__getattr__" = some none
  h0d : PySem.W.hasDictIn K (C_BadLetter K) = true
  h0a : PySem.W.findIn K (.ref (C_BadLetter K)) "__class__" = some (some (.builtin "object.__class__"))
  h0m : PySem.W.mroIn K (C_BadLetter K) (.type "object") = some true
  h0s : PySem.W.exmOne K (.ref (C_BadLetter K)) (.ref (C_SortError K)) = some true
  h0_0 : PySem.W.kitOne K (.ref (C_BadLetter K)) (.ref (C_BadLetter K)) = some true
  h0_1 : PySem.W.kitOne K (.ref (C_BadLetter K)) (.ref (C_BadName K)) = some false
  h0_2 : PySem.W.kitOne K (.ref (C_BadLetter K)) (.ref (C_BadHouse K)) = some false
  h0_3 : PySem.W.kitOne K (.ref (C_BadLetter K)) (.ref (C_NoLetter K)) = some false
  h0_4 : PySem.W.kitOne K (.ref (C_BadLetter K)) (.ref (C_TooMany K)) = some false
  h0_5 : PySem.W.kitOne K (.ref (C_BadLetter K)) (.ref (C_BadText K)) = some false
  h0_6 : PySem.W.kitOne K (.ref (C_BadLetter K)) (.ref (C_BadRule K)) = some false
  h0v : PySem.W.kitOne K (.ref (C_BadLetter K)) (.type "ValueError") = some true
  h1g : PySem.W.findIn K (.ref (C_BadName K)) "__getattribute__" = some (some (.builtin "BaseException.__getattribute__"))
  h1k : PySem.W.findIn K (.ref (C_BadName K)) "__getattr__" = some none
  h1d : PySem.W.hasDictIn K (C_BadName K) = true
  h1a : PySem.W.findIn K (.ref (C_BadName K)) "__class__" = some (some (.builtin "object.__class__"))
  h1m : PySem.W.mroIn K (C_BadName K) (.type "object") = some true
  h1s : PySem.W.exmOne K (.ref (C_BadName K)) (.ref (C_SortError K)) = some true
  h1_0 : PySem.W.kitOne K (.ref (C_BadName K)) (.ref (C_BadLetter K)) = some false
  h1_1 : PySem.W.kitOne K (.ref (C_BadName K)) (.ref (C_BadName K)) = some true
  h1_2 : PySem.W.kitOne K (.ref (C_BadName K)) (.ref (C_BadHouse K)) = some false
  h1_3 : PySem.W.kitOne K (.ref (C_BadName K)) (.ref (C_NoLetter K)) = some false
  h1_4 : PySem.W.kitOne K (.ref (C_BadName K)) (.ref (C_TooMany K)) = some false
  h1_5 : PySem.W.kitOne K (.ref (C_BadName K)) (.ref (C_BadText K)) = some false
  h1_6 : PySem.W.kitOne K (.ref (C_BadName K)) (.ref (C_BadRule K)) = some false
  h1v : PySem.W.kitOne K (.ref (C_BadName K)) (.type "ValueError") = some true
  h2g : PySem.W.findIn K (.ref (C_BadHouse K)) "__getattribute__" = some (some (.builtin "BaseException.__getattribute__"))
  h2k : PySem.W.findIn K (.ref (C_BadHouse K)) "__getattr__" = some none
  h2d : PySem.W.hasDictIn K (C_BadHouse K) = true
  h2a : PySem.W.findIn K (.ref (C_BadHouse K)) "__class__" = some (some (.builtin "object.__class__"))
  h2m : PySem.W.mroIn K (C_BadHouse K) (.type "object") = some true
  h2s : PySem.W.exmOne K (.ref (C_BadHouse K)) (.ref (C_SortError K)) = some true
  h2_0 : PySem.W.kitOne K (.ref (C_BadHouse K)) (.ref (C_BadLetter K)) = some false
  h2_1 : PySem.W.kitOne K (.ref (C_BadHouse K)) (.ref (C_BadName K)) = some false
  h2_2 : PySem.W.kitOne K (.ref (C_BadHouse K)) (.ref (C_BadHouse K)) = some true
  h2_3 : PySem.W.kitOne K (.ref (C_BadHouse K)) (.ref (C_NoLetter K)) = some false
  h2_4 : PySem.W.kitOne K (.ref (C_BadHouse K)) (.ref (C_TooMany K)) = some false
  h2_5 : PySem.W.kitOne K (.ref (C_BadHouse K)) (.ref (C_BadText K)) = some false
  h2_6 : PySem.W.kitOne K (.ref (C_BadHouse K)) (.ref (C_BadRule K)) = some false
  h2v : PySem.W.kitOne K (.ref (C_BadHouse K)) (.type "ValueError") = some true
  h3g : PySem.W.findIn K (.ref (C_NoLetter K)) "__getattribute__" = some (some (.builtin "BaseException.__getattribute__"))
  h3k : PySem.W.findIn K (.ref (C_NoLetter K)) "__getattr__" = some none
  h3d : PySem.W.hasDictIn K (C_NoLetter K) = true
  h3a : PySem.W.findIn K (.ref (C_NoLetter K)) "__class__" = some (some (.builtin "object.__class__"))
  h3m : PySem.W.mroIn K (C_NoLetter K) (.type "object") = some true
  h3s : PySem.W.exmOne K (.ref (C_NoLetter K)) (.ref (C_SortError K)) = some true
  h3_0 : PySem.W.kitOne K (.ref (C_NoLetter K)) (.ref (C_BadLetter K)) = some false
  h3_1 : PySem.W.kitOne K (.ref (C_NoLetter K)) (.ref (C_BadName K)) = some false
  h3_2 : PySem.W.kitOne K (.ref (C_NoLetter K)) (.ref (C_BadHouse K)) = some false
  h3_3 : PySem.W.kitOne K (.ref (C_NoLetter K)) (.ref (C_NoLetter K)) = some true
  h3_4 : PySem.W.kitOne K (.ref (C_NoLetter K)) (.ref (C_TooMany K)) = some false
  h3_5 : PySem.W.kitOne K (.ref (C_NoLetter K)) (.ref (C_BadText K)) = some false
  h3_6 : PySem.W.kitOne K (.ref (C_NoLetter K)) (.ref (C_BadRule K)) = some false
  h3v : PySem.W.kitOne K (.ref (C_NoLetter K)) (.type "ValueError") = some true
  h4g : PySem.W.findIn K (.ref (C_TooMany K)) "__getattribute__" = some (some (.builtin "BaseException.__getattribute__"))
  h4k : PySem.W.findIn K (.ref (C_TooMany K)) "__getattr__" = some none
  h4d : PySem.W.hasDictIn K (C_TooMany K) = true
  h4a : PySem.W.findIn K (.ref (C_TooMany K)) "__class__" = some (some (.builtin "object.__class__"))
  h4m : PySem.W.mroIn K (C_TooMany K) (.type "object") = some true
  h4s : PySem.W.exmOne K (.ref (C_TooMany K)) (.ref (C_SortError K)) = some true
  h4_0 : PySem.W.kitOne K (.ref (C_TooMany K)) (.ref (C_BadLetter K)) = some false
  h4_1 : PySem.W.kitOne K (.ref (C_TooMany K)) (.ref (C_BadName K)) = some false
  h4_2 : PySem.W.kitOne K (.ref (C_TooMany K)) (.ref (C_BadHouse K)) = some false
  h4_3 : PySem.W.kitOne K (.ref (C_TooMany K)) (.ref (C_NoLetter K)) = some false
  h4_4 : PySem.W.kitOne K (.ref (C_TooMany K)) (.ref (C_TooMany K)) = some true
  h4_5 : PySem.W.kitOne K (.ref (C_TooMany K)) (.ref (C_BadText K)) = some false
  h4_6 : PySem.W.kitOne K (.ref (C_TooMany K)) (.ref (C_BadRule K)) = some false
  h4v : PySem.W.kitOne K (.ref (C_TooMany K)) (.type "ValueError") = some true
  h5g : PySem.W.findIn K (.ref (C_BadText K)) "__getattribute__" = some (some (.builtin "BaseException.__getattribute__"))
  h5k : PySem.W.findIn K (.ref (C_BadText K)) "__getattr__" = some none
  h5d : PySem.W.hasDictIn K (C_BadText K) = true
  h5a : PySem.W.findIn K (.ref (C_BadText K)) "__class__" = some (some (.builtin "object.__class__"))
  h5m : PySem.W.mroIn K (C_BadText K) (.type "object") = some true
  h5s : PySem.W.exmOne K (.ref (C_BadText K)) (.ref (C_SortError K)) = some true
  h5_0 : PySem.W.kitOne K (.ref (C_BadText K)) (.ref (C_BadLetter K)) = some false
  h5_1 : PySem.W.kitOne K (.ref (C_BadText K)) (.ref (C_BadName K)) = some false
  h5_2 : PySem.W.kitOne K (.ref (C_BadText K)) (.ref (C_BadHouse K)) = some false
  h5_3 : PySem.W.kitOne K (.ref (C_BadText K)) (.ref (C_NoLetter K)) = some false
  h5_4 : PySem.W.kitOne K (.ref (C_BadText K)) (.ref (C_TooMany K)) = some false
  h5_5 : PySem.W.kitOne K (.ref (C_BadText K)) (.ref (C_BadText K)) = some true
  h5_6 : PySem.W.kitOne K (.ref (C_BadText K)) (.ref (C_BadRule K)) = some false
  h5v : PySem.W.kitOne K (.ref (C_BadText K)) (.type "ValueError") = some true
  h6g : PySem.W.findIn K (.ref (C_BadRule K)) "__getattribute__" = some (some (.builtin "BaseException.__getattribute__"))
  h6k : PySem.W.findIn K (.ref (C_BadRule K)) "__getattr__" = some none
  h6d : PySem.W.hasDictIn K (C_BadRule K) = true
  h6a : PySem.W.findIn K (.ref (C_BadRule K)) "__class__" = some (some (.builtin "object.__class__"))
  h6m : PySem.W.mroIn K (C_BadRule K) (.type "object") = some true
  h6s : PySem.W.exmOne K (.ref (C_BadRule K)) (.ref (C_SortError K)) = some true
  h6_0 : PySem.W.kitOne K (.ref (C_BadRule K)) (.ref (C_BadLetter K)) = some false
  h6_1 : PySem.W.kitOne K (.ref (C_BadRule K)) (.ref (C_BadName K)) = some false
  h6_2 : PySem.W.kitOne K (.ref (C_BadRule K)) (.ref (C_BadHouse K)) = some false
  h6_3 : PySem.W.kitOne K (.ref (C_BadRule K)) (.ref (C_NoLetter K)) = some false
  h6_4 : PySem.W.kitOne K (.ref (C_BadRule K)) (.ref (C_TooMany K)) = some false
  h6_5 : PySem.W.kitOne K (.ref (C_BadRule K)) (.ref (C_BadText K)) = some false
  h6_6 : PySem.W.kitOne K (.ref (C_BadRule K)) (.ref (C_BadRule K)) = some true
  h6v : PySem.W.kitOne K (.ref (C_BadRule K)) (.type "ValueError") = some true
end So
end

section
set_option Elab.async false
set_option linter.all false
set_option maxRecDepth 100000
set_option maxHeartbeats 4000000
/-! the facts of the top, told by one run -/
namespace So
open PySem PySem.Spec PyProof.Rows L2
open GxR (TabG Tabbed)
def tfT : List He.Defn := [("is_name", none), ("is_letter", none), ("is_number", none), ("Way", some "holds"), ("is_house", none), ("_law_letters_right", none), ("_law_names_right", none), ("_law_houses_right", none)]
/-- all that is said of the top -/
structure Says (w : World) (K : PySem.W.Frag) (ts : List Addr) : Prop where
  f : Facts w K
  code : (tfT.all fun p => PySem.W.codeHdIn K (He.cT K p).1 (He.cT K p).2 && (K.lookup (He.cT K p).2).isNone) = true
  apart : decide (tfT.map fun p => (He.cT K p).2).Nodup = true
  tabs : (tfT.map fun p => (He.cT K p).2) = ts
theorem lawB {K : PySem.W.Frag} {f : Addr} {fd : FuncData} (F : FunD K "law" "law" (defArgs s_law) (defBody s_law) (defScope s_law) [] [] f fd) (s : Shared) (u : Value) : BindsTo s fd ⟨[u], []⟩ [("_law_script", u)] := by
  obtain ⟨oc, od, dV, kV, doc, pm, an, cdv, ct, osl, rfl, lk, hcd, hD, hK⟩ := F.ex
  rcases hD with ⟨_, rfl⟩ | ⟨e, _⟩
  · exact .of_eq (bd_law kV doc pm an cdv ct [u] rfl)
  · exact absurd rfl e
theorem one_fd {K : PySem.W.Frag} {f : Addr} {fd fd' : FuncData} {x q : Str} {pa : Arguments} {bo : List Stmt} {sc : Scope} (F : FunD K x q pa bo sc [] [] f fd) (F' : FunD K x q pa bo sc [] [] f fd') : fd' = fd := by
  obtain ⟨oc, od, dV, kV, doc, pm, an, cdv, ct, osl, e1, lk, _⟩ := F.ex
  obtain ⟨oc', od', dV', kV', doc', pm', an', cdv', ct', osl', e1', lk', _⟩ := F'.ex
  rw [lk] at lk'
  injection lk' with z
  injection z with z1 z2 z3 z4
  injection z3 with z5
  exact z5.symm
/-- the eight tables stand apart -/
theorem apart8 {K : PySem.W.Frag} (h : (tfT.map fun p => (He.cT K p).2).Nodup) : (∀ p ∈ tabs K, ∀ q ∈ ltabs K, p ≠ q.1) ∧ ∀ p ∈ ltabs K, ∀ q ∈ ltabs K, p.1 = q.1 → p.2 = q.2 := by
  have h : [tb_is_name K, tb_is_letter K, tb_is_number K, tb_Way_holds K, tb_is_house K, tb_law_letters_right K, tb_law_names_right K, tb_law_houses_right K].Nodup := h
  simp only [List.nodup_cons, List.mem_cons, List.not_mem_nil, or_false, not_or] at h
  obtain ⟨⟨_, _, _, _, a1, a2, a3⟩, ⟨_, _, _, b1, b2, b3⟩, ⟨_, _, c1, c2, c3⟩, ⟨_, d1, d2, d3⟩, ⟨e1, e2, e3⟩, ⟨f1, f2⟩, g1, _⟩ := h
  refine ⟨fun p mp q mq => ?_, fun p mp q mq => ?_⟩
  · simp only [tabs, ltabs, List.mem_cons, List.not_mem_nil, or_false] at mp mq
    rcases mp with rfl | rfl | rfl | rfl | rfl
    · rcases mq with rfl | rfl | rfl
      · exact a1
      · exact a2
      · exact a3
    · rcases mq with rfl | rfl | rfl
      · exact b1
      · exact b2
      · exact b3
    · rcases mq with rfl | rfl | rfl
      · exact c1
      · exact c2
      · exact c3
    · rcases mq with rfl | rfl | rfl
      · exact d1
      · exact d2
      · exact d3
    · rcases mq with rfl | rfl | rfl
      · exact e1
      · exact e2
      · exact e3
  · simp only [ltabs, List.mem_cons, List.not_mem_nil, or_false] at mp mq
    rcases mp with rfl | rfl | rfl
    · rcases mq with rfl | rfl | rfl
      · exact fun _ => rfl
      · exact fun z => absurd z f1
      · exact fun z => absurd z f2
    · rcases mq with rfl | rfl | rfl
      · exact fun z => absurd z.symm f1
      · exact fun _ => rfl
      · exact fun z => absurd z g1
    · rcases mq with rfl | rfl | rfl
      · exact fun z => absurd z.symm f2
      · exact fun z => absurd z.symm g1
      · exact fun _ => rfl
def exL0 (K : PySem.W.Frag) : List Bool := [
  d_is_name.ok K,
  (He.Fa.glo "is_name").ok K,
  d_is_size.ok K,
  (He.Fa.glo "is_size").ok K,
  d_is_letter.ok K,
  (He.Fa.glo "is_letter").ok K,
  d_name_key.ok K,
  (He.Fa.glo "name_key").ok K,
  d_in_order.ok K,
  (He.Fa.glo "in_order").ok K,
  d_Rule_init.ok K,
  d_Reader_init.ok K,
  d_Reader_fail.ok K,
  (He.Fa.meth "Reader" "fail").ok K,
  d_Reader_peek.ok K,
  (He.Fa.meth "Reader" "peek").ok K,
  d_Reader_take.ok K,
  (He.Fa.meth "Reader" "take").ok K,
  d_Reader_skip.ok K,
  (He.Fa.meth "Reader" "skip").ok K,
  d_Reader_take_name.ok K,
  (He.Fa.meth "Reader" "take_name").ok K,
  d_Reader_take_number.ok K,
  (He.Fa.meth "Reader" "take_number").ok K,
  d_Reader_read_rule.ok K,
  (He.Fa.meth "Reader" "read_rule").ok K,
  d_Reader_read_condition.ok K,
  (He.Fa.meth "Reader" "read_condition").ok K,
  d_Reader_read_joined.ok K,
  (He.Fa.meth "Reader" "read_joined").ok K]
def exL1 (K : PySem.W.Frag) : List Bool := [
  d_Reader_read_single.ok K,
  (He.Fa.meth "Reader" "read_single").ok K,
  d_Reader_read_fact.ok K,
  (He.Fa.meth "Reader" "read_fact").ok K,
  d_Reader_read_deed.ok K,
  (He.Fa.meth "Reader" "read_deed").ok K,
  d_is_number.ok K,
  (He.Fa.glo "is_number").ok K,
  d_words_of.ok K,
  (He.Fa.glo "words_of").ok K,
  d_rule_of.ok K,
  (He.Fa.glo "rule_of").ok K,
  d_read.ok K,
  (He.Fa.glo "read").ok K,
  d_check_names.ok K,
  (He.Fa.glo "check_names").ok K,
  d_word_names.ok K,
  (He.Fa.glo "word_names").ok K,
  d_facts_of.ok K,
  (He.Fa.glo "facts_of").ok K,
  d_add_facts.ok K,
  (He.Fa.glo "add_facts").ok K,
  d_sort.ok K,
  (He.Fa.glo "sort").ok K,
  d_acting.ok K,
  (He.Fa.glo "acting").ok K,
  d_check_letter.ok K,
  (He.Fa.glo "check_letter").ok K,
  d_way_through.ok K,
  (He.Fa.glo "way_through").ok K]
def exL2 (K : PySem.W.Frag) : List Bool := [
  d_Way_init.ok K,
  d_Way_outcome.ok K,
  (He.Fa.meth "Way" "outcome").ok K,
  d_Way_act.ok K,
  (He.Fa.meth "Way" "act").ok K,
  d_Way_holds.ok K,
  (He.Fa.meth "Way" "holds").ok K,
  d_Way_fact_holds.ok K,
  (He.Fa.meth "Way" "fact_holds").ok K,
  d_Way_has_pair.ok K,
  (He.Fa.meth "Way" "has_pair").ok K,
  d_ring.ok K,
  (He.Fa.glo "ring").ok K,
  d_is_house.ok K,
  (He.Fa.glo "is_house").ok K,
  d_read_house.ok K,
  (He.Fa.glo "read_house").ok K,
  d_all_rules.ok K,
  (He.Fa.glo "all_rules").ok K,
  d_House_init.ok K,
  d_House_deliver.ok K,
  (He.Fa.meth "House" "deliver").ok K,
  d_House_sort_at.ok K,
  (He.Fa.meth "House" "sort_at").ok K,
  d_House_way.ok K,
  (He.Fa.meth "House" "way").ok K,
  d_House_filed.ok K,
  (He.Fa.meth "House" "filed").ok K,
  d_House_outside.ok K,
  (He.Fa.meth "House" "outside").ok K]
def exL3 (K : PySem.W.Frag) : List Bool := [
  d_House_teach.ok K,
  (He.Fa.meth "House" "teach").ok K,
  d_House_rules.ok K,
  (He.Fa.meth "House" "rules").ok K,
  d_House_check_person.ok K,
  (He.Fa.meth "House" "check_person").ok K,
  d_reaching.ok K,
  (He.Fa.glo "reaching").ok K,
  d_law_draw.ok K,
  (He.Fa.glo "_law_draw").ok K,
  d_law_cell_at.ok K,
  (He.Fa.glo "_law_cell_at").ok K,
  d_law_digits.ok K,
  (He.Fa.glo "_law_digits").ok K,
  d_law_kinds.ok K,
  (He.Fa.glo "_law_kinds").ok K,
  d_law_is.ok K,
  (He.Fa.glo "_law_is").ok K,
  d_law_letters_right.ok K,
  (He.Fa.glo "_law_letters_right").ok K,
  d_law_names_right.ok K,
  (He.Fa.glo "_law_names_right").ok K,
  d_law_houses_right.ok K,
  (He.Fa.glo "_law_houses_right").ok K,
  d_law.ok K,
  (He.Fa.glo "law").ok K,
  (He.Fa.cls "Rule").ok K,
  (He.Fa.mkr "Rule").ok K,
  (He.Fa.glo "Rule").ok K,
  (He.Fa.noat "Rule" "words").ok K]
def exL4 (K : PySem.W.Frag) : List Bool := [
  (He.Fa.noat "Rule" "condition").ok K,
  (He.Fa.noat "Rule" "deeds").ok K,
  (He.Fa.cls "Reader").ok K,
  (He.Fa.mkr "Reader").ok K,
  (He.Fa.glo "Reader").ok K,
  (He.Fa.noat "Reader" "words").ok K,
  (He.Fa.noat "Reader" "row").ok K,
  (He.Fa.noat "Reader" "at").ok K,
  (He.Fa.cls "Way").ok K,
  (He.Fa.mkr "Way").ok K,
  (He.Fa.glo "Way").ok K,
  (He.Fa.noat "Way" "words").ok K,
  (He.Fa.noat "Way" "marks").ok K,
  (He.Fa.noat "Way" "folders").ok K,
  (He.Fa.noat "Way" "receivers").ok K,
  (He.Fa.noat "Way" "acts").ok K,
  (He.Fa.noat "Way" "stopped").ok K,
  (He.Fa.noat "Way" "sender").ok K,
  (He.Fa.noat "Way" "size").ok K,
  (He.Fa.cls "House").ok K,
  (He.Fa.mkr "House").ok K,
  (He.Fa.glo "House").ok K,
  (He.Fa.noat "House" "people").ok K,
  (He.Fa.noat "House" "texts").ok K,
  (He.Fa.noat "House" "ways").ok K,
  (He.Fa.noat "House" "filings").ok K,
  (He.Fa.noat "House" "sent").ok K,
  (He.Fa.glo "SortError").ok K,
  (He.Fa.glo "BadRule").ok K,
  (He.Fa.glo "BadText").ok K]
def exL5 (K : PySem.W.Frag) : List Bool := [
  (He.Fa.glo "BadLetter").ok K,
  (He.Fa.glo "BadName").ok K,
  (He.Fa.glo "BadHouse").ok K,
  (He.Fa.glo "TooMany").ok K,
  (He.Fa.glo "NoLetter").ok K,
  (He.Fa.free "all").ok K,
  (He.Fa.free "isinstance").ok K,
  (He.Fa.free "str").ok K,
  (He.Fa.free "len").ok K,
  (He.Fa.free "bool").ok K,
  (He.Fa.free "int").ok K,
  (He.Fa.free "tuple").ok K,
  (He.Fa.free "list").ok K,
  (He.Fa.free "sorted").ok K,
  (He.Fa.free "min").ok K,
  (He.Fa.free "range").ok K,
  (He.Fa.free "enumerate").ok K,
  (He.Fa.free "any").ok K,
  (He.Fa.free "dict").ok K,
  (He.Fa.free "abs").ok K,
  (He.Fa.free "sum").ok K,
  (He.Fa.free "ValueError").ok K,
  (He.Fa.int "NONE" 0).ok K,
  (He.Fa.int "ALL" 1).ok K,
  (He.Fa.str "SIGNS" "abcdefghijklmnopqrstuvwxyz").ok K,
  (He.Fa.int "LONGEST_NAME" 10).ok K,
  (He.Fa.int "BIGGEST_SIZE" 99999).ok K,
  (He.Fa.int "MOST_WORDS" 60).ok K,
  (He.Fa.int "MOST_NAMES" 4).ok K,
  (He.Fa.int "LONGEST_NUMBER" 5).ok K]
def exL6 (K : PySem.W.Frag) : List Bool := [
  (He.Fa.str "DIGITS" "0123456789").ok K,
  (He.Fa.glo "FACTS").ok K,
  (He.Fa.glo "DEEDS").ok K,
  (He.Fa.glo "WORD_FACTS").ok K,
  (He.Fa.glo "TOLD").ok K,
  (He.Fa.int "FOLDERS" 0).ok K,
  (He.Fa.int "RECEIVERS" 1).ok K,
  (He.Fa.int "MOST_PEOPLE" 5).ok K,
  He.valsB K (He.ga K "FACTS") [("from", .int 1), ("has", .int 1), ("first", .int 1), ("last", .int 1), ("pair", .int 2), ("marked", .int 1)],
  He.tupB K "DEEDS" [.str "mark", .str "unmark", .str "file", .str "pass"],
  decide (PySem.W.nsIn K (He.ga K "FACTS") "" = some none),
  He.tupB K "WORD_FACTS" [.str "has", .str "first", .str "last", .str "pair"],
  (He.Fa.free "super").ok K,
  PySem.W.excIn K (C_SortError K) PySem.HandSPX.veTail "ValueError.__new__",
  PySem.W.excIn K (C_BadText K) PySem.HandSPX.veTail "ValueError.__new__",
  PySem.W.excIn K (C_BadLetter K) PySem.HandSPX.veTail "ValueError.__new__",
  PySem.W.excIn K (C_BadName K) PySem.HandSPX.veTail "ValueError.__new__",
  PySem.W.excIn K (C_BadHouse K) PySem.HandSPX.veTail "ValueError.__new__",
  PySem.W.excIn K (C_TooMany K) PySem.HandSPX.veTail "ValueError.__new__",
  PySem.W.excIn K (C_NoLetter K) PySem.HandSPX.veTail "ValueError.__new__",
  PySem.W.keepIn K (.ref (C_SortError K)),
  decide (PySem.W.subIn K (.ref (C_SortError K)) (.type "BaseException") = some true),
  decide (PySem.W.typeIn K (.ref (C_SortError K)) = some (.type "type")),
  PySem.W.keepIn K (.ref (C_BadRule K)),
  decide (PySem.W.subIn K (.ref (C_BadRule K)) (.type "BaseException") = some true),
  decide (PySem.W.typeIn K (.ref (C_BadRule K)) = some (.type "type")),
  PySem.W.keepIn K (.ref (C_BadText K)),
  decide (PySem.W.subIn K (.ref (C_BadText K)) (.type "BaseException") = some true),
  decide (PySem.W.typeIn K (.ref (C_BadText K)) = some (.type "type")),
  PySem.W.keepIn K (.ref (C_BadLetter K))]
def exL7 (K : PySem.W.Frag) : List Bool := [
  decide (PySem.W.subIn K (.ref (C_BadLetter K)) (.type "BaseException") = some true),
  decide (PySem.W.typeIn K (.ref (C_BadLetter K)) = some (.type "type")),
  PySem.W.keepIn K (.ref (C_BadName K)),
  decide (PySem.W.subIn K (.ref (C_BadName K)) (.type "BaseException") = some true),
  decide (PySem.W.typeIn K (.ref (C_BadName K)) = some (.type "type")),
  PySem.W.keepIn K (.ref (C_BadHouse K)),
  decide (PySem.W.subIn K (.ref (C_BadHouse K)) (.type "BaseException") = some true),
  decide (PySem.W.typeIn K (.ref (C_BadHouse K)) = some (.type "type")),
  PySem.W.keepIn K (.ref (C_TooMany K)),
  decide (PySem.W.subIn K (.ref (C_TooMany K)) (.type "BaseException") = some true),
  decide (PySem.W.typeIn K (.ref (C_TooMany K)) = some (.type "type")),
  PySem.W.keepIn K (.ref (C_NoLetter K)),
  decide (PySem.W.subIn K (.ref (C_NoLetter K)) (.type "BaseException") = some true),
  decide (PySem.W.typeIn K (.ref (C_NoLetter K)) = some (.type "type")),
  decide (PySem.W.findIn K (.ref (C_BadRule K)) "__setattr__" = some (some (.builtin "object.__setattr__"))),
  decide (PySem.W.findIn K (.ref (C_BadRule K)) "__getattribute__" = some (some (.builtin "BaseException.__getattribute__"))),
  decide (PySem.W.findIn K (.ref (C_BadRule K)) "__getattr__" = some none),
  decide (PySem.W.findIn K (.ref (C_BadRule K)) "row" = some none),
  decide (PySem.W.findIn K (.ref (C_BadRule K)) "word" = some none),
  decide (PySem.W.findIn K (.ref (C_BadRule K)) "__init__" = some (some (.ref (a_BadRule_init K)))),
  decide (PySem.W.typeIn K (.ref (a_BadRule_init K)) = some (.type "function")),
  PySem.W.hasDictIn K (C_BadRule K),
  decide (PySem.W.exmOne K (.ref (C_BadRule K)) (.ref (C_BadRule K)) = some true),
  decide (PySem.W.ks_superIn K (C_BadRule K) (C_BadRule K) "__init__" = some (some (.builtin "ValueError.__init__"))),
  decide (PySem.W.subIn K (.ref (C_BadRule K)) (.type "ValueError") = some true),
  decide (PySem.W.mroIn K (C_BadRule K) (.ref (C_BadRule K)) = some true),
  decide (PySem.W.nsIn K cStatics "thirdparty.any" = some none),
  brClsB K,
  brFnB K,
  decide (PySem.W.specialIn K (.builtin "object.__class__") "__get__" = some (some (.builtin "getset_descriptor.__get__")))]
def exL8 (K : PySem.W.Frag) : List Bool := [
  decide (PySem.W.takesIn K (.builtin "object.__class__") = some true),
  decide (PySem.W.findIn K (.ref (C_BadLetter K)) "__getattribute__" = some (some (.builtin "BaseException.__getattribute__"))),
  decide (PySem.W.findIn K (.ref (C_BadLetter K)) "__getattr__" = some none),
  PySem.W.hasDictIn K (C_BadLetter K),
  decide (PySem.W.findIn K (.ref (C_BadLetter K)) "__class__" = some (some (.builtin "object.__class__"))),
  decide (PySem.W.mroIn K (C_BadLetter K) (.type "object") = some true),
  decide (PySem.W.exmOne K (.ref (C_BadLetter K)) (.ref (C_SortError K)) = some true),
  decide (PySem.W.kitOne K (.ref (C_BadLetter K)) (.ref (C_BadLetter K)) = some true),
  decide (PySem.W.kitOne K (.ref (C_BadLetter K)) (.ref (C_BadName K)) = some false),
  decide (PySem.W.kitOne K (.ref (C_BadLetter K)) (.ref (C_BadHouse K)) = some false),
  decide (PySem.W.kitOne K (.ref (C_BadLetter K)) (.ref (C_NoLetter K)) = some false),
  decide (PySem.W.kitOne K (.ref (C_BadLetter K)) (.ref (C_TooMany K)) = some false),
  decide (PySem.W.kitOne K (.ref (C_BadLetter K)) (.ref (C_BadText K)) = some false),
  decide (PySem.W.kitOne K (.ref (C_BadLetter K)) (.ref (C_BadRule K)) = some false),
  decide (PySem.W.kitOne K (.ref (C_BadLetter K)) (.type "ValueError") = some true),
  decide (PySem.W.findIn K (.ref (C_BadName K)) "__getattribute__" = some (some (.builtin "BaseException.__getattribute__"))),
  decide (PySem.W.findIn K (.ref (C_BadName K)) "__getattr__" = some none),
  PySem.W.hasDictIn K (C_BadName K),
  decide (PySem.W.findIn K (.ref (C_BadName K)) "__class__" = some (some (.builtin "object.__class__"))),
  decide (PySem.W.mroIn K (C_BadName K) (.type "object") = some true),
  decide (PySem.W.exmOne K (.ref (C_BadName K)) (.ref (C_SortError K)) = some true),
  decide (PySem.W.kitOne K (.ref (C_BadName K)) (.ref (C_BadLetter K)) = some false),
  decide (PySem.W.kitOne K (.ref (C_BadName K)) (.ref (C_BadName K)) = some true),
  decide (PySem.W.kitOne K (.ref (C_BadName K)) (.ref (C_BadHouse K)) = some false),
  decide (PySem.W.kitOne K (.ref (C_BadName K)) (.ref (C_NoLetter K)) = some false),
  decide (PySem.W.kitOne K (.ref (C_BadName K)) (.ref (C_TooMany K)) = some false),
  decide (PySem.W.kitOne K (.ref (C_BadName K)) (.ref (C_BadText K)) = some false),
  decide (PySem.W.kitOne K (.ref (C_BadName K)) (.ref (C_BadRule K)) = some false),
  decide (PySem.W.kitOne K (.ref (C_BadName K)) (.type "ValueError") = some true),
  decide (PySem.W.findIn K (.ref (C_BadHouse K)) "__getattribute__" = some (some (.builtin "BaseException.__getattribute__")))]
def exL9 (K : PySem.W.Frag) : List Bool := [
  decide (PySem.W.findIn K (.ref (C_BadHouse K)) "__getattr__" = some none),
  PySem.W.hasDictIn K (C_BadHouse K),
  decide (PySem.W.findIn K (.ref (C_BadHouse K)) "__class__" = some (some (.builtin "object.__class__"))),
  decide (PySem.W.mroIn K (C_BadHouse K) (.type "object") = some true),
  decide (PySem.W.exmOne K (.ref (C_BadHouse K)) (.ref (C_SortError K)) = some true),
  decide (PySem.W.kitOne K (.ref (C_BadHouse K)) (.ref (C_BadLetter K)) = some false),
  decide (PySem.W.kitOne K (.ref (C_BadHouse K)) (.ref (C_BadName K)) = some false),
  decide (PySem.W.kitOne K (.ref (C_BadHouse K)) (.ref (C_BadHouse K)) = some true),
  decide (PySem.W.kitOne K (.ref (C_BadHouse K)) (.ref (C_NoLetter K)) = some false),
  decide (PySem.W.kitOne K (.ref (C_BadHouse K)) (.ref (C_TooMany K)) = some false),
  decide (PySem.W.kitOne K (.ref (C_BadHouse K)) (.ref (C_BadText K)) = some false),
  decide (PySem.W.kitOne K (.ref (C_BadHouse K)) (.ref (C_BadRule K)) = some false),
  decide (PySem.W.kitOne K (.ref (C_BadHouse K)) (.type "ValueError") = some true),
  decide (PySem.W.findIn K (.ref (C_NoLetter K)) "__getattribute__" = some (some (.builtin "BaseException.__getattribute__"))),
  decide (PySem.W.findIn K (.ref (C_NoLetter K)) "__getattr__" = some none),
  PySem.W.hasDictIn K (C_NoLetter K),
  decide (PySem.W.findIn K (.ref (C_NoLetter K)) "__class__" = some (some (.builtin "object.__class__"))),
  decide (PySem.W.mroIn K (C_NoLetter K) (.type "object") = some true),
  decide (PySem.W.exmOne K (.ref (C_NoLetter K)) (.ref (C_SortError K)) = some true),
  decide (PySem.W.kitOne K (.ref (C_NoLetter K)) (.ref (C_BadLetter K)) = some false),
  decide (PySem.W.kitOne K (.ref (C_NoLetter K)) (.ref (C_BadName K)) = some false),
  decide (PySem.W.kitOne K (.ref (C_NoLetter K)) (.ref (C_BadHouse K)) = some false),
  decide (PySem.W.kitOne K (.ref (C_NoLetter K)) (.ref (C_NoLetter K)) = some true),
  decide (PySem.W.kitOne K (.ref (C_NoLetter K)) (.ref (C_TooMany K)) = some false),
  decide (PySem.W.kitOne K (.ref (C_NoLetter K)) (.ref (C_BadText K)) = some false),
  decide (PySem.W.kitOne K (.ref (C_NoLetter K)) (.ref (C_BadRule K)) = some false),
  decide (PySem.W.kitOne K (.ref (C_NoLetter K)) (.type "ValueError") = some true),
  decide (PySem.W.findIn K (.ref (C_TooMany K)) "__getattribute__" = some (some (.builtin "BaseException.__getattribute__"))),
  decide (PySem.W.findIn K (.ref (C_TooMany K)) "__getattr__" = some none),
  PySem.W.hasDictIn K (C_TooMany K)]
def exL10 (K : PySem.W.Frag) : List Bool := [
  decide (PySem.W.findIn K (.ref (C_TooMany K)) "__class__" = some (some (.builtin "object.__class__"))),
  decide (PySem.W.mroIn K (C_TooMany K) (.type "object") = some true),
  decide (PySem.W.exmOne K (.ref (C_TooMany K)) (.ref (C_SortError K)) = some true),
  decide (PySem.W.kitOne K (.ref (C_TooMany K)) (.ref (C_BadLetter K)) = some false),
  decide (PySem.W.kitOne K (.ref (C_TooMany K)) (.ref (C_BadName K)) = some false),
  decide (PySem.W.kitOne K (.ref (C_TooMany K)) (.ref (C_BadHouse K)) = some false),
  decide (PySem.W.kitOne K (.ref (C_TooMany K)) (.ref (C_NoLetter K)) = some false),
  decide (PySem.W.kitOne K (.ref (C_TooMany K)) (.ref (C_TooMany K)) = some true),
  decide (PySem.W.kitOne K (.ref (C_TooMany K)) (.ref (C_BadText K)) = some false),
  decide (PySem.W.kitOne K (.ref (C_TooMany K)) (.ref (C_BadRule K)) = some false),
  decide (PySem.W.kitOne K (.ref (C_TooMany K)) (.type "ValueError") = some true),
  decide (PySem.W.findIn K (.ref (C_BadText K)) "__getattribute__" = some (some (.builtin "BaseException.__getattribute__"))),
  decide (PySem.W.findIn K (.ref (C_BadText K)) "__getattr__" = some none),
  PySem.W.hasDictIn K (C_BadText K),
  decide (PySem.W.findIn K (.ref (C_BadText K)) "__class__" = some (some (.builtin "object.__class__"))),
  decide (PySem.W.mroIn K (C_BadText K) (.type "object") = some true),
  decide (PySem.W.exmOne K (.ref (C_BadText K)) (.ref (C_SortError K)) = some true),
  decide (PySem.W.kitOne K (.ref (C_BadText K)) (.ref (C_BadLetter K)) = some false),
  decide (PySem.W.kitOne K (.ref (C_BadText K)) (.ref (C_BadName K)) = some false),
  decide (PySem.W.kitOne K (.ref (C_BadText K)) (.ref (C_BadHouse K)) = some false),
  decide (PySem.W.kitOne K (.ref (C_BadText K)) (.ref (C_NoLetter K)) = some false),
  decide (PySem.W.kitOne K (.ref (C_BadText K)) (.ref (C_TooMany K)) = some false),
  decide (PySem.W.kitOne K (.ref (C_BadText K)) (.ref (C_BadText K)) = some true),
  decide (PySem.W.kitOne K (.ref (C_BadText K)) (.ref (C_BadRule K)) = some false),
  decide (PySem.W.kitOne K (.ref (C_BadText K)) (.type "ValueError") = some true),
  decide (PySem.W.findIn K (.ref (C_BadRule K)) "__getattribute__" = some (some (.builtin "BaseException.__getattribute__"))),
  decide (PySem.W.findIn K (.ref (C_BadRule K)) "__getattr__" = some none),
  PySem.W.hasDictIn K (C_BadRule K),
  decide (PySem.W.findIn K (.ref (C_BadRule K)) "__class__" = some (some (.builtin "object.__class__"))),
  decide (PySem.W.mroIn K (C_BadRule K) (.type "object") = some true)]
def exL11 (K : PySem.W.Frag) : List Bool := [
  decide (PySem.W.exmOne K (.ref (C_BadRule K)) (.ref (C_SortError K)) = some true),
  decide (PySem.W.kitOne K (.ref (C_BadRule K)) (.ref (C_BadLetter K)) = some false),
  decide (PySem.W.kitOne K (.ref (C_BadRule K)) (.ref (C_BadName K)) = some false),
  decide (PySem.W.kitOne K (.ref (C_BadRule K)) (.ref (C_BadHouse K)) = some false),
  decide (PySem.W.kitOne K (.ref (C_BadRule K)) (.ref (C_NoLetter K)) = some false),
  decide (PySem.W.kitOne K (.ref (C_BadRule K)) (.ref (C_TooMany K)) = some false),
  decide (PySem.W.kitOne K (.ref (C_BadRule K)) (.ref (C_BadText K)) = some false),
  decide (PySem.W.kitOne K (.ref (C_BadRule K)) (.ref (C_BadRule K)) = some true),
  decide (PySem.W.kitOne K (.ref (C_BadRule K)) (.type "ValueError") = some true)]
def exB (K : PySem.W.Frag) : Bool := (exL0 K).all id && ((exL1 K).all id && ((exL2 K).all id && ((exL3 K).all id && ((exL4 K).all id && ((exL5 K).all id && ((exL6 K).all id && ((exL7 K).all id && ((exL8 K).all id && ((exL9 K).all id && ((exL10 K).all id && ((exL11 K).all id && (decide (tfT.map fun p => (He.cT K p).2).Nodup))))))))))))
def zL : List He.DefD := [d_is_name, d_is_size, d_is_letter, d_name_key, d_in_order, d_Rule_init, d_Reader_init, d_Reader_fail, d_Reader_peek, d_Reader_take, d_Reader_skip, d_Reader_take_name, d_Reader_take_number, d_Reader_read_rule, d_Reader_read_condition, d_Reader_read_joined, d_Reader_read_single, d_Reader_read_fact, d_Reader_read_deed, d_is_number, d_words_of, d_rule_of, d_read, d_check_names, d_word_names, d_facts_of, d_add_facts, d_sort, d_acting, d_check_letter, d_way_through, d_Way_init, d_Way_outcome, d_Way_act, d_Way_holds, d_Way_fact_holds, d_Way_has_pair, d_ring, d_is_house, d_read_house, d_all_rules, d_House_init, d_House_deliver, d_House_sort_at, d_House_way, d_House_filed, d_House_outside, d_House_teach, d_House_rules, d_House_check_person, d_reaching, d_law_draw, d_law_cell_at, d_law_digits, d_law_kinds, d_law_is, d_law_letters_right, d_law_names_right, d_law_houses_right, d_law]
/-- the def in BadRule's body, but for where its cell stands -/
abbrev FnC : Type := Option (Str × Str × Arguments × FuncBody × Scope × Addr × List Str × Addr)
def fnC (K : PySem.W.Frag) : FnC := (He.fnW K ("BadRule", some "__init__")).map fun q => (q.1, q.2.1, q.2.2.1, q.2.2.2.1, q.2.2.2.2.1, q.2.2.2.2.2.1, q.2.2.2.2.2.2.1.map (·.1), q.2.2.2.2.2.2.2)
def fnCv : FnC := some (("__init__" : Str), ("BadRule.__init__" : Str), defArgs s_BadRule_init, FuncBody.stmts (defBody s_BadRule_init), defScope s_BadRule_init, mainGlobals, [("__class__" : Str)], builtinsNs)
abbrev AlY : Type := Bool × (List He.FnW × (Option (List (Option (Str × Int))) × FnC))
def obsK (g : Addr → Option Obj) (K : PySem.W.Frag) : AlY := (exB K && He.tabsB g tfT K, zL.map (fun d => He.fnW K d.at_), He.dicW K (He.ga K "FACTS"), fnC K)
def valY (w : World) : AlY := (true, zL.map He.DefD.val, some (He.keysIn w.params ["from", "has", "first", "last", "pair", "marked"]), fnCv)
structure SaysY (w : World) (h : Heap) (K : PySem.W.Frag) : Prop where
  ex : exB K = true
  hd : ∀ p ∈ tfT, PySem.W.codeHdIn K (He.cT K p).1 (He.cT K p).2 = true
  out : ∀ p ∈ tfT, K.lookup (He.cT K p).2 = none
  emp : ∀ p ∈ tfT, h.get? (He.cT K p).2 = some (PySem.W.tabObj #[])
  z : zL.map (fun d => He.fnW K d.at_) = zL.map He.DefD.val
  t : He.dicW K (He.ga K "FACTS") = some (He.keysIn w.params ["from", "has", "first", "last", "pair", "marked"])
  c : fnC K = fnCv
theorem saysY {w : World} {h : Heap} {as : List Addr} (e : obsK h.get? (He.frT h.get? as) = valY w) : SaysY w h (He.frT h.get? as) := by
  obtain ⟨e1, e2⟩ := Prod.mk.inj e
  obtain ⟨e2, e3⟩ := Prod.mk.inj e2
  obtain ⟨e3, e4⟩ := Prod.mk.inj e3
  obtain ⟨b1, b2⟩ := Bool.and_eq_true_iff.mp e1
  have tb : ∀ p ∈ tfT, PySem.W.codeHdIn (He.frT h.get? as) (He.cT (He.frT h.get? as) p).1 (He.cT (He.frT h.get? as) p).2 = true ∧ ∃ u, h.get? (He.cT (He.frT h.get? as) p).2 = some u ∧ He.emptyTab u = true := fun p m => by
    obtain ⟨c1, c2⟩ := Bool.and_eq_true_iff.mp (List.all_eq_true.mp b2 p m)
    refine ⟨c1, ?_⟩
    split at c2
    · rename_i u eu
      exact ⟨u, eu, c2⟩
    · cases c2
  refine ⟨b1, fun p m => (tb p m).1, fun p m => ?_, fun p m => ?_, e2, e3, e4⟩
  · obtain ⟨_, u, eu, z⟩ := tb p m
    exact He.frT_none eu z
  · obtain ⟨_, u, eu, z⟩ := tb p m
    rw [eu, He.emptyTab_eq z]
def hookY (as : List Addr) : PySem.W.Hook where
  α := AlY
  obs := fun s => obsK s.heap.get? (He.frT s.heap.get? as)
  val := valY
  says := fun w h => ∃ K : PySem.W.Frag, K.In h ∧ SaysY w h K
  of := fun _ _ e => ⟨_, He.frT_in, saysY e⟩
  keeps := fun _ _ _ ⟨K, i, c⟩ k => ⟨K, PySem.W.Frag.In.keeps i k, c.ex, c.hd, c.out, fun p m => k _ _ (c.emp p m), c.z, c.t, c.c⟩
theorem all_at {l : List Bool} (h : l.all id = true) (i : Nat) {b : Bool} (e : l[i]? = some b) : b = true := List.all_eq_true.mp h b (List.mem_of_getElem? e)
theorem map_at {α β : Type} {l : List α} {f g : α → β} (h : l.map f = l.map g) (i : Nat) {d : α} (e : l[i]? = some d) : f d = g d := by
  have q : (l.map f)[i]? = (l.map g)[i]? := by rw [h]
  rw [List.getElem?_map, List.getElem?_map, e] at q
  exact Option.some.inj q
theorem fnW_br {K : PySem.W.Frag} (h : fnC K = fnCv) (hb : brFnB K = true) : He.fnW K ("BadRule", some "__init__") = some (("__init__" : Str), ("BadRule.__init__" : Str), defArgs s_BadRule_init, FuncBody.stmts (defBody s_BadRule_init), defScope s_BadRule_init, mainGlobals, [(("__class__" : Str), brCell K)], builtinsNs) := by
  unfold fnC fnCv at h
  cases q : He.fnW K ("BadRule", some "__init__") with
  | none => rw [q] at h; cases h
  | some v =>
    rw [q] at h
    obtain ⟨v1, v2, v3, v4, v5, v6, v7, v8⟩ := v
    have h := Option.some.inj h
    simp only [Prod.mk.injEq] at h
    obtain ⟨rfl, rfl, rfl, rfl, rfl, rfl, h7, rfl⟩ := h
    match v7, h7, q with
    | [(x, c)], h7, q =>
      have hx : x = "__class__" := by injection h7
      subst hx
      have hc : brCell K = c := by
        unfold brCell
        unfold He.fnW at q
        have ea : He.fAd K ("BadRule", some "__init__") = a_BadRule_init K := rfl
        rw [ea] at q
        split at q
        · rename_i fd _ lk
          rw [lk]
          have q := Option.some.inj q
          simp only [Prod.mk.injEq] at q
          obtain ⟨_, _, _, _, _, _, q7, _⟩ := q
          dsimp only
          rw [q7]
        · cases q
      rw [hc]

theorem factsY {w : World} {h : Heap} {K : PySem.W.Frag} (c : SaysY w h K) : Facts w K ∧ decide (tfT.map fun p => (He.cT K p).2).Nodup = true := by
  have e := c.ex
  unfold exB at e
  simp only [Bool.and_eq_true] at e
  obtain ⟨x0, x1, x2, x3, x4, x5, x6, x7, x8, x9, x10, x11, ap⟩ := e
  refine ⟨?_, ap⟩
  exact {
    y_is_name := all_at x0 0 rfl,
    g_is_name := all_at x0 1 rfl,
    y_is_size := all_at x0 2 rfl,
    g_is_size := all_at x0 3 rfl,
    y_is_letter := all_at x0 4 rfl,
    g_is_letter := all_at x0 5 rfl,
    y_name_key := all_at x0 6 rfl,
    g_name_key := all_at x0 7 rfl,
    y_in_order := all_at x0 8 rfl,
    g_in_order := all_at x0 9 rfl,
    y_Rule_init := all_at x0 10 rfl,
    y_Reader_init := all_at x0 11 rfl,
    y_Reader_fail := all_at x0 12 rfl,
    m_Reader_fail := all_at x0 13 rfl,
    y_Reader_peek := all_at x0 14 rfl,
    m_Reader_peek := all_at x0 15 rfl,
    y_Reader_take := all_at x0 16 rfl,
    m_Reader_take := all_at x0 17 rfl,
    y_Reader_skip := all_at x0 18 rfl,
    m_Reader_skip := all_at x0 19 rfl,
    y_Reader_take_name := all_at x0 20 rfl,
    m_Reader_take_name := all_at x0 21 rfl,
    y_Reader_take_number := all_at x0 22 rfl,
    m_Reader_take_number := all_at x0 23 rfl,
    y_Reader_read_rule := all_at x0 24 rfl,
    m_Reader_read_rule := all_at x0 25 rfl,
    y_Reader_read_condition := all_at x0 26 rfl,
    m_Reader_read_condition := all_at x0 27 rfl,
    y_Reader_read_joined := all_at x0 28 rfl,
    m_Reader_read_joined := all_at x0 29 rfl,
    y_Reader_read_single := all_at x1 0 rfl,
    m_Reader_read_single := all_at x1 1 rfl,
    y_Reader_read_fact := all_at x1 2 rfl,
    m_Reader_read_fact := all_at x1 3 rfl,
    y_Reader_read_deed := all_at x1 4 rfl,
    m_Reader_read_deed := all_at x1 5 rfl,
    y_is_number := all_at x1 6 rfl,
    g_is_number := all_at x1 7 rfl,
    y_words_of := all_at x1 8 rfl,
    g_words_of := all_at x1 9 rfl,
    y_rule_of := all_at x1 10 rfl,
    g_rule_of := all_at x1 11 rfl,
    y_read := all_at x1 12 rfl,
    g_read := all_at x1 13 rfl,
    y_check_names := all_at x1 14 rfl,
    g_check_names := all_at x1 15 rfl,
    y_word_names := all_at x1 16 rfl,
    g_word_names := all_at x1 17 rfl,
    y_facts_of := all_at x1 18 rfl,
    g_facts_of := all_at x1 19 rfl,
    y_add_facts := all_at x1 20 rfl,
    g_add_facts := all_at x1 21 rfl,
    y_sort := all_at x1 22 rfl,
    g_sort := all_at x1 23 rfl,
    y_acting := all_at x1 24 rfl,
    g_acting := all_at x1 25 rfl,
    y_check_letter := all_at x1 26 rfl,
    g_check_letter := all_at x1 27 rfl,
    y_way_through := all_at x1 28 rfl,
    g_way_through := all_at x1 29 rfl,
    y_Way_init := all_at x2 0 rfl,
    y_Way_outcome := all_at x2 1 rfl,
    m_Way_outcome := all_at x2 2 rfl,
    y_Way_act := all_at x2 3 rfl,
    m_Way_act := all_at x2 4 rfl,
    y_Way_holds := all_at x2 5 rfl,
    m_Way_holds := all_at x2 6 rfl,
    y_Way_fact_holds := all_at x2 7 rfl,
    m_Way_fact_holds := all_at x2 8 rfl,
    y_Way_has_pair := all_at x2 9 rfl,
    m_Way_has_pair := all_at x2 10 rfl,
    y_ring := all_at x2 11 rfl,
    g_ring := all_at x2 12 rfl,
    y_is_house := all_at x2 13 rfl,
    g_is_house := all_at x2 14 rfl,
    y_read_house := all_at x2 15 rfl,
    g_read_house := all_at x2 16 rfl,
    y_all_rules := all_at x2 17 rfl,
    g_all_rules := all_at x2 18 rfl,
    y_House_init := all_at x2 19 rfl,
    y_House_deliver := all_at x2 20 rfl,
    m_House_deliver := all_at x2 21 rfl,
    y_House_sort_at := all_at x2 22 rfl,
    m_House_sort_at := all_at x2 23 rfl,
    y_House_way := all_at x2 24 rfl,
    m_House_way := all_at x2 25 rfl,
    y_House_filed := all_at x2 26 rfl,
    m_House_filed := all_at x2 27 rfl,
    y_House_outside := all_at x2 28 rfl,
    m_House_outside := all_at x2 29 rfl,
    y_House_teach := all_at x3 0 rfl,
    m_House_teach := all_at x3 1 rfl,
    y_House_rules := all_at x3 2 rfl,
    m_House_rules := all_at x3 3 rfl,
    y_House_check_person := all_at x3 4 rfl,
    m_House_check_person := all_at x3 5 rfl,
    y_reaching := all_at x3 6 rfl,
    g_reaching := all_at x3 7 rfl,
    y_law_draw := all_at x3 8 rfl,
    g_law_draw := all_at x3 9 rfl,
    y_law_cell_at := all_at x3 10 rfl,
    g_law_cell_at := all_at x3 11 rfl,
    y_law_digits := all_at x3 12 rfl,
    g_law_digits := all_at x3 13 rfl,
    y_law_kinds := all_at x3 14 rfl,
    g_law_kinds := all_at x3 15 rfl,
    y_law_is := all_at x3 16 rfl,
    g_law_is := all_at x3 17 rfl,
    y_law_letters_right := all_at x3 18 rfl,
    g_law_letters_right := all_at x3 19 rfl,
    y_law_names_right := all_at x3 20 rfl,
    g_law_names_right := all_at x3 21 rfl,
    y_law_houses_right := all_at x3 22 rfl,
    g_law_houses_right := all_at x3 23 rfl,
    y_law := all_at x3 24 rfl,
    g_law := all_at x3 25 rfl,
    c_Rule := all_at x3 26 rfl,
    mk_Rule := all_at x3 27 rfl,
    g_Rule := all_at x3 28 rfl,
    n_Rule_words := all_at x3 29 rfl,
    n_Rule_condition := all_at x4 0 rfl,
    n_Rule_deeds := all_at x4 1 rfl,
    c_Reader := all_at x4 2 rfl,
    mk_Reader := all_at x4 3 rfl,
    g_Reader := all_at x4 4 rfl,
    n_Reader_words := all_at x4 5 rfl,
    n_Reader_row := all_at x4 6 rfl,
    n_Reader_at := all_at x4 7 rfl,
    c_Way := all_at x4 8 rfl,
    mk_Way := all_at x4 9 rfl,
    g_Way := all_at x4 10 rfl,
    n_Way_words := all_at x4 11 rfl,
    n_Way_marks := all_at x4 12 rfl,
    n_Way_folders := all_at x4 13 rfl,
    n_Way_receivers := all_at x4 14 rfl,
    n_Way_acts := all_at x4 15 rfl,
    n_Way_stopped := all_at x4 16 rfl,
    n_Way_sender := all_at x4 17 rfl,
    n_Way_size := all_at x4 18 rfl,
    c_House := all_at x4 19 rfl,
    mk_House := all_at x4 20 rfl,
    g_House := all_at x4 21 rfl,
    n_House_people := all_at x4 22 rfl,
    n_House_texts := all_at x4 23 rfl,
    n_House_ways := all_at x4 24 rfl,
    n_House_filings := all_at x4 25 rfl,
    n_House_sent := all_at x4 26 rfl,
    g_SortError := all_at x4 27 rfl,
    g_BadRule := all_at x4 28 rfl,
    g_BadText := all_at x4 29 rfl,
    g_BadLetter := all_at x5 0 rfl,
    g_BadName := all_at x5 1 rfl,
    g_BadHouse := all_at x5 2 rfl,
    g_TooMany := all_at x5 3 rfl,
    g_NoLetter := all_at x5 4 rfl,
    fr_all := all_at x5 5 rfl,
    fr_isinstance := all_at x5 6 rfl,
    fr_str := all_at x5 7 rfl,
    fr_len := all_at x5 8 rfl,
    fr_bool := all_at x5 9 rfl,
    fr_int := all_at x5 10 rfl,
    fr_tuple := all_at x5 11 rfl,
    fr_list := all_at x5 12 rfl,
    fr_sorted := all_at x5 13 rfl,
    fr_min := all_at x5 14 rfl,
    fr_range := all_at x5 15 rfl,
    fr_enumerate := all_at x5 16 rfl,
    fr_any := all_at x5 17 rfl,
    fr_dict := all_at x5 18 rfl,
    fr_abs := all_at x5 19 rfl,
    fr_sum := all_at x5 20 rfl,
    fr_ValueError := all_at x5 21 rfl,
    i_NONE := all_at x5 22 rfl,
    i_ALL := all_at x5 23 rfl,
    i_SIGNS := all_at x5 24 rfl,
    i_LONGEST_NAME := all_at x5 25 rfl,
    i_BIGGEST_SIZE := all_at x5 26 rfl,
    i_MOST_WORDS := all_at x5 27 rfl,
    i_MOST_NAMES := all_at x5 28 rfl,
    i_LONGEST_NUMBER := all_at x5 29 rfl,
    i_DIGITS := all_at x6 0 rfl,
    g_FACTS := all_at x6 1 rfl,
    g_DEEDS := all_at x6 2 rfl,
    g_WORD_FACTS := all_at x6 3 rfl,
    g_TOLD := all_at x6 4 rfl,
    i_FOLDERS := all_at x6 5 rfl,
    i_RECEIVERS := all_at x6 6 rfl,
    i_MOST_PEOPLE := all_at x6 7 rfl,
    v_FACTS := all_at x6 8 rfl,
    t_DEEDS := all_at x6 9 rfl,
    n_FACTS := of_decide_eq_true (all_at x6 10 rfl),
    t_WORD_FACTS := all_at x6 11 rfl,
    fr_super := all_at x6 12 rfl,
    ex_SortError := all_at x6 13 rfl,
    ex_BadText := all_at x6 14 rfl,
    ex_BadLetter := all_at x6 15 rfl,
    ex_BadName := all_at x6 16 rfl,
    ex_BadHouse := all_at x6 17 rfl,
    ex_TooMany := all_at x6 18 rfl,
    ex_NoLetter := all_at x6 19 rfl,
    ek_SortError := all_at x6 20 rfl,
    es_SortError := of_decide_eq_true (all_at x6 21 rfl),
    ey_SortError := of_decide_eq_true (all_at x6 22 rfl),
    ek_BadRule := all_at x6 23 rfl,
    es_BadRule := of_decide_eq_true (all_at x6 24 rfl),
    ey_BadRule := of_decide_eq_true (all_at x6 25 rfl),
    ek_BadText := all_at x6 26 rfl,
    es_BadText := of_decide_eq_true (all_at x6 27 rfl),
    ey_BadText := of_decide_eq_true (all_at x6 28 rfl),
    ek_BadLetter := all_at x6 29 rfl,
    es_BadLetter := of_decide_eq_true (all_at x7 0 rfl),
    ey_BadLetter := of_decide_eq_true (all_at x7 1 rfl),
    ek_BadName := all_at x7 2 rfl,
    es_BadName := of_decide_eq_true (all_at x7 3 rfl),
    ey_BadName := of_decide_eq_true (all_at x7 4 rfl),
    ek_BadHouse := all_at x7 5 rfl,
    es_BadHouse := of_decide_eq_true (all_at x7 6 rfl),
    ey_BadHouse := of_decide_eq_true (all_at x7 7 rfl),
    ek_TooMany := all_at x7 8 rfl,
    es_TooMany := of_decide_eq_true (all_at x7 9 rfl),
    ey_TooMany := of_decide_eq_true (all_at x7 10 rfl),
    ek_NoLetter := all_at x7 11 rfl,
    es_NoLetter := of_decide_eq_true (all_at x7 12 rfl),
    ey_NoLetter := of_decide_eq_true (all_at x7 13 rfl),
    b_sa := of_decide_eq_true (all_at x7 14 rfl),
    b_ga := of_decide_eq_true (all_at x7 15 rfl),
    b_gg := of_decide_eq_true (all_at x7 16 rfl),
    b_nR := of_decide_eq_true (all_at x7 17 rfl),
    b_nW := of_decide_eq_true (all_at x7 18 rfl),
    b_iC := of_decide_eq_true (all_at x7 19 rfl),
    b_tC := of_decide_eq_true (all_at x7 20 rfl),
    b_hd := all_at x7 21 rfl,
    b_te := of_decide_eq_true (all_at x7 22 rfl),
    b_su := of_decide_eq_true (all_at x7 23 rfl),
    b_sV := of_decide_eq_true (all_at x7 24 rfl),
    b_mr := of_decide_eq_true (all_at x7 25 rfl),
    b_tp := of_decide_eq_true (all_at x7 26 rfl),
    b_cls := all_at x7 27 rfl,
    b_fnB := all_at x7 28 rfl,
    h_hn := of_decide_eq_true (all_at x7 29 rfl),
    h_ht := of_decide_eq_true (all_at x8 0 rfl),
    h0g := of_decide_eq_true (all_at x8 1 rfl),
    h0k := of_decide_eq_true (all_at x8 2 rfl),
    h0d := all_at x8 3 rfl,
    h0a := of_decide_eq_true (all_at x8 4 rfl),
    h0m := of_decide_eq_true (all_at x8 5 rfl),
    h0s := of_decide_eq_true (all_at x8 6 rfl),
    h0_0 := of_decide_eq_true (all_at x8 7 rfl),
    h0_1 := of_decide_eq_true (all_at x8 8 rfl),
    h0_2 := of_decide_eq_true (all_at x8 9 rfl),
    h0_3 := of_decide_eq_true (all_at x8 10 rfl),
    h0_4 := of_decide_eq_true (all_at x8 11 rfl),
    h0_5 := of_decide_eq_true (all_at x8 12 rfl),
    h0_6 := of_decide_eq_true (all_at x8 13 rfl),
    h0v := of_decide_eq_true (all_at x8 14 rfl),
    h1g := of_decide_eq_true (all_at x8 15 rfl),
    h1k := of_decide_eq_true (all_at x8 16 rfl),
    h1d := all_at x8 17 rfl,
    h1a := of_decide_eq_true (all_at x8 18 rfl),
    h1m := of_decide_eq_true (all_at x8 19 rfl),
    h1s := of_decide_eq_true (all_at x8 20 rfl),
    h1_0 := of_decide_eq_true (all_at x8 21 rfl),
    h1_1 := of_decide_eq_true (all_at x8 22 rfl),
    h1_2 := of_decide_eq_true (all_at x8 23 rfl),
    h1_3 := of_decide_eq_true (all_at x8 24 rfl),
    h1_4 := of_decide_eq_true (all_at x8 25 rfl),
    h1_5 := of_decide_eq_true (all_at x8 26 rfl),
    h1_6 := of_decide_eq_true (all_at x8 27 rfl),
    h1v := of_decide_eq_true (all_at x8 28 rfl),
    h2g := of_decide_eq_true (all_at x8 29 rfl),
    h2k := of_decide_eq_true (all_at x9 0 rfl),
    h2d := all_at x9 1 rfl,
    h2a := of_decide_eq_true (all_at x9 2 rfl),
    h2m := of_decide_eq_true (all_at x9 3 rfl),
    h2s := of_decide_eq_true (all_at x9 4 rfl),
    h2_0 := of_decide_eq_true (all_at x9 5 rfl),
    h2_1 := of_decide_eq_true (all_at x9 6 rfl),
    h2_2 := of_decide_eq_true (all_at x9 7 rfl),
    h2_3 := of_decide_eq_true (all_at x9 8 rfl),
    h2_4 := of_decide_eq_true (all_at x9 9 rfl),
    h2_5 := of_decide_eq_true (all_at x9 10 rfl),
    h2_6 := of_decide_eq_true (all_at x9 11 rfl),
    h2v := of_decide_eq_true (all_at x9 12 rfl),
    h3g := of_decide_eq_true (all_at x9 13 rfl),
    h3k := of_decide_eq_true (all_at x9 14 rfl),
    h3d := all_at x9 15 rfl,
    h3a := of_decide_eq_true (all_at x9 16 rfl),
    h3m := of_decide_eq_true (all_at x9 17 rfl),
    h3s := of_decide_eq_true (all_at x9 18 rfl),
    h3_0 := of_decide_eq_true (all_at x9 19 rfl),
    h3_1 := of_decide_eq_true (all_at x9 20 rfl),
    h3_2 := of_decide_eq_true (all_at x9 21 rfl),
    h3_3 := of_decide_eq_true (all_at x9 22 rfl),
    h3_4 := of_decide_eq_true (all_at x9 23 rfl),
    h3_5 := of_decide_eq_true (all_at x9 24 rfl),
    h3_6 := of_decide_eq_true (all_at x9 25 rfl),
    h3v := of_decide_eq_true (all_at x9 26 rfl),
    h4g := of_decide_eq_true (all_at x9 27 rfl),
    h4k := of_decide_eq_true (all_at x9 28 rfl),
    h4d := all_at x9 29 rfl,
    h4a := of_decide_eq_true (all_at x10 0 rfl),
    h4m := of_decide_eq_true (all_at x10 1 rfl),
    h4s := of_decide_eq_true (all_at x10 2 rfl),
    h4_0 := of_decide_eq_true (all_at x10 3 rfl),
    h4_1 := of_decide_eq_true (all_at x10 4 rfl),
    h4_2 := of_decide_eq_true (all_at x10 5 rfl),
    h4_3 := of_decide_eq_true (all_at x10 6 rfl),
    h4_4 := of_decide_eq_true (all_at x10 7 rfl),
    h4_5 := of_decide_eq_true (all_at x10 8 rfl),
    h4_6 := of_decide_eq_true (all_at x10 9 rfl),
    h4v := of_decide_eq_true (all_at x10 10 rfl),
    h5g := of_decide_eq_true (all_at x10 11 rfl),
    h5k := of_decide_eq_true (all_at x10 12 rfl),
    h5d := all_at x10 13 rfl,
    h5a := of_decide_eq_true (all_at x10 14 rfl),
    h5m := of_decide_eq_true (all_at x10 15 rfl),
    h5s := of_decide_eq_true (all_at x10 16 rfl),
    h5_0 := of_decide_eq_true (all_at x10 17 rfl),
    h5_1 := of_decide_eq_true (all_at x10 18 rfl),
    h5_2 := of_decide_eq_true (all_at x10 19 rfl),
    h5_3 := of_decide_eq_true (all_at x10 20 rfl),
    h5_4 := of_decide_eq_true (all_at x10 21 rfl),
    h5_5 := of_decide_eq_true (all_at x10 22 rfl),
    h5_6 := of_decide_eq_true (all_at x10 23 rfl),
    h5v := of_decide_eq_true (all_at x10 24 rfl),
    h6g := of_decide_eq_true (all_at x10 25 rfl),
    h6k := of_decide_eq_true (all_at x10 26 rfl),
    h6d := all_at x10 27 rfl,
    h6a := of_decide_eq_true (all_at x10 28 rfl),
    h6m := of_decide_eq_true (all_at x10 29 rfl),
    h6s := of_decide_eq_true (all_at x11 0 rfl),
    h6_0 := of_decide_eq_true (all_at x11 1 rfl),
    h6_1 := of_decide_eq_true (all_at x11 2 rfl),
    h6_2 := of_decide_eq_true (all_at x11 3 rfl),
    h6_3 := of_decide_eq_true (all_at x11 4 rfl),
    h6_4 := of_decide_eq_true (all_at x11 5 rfl),
    h6_5 := of_decide_eq_true (all_at x11 6 rfl),
    h6_6 := of_decide_eq_true (all_at x11 7 rfl),
    h6v := of_decide_eq_true (all_at x11 8 rfl),
    z_is_name := map_at c.z 0 (d := d_is_name) rfl,
    z_is_size := map_at c.z 1 (d := d_is_size) rfl,
    z_is_letter := map_at c.z 2 (d := d_is_letter) rfl,
    z_name_key := map_at c.z 3 (d := d_name_key) rfl,
    z_in_order := map_at c.z 4 (d := d_in_order) rfl,
    z_Rule_init := map_at c.z 5 (d := d_Rule_init) rfl,
    z_Reader_init := map_at c.z 6 (d := d_Reader_init) rfl,
    z_Reader_fail := map_at c.z 7 (d := d_Reader_fail) rfl,
    z_Reader_peek := map_at c.z 8 (d := d_Reader_peek) rfl,
    z_Reader_take := map_at c.z 9 (d := d_Reader_take) rfl,
    z_Reader_skip := map_at c.z 10 (d := d_Reader_skip) rfl,
    z_Reader_take_name := map_at c.z 11 (d := d_Reader_take_name) rfl,
    z_Reader_take_number := map_at c.z 12 (d := d_Reader_take_number) rfl,
    z_Reader_read_rule := map_at c.z 13 (d := d_Reader_read_rule) rfl,
    z_Reader_read_condition := map_at c.z 14 (d := d_Reader_read_condition) rfl,
    z_Reader_read_joined := map_at c.z 15 (d := d_Reader_read_joined) rfl,
    z_Reader_read_single := map_at c.z 16 (d := d_Reader_read_single) rfl,
    z_Reader_read_fact := map_at c.z 17 (d := d_Reader_read_fact) rfl,
    z_Reader_read_deed := map_at c.z 18 (d := d_Reader_read_deed) rfl,
    z_is_number := map_at c.z 19 (d := d_is_number) rfl,
    z_words_of := map_at c.z 20 (d := d_words_of) rfl,
    z_rule_of := map_at c.z 21 (d := d_rule_of) rfl,
    z_read := map_at c.z 22 (d := d_read) rfl,
    z_check_names := map_at c.z 23 (d := d_check_names) rfl,
    z_word_names := map_at c.z 24 (d := d_word_names) rfl,
    z_facts_of := map_at c.z 25 (d := d_facts_of) rfl,
    z_add_facts := map_at c.z 26 (d := d_add_facts) rfl,
    z_sort := map_at c.z 27 (d := d_sort) rfl,
    z_acting := map_at c.z 28 (d := d_acting) rfl,
    z_check_letter := map_at c.z 29 (d := d_check_letter) rfl,
    z_way_through := map_at c.z 30 (d := d_way_through) rfl,
    z_Way_init := map_at c.z 31 (d := d_Way_init) rfl,
    z_Way_outcome := map_at c.z 32 (d := d_Way_outcome) rfl,
    z_Way_act := map_at c.z 33 (d := d_Way_act) rfl,
    z_Way_holds := map_at c.z 34 (d := d_Way_holds) rfl,
    z_Way_fact_holds := map_at c.z 35 (d := d_Way_fact_holds) rfl,
    z_Way_has_pair := map_at c.z 36 (d := d_Way_has_pair) rfl,
    z_ring := map_at c.z 37 (d := d_ring) rfl,
    z_is_house := map_at c.z 38 (d := d_is_house) rfl,
    z_read_house := map_at c.z 39 (d := d_read_house) rfl,
    z_all_rules := map_at c.z 40 (d := d_all_rules) rfl,
    z_House_init := map_at c.z 41 (d := d_House_init) rfl,
    z_House_deliver := map_at c.z 42 (d := d_House_deliver) rfl,
    z_House_sort_at := map_at c.z 43 (d := d_House_sort_at) rfl,
    z_House_way := map_at c.z 44 (d := d_House_way) rfl,
    z_House_filed := map_at c.z 45 (d := d_House_filed) rfl,
    z_House_outside := map_at c.z 46 (d := d_House_outside) rfl,
    z_House_teach := map_at c.z 47 (d := d_House_teach) rfl,
    z_House_rules := map_at c.z 48 (d := d_House_rules) rfl,
    z_House_check_person := map_at c.z 49 (d := d_House_check_person) rfl,
    z_reaching := map_at c.z 50 (d := d_reaching) rfl,
    z_law_draw := map_at c.z 51 (d := d_law_draw) rfl,
    z_law_cell_at := map_at c.z 52 (d := d_law_cell_at) rfl,
    z_law_digits := map_at c.z 53 (d := d_law_digits) rfl,
    z_law_kinds := map_at c.z 54 (d := d_law_kinds) rfl,
    z_law_is := map_at c.z 55 (d := d_law_is) rfl,
    z_law_letters_right := map_at c.z 56 (d := d_law_letters_right) rfl,
    z_law_names_right := map_at c.z 57 (d := d_law_names_right) rfl,
    z_law_houses_right := map_at c.z 58 (d := d_law_houses_right) rfl,
    z_law := map_at c.z 59 (d := d_law) rfl,
    t_FACTS := c.t,
    b_fnW := fnW_br c.c (all_at x7 28 rfl) }
theorem saidY {w : World} {h : Heap} {K : PySem.W.Frag} (c : SaysY w h K) : Says w K (tfT.map fun p => (He.cT K p).2) := by
  obtain ⟨f, ap⟩ := factsY c
  refine ⟨f, List.all_eq_true.mpr fun p m => ?_, ap, rfl⟩
  rw [c.hd p m, c.out p m]
  rfl
end So
end

section
set_option Elab.async false
set_option linter.all false
set_option maxRecDepth 100000
set_option maxHeartbeats 0
/-! the run of the top -/
namespace So
open PySem PySem.Spec PyProof.Rows
abbrev lawR : PySem.W.OpenRow := PySem.W.OpenLaw.row PySem.Challenge.rw_sortpost_k08_refused
abbrev qv : Program := PySem.W.view lawR.prog [93]
def nms0 : List PySem.Str := ["_wall", "NONE", "ALL", "Diagrams", "SortError", "BadRule", "BadText", "BadLetter", "BadName", "BadHouse", "TooMany", "NoLetter", "SIGNS", "LONGEST_NAME", "BIGGEST_SIZE", "is_name", "is_size", "is_letter", "name_key", "in_order", "next_name", "least_name_beside", "MOST_WORDS", "MOST_NAMES", "LONGEST_NUMBER", "DIGITS", "FACTS", "DEEDS", "WORD_FACTS", "Rule"]
def nms1 : List PySem.Str := ["Reader", "is_number", "words_of", "rule_of", "read", "check_names", "word_names", "facts_of", "add_facts", "bits_of", "WordSearch", "spoken", "numbers_with_one", "Block", "WordSpace", "figures_for", "LetterSpace", "TOLD", "FOLDERS", "RECEIVERS", "Step", "ready", "ready_parts", "asked_marks", "holding", "Moment", "History", "whole_run", "sort", "acting"]
def nms2 : List PySem.Str := ["check_letter", "way_through", "Way", "MOST_PEOPLE", "ring", "is_house", "read_house", "all_rules", "receivers_of", "going_round", "first_ring", "House", "reaching", "_law_draw", "_law_cell_at", "_law_digits", "_law_kinds", "_law_is", "_law_letters_right", "_law_names_right", "_law_houses_right"]
def nms : List PySem.Str := nms0 ++ (nms1 ++ (nms2))
def adL0 : List Addr := [3, 2, 6, 4, 151, 150, 149, 152, 173, 172, 170, 169, 158, 171, 185, 184, 183, 197, 196, 195, 209, 208, 207, 221, 220, 219, 233, 232, 231, 245]
def adL1 : List Addr := [244, 243, 254, 253, 261, 260, 268, 267, 275, 274, 282, 281, 297, 298, 299, 316, 315, 313, 312, 314, 317, 318, 419, 418, 334, 333, 341, 340, 348, 347]
def adL2 : List Addr := [355, 354, 362, 361, 369, 368, 376, 375, 383, 382, 390, 389, 397, 396, 404, 403, 409, 408, 416, 415, 417, 420, 421, 430, 429, 435, 434, 442, 441, 449]
def adL3 : List Addr := [448, 456, 455, 463, 462, 470, 469, 477, 476, 791, 938, 937, 945, 944, 952, 951, 959, 958, 1011, 1010, 973, 972, 980, 979, 987, 986, 994, 993, 1001, 1000]
def adL4 : List Addr := [1008, 1007, 1009, 1012, 1013, 1020, 1019, 1027, 1026, 1032, 1031, 1039, 1038, 1134, 1133, 1070, 1069, 1077, 1076, 1082, 1081, 1089, 1088, 1096, 1095, 1103, 1102, 1110, 1109, 1117]
def adL5 : List Addr := [1116, 1124, 1123, 1131, 1130, 1132, 1135, 1136, 1145, 1144, 1152, 1151, 1159, 1158, 1166, 1165, 1173, 1172, 1178, 1177, 1185, 1184, 1190, 1189, 1195, 1194, 1202, 1201]
def adL : List Addr := adL0 ++ (adL1 ++ (adL2 ++ (adL3 ++ (adL4 ++ (adL5)))))

abbrev hk : PySem.W.Hook := hookY adL
def obY (s : PySem.W.SharedT) : AlY := obsK (HandSHeadRun.getT s) (He.frT (HandSHeadRun.getT s) adL)
theorem obY_eq (s : PySem.W.SharedT) : obY s = hk.obs s.abs := by
  show obsK _ _ = obsK _ _
  rw [show HandSHeadRun.getT s = s.abs.heap.get? from funext (HandSHeadRun.getT_eq s)]
theorem runF (w : World) : HandSHeadRun.RunEq lawR qv hk obY 12000 nms (w.withFollow "special-get-raises" false) := by
  intro os
  kernel_rfl
theorem runT (w : World) : HandSHeadRun.RunEq lawR qv hk obY 12000 nms (w.withFollow "special-get-raises" true) := by
  intro os
  kernel_rfl
theorem run (w : World) : HandSHeadRun.RunEq lawR qv hk obY 12000 nms w := PySem.W.byRow2 "special-get-raises" runF runT w
end So
end

section
set_option Elab.async false
set_option linter.all false
set_option maxRecDepth 100000
set_option maxHeartbeats 4000000
/-! all, any of a generator expression over anything that is walked, its element any expression (calls of defs, too). -/
namespace GxA
open PySem PySem.Spec PyProof.Rows L2 GenW GxR

theorem over_loopC {A : Around} {elt : Expr} {gs : List Comprehension} {sc : Scope} {ps : Pos} {it acc : Value} {env : Env} : A.over (.compLoop (.GeneratorExp elt gs sc ps) 0 it acc env) [] = A.deeper env := by
  first
    | rfl
    | (obtain ⟨hd, d, fr, gs, u⟩ := A; simp [Around.over, Around.deeper, marksOver, frameCount, unitsOf, envsOf, guardsOf, pushEnvs, pushGuards, Code.envs, Code.env?, Code.isFrame, Code.guards, Code.isGuard, Code.weight, Code.frames, Code.isCreation, Code.isCaller, Code.cUnits])
theorem over_startC {A : Around} {elt : Expr} {gs : List Comprehension} {sc : Scope} {ps : Pos} {it acc : Value} {env : Env} : A.over (.compStart (.GeneratorExp elt gs sc ps) 0 it acc env) [] = A.deeper env := by
  first
    | rfl
    | (obtain ⟨hd, d, fr, gs, u⟩ := A; simp [Around.over, Around.deeper, marksOver, frameCount, unitsOf, envsOf, guardsOf, pushEnvs, pushGuards, Code.envs, Code.env?, Code.isFrame, Code.guards, Code.isGuard, Code.weight, Code.frames, Code.isCreation, Code.isCaller, Code.cUnits])

/-- the context of a generator expression's frame -/
abbrev gblk (X : Cx) (s : Shared) (H : Hp) (cenv : Env) (fp : List Addr) : Cx :=
  { X with A := X.A.in1.in1.deeper cenv, s_0 := s, H_0 := H, env := cenv, outer := X.stack, stack := cenv :: X.stack, ex := fp, fn := fun _ => false, calm := true, pn := [], xe := fun _ _ => False }
abbrev gEnv (X : Cx) (scope : Scope) (cl : List (Str × Addr)) (C : Addr) (code : Value) : Env := genEnv scope cl C code builtinsNs X.env

section
variable {X : Cx} {pins : List (Addr × Obj)} {σ : L2.St} {H : Hp} {s : Shared}
theorem inv_gens {g' : Array GenState} {t' : Nat} (I : Inv X pins σ H s) (hb : AllBare g') : Inv X pins σ H { s with gens := g', toks := t' } :=
  ⟨I.ok, I.os, hb, I.base, I.loc, I.cell, I.free, I.freeC, I.pin, I.hok, I.len⟩

theorem gstart {scope : Scope} {own : List (Str × Nat)} {fp : List Addr} {code : Value} {h' : Heap} {g' : Array GenState} {tk : Nat} {m : Str → Option Value} (I : Inv X pins σ H s) (hh : X.A.handled = none) (ok : BlkOk X.N X.env.scope scope own)
    (nc : ∀ y ∈ scope.names, y.2 ≠ .cell) (hN : X.N.Nodup) (hfp : ∀ b ∈ fp, FpOk X pins H b ∧ b < s.heap.objs.size) (kp : ∀ b o, s.heap.get? b = some o → h'.get? b = some o) (hns : h'.Ns s.heap.objs.size m) (hg : AllBare g') :
    Inv (gblk X s H (gEnv X scope (cloFrom X.env.cells scope.names []) s.heap.objs.size code) fp) [] (wipe σ (own.map (·.2))) H { s with heap := h', gens := g', toks := tk } := by
  have hfree : ∀ y ∈ scope.names, y.2 = .free → ∃ c, X.env.cells.lookup y.1 = some c := fun y hy e => by
    rcases ok.free y hy e with k | k
    · exact I.ok.has _ (.inl k)
    · exact I.ok.has _ (.inr k)
  generalize hcenv : gEnv X scope (cloFrom X.env.cells scope.names []) s.heap.objs.size code = cenv
  have hL : cenv.locals = s.heap.objs.size := by rw [← hcenv]; rfl
  have hcl : cenv.cells = cloFrom X.env.cells scope.names [] := by rw [← hcenv]; rfl
  have hsc : cenv.scope = scope := by rw [← hcenv]; rfl
  have cm : ∀ {y c}, (y, c) ∈ cloFrom X.env.cells scope.names [] → X.env.cells.lookup y = some c ∧ c < s.heap.objs.size := fun {y c} hm => by
    rcases cloFrom_mem hm with hm | ⟨h1, rfl⟩
    · cases hm
    · obtain ⟨c, hc⟩ := hfree _ h1 rfl
      rw [hc]
      obtain ⟨w, z⟩ := I.cell _ _ hc
      exact ⟨rfl, z.lt⟩
  have mem : ∀ {y c}, cenv.cells.lookup y = some c → X.env.cells.lookup y = some c ∧ c < s.heap.objs.size := fun {y c} e => by
    rw [hcl] at e
    exact cm (PySem.mem_of_lookup e)
  have look : ∀ {y}, scope.names.lookup y = some .free → ∃ c, cenv.cells.lookup y = some c ∧ X.env.cells.lookup y = some c := fun {y} hl => by
    have hy : (y, NameKind.free) ∈ scope.names := PySem.mem_of_lookup hl
    obtain ⟨c', e'⟩ := mem_lookup (cloFrom_has (cells := X.env.cells) (acc := []) hy)
    rw [← hcl] at e'
    exact ⟨c', e', (mem e').1⟩
  have okB : (gblk X s H cenv fp).Ok := by
    refine ⟨I.ok.mod, by show cenv.scope.kind = _; rw [hsc]; exact ok.kind, by show cenv.globals = _; rw [← hcenv]; exact I.ok.glob, by show cenv.builtins = _; rw [← hcenv]; rfl, by show s.heap.objs.size ≤ cenv.locals; rw [hL]; exact Nat.le_refl _,
      fun y z c e1 e2 => I.ok.inj y z c (mem e1).1 (mem e2).1, fun y hy => ?_, fun y c z => ?_, fun _ => hh, Around.frames_deeper (A := X.A.in1.in1) I.ok.frames, .inr ⟨rfl, by show cenv.frame = some cenv.locals; rw [← hcenv]; rfl⟩, fun b hb => ⟨?_, fun y c e z => ?_⟩, I.bs, Nat.le_trans I.ok.bsz I.sz, fun b o e hb => ?_, fun b hb z => ?_, I.stack, I.stkFree⟩
    · show ∃ c, cenv.cells.lookup y = some c
      rcases hy with hy | hy
      · have hy : cenv.scope.names.lookup y = some .cell := hy
        rw [hsc] at hy
        exact absurd rfl (nc _ (PySem.mem_of_lookup hy))
      · have hy : cenv.scope.names.lookup y = some .free := hy
        rw [hsc] at hy
        obtain ⟨c, h1, _⟩ := look hy
        exact ⟨c, h1⟩
    · exact absurd (show false = true from z) (by decide)
    · show b ≠ cenv.locals
      rw [hL]; exact Nat.ne_of_lt (hfp b hb).2
    · exact (hfp b hb).1.2.2.2.2.1 y c (mem e).1 z
    · rcases (hfp b hb).1.2.2.2.1 with z | z
      · exact I.ok.noex b o e z
      · exact absurd (Nat.lt_of_lt_of_le (Heap.lt_size e) (Nat.le_trans I.ok.bsz z)) (Nat.lt_irrefl _)
    · rcases List.mem_cons.mp (I.stkSub b z) with z | z
      · exact (hfp b hb).1.2.1 z
      · exact (hfp b hb).1.2.2.1 z
  refine ⟨okB, rfl, hg, Un.kept kp, ⟨m, ?_, fun i y av e1 e2 e3 => ?_⟩, fun y c e => ?_, ?_, fun y c e => ?_, fun p hp => ?_, I.hok.kept kp, by rw [wipe_length]; exact I.len⟩
  · show Heap.Ns _ cenv.locals _
    rw [hL]
    exact hns
  · obtain ⟨e2, hne⟩ := wipe_some e2
    have e3 : Vis cenv.scope y := e3
    rw [hsc] at e3
    have no : ∀ k, scope.names.lookup y = some k → ¬ (k = .local ∨ k = .cell) := fun k e hh => by
      rcases ok.own _ (PySem.mem_of_lookup e) hh with e' | e'
      · obtain ⟨p, hp, hpy⟩ := List.mem_map.mp e'
        have e3 := ok.ix p hp
        have : p.1 = y := hpy
        rw [this] at e3
        exact hne (List.mem_map.mpr ⟨p, hp, nodup_ix hN e3 e1⟩)
      · exact e' (List.mem_of_getElem? e1)
    have e4 : scope.names.lookup y = some .free := by
      rcases e3 with e3 | e3 | e3
      · exact absurd (.inl rfl) (no _ e3)
      · exact absurd (.inr rfl) (no _ e3)
      · exact e3
    obtain ⟨m0, hn, hl⟩ := I.loc
    have hvis : Vis X.env.scope y := (ok.free _ (PySem.mem_of_lookup e4) rfl).elim (fun k => .inr (.inl k)) (fun k => .inr (.inr k))
    obtain ⟨w, r, q⟩ := hl i y av e1 e2 hvis
    refine ⟨w, r, .inr ⟨.inr ?_, ?_⟩⟩
    · show cenv.scope.names.lookup y = some .free
      rw [hsc]; exact e4
    obtain ⟨c, h1, h2⟩ := look e4
    rcases q with ⟨k, _⟩ | ⟨_, c', e', z⟩
    · have k : X.env.scope.names.lookup y = some .local := k
      rcases ok.free _ (PySem.mem_of_lookup e4) rfl with k' | k' <;> rw [show X.env.scope.names.lookup y = _ from k'] at k <;> cases k
    · rw [h2] at e'; cases e'
      exact ⟨c, h1, z.keeps kp⟩
  · obtain ⟨h1, _⟩ := mem e
    obtain ⟨w, z⟩ := I.cell y c h1
    exact ⟨w, z.keeps kp⟩
  · show H cenv.locals = none
    rw [hL]; exact I.hok.fresh (Nat.le_refl _)
  · exact I.freeC y c (mem e).1
  · exact absurd (show p ∈ ([] : List (Addr × Obj)) ++ [] from hp) (by simp)
end

/-! ### the turns -/
theorem bne_not {b c : Bool} (h : ¬ b = c) : b = !c := by cases b <;> cases c <;> simp_all
/-- what stands while the generator sleeps or wakes -/
def Rdy (Xg : Cx) (ip : List (Addr × Obj)) (σw : L2.St) (fp : List Addr) (tn : Nat → Heap → Prop) (i : Nat) (R : Hp → Prop) (s : Shared) : Prop :=
  ∃ H', Inv Xg ip σw H' s ∧ tn i s.heap ∧ (∀ b ∈ fp, H' b = none) ∧ R H'
/-- it is through: the heap, what is wanted -/
def Dn (Xg : Cx) (ip : List (Addr × Obj)) (σw : L2.St) (R : Hp → Prop) (s : Shared) : Prop := ∃ H', Inv Xg ip σw H' s ∧ R H'
theorem Rdy.gens {Xg : Cx} {ip : List (Addr × Obj)} {σw : L2.St} {fp : List Addr} {tn : Nat → Heap → Prop} {i : Nat} {R : Hp → Prop} {s s' : Shared} (h : Rdy Xg ip σw fp tn i R s) (e1 : s'.heap = s.heap) (e2 : s'.os = s.os) (hb : AllBare s'.gens) : Rdy Xg ip σw fp tn i R s' := by
  obtain ⟨H', I, st, n, r⟩ := h
  obtain ⟨hh, g, d, t, o⟩ := s'
  have e1 : hh = s.heap := e1
  have e2 : o = s.os := e2
  subst e1 e2
  exact ⟨H', ⟨I.ok, I.os, hb, I.base, I.loc, I.cell, I.free, I.freeC, I.pin, I.hok, I.len⟩, st, n, r⟩
theorem Dn.gens {Xg : Cx} {ip : List (Addr × Obj)} {σw : L2.St} {R : Hp → Prop} {s s' : Shared} (h : Dn Xg ip σw R s) (k : ∀ b u, s.heap.get? b = some u → s'.heap.get? b = some u) (e2 : s'.os = s.os) (hb : AllBare s'.gens) : Dn Xg ip σw R s' := by
  obtain ⟨H', I, r⟩ := h
  obtain ⟨hh, g, d, t, o⟩ := s'
  have e2 : o = s.os := e2
  subst e2
  have I2 := I.kept (t' := t) (h' := hh) k
  exact ⟨H', ⟨I2.ok, I2.os, hb, I2.base, I2.loc, I2.cell, I2.free, I2.freeC, I2.pin, I2.hok, I2.len⟩, r⟩
def GYp (Xg : Cx) (ip : List (Addr × Obj)) (σw : L2.St) (fp : List Addr) (tn : Nat → Heap → Prop) (W : Nat → Nat → Hp → Prop) (c : Bool) (Qf : Hp → Prop) : Protocol := fun n s₀ v s kap =>
  AllBare s.gens ∧ ∃ b : Bool, v = .bool b ∧ ((b = c ∧ ∃ i, Rdy Xg ip σw fp tn i (fun H' => ∃ m, m < n ∧ W i m H') s ∧ ∀ s'' : Shared, s''.heap = s.heap → s''.os = s.os → AllBare s''.gens → kap (.send .none) s'') ∨ (b = !c ∧ Dn Xg ip σw Qf s))
def GRp (Xg : Cx) (ip : List (Addr × Obj)) (σw : L2.St) (Qe : Hp → Prop) : GenEnd := fun n s₀ r s =>
  ((r = .ok (.ret .none) ∨ r = .ok .next) ∧ (AllBare s.gens ∧ Dn Xg ip σw Qe s)) ∨ ∃ e, r = .error e ∧ False
/-- one turn, as the reading says it -/
def GTurn (J : It) (g : TG) (te : TE) (vs : List Nat) (σw : L2.St) (c : Bool) (Qe Qf : Hp → Prop) (W : Nat → Nat → Hp → Prop) : Prop := ∀ i m H, W i m H →
  (J.stop i H ∧ Qe H) ∨ (J.go i H ∧ ∃ Nx : Hp → Prop, (∀ H', Nx H' → ∃ m', m' < m ∧ W (i + 1) m' H') ∧ ∀ x H', J.yld i H x H' → g x σw H' fun σ2 H2 => wipe σ2 vs = σw ∧ te σ2 H2 fun y H3 => ∃ b : Bool, y = .bl b ∧ if b = c then Nx H3 else Qf H3)

section
variable {X : Cx} {s₁ : Shared} {H₁ : Hp} {cenv : Env} {fp : List Addr} {ip : List (Addr × Obj)} {σw : L2.St} {tn : Nat → Heap → Prop} {J : It} {W : Nat → Nat → Hp → Prop} {c : Bool} {Qe Qf : Hp → Prop} {g : TG} {te : TE} {vs : List Nat} {elt tg iter : Expr} {scope : Scope} {pos : Pos} {it : Addr}
theorem gseg_loop (hfip : ∀ b ∈ fp, ∀ p ∈ ip, p.1 ≠ b) (hco : cenv.scope.isCoroutine = false) (T : Turn X.prog X.w X.K tg J fp it tn) (pg : PG (gblk X s₁ H₁ cenv fp) tg g) (pe : PE (gblk X s₁ H₁ cenv fp) elt te) (turn : GTurn J g te vs σw c Qe Qf W) :
    ∀ (n i : Nat) (s₀ s : Shared), Rdy (gblk X s₁ H₁ cenv fp) ip σw fp tn i (fun H' => ∃ m, m < n + 1 ∧ W i m H') s →
      Seg (model X.prog X.w) X.A.in1.in1 (GRp (gblk X s₁ H₁ cenv fp) ip σw Qe) (GYp (gblk X s₁ H₁ cenv fp) ip σw fp tn W c Qf) (n + 1) s₀
        (.compLoop (.GeneratorExp elt [⟨tg, iter, [], 0⟩] scope pos) 0 (.ref it) .none cenv)
        ((model X.prog X.w).den (.compLoop (.GeneratorExp elt [⟨tg, iter, [], 0⟩] scope pos) 0 (.ref it) .none cenv)) [] s := by
  have eo : X.A.in1.in1.over (.compLoop (.GeneratorExp elt [⟨tg, iter, [], 0⟩] scope pos) 0 (.ref it) .none cenv) [] = (gblk X s₁ H₁ cenv fp).A := over_loopC
  have stat : ∀ {σ' : L2.St} {H' : Hp} {s' : Shared}, Inv (gblk X s₁ H₁ cenv fp) ip σ' H' s' → (∀ b ∈ fp, H' b = none) → ∀ b ∈ fp, FpOk (gblk X s₁ H₁ cenv fp) ip H' b := fun {σ' H' s'} I' hn b hb =>
    ⟨hn b hb, (I'.ok.exf b hb).1, I'.ok.exfs b hb, .inl hb, fun x c e => (I'.ok.exf b hb).2 x c e, fun p hp => hfip b hb p (by simpa using hp)⟩
  intro n
  induction n with
  | zero => ?z
  | succ n ih => ?s
  all_goals
    intro i s₀ s ⟨H5, I5, st5, n5, m, hm, w5⟩
    show Seg _ X.A.in1.in1 _ _ _ s₀ _ ((compTurn (.GeneratorExp elt [⟨tg, iter, [], 0⟩] scope pos) 0 (.ref it) .none cenv).onRaise (leaving cenv)) [] s
    rw [compTurn_gen, Sem.onRaise_eq_wrap]
    refine seg_bind_wrap (wpAny_standAt ?_)
    rcases turn i m H5 w5 with ⟨stop, qq⟩ | ⟨go, Nx, hNx, step⟩
    · refine seg_bind_wrap ?_
      rw [eo]
      refine thnF (T.done (gblk X s₁ H₁ cenv fp) rfl rfl rfl rfl i ip s _ H5 (fun _ _ => False) I5 (stat I5 n5) st5 stop) fun r s6 ⟨hr, I6⟩ => ?_
      subst hr
      exact seg_end (.ok .next) (.inl ⟨.inr rfl, I6.bare, H5, I6, qq⟩)
    · refine seg_bind_wrap ?_
      rw [eo]
      refine thnF (T.item (gblk X s₁ H₁ cenv fp) rfl rfl rfl rfl i ip s _ H5 (fun _ _ => False) I5 (stat I5 n5) st5 go) fun r s6 ⟨u, hr, h6⟩ => ?_
      subst hr
      refine seg_bind_wrap ?_
      rw [eo]
      refine thnF h6 fun _ s7 ⟨x, H7, I7, r7, y7, st7, n7⟩ => ?_
      have I7' := I7.pinned (stat I7 n7) (T.obj _ _ st7)
      refine seg_bind_wrap ?_
      rw [eo]
      refine thnF (pg.run _ s7 _ H7 x u _ I7' r7 (step x H7 y7)) fun _ s8 ⟨σ8, H8, I8, hw8, q8⟩ => ?_
      refine seg_bind_wrap ?_
      rw [eo]
      refine wpAny_tests_nil ?_
      simp only [if_true]
      have hy : ∀ v, yieldOut cenv v = yieldValue v := fun v => by simp only [yieldOut, hco, Bool.false_eq_true, if_false]
      simp only [hy]
      rw [Sem.bind_eq_wrap', Sem.bind_eq_wrap', Sem.wrap_wrap, Sem.wrap_wrap]
      refine seg_wrap ?_
      rw [eo]
      refine thnF (pe.run _ s8 σ8 H8 _ I8 q8) fun z s10 ⟨yv, H10, I10, r10, b, hyb, nx⟩ => ?_
      subst hyb
      obtain rfl : z = Value.bool b := r10
      have pin' : ∀ b ∈ fp, ∀ o, s7.heap.get? b = some o → s10.heap.get? b = some o ∧ H10 b = none := fun b hb o e =>
        let z := I10.pin (b, o) (List.mem_append_right _ (List.mem_append_right _ (mem_pinsAt hb e)))
        ⟨z.1, z.2.1⟩
      have hl : σw.length = σ8.length := by rw [← hw8, wipe_length]
      have I11 : Inv (gblk X s₁ H₁ cenv fp) ip σw H10 s10 := (I10.unpinned (pins := ip)).weak hl (fun j v e => by
        rw [← hw8] at e
        exact (wipe_some e).1)
      have st11 : tn (i + 1) s10.heap := T.keep _ _ _ st7 fun b hb o e => (pin' b hb o e).1
      have n11 : ∀ b ∈ fp, H10 b = none := fun b hb => by
        obtain ⟨o, e, _⟩ := T.obj _ _ st7 b hb
        exact (pin' b hb o e).2
      refine seg_at (seg_yield rfl rfl rfl ⟨I11.bare, b, rfl, ?_⟩)
      by_cases hbc : b = c
      · rw [if_pos hbc] at nx
        obtain ⟨m', hm', w'⟩ := hNx H10 nx
        refine .inl ⟨hbc, i + 1, ⟨H10, I11, st11, n11, m', by omega, w'⟩, fun s'' e1 e2 hb'' => ?_⟩
        first
          | exact absurd hm' (by omega)
          | exact seg_again rfl (ih (i + 1) s'' s'' (Rdy.gens ⟨H10, I11, st11, n11, m', by omega, w'⟩ e1 e2 hb''))
      · rw [if_neg hbc] at nx
        exact .inr ⟨bne_not hbc, H10, I11, nx⟩

theorem gseg_start (hfip : ∀ b ∈ fp, ∀ p ∈ ip, p.1 ≠ b) (hco : cenv.scope.isCoroutine = false) (T : Turn X.prog X.w X.K tg J fp it tn) (pg : PG (gblk X s₁ H₁ cenv fp) tg g) (pe : PE (gblk X s₁ H₁ cenv fp) elt te) (turn : GTurn J g te vs σw c Qe Qf W) (n : Nat) (s₀ s : Shared)
    (h : Rdy (gblk X s₁ H₁ cenv fp) ip σw fp tn 0 (fun H' => ∃ m, m < n + 1 ∧ W 0 m H') s) :
      Seg (model X.prog X.w) X.A.in1.in1 (GRp (gblk X s₁ H₁ cenv fp) ip σw Qe) (GYp (gblk X s₁ H₁ cenv fp) ip σw fp tn W c Qf) (n + 1) s₀
        (.compStart (.GeneratorExp elt [⟨tg, iter, [], 0⟩] scope pos) 0 (.ref it) .none cenv)
        ((model X.prog X.w).den (.compStart (.GeneratorExp elt [⟨tg, iter, [], 0⟩] scope pos) 0 (.ref it) .none cenv)) [] s := by
  have loop := gseg_loop (iter := iter) (scope := scope) (pos := pos) hfip hco T pg pe turn n 0 s₀ s h
  obtain ⟨H', I, st, n0, r⟩ := id h
  show Seg _ X.A.in1.in1 _ _ _ s₀ _ ((compStart (.GeneratorExp elt [⟨tg, iter, [], 0⟩] scope pos) 0 (.ref it) .none cenv).onRaise (leaving cenv)) [] s
  unfold compStart
  rw [Sem.onRaise_eq_wrap]
  show Seg _ X.A.in1.in1 _ _ _ s₀ _ ((ask >>= _).wrap _ _ _ _) [] s
  refine seg_bind_wrap (wpAny_askSetting ?_)
  split
  · exact seg_again rfl loop
  · first
      | exact seg_bind_wrap (wpAny_rule (seg_bind_wrap (wpAny_standAt (seg_bind_wrap (T.self _ 0 s _ _ st (seg_again rfl loop))))))
      | (refine seg_bind_wrap (wpAny_rule ?_); show Seg _ X.A.in1.in1 _ _ _ s₀ _ ((standAt iter.pos >>= _).wrap _ _ _ _) [] s; exact seg_bind_wrap (wpAny_standAt (seg_bind_wrap (T.self _ 0 s _ _ st (seg_again rfl loop)))))
end

theorem all_drain {X : Cx} {ip : List (Addr × Obj)} {Xg : Cx} {σw : L2.St} {fp : List Addr} {tn : Nat → Heap → Prop} {W : Nat → Nat → Hp → Prop} {Qe Qf : Hp → Prop} {a : Addr} {g : Nat} {go : Obj} {R : Result → Shared → Prop}
    (hh : X.A.handled = none) (hd : X.A.depth < recursionLimit) (hip : (a, go) ∈ ip) (hgen : ∀ h : Heap, h.get? a = some go → h.IsGen a g)
    (hE1 : ∀ s', AllBare s'.gens → Dn Xg ip σw Qe s' → R (.ok (.ret (.bool true))) s') (hE2 : ∀ s', AllBare s'.gens → Dn Xg ip σw Qf s' → R (.ok (.ret (.bool false))) s') :
    ∀ (n : Nat) (s : Shared), s.heap.IsGen a g → s.heap.NoLimit →
      (∃ gs, s.gens[g]? = some gs ∧ gs.Goes (model X.prog X.w) X.A.in1.in1 (GRp Xg ip σw Qe) (GYp Xg ip σw fp tn W true Qf) (n + 1) (.send .none) (s.setGen g .running)) →
      codeAny (model X.prog X.w) X.A (.builtin "all.loop" ⟨[.ref a], []⟩) R s := by
  have goes : ∀ {gs : GenState} {B : Around} {n : Nat} {r : Resume} {s : Shared}, gs.Goes (model X.prog X.w) B (GRp Xg ip σw Qe) (GYp Xg ip σw fp tn W true Qf) n r s →
      gs.Goes (model X.prog X.w) B (fun n s₀ r s1 => ((r = .ok (.ret .none) ∨ r = .ok .next) ∧ (AllBare s1.gens ∧ Dn Xg ip σw Qe s1)) ∨ ∃ e, r = .error e ∧ False) (GYp Xg ip σw fp tn W true Qf) n r s := fun h => h
  intro n
  induction n with
  | zero => ?z
  | succ n ih => ?s
  all_goals
    intro s hg hl ⟨gs, hgs, hgo⟩
    have hgl : g < s.gens.size := (Array.getElem?_eq_some_iff.mp hgs).1
    refine codeAny_builtin F.entry_all_loop ?_
    rw [Around.under_plainId F.plain_all_loop _]
    show wpAny _ X.A.in1 (pyNext (.ref a) >>= _) _ _ s
    refine wpAny_bind (wpAny_gsz (n := g + 1) hgl (next_genG (A := X.A.in1) (Er := fun _ _ => False) (F := fun _ _ s1 => AllBare s1.gens ∧ Dn Xg ip σw Qe s1) hh hl hd hg hgs (goes hgo) (fun v s₁ gs' hbare hv => ?_) (fun s₁ hp h' hk => ?_) fun e s₁ he => ?_))
    · intro hsz
      obtain ⟨hb1, b, rfl, hv⟩ := hv
      refine wpAny_bind (wpAny_holding (wpAny_truthy_bool ?_))
      refine wpAny_bind (wpAny_letGo ?_)
      have hb2 : AllBare (s₁.setGen g gs').gens := allBare_setGen hb1 hbare
      rcases hv with ⟨hbc, i, hR, hk⟩ | ⟨hbc, hD⟩
      · subst hbc
        simp only [if_true, Bool.false_eq_true, if_false]
        have hsz1 : g < s₁.gens.size := by
          have q : (s₁.setGen g gs').gens.size = s₁.gens.size := setGen_size _ _ _
          have hsz' : g + 1 ≤ (s₁.setGen g gs').gens.size := hsz
          omega
        have hR' := hR
        obtain ⟨H', I, st, nn, m, hm, w⟩ := hR'
        first
          | exact absurd hm (Nat.not_lt_zero _)
          | (refine wpAny_pure ⟨plainId_quiet F.plain_all_loop _, ih _ (hgen _ (I.pin (a, go) (List.mem_append_right _ hip)).1) I.nolimit ⟨gs', setGen_at hsz1, ?_⟩⟩
             exact hk _ rfl rfl (allBare_setGen (s := s₁.setGen g gs') hb2 rfl))
      · subst hbc
        simp only [if_true, Bool.false_eq_true, if_false, Bool.not_true, Bool.not_false]
        refine wpAny_bind (wpAny_rule (wpAny_pure ?_))
        exact hE2 _ hb2 (Dn.gens hD (fun _ _ q => q) rfl hb2)
    · intro hsz
      obtain ⟨hb1, hD⟩ := hp
      have hb2 : AllBare (s₁.setGen g .finished).gens := allBare_setGen hb1 rfl
      refine wpAny_bind (wpAny_rule (wpAny_pure ?_))
      exact hE1 _ hb2 (Dn.gens hD hk rfl hb2)
    · exact he.elim

theorem any_drain {X : Cx} {ip : List (Addr × Obj)} {Xg : Cx} {σw : L2.St} {fp : List Addr} {tn : Nat → Heap → Prop} {W : Nat → Nat → Hp → Prop} {Qe Qf : Hp → Prop} {a : Addr} {g : Nat} {go : Obj} {R : Result → Shared → Prop}
    (hh : X.A.handled = none) (hd : X.A.depth < recursionLimit) (hip : (a, go) ∈ ip) (hgen : ∀ h : Heap, h.get? a = some go → h.IsGen a g)
    (hE1 : ∀ s', AllBare s'.gens → Dn Xg ip σw Qe s' → R (.ok (.ret (.bool false))) s') (hE2 : ∀ s', AllBare s'.gens → Dn Xg ip σw Qf s' → R (.ok (.ret (.bool true))) s') :
    ∀ (n : Nat) (s : Shared), s.heap.IsGen a g → s.heap.NoLimit →
      (∃ gs, s.gens[g]? = some gs ∧ gs.Goes (model X.prog X.w) X.A.in1.in1 (GRp Xg ip σw Qe) (GYp Xg ip σw fp tn W false Qf) (n + 1) (.send .none) (s.setGen g .running)) →
      codeAny (model X.prog X.w) X.A (.builtin "any.loop" ⟨[.ref a], []⟩) R s := by
  have goes : ∀ {gs : GenState} {B : Around} {n : Nat} {r : Resume} {s : Shared}, gs.Goes (model X.prog X.w) B (GRp Xg ip σw Qe) (GYp Xg ip σw fp tn W false Qf) n r s →
      gs.Goes (model X.prog X.w) B (fun n s₀ r s1 => ((r = .ok (.ret .none) ∨ r = .ok .next) ∧ (AllBare s1.gens ∧ Dn Xg ip σw Qe s1)) ∨ ∃ e, r = .error e ∧ False) (GYp Xg ip σw fp tn W false Qf) n r s := fun h => h
  intro n
  induction n with
  | zero => ?z
  | succ n ih => ?s
  all_goals
    intro s hg hl ⟨gs, hgs, hgo⟩
    have hgl : g < s.gens.size := (Array.getElem?_eq_some_iff.mp hgs).1
    refine codeAny_builtin F.entry_any_loop ?_
    rw [Around.under_plainId F.plain_any_loop _]
    show wpAny _ X.A.in1 (pyNext (.ref a) >>= _) _ _ s
    refine wpAny_bind (wpAny_gsz (n := g + 1) hgl (next_genG (A := X.A.in1) (Er := fun _ _ => False) (F := fun _ _ s1 => AllBare s1.gens ∧ Dn Xg ip σw Qe s1) hh hl hd hg hgs (goes hgo) (fun v s₁ gs' hbare hv => ?_) (fun s₁ hp h' hk => ?_) fun e s₁ he => ?_))
    · intro hsz
      obtain ⟨hb1, b, rfl, hv⟩ := hv
      refine wpAny_bind (wpAny_holding (wpAny_truthy_bool ?_))
      refine wpAny_bind (wpAny_letGo ?_)
      have hb2 : AllBare (s₁.setGen g gs').gens := allBare_setGen hb1 hbare
      rcases hv with ⟨hbc, i, hR, hk⟩ | ⟨hbc, hD⟩
      · subst hbc
        simp only [if_true, Bool.false_eq_true, if_false]
        have hsz1 : g < s₁.gens.size := by
          have q : (s₁.setGen g gs').gens.size = s₁.gens.size := setGen_size _ _ _
          have hsz' : g + 1 ≤ (s₁.setGen g gs').gens.size := hsz
          omega
        have hR' := hR
        obtain ⟨H', I, st, nn, m, hm, w⟩ := hR'
        first
          | exact absurd hm (Nat.not_lt_zero _)
          | (refine wpAny_pure ⟨plainId_quiet F.plain_any_loop _, ih _ (hgen _ (I.pin (a, go) (List.mem_append_right _ hip)).1) I.nolimit ⟨gs', setGen_at hsz1, ?_⟩⟩
             exact hk _ rfl rfl (allBare_setGen (s := s₁.setGen g gs') hb2 rfl))
      · subst hbc
        simp only [if_true, Bool.false_eq_true, if_false, Bool.not_true, Bool.not_false]
        refine wpAny_bind (wpAny_rule (wpAny_pure ?_))
        exact hE2 _ hb2 (Dn.gens hD (fun _ _ q => q) rfl hb2)
    · intro hsz
      obtain ⟨hb1, hD⟩ := hp
      have hb2 : AllBare (s₁.setGen g .finished).gens := allBare_setGen hb1 rfl
      refine wpAny_bind (wpAny_rule (wpAny_pure ?_))
      exact hE1 _ hb2 (Dn.gens hD hk rfl hb2)
    · exact he.elim

/-- all(elt for tg in iter) (c: True), any(..) (c: False); behind it the def's table may have grown -/
def tGenC (c : Bool) (P : Addr) (wi : TI) (g : TG) (te : TE) (vs : List Nat) : TE := fun σ H Q => wi σ H fun J H1 => TabG H1 P ∧ ∀ H2, Tabbed P H1 H2 →
  ∃ W : Nat → Nat → Hp → Prop, (∃ m, W 0 m H2) ∧ GTurn J g te vs (wipe σ vs) c (Q (.bl c)) (Q (.bl (!c))) W

theorem pe_allG {X : Cx} {cc P : Addr} {elt tg iter : Expr} {scope : Scope} {own : List (Str × Nat)} {p pos gpos : Pos} {wi : TI} {g : TG} {te : TE} {k : Nat} (hr : Room (k + 1) X.A) (hgl : Gl X "all") (hm : X.mg "all" = none) (TB : TabB X.base X.mg cc P) (hcode : X.env.code = .ref cc) (hN : X.N.Nodup)
    (hi : PI X tg iter wi) (ok : BlkOk X.N X.env.scope scope own) (nc : ∀ y ∈ scope.names, y.2 ≠ .cell) (hco : scope.isCoroutine = false) (hdot : scope.names.lookup (".0" : Str) = some NameKind.local)
    (hg : ∀ (s : Shared) (H : Hp) (cl : List (Str × Addr)) (C : Addr) (code : Value) (fp : List Addr), PG (gblk X s H (gEnv X scope cl C code) fp) tg g) (he : ∀ (s : Shared) (H : Hp) (cl : List (Str × Addr)) (C : Addr) (code : Value) (fp : List Addr), PE (gblk X s H (gEnv X scope cl C code) fp) elt te)
    (hs : ∀ v, genFold iter X.env v = pure v := by intro _; rfl) (hb : bootBuiltins "all" = some (.builtin "all") := by decide +kernel)
    (he' : starEach [.GeneratorExp elt [⟨tg, iter, [], 0⟩] scope gpos] X.env = (false, eval (.GeneratorExp elt [⟨tg, iter, [], 0⟩] scope gpos) X.env) :: starEach [] X.env := by rfl) :
    PE X (.Call (.Name "all" p) [.GeneratorExp elt [⟨tg, iter, [], 0⟩] scope gpos] [] pos) (tGenC true P wi g te (own.map (·.2))) := by
  refine ⟨fun pins s σ H Q I h => ?_⟩
  have hfree : ∀ y ∈ scope.names, y.2 = .free → ∃ c, X.env.cells.lookup y.1 = some c := fun y hy e => by
    rcases ok.free y hy e with k | k
    · exact I.ok.has _ (.inl k)
    · exact I.ok.has _ (.inr k)
  refine wpAny_Call_Name_kw (ld_blt I hgl hm hb ?_)
  refine PyProof.Rows.callWith_builtin1 ?_ he' (by rfl)
  rw [he']
  show wpAny _ _ (spliced ((false, eval (.GeneratorExp elt [⟨tg, iter, [], 0⟩] scope gpos) X.env) :: backTo pos (starEach [] X.env))) _ _ s
  refine Calls.spliced_cons (wpAny_GeneratorExp_make hco (closure_ok hfree) nc hdot ok.kind (by have := hr.dp; omega) (thn (hi.run pins s σ H _ I h) fun xv s1 hx => thn hx fun itv s2 h2 => ?_) hs)
  obtain ⟨it, fp, tn, J, H1, e, I2, T, st2, f2, ⟨ps, hP, ht⟩, q⟩ := h2
  subst e
  refine ⟨I2.nolimit, ?_⟩
  have hPs : s2.heap.get? P = some { cls := .none, data := .fields ps } := I2.hok P _ hP
  have cd : PySem.W.CodeHd s2.heap cc P := TB.code.keeps fun b u e => I2.bk b u e
  have hh : X.A.handled = none := hr.hd
  have cont : ∀ (code : Value) (h3 : Heap) (tk : Nat) (more : Array Value), (∀ b o, b ≠ P → s2.heap.get? b = some o → h3.get? b = some o) → h3.get? P = some { cls := .none, data := .fields (ps ++ more) } → TriplesOk (ps ++ more).toList →
      wpAny (model X.prog X.w) X.A (builtinsFor X.env.globals X.env.builtins) (fun bi s₄ =>
        ∀ h', h'.Ns s₄.heap.objs.size (fun y => if y = ".0" then some (.ref it) else none) → Heap.SameBut s₄.heap.objs.size (s₄.heap.push { cls := .type "frame", data := .dict #[] }) h' →
          wpAny (model X.prog X.w) X.A (spliced (backTo pos (starEach [] X.env))) (fun us s' => wpAny (model X.prog X.w) X.A (call (.builtin "all") (.ref h'.objs.size :: us)) (EP X pins σ Q) X.xe s') X.xe { s₄ with
            gens := s₄.gens.push (.fresh (.compStart (.GeneratorExp elt [⟨tg, iter, [], 0⟩] scope gpos) 0 (.ref it) .none (genEnv scope (cloFrom X.env.cells scope.names []) s₄.heap.objs.size code bi X.env))),
            toks := s₄.toks + 1 + 1 + 1,
            heap := h'.push { cls := .type "generator", data := .fields #[.int s₄.gens.size 0, .str "<genexpr>" (s₄.toks + 1), .str (X.env.qual ++ "<genexpr>") (s₄.toks + 1 + 1)] } }) X.xe { s2 with heap := h3, toks := tk } := by
    intro code h3 tk more k3 hP3 ht3
    have J3 : Inv X pins σ (upd H1 P (.tbl (ps ++ more))) ({ s2 with heap := h3, toks := tk } : Shared) := inv_tab (more := more) (h' := h3) (g' := s2.gens) (d' := s2.drawn) (t' := tk) I2 hP k3 hP3 I2.bare
    obtain ⟨W, ⟨m0, w0⟩, turn⟩ := q _ ⟨⟨ps ++ more, upd_same, ht3⟩, fun b hb => upd_ne hb⟩
    obtain ⟨bm, ob, e1, e2, e3, e4, e5, e6, e7, e8⟩ := TB.bm
    refine wpAny_builtinsFor (m := X.mg) (by rw [I2.ok.glob]; exact J3.mod.glob.keeps J3.bk) e1 e2 (J3.bk _ _ e5) e6 e7 e8 ?_
    intro h' hn' hs'
    have hsz : h'.objs.size = h3.objs.size + 1 := by rw [hs'.1, Heap.size_push]
    generalize hgo : ({ cls := .type "generator", data := .fields #[.int s2.gens.size 0, .str "<genexpr>" (tk + 1), .str (X.env.qual ++ "<genexpr>") (tk + 1 + 1)] } : Obj) = go
    have keep' : ∀ b o, h3.get? b = some o → h'.get? b = some o := fun b o e => hs'.extBut b o (Nat.ne_of_lt (Heap.lt_size e)) (Heap.get?_push_of_some _ e)
    have keep5 : ∀ b o, h3.get? b = some o → (h'.push go).get? b = some o := fun b o e => Heap.get?_push_of_some _ (keep' b o e)
    have hgf : go.isFreed = false := by rw [← hgo]; rfl
    have hpush : (h'.push go).get? h'.objs.size = some go := Heap.get?_push_size _ hgf
    have hgen : ∀ hh : Heap, hh.get? h'.objs.size = some go → hh.IsGen h'.objs.size s2.gens.size := fun hh e => by
      rw [← hgo] at e
      exact ⟨_, _, _, e, rfl, rfl, rfl⟩
    have nP : ∀ b ∈ fp, b ≠ P := fun b hb z => by
      have := (f2 b hb).1
      rw [z, hP] at this
      cases this
    have lt3 : ∀ b ∈ fp, b < h3.objs.size := fun b hb => by
      obtain ⟨o, e, _⟩ := T.obj _ _ st2 b hb
      exact Heap.lt_size (k3 b o (nP b hb) e)
    have f3 : ∀ b ∈ fp, FpOk X pins (upd H1 P (.tbl (ps ++ more))) b ∧ b < h3.objs.size := fun b hb =>
      ⟨⟨by rw [upd_ne (nP b hb)]; exact (f2 b hb).1, (f2 b hb).2⟩, lt3 b hb⟩
    have st3 : tn 0 h3 := T.keep _ _ _ st2 fun b hb o e => k3 b o (nP b hb) e
    have bare5 : AllBare (s2.gens.push (.fresh (.compStart (.GeneratorExp elt [⟨tg, iter, [], 0⟩] scope gpos) 0 (.ref it) .none (genEnv scope (cloFrom X.env.cells scope.names []) h3.objs.size code builtinsNs X.env)))) := I2.bare.push rfl
    have I5 := gstart (s := ({ s2 with heap := h3, toks := tk } : Shared)) (code := code) (h' := h'.push go) (tk := tk + 1 + 1 + 1) J3 hh ok nc hN f3 keep5 (hn'.push _) bare5
    have hns : ∀ b ∈ frs X.stack, b ≠ h'.objs.size := fun b hb z => by
      rcases List.mem_cons.mp (J3.stkSub b hb) with y | y
      · have := J3.lt
        rw [← y, z] at this
        have h9 : (h'.objs.size : Nat) < h3.objs.size := this
        omega
      · exact J3.nofs (a := b) (by rw [z]; show h3.objs.size ≤ h'.objs.size; omega) y
    have I6 := I5.pins_of (pins' := [(h'.objs.size, go)]) fun p hp => by
      rw [List.mem_singleton.mp hp]
      refine ⟨hpush, J3.hok.fresh (show h3.objs.size ≤ h'.objs.size by omega), ?_, fun hb => hns _ hb rfl, fun v z => ?_⟩
      · show h'.objs.size ≠ h3.objs.size
        omega
      · rw [← hgo] at z
        cases z
    have hfip : ∀ b ∈ fp, ∀ p ∈ [(h'.objs.size, go)], p.1 ≠ b := fun b hb p hp => by
      rw [List.mem_singleton.mp hp]
      have := lt3 b hb
      intro z
      have z : h'.objs.size = b := z
      rw [← z] at this
      have h9 : (h'.objs.size : Nat) < h3.objs.size := this
      omega
    have pg := hg ({ s2 with heap := h3, toks := tk } : Shared) (upd H1 P (.tbl (ps ++ more))) (cloFrom X.env.cells scope.names []) h3.objs.size code fp
    have pe := he ({ s2 with heap := h3, toks := tk } : Shared) (upd H1 P (.tbl (ps ++ more))) (cloFrom X.env.cells scope.names []) h3.objs.size code fp
    have back : ∀ {R : Hp → Prop} {s' : Shared}, Dn (gblk X ({ s2 with heap := h3, toks := tk } : Shared) (upd H1 P (.tbl (ps ++ more))) (gEnv X scope (cloFrom X.env.cells scope.names []) h3.objs.size code) fp) [(h'.objs.size, go)] (wipe σ (own.map (·.2))) R s' → ∃ H', Inv X pins σ H' s' ∧ R H' := fun {R s'} ⟨H', Ig, r⟩ =>
      ⟨H', J3.call' (ch := fp) Ig.os Ig.base Ig.hok Ig.bare fun b hb => ⟨(f3 b hb).1.2.2.2.1, (f3 b hb).1.2.1, (f3 b hb).1.2.2.2.2.1, (f3 b hb).1.2.2.2.2.2⟩, r⟩
    refine Calls.spliced_nil ?_
    refine call_function_tree F.kind_all F.plain_all F.entry_all (F.args_all1 _) ?_
    unfold Builtin.«all»
    refine wpAny_bind (m := oneArg "all" _) (wpAny_pure ?_)
    refine wpAny_bind (wpAny_pyIter_gen (s := ({ s2 with heap := h'.push go, gens := _, toks := _ } : Shared)) (hgen _ hpush) ?_)
    refine wpAny_pure ⟨plainId_quiet F.plain_all_loop _, all_drain (Xg := gblk X ({ s2 with heap := h3, toks := tk } : Shared) (upd H1 P (.tbl (ps ++ more))) (gEnv X scope (cloFrom X.env.cells scope.names []) h3.objs.size code) fp) (σw := wipe σ (own.map (·.2))) (fp := fp) (Qe := Q (.bl true)) (Qf := Q (.bl (!true))) (tn := tn) (W := W) hh (by have := hr.dp; omega) (List.mem_singleton.mpr rfl) hgen (fun s' hb hD => ?_) (fun s' hb hD => ?_) m0 _ (hgen _ hpush) I6.nolimit ⟨_, Array.getElem?_push_size .., rfl, ?_⟩⟩
    · obtain ⟨H', I7, r⟩ := back hD
      exact ⟨.bl _, H', I7, rfl, r⟩
    · obtain ⟨H', I7, r⟩ := back hD
      exact ⟨.bl _, H', I7, rfl, r⟩
    · refine gseg_start (X := X) hfip hco T pg pe turn m0 _ _ ?_
      exact Rdy.gens ⟨_, I6, T.keep _ _ _ st3 (fun b _ o e => keep5 b o e), fun b hb => (f3 b hb).1.1, m0, Nat.lt_succ_self _, w0⟩ rfl rfl (allBare_setGen (s := ({ s2 with heap := h'.push go, gens := _, toks := _ } : Shared)) bare5 rfl)
  cases hf : codeAmong gpos ps.toList with
  | none =>
    refine wpAny_genexprCodeX hcode (cd.code hPs ht) (cd.tab hPs) hf fun c' h' tk hx hge hlt hco' _ htab' _ => ?_
    obtain ⟨o1, vs, f1, tf, fl, tg, inF, tx, tt, op, _, _, _, _, _, _, _, _, _, htr, _⟩ := hco'
    exact cont _ h' tk _ (fun b o hb e => hx b o hb e) htab'.2 htr
  | some cv =>
    refine wpAny_genexprCode_hit hcode (cd.code hPs ht) hf ?_
    exact cont cv s2.heap s2.toks #[] (fun _ _ _ e => e) (by rw [hPs]; simp) (by simpa using ht)

theorem pe_anyG {X : Cx} {cc P : Addr} {elt tg iter : Expr} {scope : Scope} {own : List (Str × Nat)} {p pos gpos : Pos} {wi : TI} {g : TG} {te : TE} {k : Nat} (hr : Room (k + 1) X.A) (hgl : Gl X "any") (hm : X.mg "any" = none) (TB : TabB X.base X.mg cc P) (hcode : X.env.code = .ref cc) (hN : X.N.Nodup)
    (hi : PI X tg iter wi) (ok : BlkOk X.N X.env.scope scope own) (nc : ∀ y ∈ scope.names, y.2 ≠ .cell) (hco : scope.isCoroutine = false) (hdot : scope.names.lookup (".0" : Str) = some NameKind.local)
    (hg : ∀ (s : Shared) (H : Hp) (cl : List (Str × Addr)) (C : Addr) (code : Value) (fp : List Addr), PG (gblk X s H (gEnv X scope cl C code) fp) tg g) (he : ∀ (s : Shared) (H : Hp) (cl : List (Str × Addr)) (C : Addr) (code : Value) (fp : List Addr), PE (gblk X s H (gEnv X scope cl C code) fp) elt te)
    (hs : ∀ v, genFold iter X.env v = pure v := by intro _; rfl) (hb : bootBuiltins "any" = some (.builtin "any") := by decide +kernel)
    (he' : starEach [.GeneratorExp elt [⟨tg, iter, [], 0⟩] scope gpos] X.env = (false, eval (.GeneratorExp elt [⟨tg, iter, [], 0⟩] scope gpos) X.env) :: starEach [] X.env := by rfl) :
    PE X (.Call (.Name "any" p) [.GeneratorExp elt [⟨tg, iter, [], 0⟩] scope gpos] [] pos) (tGenC false P wi g te (own.map (·.2))) := by
  refine ⟨fun pins s σ H Q I h => ?_⟩
  have hfree : ∀ y ∈ scope.names, y.2 = .free → ∃ c, X.env.cells.lookup y.1 = some c := fun y hy e => by
    rcases ok.free y hy e with k | k
    · exact I.ok.has _ (.inl k)
    · exact I.ok.has _ (.inr k)
  refine wpAny_Call_Name_kw (ld_blt I hgl hm hb ?_)
  refine PyProof.Rows.callWith_builtin1 ?_ he' (by rfl)
  rw [he']
  show wpAny _ _ (spliced ((false, eval (.GeneratorExp elt [⟨tg, iter, [], 0⟩] scope gpos) X.env) :: backTo pos (starEach [] X.env))) _ _ s
  refine Calls.spliced_cons (wpAny_GeneratorExp_make hco (closure_ok hfree) nc hdot ok.kind (by have := hr.dp; omega) (thn (hi.run pins s σ H _ I h) fun xv s1 hx => thn hx fun itv s2 h2 => ?_) hs)
  obtain ⟨it, fp, tn, J, H1, e, I2, T, st2, f2, ⟨ps, hP, ht⟩, q⟩ := h2
  subst e
  refine ⟨I2.nolimit, ?_⟩
  have hPs : s2.heap.get? P = some { cls := .none, data := .fields ps } := I2.hok P _ hP
  have cd : PySem.W.CodeHd s2.heap cc P := TB.code.keeps fun b u e => I2.bk b u e
  have hh : X.A.handled = none := hr.hd
  have cont : ∀ (code : Value) (h3 : Heap) (tk : Nat) (more : Array Value), (∀ b o, b ≠ P → s2.heap.get? b = some o → h3.get? b = some o) → h3.get? P = some { cls := .none, data := .fields (ps ++ more) } → TriplesOk (ps ++ more).toList →
      wpAny (model X.prog X.w) X.A (builtinsFor X.env.globals X.env.builtins) (fun bi s₄ =>
        ∀ h', h'.Ns s₄.heap.objs.size (fun y => if y = ".0" then some (.ref it) else none) → Heap.SameBut s₄.heap.objs.size (s₄.heap.push { cls := .type "frame", data := .dict #[] }) h' →
          wpAny (model X.prog X.w) X.A (spliced (backTo pos (starEach [] X.env))) (fun us s' => wpAny (model X.prog X.w) X.A (call (.builtin "any") (.ref h'.objs.size :: us)) (EP X pins σ Q) X.xe s') X.xe { s₄ with
            gens := s₄.gens.push (.fresh (.compStart (.GeneratorExp elt [⟨tg, iter, [], 0⟩] scope gpos) 0 (.ref it) .none (genEnv scope (cloFrom X.env.cells scope.names []) s₄.heap.objs.size code bi X.env))),
            toks := s₄.toks + 1 + 1 + 1,
            heap := h'.push { cls := .type "generator", data := .fields #[.int s₄.gens.size 0, .str "<genexpr>" (s₄.toks + 1), .str (X.env.qual ++ "<genexpr>") (s₄.toks + 1 + 1)] } }) X.xe { s2 with heap := h3, toks := tk } := by
    intro code h3 tk more k3 hP3 ht3
    have J3 : Inv X pins σ (upd H1 P (.tbl (ps ++ more))) ({ s2 with heap := h3, toks := tk } : Shared) := inv_tab (more := more) (h' := h3) (g' := s2.gens) (d' := s2.drawn) (t' := tk) I2 hP k3 hP3 I2.bare
    obtain ⟨W, ⟨m0, w0⟩, turn⟩ := q _ ⟨⟨ps ++ more, upd_same, ht3⟩, fun b hb => upd_ne hb⟩
    obtain ⟨bm, ob, e1, e2, e3, e4, e5, e6, e7, e8⟩ := TB.bm
    refine wpAny_builtinsFor (m := X.mg) (by rw [I2.ok.glob]; exact J3.mod.glob.keeps J3.bk) e1 e2 (J3.bk _ _ e5) e6 e7 e8 ?_
    intro h' hn' hs'
    have hsz : h'.objs.size = h3.objs.size + 1 := by rw [hs'.1, Heap.size_push]
    generalize hgo : ({ cls := .type "generator", data := .fields #[.int s2.gens.size 0, .str "<genexpr>" (tk + 1), .str (X.env.qual ++ "<genexpr>") (tk + 1 + 1)] } : Obj) = go
    have keep' : ∀ b o, h3.get? b = some o → h'.get? b = some o := fun b o e => hs'.extBut b o (Nat.ne_of_lt (Heap.lt_size e)) (Heap.get?_push_of_some _ e)
    have keep5 : ∀ b o, h3.get? b = some o → (h'.push go).get? b = some o := fun b o e => Heap.get?_push_of_some _ (keep' b o e)
    have hgf : go.isFreed = false := by rw [← hgo]; rfl
    have hpush : (h'.push go).get? h'.objs.size = some go := Heap.get?_push_size _ hgf
    have hgen : ∀ hh : Heap, hh.get? h'.objs.size = some go → hh.IsGen h'.objs.size s2.gens.size := fun hh e => by
      rw [← hgo] at e
      exact ⟨_, _, _, e, rfl, rfl, rfl⟩
    have nP : ∀ b ∈ fp, b ≠ P := fun b hb z => by
      have := (f2 b hb).1
      rw [z, hP] at this
      cases this
    have lt3 : ∀ b ∈ fp, b < h3.objs.size := fun b hb => by
      obtain ⟨o, e, _⟩ := T.obj _ _ st2 b hb
      exact Heap.lt_size (k3 b o (nP b hb) e)
    have f3 : ∀ b ∈ fp, FpOk X pins (upd H1 P (.tbl (ps ++ more))) b ∧ b < h3.objs.size := fun b hb =>
      ⟨⟨by rw [upd_ne (nP b hb)]; exact (f2 b hb).1, (f2 b hb).2⟩, lt3 b hb⟩
    have st3 : tn 0 h3 := T.keep _ _ _ st2 fun b hb o e => k3 b o (nP b hb) e
    have bare5 : AllBare (s2.gens.push (.fresh (.compStart (.GeneratorExp elt [⟨tg, iter, [], 0⟩] scope gpos) 0 (.ref it) .none (genEnv scope (cloFrom X.env.cells scope.names []) h3.objs.size code builtinsNs X.env)))) := I2.bare.push rfl
    have I5 := gstart (s := ({ s2 with heap := h3, toks := tk } : Shared)) (code := code) (h' := h'.push go) (tk := tk + 1 + 1 + 1) J3 hh ok nc hN f3 keep5 (hn'.push _) bare5
    have hns : ∀ b ∈ frs X.stack, b ≠ h'.objs.size := fun b hb z => by
      rcases List.mem_cons.mp (J3.stkSub b hb) with y | y
      · have := J3.lt
        rw [← y, z] at this
        have h9 : (h'.objs.size : Nat) < h3.objs.size := this
        omega
      · exact J3.nofs (a := b) (by rw [z]; show h3.objs.size ≤ h'.objs.size; omega) y
    have I6 := I5.pins_of (pins' := [(h'.objs.size, go)]) fun p hp => by
      rw [List.mem_singleton.mp hp]
      refine ⟨hpush, J3.hok.fresh (show h3.objs.size ≤ h'.objs.size by omega), ?_, fun hb => hns _ hb rfl, fun v z => ?_⟩
      · show h'.objs.size ≠ h3.objs.size
        omega
      · rw [← hgo] at z
        cases z
    have hfip : ∀ b ∈ fp, ∀ p ∈ [(h'.objs.size, go)], p.1 ≠ b := fun b hb p hp => by
      rw [List.mem_singleton.mp hp]
      have := lt3 b hb
      intro z
      have z : h'.objs.size = b := z
      rw [← z] at this
      have h9 : (h'.objs.size : Nat) < h3.objs.size := this
      omega
    have pg := hg ({ s2 with heap := h3, toks := tk } : Shared) (upd H1 P (.tbl (ps ++ more))) (cloFrom X.env.cells scope.names []) h3.objs.size code fp
    have pe := he ({ s2 with heap := h3, toks := tk } : Shared) (upd H1 P (.tbl (ps ++ more))) (cloFrom X.env.cells scope.names []) h3.objs.size code fp
    have back : ∀ {R : Hp → Prop} {s' : Shared}, Dn (gblk X ({ s2 with heap := h3, toks := tk } : Shared) (upd H1 P (.tbl (ps ++ more))) (gEnv X scope (cloFrom X.env.cells scope.names []) h3.objs.size code) fp) [(h'.objs.size, go)] (wipe σ (own.map (·.2))) R s' → ∃ H', Inv X pins σ H' s' ∧ R H' := fun {R s'} ⟨H', Ig, r⟩ =>
      ⟨H', J3.call' (ch := fp) Ig.os Ig.base Ig.hok Ig.bare fun b hb => ⟨(f3 b hb).1.2.2.2.1, (f3 b hb).1.2.1, (f3 b hb).1.2.2.2.2.1, (f3 b hb).1.2.2.2.2.2⟩, r⟩
    refine Calls.spliced_nil ?_
    refine call_function_tree F.kind_any F.plain_any F.entry_any (F.args_any1 _) ?_
    unfold Builtin.«any»
    refine wpAny_bind (m := oneArg "any" _) (wpAny_pure ?_)
    refine wpAny_bind (wpAny_pyIter_gen (s := ({ s2 with heap := h'.push go, gens := _, toks := _ } : Shared)) (hgen _ hpush) ?_)
    refine wpAny_pure ⟨plainId_quiet F.plain_any_loop _, any_drain (Xg := gblk X ({ s2 with heap := h3, toks := tk } : Shared) (upd H1 P (.tbl (ps ++ more))) (gEnv X scope (cloFrom X.env.cells scope.names []) h3.objs.size code) fp) (σw := wipe σ (own.map (·.2))) (fp := fp) (Qe := Q (.bl false)) (Qf := Q (.bl (!false))) (tn := tn) (W := W) hh (by have := hr.dp; omega) (List.mem_singleton.mpr rfl) hgen (fun s' hb hD => ?_) (fun s' hb hD => ?_) m0 _ (hgen _ hpush) I6.nolimit ⟨_, Array.getElem?_push_size .., rfl, ?_⟩⟩
    · obtain ⟨H', I7, r⟩ := back hD
      exact ⟨.bl _, H', I7, rfl, r⟩
    · obtain ⟨H', I7, r⟩ := back hD
      exact ⟨.bl _, H', I7, rfl, r⟩
    · refine gseg_start (X := X) hfip hco T pg pe turn m0 _ _ ?_
      exact Rdy.gens ⟨_, I6, T.keep _ _ _ st3 (fun b _ o e => keep5 b o e), fun b hb => (f3 b hb).1.1, m0, Nat.lt_succ_self _, w0⟩ rfl rfl (allBare_setGen (s := ({ s2 with heap := h'.push go, gens := _, toks := _ } : Shared)) bare5 rfl)
  cases hf : codeAmong gpos ps.toList with
  | none =>
    refine wpAny_genexprCodeX hcode (cd.code hPs ht) (cd.tab hPs) hf fun c' h' tk hx hge hlt hco' _ htab' _ => ?_
    obtain ⟨o1, vs, f1, tf, fl, tg, inF, tx, tt, op, _, _, _, _, _, _, _, _, _, htr, _⟩ := hco'
    exact cont _ h' tk _ (fun b o hb e => hx b o hb e) htab'.2 htr
  | some cv =>
    refine wpAny_genexprCode_hit hcode (cd.code hPs ht) hf ?_
    exact cont cv s2.heap s2.toks #[] (fun _ _ _ e => e) (by rw [hPs]; simp) (by simpa using ht)
end GxA
end

section
set_option Elab.async false
set_option linter.all false
set_option maxRecDepth 100000
set_option maxHeartbeats 4000000
/-! for c in 'signs': t = t.replace(c, f' {c} ') -/
namespace RpX
open PySem PySem.Spec PyProof.Rows L2
section
variable {X : Cx} {pins : List (Addr × Obj)} {σ : L2.St} {H : Hp} {s : Shared}
/-- a local name stored: the state behind it, its frame known -/
theorem store_inv {i : Nat} {x : Str} {v : V} {u : Value} {m : Str → Option Value} {h' : Heap} (I : Inv X pins σ H s) (hN : X.N.Nodup) (hi : X.N[i]? = some x) (hk : X.env.scope.names.lookup x = some .local) (r : RelV v u) (hn : s.heap.Ns X.env.locals m)
    (hn' : h'.Ns X.env.locals (fun y => if y = x then some u else m y)) (hs : Heap.SameBut X.env.locals s.heap h') : Inv X pins (σ.set i (some v)) H { s with heap := h' } := by
  have hiσ : i < σ.length := by rw [I.len]; exact (List.getElem?_eq_some_iff.mp hi).1
  have cne := I.cne
  obtain ⟨m0, hn0, hl⟩ := id I.loc
  have em : m0 = m := by rw [hn0.eq_nsMap, hn.eq_nsMap]
  subst em
  obtain ⟨oL, _, _, hoL, _⟩ := id hn
  have tracked : HOk X.prog X.w H h' := fun b ob e => by
    refine (I.hok b ob e).stay (fun c w' hc q => (hs.2 c ?_).trans q) (fun _ q => q) fun _ _ q => q
    rintro rfl
    have hfree := I.free
    rcases hc with rfl | hc
    · rw [hfree] at e; cases e
    · rw [hfree] at hc; cases hc
  refine ⟨I.ok, I.os, I.bare, ⟨fun b o e n hb hx => ?_, fun b o e n hb hx => ?_, I.base.free, fun b o e hx => ?_, I.base.tups, I.base.frzs, I.base.tbls⟩, ⟨_, hn', fun j y v' e1 e2 e3 => ?_⟩, fun y c e => ?_, I.free, I.freeC, fun p hp => ?_, tracked, by simpa using I.len⟩
  · exact (hs.2 b (Nat.ne_of_lt (Nat.lt_of_lt_of_le (Heap.lt_size e) I.ok.above))).trans (I.base.keep b o e n hb hx)
  · obtain ⟨sl, e1⟩ := I.base.slot b o e n hb hx
    exact ⟨sl, (hs.2 b (Nat.ne_of_lt (Nat.lt_of_lt_of_le (Heap.lt_size e) I.ok.above))).trans e1⟩
  · obtain ⟨o', e1⟩ := I.base.there b o e hx
    exact ⟨o', (hs.2 b (Nat.ne_of_lt (Nat.lt_of_lt_of_le (Heap.lt_size e) I.ok.above))).trans e1⟩
  · by_cases hj : j = i
    · subst hj
      rw [hi] at e1; cases e1
      rw [List.getElem?_set_self hiσ] at e2
      cases e2
      exact ⟨u, r, .inl ⟨hk, by simp⟩⟩
    · rw [List.getElem?_set_ne (Ne.symm hj)] at e2
      obtain ⟨u', r', q⟩ := hl j y v' e1 e2 e3
      refine ⟨u', r', ?_⟩
      rcases q with ⟨k, e⟩ | ⟨k, c, e, z⟩
      · refine .inl ⟨k, ?_⟩
        have : y ≠ x := fun e => hj (nodup_ix hN e1 (e ▸ hi))
        simp [this, e]
      · exact .inr ⟨k, c, e, z.sameBut hs (cne y c e)⟩
  · obtain ⟨w', z⟩ := I.cell y c e
    exact ⟨w', z.sameBut hs (cne y c e)⟩
  · obtain ⟨e, n, ne, nf, d⟩ := I.pin p hp
    exact ⟨(hs.2 p.1 ne).trans e, n, ne, nf, d⟩
end
def pad (c : Nat) : Str := Str.empty ++ " " ++ ⟨#[c]⟩ ++ " "
theorem one_ne_pad (c : Nat) : ((⟨#[c]⟩ : Str) == pad c) = false := by
  refine beq_eq_false_iff_ne.mpr fun e => ?_
  have h : (1 : Nat) = 3 := congrArg Str.length e
  omega
/-- the text with a blank on both sides of each of the signs -/
def padAll (x : Str) : List Nat → Str
  | [] => x
  | c :: r => padAll (Txt.replace x ⟨#[c]⟩ (pad c)) r
section
variable {X : Cx} {pins : List (Addr × Obj)} {σ : L2.St} {H : Hp} {s : Shared} {ix ir : Nat} {sx rx : Str} {p1 p2 p3 apos pos spos fp jp c1 c2 : Pos} {j1 j2 : Nat}
/-- the turn's statement: the sign's token is younger than nothing and older than all to come -/
theorem repl_stmt {c t : Nat} {x : Str} {m : Str → Option Value} (hN : X.N.Nodup) (hir : X.N[ir]? = some rx) (hix : X.N[ix]? = some sx) (hkr : X.env.scope.names.lookup rx = some .local) (hkx : X.env.scope.names.lookup sx = some .local)
    (I : Inv X pins σ H s) (hx : σ[ir]? = some (some (.str x))) (hn : s.heap.Ns X.env.locals m) (hm : m sx = some (.str ⟨#[c]⟩ t)) (ht : 1 ≤ t) (hts : t < s.toks) (hb : x.length + (x.length + 1) * (pad c).length ≤ 16777216)
    (hst : starEach [.Name sx p2, .JoinedStr [.Constant (.str " ") j1 c1, .FormattedValue (.Name sx p3) (-1) none fp, .Constant (.str " ") j2 c2] jp] X.env =
      [(false, eval (.Name sx p2) X.env), (false, eval (.JoinedStr [.Constant (.str " ") j1 c1, .FormattedValue (.Name sx p3) (-1) none fp, .Constant (.str " ") j2 c2] jp) X.env)] := by rfl)
    (hbase : attributeBase (.Name rx p1) "replace" X.env (eval (.Name rx p1) X.env) = eval (.Name rx p1) X.env := by rfl) (hline : (apos.endLine == pos.line) = true := by rfl)
    (hd : (sx == ("__debug__" : Str)) = false := by decide) (hdr : (rx == ("__debug__" : Str)) = false := by decide) (hcr : (rx == ("__classdict__" : Str)) = false := by decide) :
    wpAny (model X.prog X.w) X.A (eval (.Call (.Attribute (.Name rx p1) "replace" apos) [.Name sx p2, .JoinedStr [.Constant (.str " ") j1 c1, .FormattedValue (.Name sx p3) (-1) none fp, .Constant (.str " ") j2 c2] jp] [] pos) X.env)
      (fun v s' => RelV (.str (Txt.replace x ⟨#[c]⟩ (pad c))) v ∧ ∃ k, s' = { s with toks := k }) X.xe s := by
  refine PySem.Call_method2 hbase hst hline (raw_name hir (.inl hkr) I hx (fun v r => ?_) hdr hcr)
  obtain ⟨tx, e⟩ := r
  subst e
  refine ⟨"str", _, F.plainAttrs_str, F.slot_str_replace, F.type_str_replace, typeIs_str _ _ _, (fun _ e => nomatch e), Calls.callWith_builtin rfl (Calls.evalArgs_plain (Calls.spliced_cons ?_))⟩
  refine wpAny_Name (wpAny_loadName_local I.ok.kind hkx hn hm ?_) hd
  refine Calls.spliced_cons ?_
  refine wpAny_JoinedStr ?_
  show Joins _ _ _ [eval (.Constant (.str " ") j1 c1) X.env, eval (.FormattedValue (.Name sx p3) (-1) none fp) X.env, eval (.Constant (.str " ") j2 c2) X.env] Str.empty _ s
  refine Calls.Constant_str ⟨_, _, rfl, by decide +kernel, ?_⟩
  have fin : ∀ (R : Str → Shared → Prop), (∀ k, s.toks < k → R (pad c) { s with toks := k }) → ∀ k, s.toks < k → Joins (model X.prog X.w) X.A X.xe [eval (.Constant (.str " ") j2 c2) X.env] (Str.empty ++ " " ++ (⟨#[c]⟩ : Str)) R { s with toks := k } := by
    intro R hR k hk
    exact Calls.Constant_str ⟨_, _, rfl, (by show (1 + 1 + 1 : Nat) ≤ sizeLine; decide), hR (k + 1) (by omega)⟩
  refine wpAny_FormattedValue_plain (wpAny_Name (wpAny_loadName_local (s := { s with toks := s.toks + 1 }) I.ok.kind hkx hn hm ?_) hd)
  refine wpAny_formatField_str ⟨_, _, rfl, (by show (1 + 1 : Nat) ≤ sizeLine; decide), fin _ (fun k hk => ?_) _ (by omega)⟩ ⟨_, _, rfl, (by show (1 + 1 : Nat) ≤ sizeLine; decide), fin _ (fun k hk => ?_) _ (by show s.toks < s.toks + 1 + 1; omega)⟩ (by show (1 : Nat) ≤ sizeLine; decide)
  all_goals
    refine ⟨(by show (1 + 1 + 1 : Nat) ≤ sizeLine; decide), Calls.spliced_nil ?_⟩
    exact PySem.SC.replace (u := t) (v := k) (y := ⟨#[c]⟩) (z := pad c) (show (t : Nat) ≠ 0 by omega) (show (k : Nat) ≠ 0 by omega) (show (t : Nat) ≠ k by omega) (one_ne_pad c) hb fun t' k2 => ⟨⟨t', rfl⟩, k2, rfl⟩
/-- for c in 'signs': row = row.replace(c, f' {c} ') -/
def tForRepl (ix ir : Nat) (lit : List Nat) : TS := fun D σ H => ∃ x, σ[ir]? = some (some (.str x)) ∧ x.length ≤ 1000 ∧ lit.length ≤ 4 ∧ ∀ v : Option V, D.nx ((σ.set ix v).set ir (some (.str (padAll x lit)))) H
theorem padAll_snoc (x : Str) (a : List Nat) (c : Nat) : padAll x (a ++ [c]) = Txt.replace (padAll x a) ⟨#[c]⟩ (pad c) := by
  induction a generalizing x with
  | nil => rfl
  | cons d r ih => exact ih _
theorem padAll_len (a : List Nat) : ∀ x : Str, (padAll x a).length ≤ (x.length + 1) * 4 ^ a.length := by
  induction a with
  | nil => intro x; show x.length ≤ _; rw [List.length_nil, Nat.pow_zero]; omega
  | cons c r ih =>
    intro x
    have h1 := ih (Txt.replace x ⟨#[c]⟩ (pad c))
    have h2 := TK.replace_len x ⟨#[c]⟩ (pad c)
    have h3 : (pad c).length = 3 := rfl
    rw [h3] at h2
    have h4 : (Txt.replace x ⟨#[c]⟩ (pad c)).length + 1 ≤ (x.length + 1) * 4 := by omega
    calc (padAll x (c :: r)).length ≤ ((Txt.replace x ⟨#[c]⟩ (pad c)).length + 1) * 4 ^ r.length := h1
      _ ≤ (x.length + 1) * 4 * 4 ^ r.length := Nat.mul_le_mul_right _ h4
      _ = (x.length + 1) * 4 ^ (c :: r).length := by rw [List.length_cons, Nat.pow_succ, Nat.mul_assoc, Nat.mul_comm 4]
theorem ps_forRepl {lit : Str} {jl : Nat} {cl ptx pra : Pos} {fpos : Pos} (hp : PassesOwn (model X.prog X.w) X.A X.env X.xe) (hc : X.calm = true) (hN : X.N.Nodup) (hir : X.N[ir]? = some rx) (hix : X.N[ix]? = some sx) (hne : ix ≠ ir) (hkr : X.env.scope.names.lookup rx = some .local) (hkx : X.env.scope.names.lookup sx = some .local)
    (ha : lit.cps.all (· < 128) = true) (hs0 : ∀ x, foldedSetIterable (.Constant (.str lit) jl cl) X.env x = pure x := by intro _; rfl)
    (hs : swapsWith (.Call (.Attribute (.Name rx p1) "replace" apos) [.Name sx p2, .JoinedStr [.Constant (.str " ") j1 c1, .FormattedValue (.Name sx p3) (-1) none fp, .Constant (.str " ") j2 c2] jp] [] pos) (some (.Name rx pra)) spos.line X.env = pure false := by rfl)
    (hst : starEach [.Name sx p2, .JoinedStr [.Constant (.str " ") j1 c1, .FormattedValue (.Name sx p3) (-1) none fp, .Constant (.str " ") j2 c2] jp] X.env =
      [(false, eval (.Name sx p2) X.env), (false, eval (.JoinedStr [.Constant (.str " ") j1 c1, .FormattedValue (.Name sx p3) (-1) none fp, .Constant (.str " ") j2 c2] jp) X.env)] := by rfl)
    (hbase : attributeBase (.Name rx p1) "replace" X.env (eval (.Name rx p1) X.env) = eval (.Name rx p1) X.env := by rfl) (hline : (apos.endLine == pos.line) = true := by rfl)
    (hd : (sx == ("__debug__" : Str)) = false := by decide) (hdr : (rx == ("__debug__" : Str)) = false := by decide) (hcr : (rx == ("__classdict__" : Str)) = false := by decide) :
    PS X (.For (.Name sx ptx) (.Constant (.str lit) jl cl) [.Assign [.Name rx pra] (.Call (.Attribute (.Name rx p1) "replace" apos) [.Name sx p2, .JoinedStr [.Constant (.str " ") j1 c1, .FormattedValue (.Name sx p3) (-1) none fp, .Constant (.str " ") j2 c2] jp] [] pos) spos] [] fpos)
      (tForRepl ix ir lit.cps.toList) := by
  refine ⟨fun pins s σ H D I h => ?_⟩
  obtain ⟨x, hx, hxl, hll, q⟩ := h
  have hcls : (X.env.scope.kind == .class || (X.env.scope.kind == .module && X.env.locals != X.env.globals)) = false := by rw [I.ok.kind]; rfl
  refine wpAny_For (Calls.Constant_str (wpAny_pyIter_ascii ha ?_)) hs0
  have hL : s.heap.objs.size ≠ X.env.locals := Nat.ne_of_gt I.lt
  have I2 : Inv X pins σ H ({ s with heap := s.heap.push { cls := .type "str_ascii_iterator", data := .fields #[.str lit s.toks, .int 0 0] }, toks := s.toks + 1 } : Shared) := I.kept (t' := s.toks + 1) fun b o e => Heap.get?_push_of_some _ e
  have hitH : H s.heap.objs.size = none := I.hok.fresh (Nat.le_refl _)
  have fp0 := I.fpOk (b := s.heap.objs.size) (Nat.le_refl _) hitH
  refine codeAny_forLoop_any (fun n s' => ∃ i v, i + n = lit.cps.toList.length ∧ Inv X pins ((σ.set ix v).set ir (some (.str (padAll x (lit.cps.toList.take i))))) H s' ∧ s'.heap.IsStrIter s.heap.objs.size "str_ascii_iterator" lit s.toks i ∧ 1 ≤ s'.toks) ?_ lit.cps.toList.length ⟨0, (σ[ix]?).getD none, Nat.zero_add _, ?_, ⟨_, Heap.get?_push_size _ rfl, rfl, rfl⟩, by show 1 ≤ s.toks + 1; omega⟩
  · rintro n s3 ⟨i, v, hi, I3, hit, ht3⟩
    have hir' : ir < σ.length := (List.getElem?_eq_some_iff.mp hx).1
    have hix' : ix < σ.length := by rw [I.len]; exact (List.getElem?_eq_some_iff.mp hix).1
    by_cases hlt : i < lit.cps.toList.length
    · obtain ⟨c, hcc⟩ : ∃ c, lit.cps.toList[i]? = some c := ⟨_, List.getElem?_eq_getElem hlt⟩
      have hcc' : lit.cps[i]? = some c := by rw [← Array.getElem?_toList]; exact hcc
      refine wpAny_passesOwn hp (wpAny_pyNext_ascii_item hit hcc' fun h' hit' hs' => ?_)
      have kk : ∀ b o, b ≠ s.heap.objs.size → s3.heap.get? b = some o → h'.get? b = some o := fun b o hb e => hs'.extBut b o hb e
      have I4 : Inv X pins ((σ.set ix v).set ir (some (.str (padAll x (lit.cps.toList.take i))))) H ({ s3 with heap := h', toks := s3.toks + 1 } : Shared) := I3.turned (t' := s3.toks + 1) kk hitH fp0.2.1 fp0.2.2.2.1 fp0.2.2.2.2.1 fp0.2.2.2.2.2
      refine wpAny_passesOwn hp (wpAny_of_eq (rfl : letOwnedTupleGo (.Name sx ptx) (.ref s.heap.objs.size) _ = pure ()) ?_)
      obtain ⟨m, hn, _⟩ := id I4.loc
      refine wpAny_passesOwn hp (wpAny_assign_Name (wpAny_storeName_local hkx hn (fun h2 hn2 hs2 => ?_) hcls))
      have I5 := (store_inv (v := V.str ⟨#[c]⟩) (u := .str ⟨#[c]⟩ s3.toks) I4 hN hix hkx ⟨_, rfl⟩ hn hn2 hs2).tok (s3.toks + 1 + 1)
      have hit2 : h2.IsStrIter s.heap.objs.size "str_ascii_iterator" lit s.toks (i + 1) := hit'.extBut hs2.extBut hL
      generalize hσ5 : (((σ.set ix v).set ir (some (.str (padAll x (lit.cps.toList.take i))))).set ix (some (.str ⟨#[c]⟩))) = σ5 at I5
      have eσ5 : σ5 = (σ.set ix (some (.str ⟨#[c]⟩))).set ir (some (.str (padAll x (lit.cps.toList.take i)))) := by
        rw [← hσ5, List.set_comm _ _ (Ne.symm hne), List.set_set]
      have hx5 : σ5[ir]? = some (some (.str (padAll x (lit.cps.toList.take i)))) := by
        rw [eσ5]; exact List.getElem?_set_self (by simpa using hir')
      have hlen := padAll_len (lit.cps.toList.take i) x
      have hti : (lit.cps.toList.take i).length ≤ 3 := by rw [List.length_take]; omega
      have hp4 : 4 ^ (lit.cps.toList.take i).length ≤ 4 ^ 3 := Nat.pow_le_pow_right (by decide) hti
      have hb5 : (padAll x (lit.cps.toList.take i)).length ≤ 64064 := by
        have h1 : (x.length + 1) * 4 ^ (lit.cps.toList.take i).length ≤ (x.length + 1) * 4 ^ 3 := Nat.mul_le_mul_left _ hp4
        have h2 : (4 : Nat) ^ 3 = 64 := by decide
        omega
      have hpl : (pad c).length = 3 := rfl
      refine wpAny_passesOwn hp (wpAny_execs_cons ?_)
      refine wpAny_Assign_Name (wpAny_mono (repl_stmt (jp := jp) (fp := fp) (p1 := p1) (p2 := p2) (p3 := p3) (c1 := c1) (c2 := c2) (j1 := j1) (j2 := j2) (apos := apos) (pos := pos) (s := ({ s3 with heap := h2, toks := s3.toks + 1 + 1 } : Shared)) (c := c) (t := s3.toks) hN hir hix hkr hkx I5 hx5 hn2 (if_pos rfl) ht3 (by show s3.toks < s3.toks + 1 + 1; omega) (by rw [hpl]; omega) hst hbase hline hd hdr hcr) (fun u s6 hu => ?_) fun _ _ e => e) hs
      obtain ⟨ru, k6, e6⟩ := hu
      subst e6
      have I6 := I5.tok k6
      obtain ⟨m6, hn6, _⟩ := id I6.loc
      refine wpAny_storeName_local hkr hn6 (fun h7 hn7 hs7 => ?_) hcls
      have I7 := (store_inv I6 hN hir hkr ru hn6 hn7 hs7).tok (k6 + 1)
      have hit7 : h7.IsStrIter s.heap.objs.size "str_ascii_iterator" lit s.toks (i + 1) := hit2.extBut hs7.extBut hL
      refine wpAny_execs_nil ?_
      refine ⟨n - 1, by omega, i + 1, some (.str ⟨#[c]⟩), by omega, ?_, hit7, by show 1 ≤ k6 + 1; omega⟩
      have e9 : σ5.set ir (some (.str (Txt.replace (padAll x (lit.cps.toList.take i)) ⟨#[c]⟩ (pad c)))) = (σ.set ix (some (.str ⟨#[c]⟩))).set ir (some (.str (padAll x (lit.cps.toList.take (i + 1))))) := by
        rw [eσ5, List.set_set, List.take_succ, hcc]
        show _ = (σ.set ix _).set ir (some (.str (padAll x (lit.cps.toList.take i ++ [c]))))
        rw [padAll_snoc]
      rw [← e9]
      exact I7
    · have e : i = lit.cps.toList.length := by omega
      have hn0 : lit.cps[i]? = none := by
        rw [← Array.getElem?_toList, e]; simp
      refine wpAny_passesOwn hp (wpAny_pyNext_ascii_end (I3.ok.hd hc) hit hn0 fun h' hx' => ?_)
      have kk : ∀ b o, b ≠ s.heap.objs.size → s3.heap.get? b = some o → h'.get? b = some o := fun b o hb q => hx' b o hb q
      have I4 := I3.turned (t' := s3.toks) kk hitH fp0.2.1 fp0.2.2.2.1 fp0.2.2.2.2.1 fp0.2.2.2.2.2
      refine wpAny_execs_nil ⟨_, H, I4, ?_⟩
      rw [e, List.take_length]
      exact q v
  · have e : (σ.set ix ((σ[ix]?).getD none)).set ir (some (.str (padAll x (lit.cps.toList.take 0)))) = σ := by
      show (σ.set ix ((σ[ix]?).getD none)).set ir (some (.str x)) = σ
      have hix' : ix < σ.length := by rw [I.len]; exact (List.getElem?_eq_some_iff.mp hix).1
      have hir' : ir < σ.length := (List.getElem?_eq_some_iff.mp hx).1
      apply List.ext_getElem?
      intro j
      by_cases hj : j = ir
      · subst hj
        rw [List.getElem?_set_self (by simpa using hir'), hx]
      · rw [List.getElem?_set_ne (Ne.symm hj)]
        by_cases hj2 : j = ix
        · subst hj2
          rw [List.getElem?_set_self hix', List.getElem?_eq_getElem hix']
          rfl
        · rw [List.getElem?_set_ne (Ne.symm hj2)]
    rw [e]
    exact I2
end
end RpX
end

section
set_option Elab.async false
set_option linter.all false
set_option maxRecDepth 100000
set_option maxHeartbeats 4000000
/-! sorted(names, key=f), f a def that gives (len(name), name) -/
namespace SkX
open PySem PySem.Spec PyProof.Rows L2
/-- what a name is in order by -/
def nk (x : Str) : List (Int ⊕ List Nat) := [.inl (x.length : Int), .inr x.cps.toList]
def NLe (x y : Str) : Prop := (listOrd itemOrd).kle (nk x) (nk y)
theorem nle_antisymm {x y : Str} (a : NLe x y) (b : NLe y x) : x = y := by
  have h : nk x = nk y := KeyOrd.kle_antisymm (O := listOrd itemOrd) a b
  unfold nk at h
  have h2 : x.cps.toList = y.cps.toList := by
    injection h with _ h
    injection h with h _
    injection h
  have h3 : x.cps = y.cps := by
    have := congrArg List.toArray h2
    simpa using this
  cases x; cases y; cases h3; rfl
/-- two lists of the same names in order are one -/
theorem ord_unique : ∀ {a b : List Str}, a.Perm b → a.Pairwise NLe → b.Pairwise NLe → a = b
  | [], b, p, _, _ => by have := p.length_eq; cases b with | nil => rfl | cons _ _ => simp at this
  | x :: r, [], p, _, _ => by have := p.length_eq; simp at this
  | x :: r, y :: q, p, h1, h2 => by
    have e : x = y := by
      have hx : x ∈ y :: q := p.mem_iff.mp List.mem_cons_self
      have hy : y ∈ x :: r := p.mem_iff.mpr List.mem_cons_self
      rcases List.mem_cons.mp hx with e | hx
      · exact e
      rcases List.mem_cons.mp hy with e | hy
      · exact e.symm
      exact nle_antisymm ((List.pairwise_cons.mp h1).1 y hy) ((List.pairwise_cons.mp h2).1 x hx)
    subst e
    rw [ord_unique ((List.perm_cons x).mp p) (List.pairwise_cons.mp h1).2 (List.pairwise_cons.mp h2).2]

section
variable {X : Cx} {pins : List (Addr × Obj)} {σ : L2.St} {H : Hp} {s : Shared}
/-- an untracked list of our own is tracked from now on -/
theorem adopt {a : Addr} {xs : List V} {its : List Value} {n : Nat} (I : Inv X pins σ H s) (fp : FpOk X pins H a) (rv : Vals xs its) (hz : xs.length ≤ sizeLine) (e : s.heap.get? a = some { cls := .type "list", data := .seq its.toArray n }) :
    Inv X pins σ (upd H a (.lst xs)) s := by
  obtain ⟨f0, f1, f2, f3, f4, f5⟩ := fp
  have nt : ∀ b u, H b = some u → b ≠ a := fun b u q z => by rw [z, f0] at q; cases q
  have J := I.step (h' := s.heap) (H' := upd H a (.lst xs)) (g' := s.gens) (d' := s.drawn) (t' := s.toks) (ch := [a]) (fun b hb => by rw [List.mem_singleton.mp hb]; exact ⟨f3, f1, f4, f5⟩)
    (fun b o _ _ _ q _ => q) (fun b o _ _ _ q _ => ⟨o.slots, q⟩) (fun b o hb _ n => by rw [upd_ne (fun z => hb (by rw [z]; exact List.mem_singleton.mpr rfl))]; exact n) (fun b o _ q => ⟨o, q⟩)
    (fun b ys q => by rw [upd_ne (nt b _ q)]; exact q) (fun b o u q => by rw [upd_ne (nt b _ q)]; exact q) (fun b ps q => ⟨#[], by rw [upd_ne (nt b _ q), q]; simp⟩) (fun m h => h) (fun b u q => ?_) I.bare
  · exact J
  · by_cases hb : b = a
    · subst hb
      rw [upd_same] at q
      cases q
      exact ⟨hz, its, n, rv, e⟩
    · rw [upd_ne hb] at q
      exact (I.hok b u q).stay (fun _ _ _ z => z) (fun c z => by rw [upd_ne (nt c _ z)]; exact z) fun c ys z => by rw [upd_ne (nt c _ z)]; exact z
end
/-- the promise of the key def: a new pair of the length and the name -/
def spKey : Sp := fun vs H Q _ => ∃ x : Str, vs = [.str x] ∧ x.length ≤ 1000 ∧ ∀ t, H t = none → Q (.ref t) (upd H t (.tup [.int x.length, .str x]))
/-- the keys so far -/
def Keyd (H : Hp) (ks : List V) (ns : List Str) : Prop := Paired (fun (k : V) (x : Str) => ∃ t, k = .ref t ∧ H t = some (.tup [.int x.length, .str x])) ks ns
theorem Keyd.mono {H H' : Hp} {ks : List V} {ns : List Str} (h : Keyd H ks ns) (s : Same H H') : Keyd H' ks ns := Paired.mapP h fun _ _ ⟨t, e, q⟩ => ⟨t, e, s _ _ q⟩
theorem Keyd.snoc {H : Hp} {ks : List V} {ns : List Str} {t : Addr} {x : Str} : Keyd H ks ns → H t = some (.tup [.int x.length, .str x]) → Keyd H (ks ++ [.ref t]) (ns ++ [x])
  | .nil, h => .cons ⟨t, rfl, h⟩ .nil
  | .cons r q, h => .cons r (Keyd.snoc q h)
theorem vals_at : ∀ {xs : List V} {us : List Value} {i : Nat} {u : Value}, Vals xs us → us[i]? = some u → ∃ x, xs[i]? = some x ∧ RelV x u
  | _, _, _, _, .nil, e => by simp at e
  | _, _, 0, _, .cons r _, e => by simp at e; subst e; exact ⟨_, rfl, r⟩
  | _, _, i + 1, u, .cons _ t, e => by
    obtain ⟨x, h1, h2⟩ := vals_at (i := i) t (by simpa using e)
    exact ⟨x, by simpa using h1, h2⟩
/-- the shape of a key: a number, then a text -/
def shp : Nat → Bool := fun i => i == 1
theorem keyd_key {P : Program} {w : World} {H : Hp} {h : Heap} (ok : HOk P w H h) {ks : List V} {ns : List Str} {us : List Value} (k : Keyd H ks ns) (r : Vals ks us) : Paired (fun (u : Value) (x : Str) => G.tupKeyC h shp u = some (nk x) ∧ ∃ f, TupOf h shp u f) us ns := by
  induction k generalizing us with
  | nil => cases r; exact .nil
  | cons hk _ ih =>
    cases r with
    | cons r1 r2 =>
      refine .cons ?_ (ih r2)
      obtain ⟨t, rfl, e⟩ := hk
      obtain rfl := r1
      obtain ⟨_, its, rv, ob, ho, hc, n, hd⟩ := ok t _ e
      cases rv with
      | cons ra rb =>
        cases rb with
        | cons rb rc =>
          cases rc
          obtain ⟨t1, rfl⟩ := ra
          obtain ⟨t2, rfl⟩ := rb
          refine ⟨?_, _, t, ob, _, n, rfl, ho, hc, hd, rfl, fun _ => ⟨_, _, rfl⟩, fun z => by cases z⟩
          unfold G.tupKeyC
          have h1 : G.isTupObj h (.ref t) = true := by simp only [G.isTupObj, ho, hc]; rfl
          rw [if_pos h1]
          show tupKey h shp (.ref t) = _
          simp only [tupKey, ho, hd]
          rfl

/-- the name of a pair -/
def gN (p : Keyed) : Str := match p.2 with
  | .str x _ => x
  | _ => Str.empty
/-- what is known of each pair -/
def PairOk (h : Heap) (p : Keyed) : Prop := ∃ x t, p.2 = Value.str x t ∧ G.tupKeyC h shp p.1 = some (nk x)
theorem pairs_ok {h : Heap} : ∀ {us its : List Value} {ns : List Str}, Paired (fun (u : Value) (x : Str) => G.tupKeyC h shp u = some (nk x) ∧ ∃ f, TupOf h shp u f) us ns → Vals (ns.map V.str) its → (us.zip its).map gN = ns ∧ ∀ p ∈ us.zip its, PairOk h p
  | _, _, _, .nil, .nil => ⟨rfl, fun _ h => by simp at h⟩
  | _, _, _, .cons k1 k2, .cons r1 r2 => by
    obtain ⟨e, a⟩ := pairs_ok k2 r2
    obtain ⟨t, rfl⟩ := r1
    refine ⟨by rw [List.zip_cons_cons, List.map_cons, e]; rfl, fun p hp => ?_⟩
    rcases List.mem_cons.mp hp with rfl | hp
    · exact ⟨_, t, rfl, k1.1⟩
    · exact a p hp
theorem tups_of {h : Heap} : ∀ {us : List Value} {ns : List Str}, Paired (fun (u : Value) (x : Str) => G.tupKeyC h shp u = some (nk x) ∧ ∃ f, TupOf h shp u f) us ns → ∃ fs, TupsOf h shp us fs ∧ fs.length = us.length
  | _, _, .nil => ⟨[], .nil, rfl⟩
  | _, _, .cons k1 k2 => by
    obtain ⟨f, hf⟩ := k1.2
    obtain ⟨fs, h1, h2⟩ := tups_of k2
    exact ⟨f :: fs, .cons hf h1, by rw [List.length_cons, List.length_cons, h2]⟩
theorem vals_gN {h : Heap} : ∀ {ps : List Keyed}, (∀ p ∈ ps, PairOk h p) → Vals ((ps.map gN).map V.str) (ps.map (·.2))
  | [], _ => .nil
  | p :: r, a => by
    obtain ⟨x, t, e, _⟩ := a p List.mem_cons_self
    refine .cons ?_ (vals_gN fun q hq => a q (List.mem_cons_of_mem _ hq))
    show RelV (.str (gN p)) p.2
    have e2 : gN p = x := by unfold gN; rw [e]
    rw [e, e2]
    exact ⟨t, rfl⟩
section
variable {X : Cx} {pins : List (Addr × Obj)} {σ : L2.St} {k : Nat} {f a kS : Addr} {fd : FuncData} {ps : List Str} {E : Value → Shared → Prop} {P : PySem.Fin → Shared → Prop}
theorem key_rest {H : Hp} {s : Shared} {e1 : Nat} {its : List Value} {ns : List Str} (F : FnOk X.prog X.w X.K X.mg X.base CX0 k f fd ps spKey) (hb : Binds X.K fd ps []) (hr : Room k X.A.in1.in1)
    (I : Inv X pins σ H s) (fa : ∀ H' : Hp, H' a = none → FpOk X pins H' a) (fk : ∀ H' : Hp, H' kS = none → FpOk X pins H' kS) (hka : kS ≠ a) (ha0 : H a = none) (hk0 : H kS = none)
    (ha : s.heap.get? a = some (seqObj "list" #[] e1)) (hk : s.heap.get? kS = some (seqObj "list" #[] 0)) (rv : Vals (ns.map V.str) its) (hn : ns.length ≤ 1000) (hx : ∀ x ∈ ns, x.length ≤ 1000)
    (h : ∀ (s' : Shared) (H' : Hp) (ns' : List Str) (out : List Value) (c : Nat), Inv X pins σ H' s' → Same H H' → H' a = none → s'.heap.get? a = some (seqObj "list" (List.toArray out) c) → Vals (ns'.map V.str) out → ns'.Perm ns → ns'.Pairwise NLe → P (.done (.ret .none)) s') :
    wpAny (model X.prog X.w) X.A.in1.in1 (ksk_rest a (.ref f) false its.toArray e1 (.ref kS)) P E s := by
  have hlen : its.length = ns.length := by rw [← rv.length, List.length_map]
  unfold ksk_rest
  refine wpAny_bind (wpAny_rule ?_)
  first
    | rw [List.forIn_toArray]
    | (rw [← Array.forIn_toList]; simp only [List.toList_toArray])
    | rw [← Array.forIn_toList]
  have notcell : ∀ (xs : Array Value) (n : Nat) (v : Option Value), (seqObj "list" xs n).data ≠ .cell v := fun xs n v q => by cases q
  refine wpAny_bind (ksk_fold (fun i s' => ∃ H' kA e ks, Inv X (pins ++ [(kS, seqObj "list" kA e), (a, seqObj "list" #[] e1)]) σ H' s' ∧ Same H H' ∧ H' a = none ∧ H' kS = none ∧ Keyd H' ks (ns.take i) ∧ Vals ks kA.toList) its 0 s
    ⟨H, #[], 0, [], I.pins_of fun p hp => ?_, Same.refl _, ha0, hk0, .nil, .nil⟩ ?step ?done)
  · rcases List.mem_append.mp hp with hp | hp
    · exact I.pin p (List.mem_append_right _ hp)
    · rcases List.mem_cons.mp hp with hp | hp
      · rw [hp]
        exact ⟨hk, hk0, (fk H hk0).2.1, (fk H hk0).2.2.1, notcell _ _⟩
      · rw [List.mem_singleton.mp hp]
        exact ⟨ha, ha0, (fa H ha0).2.1, (fa H ha0).2.2.1, notcell _ _⟩
  case step =>
    rintro j u s' hu ⟨H', kA, e, ks, I', sm, na, nk0, kd, rk⟩
    simp only [Nat.zero_add] at kd ⊢
    obtain ⟨x, hxj, rx⟩ := vals_at rv hu
    rw [List.getElem?_map] at hxj
    obtain ⟨nm, hnm, rfl⟩ : ∃ nm, ns[j]? = some nm ∧ x = V.str nm := by
      cases q : ns[j]? with
      | none => rw [q] at hxj; cases hxj
      | some nm => rw [q] at hxj; cases hxj; exact ⟨nm, rfl, rfl⟩
    have hjl : j < ns.length := (List.getElem?_eq_some_iff.mp hnm).1
    have hkz : kA.size ≤ 1000 := by
      have h3 : kA.size = (ns.take j).length := by rw [← Array.length_toList, ← rk.length, Paired.length kd]
      rw [h3, List.length_take]
      omega
    have hsp : spKey [.str nm] H' (fun v H2 => ∃ t, v = .ref t ∧ H' t = none ∧ H2 = upd H' t (.tup [.int nm.length, .str nm])) E0 := ⟨nm, rfl, hx nm (List.mem_of_getElem? hnm), fun t ht => ⟨t, rfl, ht, rfl⟩⟩
    have hpl : 1 = ps.length := F.len _ _ _ _ hsp
    refine wpAny_bind (wpAny_attempt (wpAny_call (codeAny_mono (F.run X.A.in1.in1 X.stack s' H' ⟨[u], []⟩ [u] [.str nm] (fun v H2 => ∃ t, v = .ref t ∧ H' t = none ∧ H2 = upd H' t (.tup [.int nm.length, .str nm])) E0 hr I'.env0.in1.in1 (hb s' [u] I'.kIn hpl) (.cons rx .nil) hsp) fun r s'' hq => ?_)))
    cases r with
    | error er => exact hq.elim
    | ok fl =>
      cases fl with
      | next => exact hq.elim
      | brk => exact hq.elim
      | cont => exact hq.elim
      | ret w =>
        obtain ⟨v, H2, I2, rvw, t, rfl, ht, rfl⟩ := I'.after hq
        obtain rfl := rvw
        try dsimp only
        have pk := I2.pin (kS, seqObj "list" kA e) (List.mem_append_right _ (List.mem_append_right _ List.mem_cons_self))
        have pa := I2.pin (a, seqObj "list" #[] e1) (List.mem_append_right _ (List.mem_append_right _ (List.mem_cons_of_mem _ List.mem_cons_self)))
        refine wpAny_bind (listUpdate_at pk.1 rfl ?_ (by rw [sizeLine_eq]; omega) (Nat.le_trans (Nat.le_of_eq (Array.size_push ..)) (by rw [sizeLine_eq]; omega)))
        have s1 := Heap.SameBut.update s''.heap kS (Obj.mapSeq (·.push (Value.ref t)))
        obtain ⟨c2, hc2⟩ : ∃ c2, (s''.heap.update kS (Obj.mapSeq (·.push (Value.ref t)))).get? kS = some (seqObj "list" (kA.push (.ref t)) c2) := ⟨_, get?_update_seq pk.1 (·.push (Value.ref t))⟩
        have I3 : Inv X pins σ (upd H' t (.tup [.int nm.length, .str nm])) s'' := I2.pins_of fun p hp => I2.pin p (List.mem_append_right _ (List.mem_append_left _ hp))
        have nk2 : (upd H' t (.tup [.int nm.length, .str nm])) kS = none := pk.2.1
        have na2 : (upd H' t (.tup [.int nm.length, .str nm])) a = none := pa.2.1
        have f1 := fk _ nk2
        have I4 := I3.turned (t' := s''.toks) (it := kS) (fun b o hb q => (s1.2 b hb).trans q) nk2 f1.2.1 f1.2.2.2.1 f1.2.2.2.2.1 f1.2.2.2.2.2
        have sm2 : Same H' (upd H' t (.tup [.int nm.length, .str nm])) := fun b o q => by rw [upd_ne (ne_of_none q ht)]; exact q
        have et : ns.take (j + 1) = ns.take j ++ [nm] := by rw [List.take_add_one, hnm]; rfl
        refine wpAny_pure ⟨rfl, _, kA.push (.ref t), c2, ks ++ [.ref t], I4.pins_of (fun p hp => ?_), sm.trans sm2, na2, nk2, by rw [et]; exact (kd.mono sm2).snoc upd_same, by rw [Array.toList_push]; exact rk.append (.cons rfl .nil)⟩
        rcases List.mem_append.mp hp with hp | hp
        · exact I4.pin p (List.mem_append_right _ hp)
        · rcases List.mem_cons.mp hp with hp | hp
          · rw [hp]
            exact ⟨hc2, nk2, f1.2.1, f1.2.2.1, notcell _ _⟩
          · rw [List.mem_singleton.mp hp]
            exact ⟨(s1.2 a hka.symm).trans pa.1, na2, (fa _ na2).2.1, (fa _ na2).2.2.1, notcell _ _⟩
  case done =>
    rintro s' ⟨H', kA, e, ks, I', sm, na, nk0, kd, rk⟩
    rw [Nat.zero_add, hlen, List.take_length] at kd
    have pk := I'.pin (kS, seqObj "list" kA e) (List.mem_append_right _ (List.mem_append_right _ List.mem_cons_self))
    have pa := I'.pin (a, seqObj "list" #[] e1) (List.mem_append_right _ (List.mem_append_right _ (List.mem_cons_of_mem _ List.mem_cons_self)))
    try dsimp only
    refine wpAny_bind (listItems_at pk.1 rfl ?_)
    have I3 : Inv X pins σ H' s' := I'.pins_of fun p hp => I'.pin p (List.mem_append_right _ (List.mem_append_left _ hp))
    have kk := keyd_key I3.hok kd rk
    obtain ⟨ez, pok⟩ := pairs_ok kk rv
    obtain ⟨fs, tfs, lfs⟩ := tups_of kk
    have lkA : kA.toList.length = its.length := by
      rw [← rk.length, Paired.length kd, hlen]
    have hks : kA.size = its.length := by rw [← Array.length_toList]; exact lkA
    have zl : (kA.zip its.toArray).toList = kA.toList.zip its := by rw [ksk_zip]
    have hzs : (kA.zip its.toArray).size = its.length := by rw [Array.size_zip, hks, List.size_toArray, Nat.min_self]
    -- the end, whatever the sort did
    have tail : ∀ (st : SortSt), (arrOf st).Perm (kA.zip its.toArray) → SortedToK (G.tupKindC s'.heap shp) (arrOf st) (arrOf st).size → failedOf st = none → wpAny (model X.prog X.w) X.A.in1.in1 (ksk_tail a false e1 (.ref kS) st) P E s' := by
      intro st hp hs hf
      have hsz : (arrOf st).size = its.length := by rw [hp.size_eq, hzs]
      have lp : (arrOf st).toList.Perm (kA.toList.zip its) := by rw [← zl]; exact Array.perm_iff_toList_perm.mp hp
      have pok2 : ∀ p ∈ (arrOf st).toList, PairOk s'.heap p := fun p hp2 => pok p (lp.mem_iff.mp hp2)
      unfold ksk_tail
      try dsimp only
      refine wpAny_bind (listUpdate_at pk.1 rfl ?_ (by rw [hks, sizeLine_eq]; omega) (Nat.zero_le _))
      have s1 := Heap.SameBut.update s'.heap kS (Obj.mapSeq fun _ => (#[] : Array Value))
      have na1 : (s'.heap.update kS (Obj.mapSeq fun _ => (#[] : Array Value))).get? a = some (seqObj "list" #[] e1) := (s1.2 a hka.symm).trans pa.1
      refine wpAny_bind (wpAny_letGo ?_)
      refine wpAny_bind (seqEpoch_at na1 rfl ?_)
      have hout : ((arrOf st).map (·.2)).size = its.length := by rw [Array.size_map]; exact hsz
      refine wpAny_bind (listUpdate_at na1 rfl ?_ (Nat.zero_le _) (by show ((arrOf st).map (·.2)).size ≤ _; rw [hout, sizeLine_eq]; omega))
      have s2 := Heap.SameBut.update (s'.heap.update kS (Obj.mapSeq fun _ => (#[] : Array Value))) a (Obj.mapSeq fun _ => (arrOf st).map (·.2))
      obtain ⟨c2, hc2⟩ : ∃ c2, ((s'.heap.update kS (Obj.mapSeq fun _ => (#[] : Array Value))).update a (Obj.mapSeq fun _ => (arrOf st).map (·.2))).get? a = some (seqObj "list" ((arrOf st).map (·.2)) c2) := ⟨_, get?_update_seq na1 fun _ => (arrOf st).map (·.2)⟩
      rw [hf]
      simp only [bne_self_eq_false, Bool.false_eq_true, if_false]
      have f1 := fk _ nk0
      have f2 := fa _ na
      have I4 := I3.turned (t' := s'.toks) (it := kS) (fun b o hb q => (s1.2 b hb).trans q) nk0 f1.2.1 f1.2.2.2.1 f1.2.2.2.2.1 f1.2.2.2.2.2
      have I5 := I4.turned (t' := s'.toks) (it := a) (fun b o hb q => (s2.2 b hb).trans q) na f2.2.1 f2.2.2.2.1 f2.2.2.2.2.1 f2.2.2.2.2.2
      refine wpAny_pure (h _ H' ((arrOf st).toList.map gN) ((arrOf st).toList.map (·.2)) c2 I5 sm na ?_ (vals_gN pok2) ?_ ?_)
      · rw [show (List.map (·.2) (arrOf st).toList).toArray = (arrOf st).map (·.2) by rw [← Array.toList_map, Array.toArray_toList]]
        exact hc2
      · rw [← ez]
        exact lp.map gN
      · rw [List.pairwise_iff_getElem]
        intro i j hi hj hij
        rw [List.length_map, Array.length_toList] at hi hj
        rw [List.getElem_map, List.getElem_map]
        have q := hs i j (Nat.le_of_lt hij) hj
        have kat : ∀ i (hi : i < (arrOf st).size), KK (G.tupKindC s'.heap shp) (arrOf st) i = nk (gN ((arrOf st).toList[i]'(by simpa using hi))) := fun i hi => by
          have hm : (arrOf st).toList[i]'(by simpa using hi) ∈ (arrOf st).toList := List.getElem_mem _
          obtain ⟨x, t, e1, e2⟩ := pok2 _ hm
          unfold KK
          rw [Array.getElem?_eq_getElem hi]
          have e3 : (arrOf st)[i] = (arrOf st).toList[i]'(by simpa using hi) := by simp
          rw [e3]
          show ((G.tupKeyC s'.heap shp _).getD _) = _
          rw [e2]
          show nk x = nk (gN _)
          have e4 : gN ((arrOf st).toList[i]'(by simpa using hi)) = x := by unfold gN; rw [e1]
          rw [e4]
        rw [kat i hi, kat j hj] at q
        exact q
    unfold ksk_end
    try dsimp only
    simp only [Bool.false_eq_true, if_false]
    by_cases h2 : its.toArray.size < 2
    · rw [if_pos h2, if_pos h2]
      refine wpAny_bind (wpAny_pure ?_)
      rw [StateT.run_pure]
      refine wpAny_bind (wpAny_pure ?_)
      try dsimp only
      refine tail (SortSt.mk' general' (kA.zip its.toArray) #[] 7 none) (Array.Perm.refl _) ?_ rfl
      intro i j hij hj
      have hj2 : j < (kA.zip its.toArray).size := hj
      rw [hzs] at hj2
      rw [List.size_toArray] at h2
      have : i = j := by omega
      subst this
      exact KeyOrd.kle_refl _
    · rw [if_neg h2, if_neg h2]
      rw [List.size_toArray] at h2
      have ekA : kA = kA.toList.toArray := by rw [Array.toArray_toList]
      rw [ekA]
      refine wpAny_bind (tup_kind (by rw [lfs, lkA]; omega) tfs ?_)
      rw [← ekA]
      have hkeys : KeysOf (G.tupKindC s'.heap shp) (kA.zip its.toArray) := fun p hp => by
        rw [zl] at hp
        obtain ⟨x, t, _, e2⟩ := pok p hp
        exact ⟨_, e2⟩
      refine wpAny_bind (wpAny_mono (G.wpS_sortRunsSt (κ := G.tupKindC s'.heap shp) (kd := tuples' true) (a₀ := kA.zip its.toArray) (st := SortSt.mk' (tuples' true) (kA.zip its.toArray) #[] 7 none)
        (Q := fun _ st' => (arrOf st').Perm (kA.zip its.toArray) ∧ failedOf st' = none ∧ SortedToK (G.tupKindC s'.heap shp) (arrOf st') (arrOf st').size)
        (G.tupC_ltAt (s := s') true (G.KeepsTups.refl _)) hkeys ⟨Array.Perm.refl _, rfl, rfl⟩ rfl (Stable.refl _) (by rw [hzs]; omega)
        fun st' a1 a2 a3 a4 => ⟨a1, a2, by rw [a1.size_eq]; exact a3⟩) ?_ fun _ _ e => e)
      rintro ⟨⟨⟩, st'⟩ s9 ⟨rfl, hp, hf, hs⟩
      try dsimp only
      exact tail st' hp hs hf
end
end SkX
end

section
set_option Elab.async false
set_option linter.all false
set_option maxRecDepth 100000
set_option maxHeartbeats 4000000
namespace SkX
open PySem PySem.Spec PyProof.Rows L2
section
variable {X : Cx} {k : Nat} {f : Addr} {fd : FuncData} {ps : List Str}
def rSortN (K : PySem.W.Frag) (f : Addr) : List V → List V → Hp → VK → Prop := fun vs zs H Q => ∃ (l : Addr) (ns : List Str), vs = [.ref l] ∧ zs = [.ref f] ∧ SqL K H l (ns.map V.str) ∧ ns.length ≤ 1000 ∧ (∀ x ∈ ns, x.length ≤ 1000) ∧
  ∀ (H' : Hp) (a : Addr) (ns' : List Str), Same H H' → H' a = none → ns'.Perm ns → ns'.Pairwise NLe → Q (.ref a) (upd H' a (.lst (ns'.map V.str)))
/-- sorted(names, key=f) -/
theorem cr_sortedNames (F : FnOk X.prog X.w X.K X.mg X.base CX0 k f fd ps spKey) (hb : Binds X.K fd ps []) (hr : Room (k + 2) X.A) : CallRK X (.builtin "sorted") [Str.ofString "key"] (rSortN X.K f) := by
  intro pins s σ H vs zs us ws Q I r rz h
  obtain ⟨l, ns, rfl, rfl, hs, hn, hx, q⟩ := h
  obtain rfl := Vals.ref1 r
  obtain rfl := Vals.ref1 rz
  obtain ⟨its, rv, pl, hz⟩ := I.list hs
  have hlen : its.length = ns.length := by rw [← rv.length, List.length_map]
  have hr2 : Room k X.A.in1.in1 := hr.in1.in1
  show wpAny _ _ (call (.builtin "sorted") [.ref l] [(Str.ofString "key", .ref f)]) _ _ _
  refine call_function_entry_kw kind_sorted plain_sorted entry_sorted (ksk_s1 _ _) ?_
  unfold Builtin.«sorted»
  refine wpAny_bind (m := checkCount "sorted" 1 1 _) (wpAny_pure ?_)
  refine wpAny_bind (collect_list pl.isList ?_ (by rw [sizeLine_eq]; omega))
  refine wpAny_bind (wpAny_newList ?_ (by rw [sizeLine_eq]; omega))
  have hsz : ((s.heap.push (seqObj "list" #[] 0)).update s.heap.objs.size (Obj.mapSeq (· ++ its.toArray))).objs.size = s.heap.objs.size + 1 := by
    rw [Heap.size_update, size_push']
  have hoL : (((s.heap.push (seqObj "list" #[] 0)).update s.heap.objs.size (Obj.mapSeq (· ++ its.toArray))).push (seqObj "list" its.toArray 0)).get? (s.heap.objs.size + 1) = some (seqObj "list" its.toArray 0) := by
    rw [← hsz]; exact Heap.get?_push_size _ rfl
  have keep : ∀ b o, s.heap.get? b = some o → (((s.heap.push (seqObj "list" #[] 0)).update s.heap.objs.size (Obj.mapSeq (· ++ its.toArray))).push (seqObj "list" its.toArray 0)).get? b = some o := fun b o q => by
    have hlt : b < s.heap.objs.size := Heap.lt_size q
    rw [Heap.get?_push_ne _ _ _ (by rw [hsz]; exact Nat.ne_of_lt (Nat.lt_succ_of_lt hlt)), Heap.get?_update_ne _ _ _ _ (Nat.ne_of_lt hlt), Heap.get?_push_ne _ _ _ (Nat.ne_of_lt hlt)]
    exact q
  show wpAny _ _ _ _ _ { s with heap := ((s.heap.push (seqObj "list" #[] 0)).update s.heap.objs.size (Obj.mapSeq (· ++ its.toArray))).push (seqObj "list" its.toArray 0) }
  rw [hsz]
  have hh1 : (((s.heap.push (seqObj "list" #[] 0)).update s.heap.objs.size (Obj.mapSeq (· ++ its.toArray))).push (seqObj "list" its.toArray 0)).objs.size = s.heap.objs.size + 2 := by rw [size_push', hsz]
  generalize ((s.heap.push (seqObj "list" #[] 0)).update s.heap.objs.size (Obj.mapSeq (· ++ its.toArray))).push (seqObj "list" its.toArray 0) = h1 at hoL keep hh1 ⊢
  have I1 : Inv X pins σ H ({ s with heap := h1 } : Shared) := I.kept (t' := s.toks) keep
  have ha0 : H (s.heap.objs.size + 1) = none := I.hok.fresh (Nat.le_succ _)
  have fa : ∀ H' : Hp, H' (s.heap.objs.size + 1) = none → FpOk X pins H' (s.heap.objs.size + 1) := fun H' e => I.fpOk (Nat.le_succ _) e
  refine wpAny_bind (wpAny_holding (wpAny_call_entry_kw slot_list_sort ⟨_, hoL, rfl⟩ entry_list_sort ?body (ksk_l1 _ _)))
  case body =>
    show wpAny (model X.prog X.w) X.A.in1.in1 (Builtin.«list.sort» ⟨[.ref (s.heap.objs.size + 1)], [(Str.ofString "key", .ref f)]⟩) _ _ _
    rw [ksk_t1]
    unfold ksk_tree
    generalize hae : s.heap.objs.size + 1 = a at hoL ha0 fa ⊢
    have s1 := Heap.SameBut.update h1 a (Obj.mapSeq fun _ => (#[] : Array Value))
    obtain ⟨e1, ho1⟩ : ∃ e1, (h1.update a (Obj.mapSeq fun _ => (#[] : Array Value))).get? a = some (seqObj "list" #[] e1) := ⟨_, get?_update_seq hoL fun _ => #[]⟩
    refine wpAny_bind (listItems_at hoL rfl ?_)
    refine wpAny_bind (listUpdate_at hoL rfl ?_ (by rw [List.size_toArray, sizeLine_eq]; omega) (Nat.zero_le _))
    refine wpAny_bind (seqEpoch_at ho1 rfl ?_)
    refine wpAny_bind (wpAny_newTuple ?_ (by show its.length ≤ _; rw [sizeLine_eq]; omega))
    refine wpAny_bind (wpAny_newList ?_ (Nat.zero_le _))
    refine wpAny_holding ?_
    have f1 := fa H ha0
    have I2 := I1.turned (t' := s.toks) (it := a) (fun b o hb q => (s1.2 b hb).trans q) ha0 f1.2.1 f1.2.2.2.1 f1.2.2.2.2.1 f1.2.2.2.2.2
    have hkS : ((h1.update a (Obj.mapSeq fun _ => (#[] : Array Value))).push (seqObj "tuple" its.toArray 0)).objs.size = s.heap.objs.size + 3 := by rw [size_push', Heap.size_update, hh1]
    have I3 := I2.kept (t' := s.toks) (h' := ((h1.update a (Obj.mapSeq fun _ => (#[] : Array Value))).push (seqObj "tuple" its.toArray 0)).push (seqObj "list" #[] 0)) fun b o q => Heap.get?_push_of_some _ (Heap.get?_push_of_some _ q)
    show wpAny _ _ (ksk_rest a (.ref f) false its.toArray e1 (.ref ((h1.update a (Obj.mapSeq fun _ => (#[] : Array Value))).push (seqObj "tuple" its.toArray 0)).objs.size)) _ _ { s with heap := ((h1.update a (Obj.mapSeq fun _ => (#[] : Array Value))).push (seqObj "tuple" its.toArray 0)).push (seqObj "list" #[] 0) }
    refine key_rest F hb hr2 I3 fa (fun H' e => I.fpOk (by rw [hkS]; omega) e) (by rw [hkS, ← hae]; exact fun z => absurd (show s.heap.objs.size + 3 = s.heap.objs.size + 1 from z) (by omega)) ha0 (I.hok.fresh (by rw [hkS]; omega)) (Heap.get?_push_of_some _ (Heap.get?_push_of_some _ ho1)) (Heap.get?_push_size _ rfl) rv hn hx fun s' H' ns' out c I' sm na ho' rv' hp ho => ⟨_, rfl, ?_⟩
    refine wpAny_pure ⟨_, rfl, .ref a, _, adopt I' (fa H' na) rv' (by rw [List.length_map, hp.length_eq]; exact Nat.le_trans hn (by decide)) ho', rfl, ?_⟩
    exact q H' a ns' sm na hp ho
end
end SkX
end

section
set_option Elab.async false
set_option linter.all false
set_option maxRecDepth 100000
set_option maxHeartbeats 4000000
/-! list(zip(xs, ys)) -/
namespace ZlX
open PySem PySem.Spec PyProof.Rows L2 SkX
theorem zip_no_len : typeLookup (.type "zip") "__len__" = pure none := am_miss_of_fast (by decide +kernel)
theorem zip_no_hint : typeLookup (.type "zip") "__length_hint__" = pure none := am_miss_of_fast (by decide +kernel)
/-- the tuples so far -/
def Tps (H : Hp) (ts : List Addr) (ps : List (V × V)) : Prop := Paired (fun (t : Addr) (q : V × V) => H t = some (.tup [q.1, q.2])) ts ps
theorem Tps.mono {H H' : Hp} {ts : List Addr} {ps : List (V × V)} (h : Tps H ts ps) (s : Same H H') : Tps H' ts ps := Paired.mapP h fun _ _ e => s _ _ e
theorem Tps.snoc {H : Hp} {ts : List Addr} {ps : List (V × V)} {t : Addr} {q : V × V} : Tps H ts ps → H t = some (.tup [q.1, q.2]) → Tps H (ts ++ [t]) (ps ++ [q])
  | .nil, h => .cons h .nil
  | .cons r k, h => .cons r (Tps.snoc k h)
section
variable {X : Cx} {pins : List (Addr × Obj)} {σ : L2.St} {z TI TO i1 i2 a b S : Addr} {xs ys : List V} {R : Result → Shared → Prop} {A : Around}
theorem zl_loop (hh : A.handled = none) (D : ZipApart z TI TO i1 i2 a b) (fz : ∀ c ∈ [z, TI, TO, i1, i2], ∀ H' : Hp, H' c = none → FpOk X pins H' c) (fS : ∀ H' : Hp, H' S = none → FpOk X pins H' S) (hSz : ∀ c ∈ [z, TI, TO, i1, i2], c ≠ S) (hl : xs.length ≤ 1000) {H0 : Hp}
    (hR : ∀ s' H' ts acc c, Inv X pins σ H' s' → Same H0 H' → H' S = none → s'.heap.get? S = some { cls := .type "list", dict := none, data := .seq acc c, slots := #[] } → Vals (ts.map V.ref) acc.toList → Tps H' ts (xs.zip ys) → R (.ok (.ret .none)) s') :
    ∀ (r i : Nat) (s : Shared) (H : Hp) (ts : List Addr) (acc : Array Value) (c : Nat), i + r = min xs.length ys.length → Inv X pins σ H s → Same H0 H → SqL X.K H a xs → SqL X.K H b ys → (∀ c ∈ [z, TI, TO, i1, i2], H c = none) → H S = none →
      IsPair s.heap TI (.ref i1) (.ref i2) → (∃ x y, IsPair s.heap TO x y) → s.heap.IsListIter i1 a i → s.heap.IsListIter i2 b i → (IsZip s.heap z TI TO .none ∨ ∃ T f oT, IsZipHeld s.heap z TI TO T f ∧ s.heap.get? T = some oT ∧ T ≠ z ∧ T ≠ i1 ∧ T ≠ i2 ∧ T ≠ S) →
      s.heap.get? S = some { cls := .type "list", dict := none, data := .seq acc c, slots := #[] } → Vals (ts.map V.ref) acc.toList → Tps H ts ((xs.zip ys).take i) →
      codeAny (model X.prog X.w) A (.builtin "list.extend.loop" ⟨[.ref S, .ref z, .none], []⟩) R s := by
  intro r
  induction r with
  | zero =>
    intro i s H ts acc c hi I sm sa sb hn hS0 hTI hTO h1 h2 hz hS rv tp
    obtain ⟨its, rx, p, _⟩ := I.list sa
    obtain ⟨its2, ry, p2, _⟩ := I.list sb
    have l1 := rx.length
    have l2 := ry.length
    have hend : its.toArray[i]? = none ∨ its2.toArray[i]? = none := by
      rcases Nat.le_total xs.length ys.length with h | h
      · exact .inl (by simp; omega)
      · exact .inr (by simp; omega)
    have hS9 : ∀ h' : Heap, (∀ c o, c ≠ z → c ≠ TO → c ≠ i1 → c ≠ i2 → s.heap.get? c = some o → h'.get? c = some o) → Inv X pins σ H ({ s with heap := h' } : Shared) ∧ h'.get? S = some { cls := .type "list", dict := none, data := .seq acc c, slots := #[] } := fun h' hk =>
      ⟨I.turnedL (t' := s.toks) (ch := [z, TI, TO, i1, i2]) (fun c o hb q => hk c o (fun q' => hb (by simp [q'])) (fun q' => hb (by simp [q'])) (fun q' => hb (by simp [q'])) (fun q' => hb (by simp [q'])) q) fun c hc => fz c hc H (hn c hc),
       hk S _ (fun q => hSz z (by simp) q.symm) (fun q => hSz TO (by simp) q.symm) (fun q => hSz i1 (by simp) q.symm) (fun q => hSz i2 (by simp) q.symm) hS⟩
    have tp2 : Tps H ts (xs.zip ys) := by
      have e : (xs.zip ys).take i = xs.zip ys := List.take_of_length_le (by rw [List.length_zip]; omega)
      rw [e] at tp
      exact tp
    refine codeAny_builtin F.entry_extend_loop ?_
    rw [Around.under_plainId F.plain_extend_loop _]
    show wpAny _ A.in1 (pyNext (.ref z) >>= _) _ _ s
    rcases hz with hz | ⟨T, f, oT, hz, hT, t1, t2, t3, t4⟩
    · obtain ⟨x0, y0, hTO⟩ := hTO
      refine wpAny_bind (wpAny_pyNext_zip_end hh D hz hTI hTO h1 h2 p.isList p2.isList hend fun h' hk => ?_)
      obtain ⟨I2, hS2⟩ := hS9 h' hk
      exact wpAny_pure (hR _ H ts acc c I2 sm hS0 hS2 rv tp2)
    · refine wpAny_bind (wpAny_pyNext_zip_end_held hh D hz hT hTI h1 h2 p.isList p2.isList hend fun h' hk => ?_)
      obtain ⟨I2, hS2⟩ := hS9 h' (fun c o q1 _ q3 q4 q => hk c o q1 q3 q4 q)
      exact wpAny_pure (hR _ H ts acc c I2 sm hS0 hS2 rv tp2)
  | succ r ih =>
    intro i s H ts acc c hi I sm sa sb hn hS0 hTI hTO h1 h2 hz hS rv tp
    obtain ⟨its, rx, p, _⟩ := I.list sa
    obtain ⟨its2, ry, p2, _⟩ := I.list sb
    have l1 := rx.length
    have l2 := ry.length
    have hix : i < xs.length := by omega
    have hiy : i < ys.length := by omega
    obtain ⟨x, hx⟩ : ∃ x, xs[i]? = some x := ⟨_, List.getElem?_eq_getElem hix⟩
    obtain ⟨y, hy⟩ : ∃ y, ys[i]? = some y := ⟨_, List.getElem?_eq_getElem hiy⟩
    obtain ⟨u, hu, ru⟩ := rx.get hx
    obtain ⟨u2, hu2, ru2⟩ := ry.get hy
    have tl := Paired.length tp
    rw [List.length_take, List.length_zip] at tl
    have al : acc.size = ts.length := by rw [← Array.length_toList, ← rv.length, List.length_map]
    have hpl : s.heap.objs.size ≠ S := Nat.ne_of_gt (Heap.lt_size hS)
    -- behind the item
    have fin : ∀ h' : Heap, h'.objs.size = s.heap.objs.size + 1 → IsPair h' s.heap.objs.size u u2 → (∃ x y, IsPair h' TO x y) → h'.IsListIter i1 a (i + 1) → h'.IsListIter i2 b (i + 1) → (∃ T f oT, IsZipHeld h' z TI TO T f ∧ h'.get? T = some oT ∧ T ≠ z ∧ T ≠ i1 ∧ T ≠ i2 ∧ T ≠ S) →
        (∀ c o, c ≠ z → c ≠ TO → c ≠ i1 → c ≠ i2 → s.heap.get? c = some o → h'.get? c = some o) →
        wpAny (model X.prog X.w) A.in1 (updateSeq S (·.push (.ref s.heap.objs.size)) >>= fun _ => again (.builtin "list.extend.loop" ⟨[.ref S, .ref z, .none], []⟩))
          (fun fin s' => match fin with | .done f => R (.ok f) s' | .again c' => c'.quiet = true ∧ codeAny (model X.prog X.w) A c' R s') (fun e s' => R (.error e) s') ({ s with heap := h' } : Shared) := by
      intro h' hsz hT hTO' h1' h2' hz' hk
      have new : ObjOk X.prog X.w (upd H s.heap.objs.size (.tup [x, y])) h' s.heap.objs.size (.tup [x, y]) :=
        ⟨by show 2 ≤ sizeLine; decide, [u, u2], .cons ru (.cons ru2 .nil), ⟨_, hT, rfl, _, rfl⟩⟩
      have I1 : Inv X pins σ (upd H s.heap.objs.size (.tup [x, y])) { s with heap := h' } :=
        I.turnedNew (t' := s.toks) (ch := [z, TI, TO, i1, i2]) (fun c o hb q => hk c o (fun q' => hb (by simp [q'])) (fun q' => hb (by simp [q'])) (fun q' => hb (by simp [q'])) (fun q' => hb (by simp [q'])) q) (fun c hc => fz c hc H (hn c hc)) (Nat.le_refl _) new
      have hfr : H s.heap.objs.size = none := I.hok.fresh (Nat.le_refl _)
      have sm2 : Same H (upd H s.heap.objs.size (.tup [x, y])) := fun c o q => by rw [upd_ne (ne_of_none q hfr)]; exact q
      have hS' : h'.get? S = some { cls := .type "list", dict := none, data := .seq acc c, slots := #[] } := hk S _ (fun q => hSz z (by simp) q.symm) (fun q => hSz TO (by simp) q.symm) (fun q => hSz i1 (by simp) q.symm) (fun q => hSz i2 (by simp) q.symm) hS
      have s1 := Heap.SameBut.update h' S (Obj.mapSeq (·.push (Value.ref s.heap.objs.size)))
      have nS2 : (upd H s.heap.objs.size (.tup [x, y])) S = none := by rw [upd_ne hpl.symm]; exact hS0
      have f1 := fS _ nS2
      have I2 := I1.turned (t' := s.toks) (it := S) (fun b o hb q => (s1.2 b hb).trans q) nS2 f1.2.1 f1.2.2.2.1 f1.2.2.2.2.1 f1.2.2.2.2.2
      have lt5 : ∀ c ∈ [z, TI, TO, i1, i2], c ≠ s.heap.objs.size := fun c hc => by
        have hlt : c < s.heap.objs.size := by
          have e' : c = z ∨ c = TI ∨ c = TO ∨ c = i1 ∨ c = i2 := by simpa using hc
          rcases e' with q | q | q | q | q
          · rw [q]
            rcases hz with hz | ⟨_, _, _, hz, _⟩
            · exact Heap.lt_size hz
            · exact Heap.lt_size hz
          · rw [q]; exact Heap.lt_size hTI
          · rw [q]; obtain ⟨_, _, e⟩ := hTO; exact Heap.lt_size e
          · rw [q]; obtain ⟨_, e1, _⟩ := h1; exact Heap.lt_size e1
          · rw [q]; obtain ⟨_, e2, _⟩ := h2; exact Heap.lt_size e2
        exact Nat.ne_of_lt hlt
      have et : (xs.zip ys).take (i + 1) = (xs.zip ys).take i ++ [(x, y)] := by
        rw [List.take_add_one]
        have : (xs.zip ys)[i]? = some (x, y) := by rw [List.getElem?_zip_eq_some]; exact ⟨hx, hy⟩
        rw [this]; rfl
      refine wpAny_bind ?_
      refine wpAny_updateSeq hS' rfl (wpAny_pure ⟨plainId_quiet F.plain_extend_loop _, ih (i + 1) _ _ (ts ++ [s.heap.objs.size]) (acc.push (.ref s.heap.objs.size)) _ (by omega) I2 (sm.trans sm2) (sm2.seq sa) (sm2.seq sb) (fun c hc => by rw [upd_ne (lt5 c hc)]; exact hn c hc) nS2 ?_ ?_ ?_ ?_ (.inr ?_) (Heap.get?_update_self _ hS' rfl) (by rw [Array.toList_push, List.map_append]; exact rv.append (.cons rfl .nil)) (by rw [et]; exact (tp.mono sm2).snoc upd_same)⟩) (by rw [al]; omega) (by show (acc.push _).size ≤ sizeLine + 1; rw [Array.size_push, al]; have := sizeLine_eq; omega)
      · exact (s1.2 _ (hSz TI (by simp))).trans (hk _ _ D.TIz D.TITO D.TIi1 D.TIi2 hTI)
      · obtain ⟨x0, y0, e⟩ := hTO'
        exact ⟨x0, y0, (s1.2 _ (hSz TO (by simp))).trans e⟩
      · exact h1'.at fun o q => (s1.2 _ (hSz i1 (by simp))).trans q
      · exact h2'.at fun o q => (s1.2 _ (hSz i2 (by simp))).trans q
      · obtain ⟨T, f, oT, q1, q2, q3, q4, q5, q6⟩ := hz'
        exact ⟨T, f, oT, (s1.2 _ (hSz z (by simp))).trans q1, (s1.2 _ q6).trans q2, q3, q4, q5, q6⟩
    refine codeAny_builtin F.entry_extend_loop ?_
    rw [Around.under_plainId F.plain_extend_loop _]
    show wpAny _ A.in1 (pyNext (.ref z) >>= _) _ _ s
    have n1 : s.heap.objs.size ≠ i1 := let ⟨_, e, _⟩ := h1; Nat.ne_of_gt (Heap.lt_size e)
    have n2 : s.heap.objs.size ≠ i2 := let ⟨_, e, _⟩ := h2; Nat.ne_of_gt (Heap.lt_size e)
    rcases hz with hz | ⟨T, f, oT, hz, hT, t1, t2, t3, t4⟩
    · obtain ⟨x0, y0, hTO⟩ := hTO
      refine wpAny_bind (wpAny_pyNext_zip_item D hz hTI hTO h1 h2 p.isList p2.isList (x := u) (y := u2) (by simpa using hu) (by simpa using hu2) fun h' z' TO' h1' h2' hT hsz hk => ?_)
      exact fin h' hsz hT ⟨_, _, TO'⟩ h1' h2' ⟨s.heap.objs.size, false, _, z', hT, Nat.ne_of_gt (Heap.lt_size hz), n1, n2, hpl⟩ hk
    · refine wpAny_bind (wpAny_pyNext_zip_item_held D hz hT hTI h1 h2 p.isList p2.isList (x := u) (y := u2) (by simpa using hu) (by simpa using hu2) fun h' z' h1' h2' hT' hsz hk => ?_)
      obtain ⟨x0, y0, hTO⟩ := hTO
      exact fin h' hsz hT' ⟨_, _, hk _ _ D.TOz D.TOi1 D.TOi2 hTO⟩ h1' h2' ⟨T, true, oT, z', hk _ _ t1 t2 t3 hT, t1, t2, t3, t4⟩ fun c o q1 _ q3 q4 q => hk c o q1 q3 q4 q
end

/-- list(zip(xs, ys)): a new list of new pairs -/
def tListZip (K : PySem.W.Frag) (ta : TA) : TE := fun σ H Q => ta σ H fun vs H1 => ∃ (a b : Addr) (xs ys : List V), vs = [.ref a, .ref b] ∧ SqL K H1 a xs ∧ SqL K H1 b ys ∧ xs.length ≤ 1000 ∧
  ∀ (H2 : Hp) (S : Addr) (ts : List Addr), Same H1 H2 → H2 S = some (.lst (ts.map V.ref)) → Tps H2 ts (xs.zip ys) → Q (.ref S) H2
theorem pe_listZip {X : Cx} {e1 e2 : Expr} {ta : TA} {p p2 pos pos2 : Pos} (hc : X.calm = true) (hg : Gl X "list") (hm : X.mg "list" = none) (hgz : Gl X "zip") (hmz : X.mg "zip" = none) (ha : PA X [e1, e2] ta)
    (hs : starEach [e1, e2] X.env = (false, eval e1 X.env) :: starEach [e2] X.env := by rfl) (hpl : (backTo pos2 (starEach [e2] X.env)).any (·.1) = false := by rfl)
    (he : starEach [.Call (.Name "zip" p2) [e1, e2] [] pos2] X.env = (false, eval (.Call (.Name "zip" p2) [e1, e2] [] pos2) X.env) :: starEach [] X.env := by rfl) :
    PE X (.Call (.Name "list" p) [.Call (.Name "zip" p2) [e1, e2] [] pos2] [] pos) (tListZip X.K ta) := by
  refine ⟨fun pins s σ H Q I h => ?_⟩
  refine wpAny_Call_Name_kw (ld_blt I hg hm PyProof.Rows.boot_list ?_)
  refine PyProof.Rows.callWith_type1 ?_ he rfl
  rw [he]
  show wpAny _ _ (spliced ((false, eval (.Call (.Name "zip" p2) [e1, e2] [] pos2) X.env) :: backTo pos (starEach [] X.env))) _ _ s
  refine Calls.spliced_cons (Call_ (ld_blt I hgz hmz PyProof.Rows.boot_zip (PyProof.Rows.callWith_type1 (thn (ha.run pos2 pins s σ H _ I h) fun us s1 ⟨vs, H1, I1, r1, q1⟩ => ?_) hs hpl)))
  obtain ⟨a, b, xs, ys, ex, hqx, hqy, hl, q⟩ := q1
  subst ex
  cases r1 with
  | cons r rr =>
    cases rr with
    | cons r' rr =>
      cases rr
      cases r
      cases r'
      obtain ⟨its, rv, p1, _⟩ := I1.list hqx
      obtain ⟨its2, rv2, p2', _⟩ := I1.list hqy
      have la : a < s1.heap.objs.size := p1.lt
      have lb : b < s1.heap.objs.size := p2'.lt
      refine call_zip_2 p1.isList p2'.isList fun h' hz hTI hTO h1 h2 hsz hk => ?_
      refine Calls.spliced_nil ?_
      have hc0 : X.A.handled = none := I.ok.hd hc
      have I2 : Inv X pins σ H1 ({ s1 with heap := h' } : Shared) := I1.kept (t' := s1.toks) hk
      have D := PySem.W.ktu_apart s1.heap.objs.size a b la lb
      have five : ∀ c ∈ [s1.heap.objs.size + 4, s1.heap.objs.size + 2, s1.heap.objs.size + 3, s1.heap.objs.size, s1.heap.objs.size + 1], s1.heap.objs.size ≤ c ∧ c < h'.objs.size := fun c hcm => by
        have e' : c = s1.heap.objs.size + 4 ∨ c = s1.heap.objs.size + 2 ∨ c = s1.heap.objs.size + 3 ∨ c = s1.heap.objs.size ∨ c = s1.heap.objs.size + 1 := by simpa using hcm
        rw [hsz]
        have t : ∀ m : Nat, c = s1.heap.objs.size + m → m < 5 → s1.heap.objs.size ≤ c ∧ c < s1.heap.objs.size + 5 := fun m e hm => by
          rw [e]; exact ⟨Nat.le_add_right _ _, Nat.add_lt_add_left hm _⟩
        rcases e' with z | z | z | z | z
        · exact t 4 z (by decide)
        · exact t 2 z (by decide)
        · exact t 3 z (by decide)
        · exact t 0 z (by decide)
        · exact t 1 z (by decide)
      refine callType_codes (Q₁ := fun obj s₁ => obj = .ref h'.objs.size ∧ s₁ = ({ s1 with heap := h'.push { cls := .type "list", data := .seq #[] } } : Shared)) F.called_list (F.typeCall_list_1 _) F.entry_list_init
        (code_list_new _ ⟨rfl, rfl⟩) fun obj s₁ h₁ => ?_
      obtain ⟨rfl, rfl⟩ := h₁
      generalize hz5 : s1.heap.objs.size + 4 = z at *
      have hS : (h'.push { cls := .type "list", data := .seq #[] }).get? h'.objs.size = some { cls := .type "list", data := .seq #[] } := Heap.get?_push_size _ rfl
      refine ⟨⟨_, hS, rfl⟩, F.args_list_init_2 _ _, ?_⟩
      show wpAny _ X.A.in1.in1 (do let old ← Builtin.List.listItems (.ref h'.objs.size); Builtin.List.listUpdate (.ref h'.objs.size) (fun _ => #[]); letGo old.toList.reverse; Builtin.List.listExtendWith (.ref h'.objs.size) (.ref z) .none) _ _ _
      refine wpAny_bind ?_
      unfold Builtin.List.listItems
      refine wpAny_bind (wpAny_seqItems hS rfl (wpAny_pure ?_))
      show wpAny _ X.A.in1.in1 (updateSeq h'.objs.size (fun _ => #[]) >>= fun _ => letGo (#[] : Array Value).toList.reverse >>= fun _ => Builtin.List.listExtendWith (.ref h'.objs.size) (.ref z) .none) _ _ _
      refine wpAny_bind (wpAny_updateSeq hS rfl ?_)
      have hS2 := Heap.get?_update_self (Obj.mapSeq (fun _ => (#[] : Array Value))) hS rfl
      refine wpAny_bind (wpAny_letGo ?_)
      unfold Builtin.List.listExtendWith
      have up : ∀ (h : Heap) (f : Obj → Obj), (∀ b o, h'.get? b = some o → h.get? b = some o) → ∀ b o, h'.get? b = some o → (h.update h'.objs.size f).get? b = some o := fun h f q b o e =>
        (Heap.get?_update_other _ _ (Ne.symm (Nat.ne_of_lt (Heap.lt_size e)))).trans (q b o e)
      have k1 : ∀ b o, h'.get? b = some o → (h'.push { cls := .type "list", data := .seq #[] }).get? b = some o := fun b o e => Heap.get?_push_of_some _ e
      have k2 := up _ (Obj.mapSeq (fun _ => (#[] : Array Value))) k1
      have hzl : z < h'.objs.size := Heap.lt_size hz
      have hSz : h'.objs.size ≠ z := Nat.ne_of_gt hzl
      have tyz : ∀ {h : Heap} {s9 : Shared}, (∀ b o, h'.get? b = some o → h.get? b = some o) → s9.heap = h → s9.TypeIs (.ref z) "zip" := fun {h s9} q e => ⟨_, by rw [e]; exact q _ _ hz, rfl⟩
      refine wpAny_bind (wpAny_typeOf (tyz k2 rfl) ?_)
      have e1 : Builtin.List.listSameRef (.ref h'.objs.size) (.ref z) = false := by simp [Builtin.List.listSameRef, hSz]
      have e2 : (Value.type "zip" == Value.type "list") = false := by decide
      have e3 : (Value.type "zip" == Value.type "tuple") = false := by decide
      simp only [e1, e2, e3, Bool.or_false, Bool.false_eq_true, if_false]
      refine wpAny_bind (wpAny_pyIter_zip (k2 _ _ hz) ?_)
      refine wpAny_bind (wpAny_holding ?_)
      unfold Builtin.List.listLengthHint
      refine wpAny_bind (wpAny_specialOf (tyz k2 rfl) zip_no_len ?_)
      show wpAny _ X.A.in1.in1 (specialOf (Value.ref z) (Str.ofString "__length_hint__") >>= _) _ _ _
      refine wpAny_bind (wpAny_specialOf (tyz k2 rfl) zip_no_hint ?_)
      refine wpAny_pure ?_
      show wpAny _ X.A.in1.in1 (rule "list.extend.makes-room" >>= fun _ => Builtin.List.listTouch (.ref h'.objs.size) >>= fun _ =>
        again (.builtin "list.extend.loop" ⟨[.ref h'.objs.size, .ref z, .none], []⟩)) _ _ _
      refine wpAny_bind (wpAny_rule ?_)
      refine wpAny_bind ?_
      show wpAny _ X.A.in1.in1 (updateSeq h'.objs.size (·.push .none) >>= fun _ => updateSeq h'.objs.size (·.pop)) _ _ _
      refine wpAny_bind (wpAny_updateSeq hS2 rfl ?_)
      have hS3 := Heap.get?_update_self (Obj.mapSeq (·.push Value.none)) hS2 rfl
      refine wpAny_updateSeq (hz := by seq_fits) hS3 rfl ?_
      have hS4 := Heap.get?_update_self (Obj.mapSeq (·.pop)) hS3 rfl
      have k4 := up _ (Obj.mapSeq (·.pop)) (up _ (Obj.mapSeq (·.push Value.none)) k2)
      have I4 : Inv X pins σ H1 _ := I2.kept (t' := s1.toks) k4
      have nS : H1 h'.objs.size = none := I2.hok.fresh (Nat.le_refl _)
      have hsz1 : s1.heap.objs.size ≤ h'.objs.size := by rw [hsz]; exact Nat.le_add_right _ _
      refine wpAny_pure ⟨plainId_quiet F.plain_extend_loop _, ?_⟩
      refine zl_loop (X := X) (A := X.A.in1) (pins := pins) (σ := σ) (xs := xs) (ys := ys) (H0 := H1) hc0 D (fun c hcm H' e => I1.fpOk (five c hcm).1 e) (fun H' e => I1.fpOk hsz1 e) (fun c hcm => Nat.ne_of_lt (five c hcm).2) hl ?_ (min xs.length ys.length) 0 _ H1 [] #[] _ (Nat.zero_add _) I4 (Same.refl _) hqx hqy
        (fun c hcm => I1.hok.fresh (five c hcm).1) nS (k4 _ _ hTI) ⟨_, _, k4 _ _ hTO⟩ (h1.at fun o e => k4 _ o e) (h2.at fun o e => k4 _ o e) (.inl (k4 _ _ hz)) hS4 .nil .nil
      intro s' H' ts acc c I' sm nS' hS' rv' tp
      refine ⟨rfl, .ref h'.objs.size, upd H' h'.objs.size (.lst (ts.map V.ref)), ?_, rfl, ?_⟩
      · have hlen : (ts.map V.ref).length ≤ sizeLine := by
          rw [List.length_map, Paired.length tp, List.length_zip]
          exact Nat.le_trans (Nat.min_le_left _ _) (Nat.le_trans hl (by decide))
        exact adopt I' (I1.fpOk hsz1 nS') rv' hlen (by rw [hS'])
      · refine q _ _ ts (fun b o e => ?_) upd_same (tp.mono fun b o e => ?_)
        · rw [upd_ne (ne_of_none (sm b o e) nS')]; exact sm b o e
        · rw [upd_ne (ne_of_none e nS')]; exact e
end ZlX
end

section
set_option Elab.async false
set_option linter.all false
set_option maxRecDepth 100000
set_option maxHeartbeats 4000000
/-! BadRule made: its own init asks super's, then two fields -/
namespace BrX
open PySem PySem.W PySem.Calls PyProof.Rows PySem.HandSPX So
/-- the module, as it stands at a later heap -/
structure MdAt (K : Frag) (mg : Str → Option Value) (h : Heap) : Prop where
  kin : K.In h
  glob : h.Ns mainGlobals mg
  blt : ∃ mb, h.Ns builtinsNs mb ∧ ∀ x : Str, x ≠ "__name__" → mb x = bootBuiltins x
  lim : h.NoLimit
theorem MdAt.keeps {K : Frag} {mg : Str → Option Value} {h h' : Heap} (m : MdAt K mg h) (k : ∀ b o, h.get? b = some o → h'.get? b = some o) : MdAt K mg h' := by
  obtain ⟨mb, b1, b2⟩ := m.blt
  exact ⟨m.kin.keeps k, m.glob.keeps k, ⟨mb, b1.keeps k, b2⟩, m.lim.keeps k⟩
section
variable {prog : Program} {w : World} {M : Model} {A : Around} {E : Value → Shared → Prop} {h : Heap} {g : Array GenState} {d : Drawn} {t : Nat} {os : OsState}
variable {nm q : Str} {C N : Addr} {bs bm : List Value} {hdct : Bool} {sn : List Str} {sub : List Value} {ab : Bool} {col : Option Bool} {dd : Option Addr} {k0 k1 k2 k3 k5 : Option Value}
/-- the wrapper of the base's init, called -/
theorem mw_call {u e t0 : Addr} {rest : List Value} {Q : Value → Shared → Prop} (hC : h.get? C = some (excClassObj nm q C N bs bm hdct sn sub ab col dd k0 k1 k2 k3 k5 "ValueError.__new__"))
    (he : h.get? e = some (excO C t0)) (hu : h.get? u = some (kxs_mw "ValueError.__init__" e)) (hz : rest.length ≤ sizeLine)
    (fin : ∀ h' t1, (∀ b o, b ≠ e → h.get? b = some o → h'.get? b = some o) → h'.get? e = some (excO C t1) → Q .none ⟨h', g, d, t, os⟩) : wpAny (model prog w) A (call (.ref u) rest) Q E ⟨h, g, d, t, os⟩ := by
  refine wpAny_call (codeAny_of_tree ?_)
  show wpAny _ A.in1 (callAny (.ref u) ⟨rest, []⟩) _ _ _
  simp only [callAny]
  refine wpAny_bind (wpAny_load hu ?_)
  have m1 : (Value.type "method-wrapper" == Value.type "method" || Value.type "method-wrapper" == Value.type "builtin_function_or_method" || Value.type "method-wrapper" == Value.type "method-wrapper") = true := by decide
  simp only [kxs_mw, m1, if_true]
  refine KFB.if_so (by decide) (wpAny_bind (check_bound_init F.excBase_ValueError.toExcCallFacts hC he rfl ?_))
  refine wpAny_bind (wpAny_pure (wpAny_pure ⟨plainId_quiet F.excBase_ValueError.init.plain _, codeAny_builtin F.excBase_ValueError.initEntry ?_⟩))
  exact exc_init_tree (cls := .ref C) (t0 := t0) (dv := none) (c2 := .none) (c3 := .none) (b4 := .bool false) he hz fun h' a b _ => fin h' h.objs.size a b
end
section
variable {prog : Program} {w : World} {A : Around} {E : Value → Shared → Prop} {h : Heap} {g : Array GenState} {d : Drawn} {t : Nat} {os : OsState} {K : Frag} {mg : Str → Option Value}
/-- the name of a local -/
theorem ldE {M : Model} {s : Shared} {env : Env} {m : Str → Option Value} {x : Str} {pos : Pos} {v : Value} {Q : Value → Shared → Prop} (hn : s.heap.Ns env.locals m) (hv : m x = some v) (q : Q v s)
    (hk : env.scope.kind = .function) (hl : env.kindOf x = some .local) (hd : (x == ("__debug__" : Str)) = false := by decide) : wpAny M A (eval (.Name x pos) env) Q E s := wpAny_Name (wpAny_loadName_local hk hl hn hv q) hd
/-- {i}, i a whole number -/
theorem fmtI {env : Env} {s : Shared} {m : Str → Option Value} {x : Str} {p1 p2 : Pos} {i : Int} {tk : Tok} {Q : Value → Shared → Prop} (hn : s.heap.Ns env.locals m) (hv : m x = some (.int i tk)) (hz : i.natAbs.log2 < 1920) (q : ∀ t' tk', Q (.str (toString i) t') { s with toks := tk' })
    (hk : env.scope.kind = .function) (hl : env.kindOf x = some .local) (hd : (x == ("__debug__" : Str)) = false := by decide) : wpAny (model prog w) A (eval (.FormattedValue (.Name x p1) (-1) none p2) env) Q E s :=
  wpAny_FormattedValue_plain (ldE hn hv (wpAny_formatField_int hz (q _ _)) hk hl hd)
end
end BrX
end

section
set_option Elab.async false
set_option linter.all false
set_option maxRecDepth 100000
set_option maxHeartbeats 4000000
namespace BrX
open PySem PySem.W PySem.Calls PyProof.Rows PySem.HandSPX So L2
structure POk (P : Program) : Prop where
  file : P.main.file = "/claim/cut.py"
  sup : (P.main.scope.names.lookup ("super" : Str)).isSome = false
theorem toS_len {i : Int} (h : i.natAbs.log2 < 1920) : (Str.ofString (toString i)).length ≤ 4000 := by
  have e := int_text_length_le (k := 1920) (by decide) h
  rw [PySem.ofString_length]; omega
theorem join5 {M : Model} {A : Around} {E : Value → Shared → Prop} {s : Shared} {env : Env} {e : Expr} {es : List Expr} {out : Str} {Q : Value → Shared → Prop} (h : wpAny M A (joinParts out (eval e env :: evalEach es env)) Q E s) : wpAny M A (joinParts out (evalEach (e :: es) env)) Q E s := h
section
variable {prog : Program} {w : World} {A : Around} {E : Value → Shared → Prop} {R : Result → Shared → Prop} {h : Heap} {g : Array GenState} {d : Drawn} {t : Nat} {os : OsState} {K : Frag} {mg : Str → Option Value}
theorem bad_text {env : Env} {s : Shared} {m : Str → Option Value} {c1 c2 c3 : Str} {i j : Int} {ti tj : Tok} {k1 k2 k3 : Nat} {p0 p1 p2 p3 p4 p5 p6 p7 : Pos} {Q : Value → Shared → Prop} (hn : s.heap.Ns env.locals m) (hi : m "row" = some (.int i ti)) (hj : m "word" = some (.int j tj)) (zi : i.natAbs.log2 < 1920) (zj : j.natAbs.log2 < 1920)
    (l1 : c1.length ≤ 1000) (l2 : c2.length ≤ 1000) (l3 : c3.length ≤ 1000) (q : ∀ x tk tk', Q (.str x tk) { s with toks := tk' }) (hk : env.scope.kind = .function) (h1 : env.kindOf "row" = some .local) (h2 : env.kindOf "word" = some .local) :
    wpAny (model prog w) A (eval (.JoinedStr [.Constant (.str c1) k1 p1, .FormattedValue (.Name "row" p2) (-1) none p3, .Constant (.str c2) k2 p4, .FormattedValue (.Name "word" p5) (-1) none p6, .Constant (.str c3) k3 p7] p0) env) Q E s := by
  have a1 := toS_len zi
  have a2 := toS_len zj
  have e0 : Str.empty.length = 0 := rfl
  refine JoinedStr_many (joinParts_cons (wpAny_Constant_str ⟨?_, joinParts_cons (fmtI (s := { s with toks := s.toks + 1 }) hn hi zi (fun t' tk' => ⟨?_, join5 (joinParts_cons (wpAny_Constant_str ⟨?_, join5 (joinParts_cons (fmtI (s := { s with toks := tk' + 1 }) hn hj zj (fun t2 tk2 => ⟨?_, join5 (joinParts_cons (wpAny_Constant_str ⟨?_, joinParts_nil (q _ _ _) ?_⟩))⟩) hk h2))⟩))⟩) hk h1)⟩))
  all_goals (simp only [strLen_append, sizeLine_eq, e0] at *; omega)
abbrev brF (doc pm : Value) (an : Option Addr) (cda : Addr) (ct : Value) (cc : Addr) : FuncData := ksFn "__init__" "BadRule.__init__" (defArgs s_BadRule_init) (defBody s_BadRule_init) (defScope s_BadRule_init) .none .none doc pm an (.ref cda) ct cc
theorem bad_init (pk : POk prog) (T : BrT K) (Md : MdAt K mg h) (zs : mg "super" = none) {x t0 : Addr} {i j : Int} {ti tj : Tok} (hx : h.get? x = some (excO (C_BadRule K) t0)) (hnx : K.lookup x = none) (zi : i.natAbs.log2 < 1920) (zj : j.natAbs.log2 < 1920) (hroom : A.depth < recursionLimit)
    (hq : ∀ h' tk dx t1, (∀ b o, b ≠ x → h.get? b = some o → h'.get? b = some o) → h.objs.size ≤ dx → dx ≠ x → h'.get? x = some { cls := .ref (C_BadRule K), dict := some dx, data := .fields #[.ref t1, .none, .none, .none, .bool false, .none] } →
      h'.Ns1 dx (fun y => if y = "word" then some (.int j tj) else if y = "row" then some (.int i ti) else none) → R (.ok (.ret .none)) ⟨h', g, d, tk, os⟩) :
    codeAny (model prog w) A (.call (.ref (a_BadRule_init K)) ⟨[.ref x, .int i ti, .int j tj], []⟩) R ⟨h, g, d, t, os⟩ := by
  obtain ⟨oc, od, doc, pm, an, cda, ct, osl, cc, vs, file, tf, ccl, cdd, ccs, cl, cld, csl, lk, hcd, lc, hvs, hfl, lcc⟩ := T.fn
  obtain ⟨nm, q, N, bs, bm, sn, sub, ab, col, dd, k0, k1, k2, k3, k5, hC, hbm⟩ := T.cls
  have hcl : clsIn K (C_BadRule K) = some { name := nm, bases := bs, mro := .ref (C_BadRule K) :: bm, ns := N, qualname := q, hasDict := true, slotNames := sn, subclasses := sub, abstract := ab, collection := col, hasDel := false } := by unfold clsIn; rw [hC] <;> rfl
  refine ks_codeAny_call_defAt (fd := brF doc pm an cda ct cc) (body := defBody s_BadRule_init) (binds := [("self", .ref x), ("row", .int i ti), ("word", .int j tj)]) hroom (Md.kin _ _ lk) rfl Md.lim (codeRec_of Md.kin hcd) rfl (BindsTo.of_eq rfl) (show ∀ y ∈ (defScope s_BadRule_init).names, y.2 ≠ .cell by decide +kernel) (locs rfl) (fun h₁ hns k₁ => ?_) rfl rfl rfl
  have M1 : MdAt K mg h₁ := Md.keeps k₁
  have x1 := k₁ _ _ hx
  obtain ⟨mb, b1, b2⟩ := M1.blt
  refine ks_wpAt_execs_cons (ks_wpAt_Expr_any (ks_wpAt_MethodCall (ks_wpAt_super_base (by rfl) (by rfl) (by rfl) rfl (M1.kin _ _ lk) rfl (by rfl) rfl (M1.kin _ _ lc) rfl hvs (by rw [pk.file]; exact hfl) pk.sup ?_)))
  have IX : InstAt h₁ x (excO (C_BadRule K) t0) (C_BadRule K) none := ⟨x1, rfl, rfl, trivial⟩
  have hxC : x ≠ C_BadRule K := ks_ne M1.kin IX hcl
  refine ks_loadName_global rfl (by rfl) (Calls.loadGlobal_builtin (M1.glob) zs b1 ((b2 "super" (by decide)).trans (by decide +kernel)) ⟨rfl, ?_⟩)
  refine wpAny_loadName_free rfl (by rfl) rfl ⟨_, M1.kin _ _ lcc, rfl⟩ ?_
  refine wpAny_loadName_local (m := fun y => List.lookup y ([("self", Value.ref x), ("row", Value.int i ti), ("word", Value.int j tj)] : List (Str × Value)).reverse) rfl (by rfl) hns (by rfl) ?_
  refine ks_wpAny_isType_cls (M1.kin _ _ hC) rfl ⟨rfl, ?_⟩
  refine ks_wpAny_call_super (M1.kin _ _ hC) rfl x1 rfl (fun c e => by cases e) (looks_mroIn M1.kin T.mr) (fun h₂ e2 k₂ => ?_)
  have M2 : MdAt K mg h₂ := M1.keeps k₂
  have x2 := k₂ _ _ x1
  have IX2 : InstAt h₂ x (excO (C_BadRule K) t0) (C_BadRule K) none := ⟨x2, rfl, rfl, trivial⟩
  have hsu := T.su
  unfold ks_superIn at hsu
  rw [hcl] at hsu
  refine kxs_getMethod kxs_ValueError e2 (looks_opaque M2.kin T.tp) (l₀ := .ref (C_BadRule K) :: bm) (fun A Q E s k q => wpAny_bind ((looks_clsIn M2.kin hcl) A _ E s k (wpAny_pure q))) rfl M2.kin hsu (IX2.type.andThen (looks_subIn M2.kin T.sV)) hxC (by decide) ?_
  have k₃ : ∀ b o, h₂.get? b = some o → (h₂.push (kxs_mw "ValueError.__init__" x)).get? b = some o := fun b o e => Heap.get?_push_of_some _ e
  have M3 := M2.keeps k₃
  have x3 := k₃ _ _ x2
  have u3 : (h₂.push (kxs_mw "ValueError.__init__" x)).get? h₂.objs.size = some (kxs_mw "ValueError.__init__" x) := Heap.get?_push_at rfl rfl
  have ns3 := (hns.keeps k₂).keeps k₃
  refine kxs_callWith (i := "ValueError.__init__") (x := x) rfl (Calls.evalArgs_plain (Calls.spliced_cons ?_))
  refine bad_text (p0 := ⟨0, 0, 0, 0⟩) (i := i) (j := j) (ti := ti) (tj := tj) ns3 (by rfl) (by rfl) zi zj (by decide +kernel) (by decide +kernel) (by decide +kernel) (fun tx tk tk' => ?_) rfl (by rfl) (by rfl)
  refine Calls.spliced_nil ⟨u3, ?_⟩
  refine mw_call (M3.kin _ _ hC) x3 u3 (by show 1 ≤ sizeLine; decide) (fun h₄ t1 k₄ x4 => ?_)
  -- self.row = row
  have xL : h.objs.size ≠ x := Nat.ne_of_gt (Heap.lt_size hx)
  have kb : ∀ {g₁ g₂ : Heap}, (∀ b o, b ≠ x → g₁.get? b = some o → g₂.get? b = some o) → K.In g₁ → K.In g₂ := fun k X a o e => k a o (fun z => by rw [z, hnx] at e; cases e) (X a o e)
  have X4 := kb k₄ M3.kin
  have ns4 := ns3.at fun o e => k₄ _ _ xL e
  refine wpAt_of_wpAny (wpAny_execs_cons (plainObj_wpAny_Assign_Attribute (ldE (v := .int i ti) ns4 (by rfl) (ldE (v := .ref x) ns4 (by rfl) ?_ rfl (by rfl)) rfl (by rfl))))
  refine set_plain X4 (ox := excO (C_BadRule K) t1) (od := none) ⟨x4, rfl, rfl, trivial⟩ T.sa ?_
  refine exc_osa X4 x4 hcl (show refsVE (.ref (C_BadRule K) :: bm) = true from hbm) rfl T.nR (fun h₅ tk₅ dx k₅ dn dne x5 n5 => ?_)
  -- self.word = word
  have X5 := kb k₅ X4
  have ns5 := ns4.at fun o e => k₅ _ _ xL e
  obtain ⟨oD, esD, epD, hoD, hdD, hcD⟩ := n5.count (Within.cons "row" (Value.int i ti) Within.nil)
  refine wpAny_execs_cons (plainObj_wpAny_Assign_Attribute (ldE (v := .int j tj) ns5 (by rfl) (ldE (v := .ref x) ns5 (by rfl) ?_ rfl (by rfl)) rfl (by rfl)))
  refine set_plain X5 (ox := { cls := .ref (C_BadRule K), dict := some dx, data := .fields #[.ref t1, .none, .none, .none, .bool false, .none] }) (od := some oD) ⟨x5, rfl, rfl, hoD⟩ T.sa ?_
  refine PySem.OEX.osa_old X5 x5 n5 (Within.cons "row" (Value.int i ti) Within.nil) (by decide) hcl (show refsVE (.ref (C_BadRule K) :: bm) = true from hbm) rfl T.nW (fun h₆ tk₆ k₆ n6 => ?_)
  have dx4 : h₄.objs.size ≤ dx := dn
  have lt4 : ∀ {b o}, h.get? b = some o → b ≠ x → b ≠ dx := fun {b o} e n z => by
    have := Heap.lt_size (k₄ _ _ n (k₃ _ _ (k₂ _ _ (k₁ _ _ e))))
    rw [z] at this
    exact absurd dx4 (Nat.not_le.mpr this)
  refine wpAny_execs_nil (hq h₆ tk₆ dx t1 (fun b o n e => k₆ b o (lt4 e n) (k₅ b o n (k₄ b o n (k₃ _ _ (k₂ _ _ (k₁ _ _ e)))))) ?_ dne (k₆ _ _ (Ne.symm dne) x5) n6)
  refine Nat.le_trans ?_ dx4
  exact Nat.le_of_lt (ns4.lt)
end
end BrX
end

section
set_option Elab.async false
set_option linter.all false
set_option maxRecDepth 100000
set_option maxHeartbeats 4000000
namespace BrX
open PySem PySem.W PySem.Calls PyProof.Rows PySem.HandSPX So L2
/-- a made BadRule: at e, its dict at dx -/
structure MadeBr (h h' : Heap) (e C dx : Addr) (u v : Value) : Prop where
  keep : ∀ b o, h.get? b = some o → h'.get? b = some o
  new : h.objs.size ≤ e
  obj : ∃ oe vs, h'.get? e = some oe ∧ oe.cls = .ref C ∧ oe.dict = some dx ∧ oe.data = .fields vs ∧ vs[1]? = some .none
  big : h.objs.size ≤ dx
  ne : dx ≠ e
  ns : h'.Ns1 dx (fun y => if y = "word" then some v else if y = "row" then some u else none)
section
variable {prog : Program} {w : World} {A : Around} {E : Value → Shared → Prop} {R : Result → Shared → Prop} {s : Shared} {K : Frag} {mg : Str → Option Value}
theorem bad_made (pk : POk prog) (T : BrT K) (Md : MdAt K mg s.heap) (zs : mg "super" = none) {i j : Int} {ti tj : Tok} (zi : i.natAbs.log2 < 1920) (zj : j.natAbs.log2 < 1920) (hroom : A.depth + 1 < recursionLimit)
    (hq : ∀ h' tk e dx, MadeBr s.heap h' e (C_BadRule K) dx (.int i ti) (.int j tj) → R (.ok (.ret (.ref e))) { s with heap := h', toks := tk }) :
    codeAny (model prog w) A (.call (.ref (C_BadRule K)) ⟨[.int i ti, .int j tj], []⟩) R s := by
  obtain ⟨nm, q, N, bs, bm, sn, sub, ab, col, dd, k0, k1, k2, k3, k5, hC, hbm⟩ := T.cls
  obtain ⟨hp, g, dr, tk, os⟩ := s
  have X := Md.kin
  refine call_own F.excBase_ValueError (fun Y => refsVE_contains Y bm hbm) (X _ _ hC) (looks_findIn X T.iC) (fun self => bind_fn X self T.tC) (show 2 ≤ sizeLine by decide) ?_
  have up : ∀ b o, hp.get? b = some o → ((hp.push (kdv_tup [.int i ti, .int j tj])).push (excO (C_BadRule K) hp.objs.size)).get? b = some o := fun b o e => Heap.get?_push_of_some _ (Heap.get?_push_of_some _ e)
  have at1 : ((hp.push (kdv_tup [.int i ti, .int j tj])).push (excO (C_BadRule K) hp.objs.size)).get? (hp.objs.size + 1) = some (excO (C_BadRule K) hp.objs.size) := by heap_get
  have out : K.lookup (hp.objs.size + 1) = none := by
    cases e : K.lookup (hp.objs.size + 1) with
    | none => rfl
    | some o => exact absurd (Heap.lt_size (X _ _ e)) (by show ¬ hp.objs.size + 1 < hp.objs.size; omega)
  refine bad_init (g := g) (d := dr) (t := tk) (os := os) pk T (Md.keeps up) zs at1 out zi zj hroom fun h' tk' dx t1 kp dn dne hx hns => ?_
  have old : ∀ b o, hp.get? b = some o → h'.get? b = some o := fun b o e => kp b o (Nat.ne_of_lt (Nat.lt_succ_of_lt (Heap.lt_size e))) (up b o e)
  have z : hp.objs.size ≤ dx := by
    refine Nat.le_trans ?_ dn
    rw [Heap.size_push, Heap.size_push]
    omega
  exact ⟨rfl, hq h' tk' (hp.objs.size + 1) dx ⟨old, Nat.le_succ _, ⟨_, _, hx, rfl, rfl, rfl, rfl⟩, z, dne, hns⟩⟩
end
end BrX
namespace So
open PySem PySem.Spec PyProof.Rows L2
abbrev brFs (u v : V) : List (Str × V) := [("row", u), ("word", v)]
theorem relO_br {u v : V} {u' v' : Value} (ru : RelV u u') (rv : RelV v v') (f : Str) : RelO (List.lookup f (brFs u v)) (if f = "word" then some v' else if f = "row" then some u' else none) := by
  by_cases h1 : f = "row"
  · subst h1
    rw [if_neg (by decide), if_pos rfl]
    have : List.lookup ("row" : Str) (brFs u v) = some u := by simp [List.lookup]
    rw [this]
    exact ru
  · by_cases h2 : f = "word"
    · subst h2
      rw [if_pos rfl]
      have : List.lookup ("word" : Str) (brFs u v) = some v := by
        have e1 : (("word" : Str) == ("row" : Str)) = false := by decide
        simp [List.lookup, e1]
      rw [this]
      exact rv
    · rw [if_neg h2, if_neg h1]
      have e1 : (f == ("row" : Str)) = false := by simpa using h1
      have e2 : (f == ("word" : Str)) = false := by simpa using h2
      have : List.lookup f (brFs u v) = none := by simp [List.lookup, e1, e2]
      rw [this]
      trivial
/-- BadRule(i, j) -/
def tMkBr (K : PySem.W.Frag) (ta : TA) : L2.St → Hp → XK → Prop := fun σ H Q => ta σ H fun vs H1 => ∃ i j : Int, vs = [.int i, .int j] ∧ i.natAbs.log2 < 1920 ∧ j.natAbs.log2 < 1920 ∧ ∀ d, H1 d = none → Q (.ref (C_BadRule K)) (some d) (L2.upd H1 d (.xd (brFs (.int i) (.int j))))
theorem pmk_bad {X : Cx} {a b : Expr} {ta : TA} {p pos : Pos} {k : Nat} (pk : BrX.POk X.prog) (T : BrT X.K) (kC : PySem.W.keepIn X.K (.ref (C_BadRule X.K)) = true) (r : Raises X (.ref (C_BadRule X.K))) (gC : X.mg "BadRule" = some (.ref (C_BadRule X.K))) (zs : X.mg "super" = none) (hr : Room (k + 1) X.A) (ha : PA X [a, b] ta) (hg : Gl X "BadRule" := by rfl)
    (he : starEach (a :: [b]) X.env = (false, eval a X.env) :: starEach [b] X.env := by rfl) (hpl : (backTo pos (starEach [b] X.env)).any (·.1) = false := by rfl) :
    PMk X (.Call (.Name "BadRule" p) [a, b] [] pos) (tMkBr X.K ta) := by
  intro pins s σ H Q I h
  refine wpAny_Call_Name_kw (ld_glob I hg gC ?_)
  refine PySem.W.callWith_K (h₀ := X.base) I.ok.mod.kin kC (thn (ha.run pos pins s σ H _ I h) fun us s1 hh => ?_) he hpl
  obtain ⟨vs, H1, I1, r1, i, j, rfl, zi, zj, q1⟩ := hh
  refine ⟨I1.kIn, ?_⟩
  cases r1 with
  | cons ru rn =>
    cases rn with
    | cons rv rn =>
      cases rn
      obtain ⟨ti, rfl⟩ := ru
      obtain ⟨tj, rfl⟩ := rv
      have M0 : BrX.MdAt X.K X.mg s1.heap := by
        obtain ⟨mb, b1, b2⟩ := I1.mod.blt
        exact ⟨I1.kIn, I1.mod.glob.keeps I1.bk, ⟨mb, b1.keeps I1.bk, b2⟩, I1.nolimit⟩
      obtain ⟨hp, g, dr, tk, os⟩ := s1
      refine wpAny_call (BrX.bad_made pk T M0 zs zi zj (by have := hr.dp; omega) fun h' tk' e d M => ?_)
      show MkP X pins σ Q (.ref e) ⟨h', g, dr, tk', os⟩
      obtain ⟨oe, fv, hoe, hc, hd, hdat, h1⟩ := M.obj
      have hns := M.ns
      obtain ⟨G', g1, g2⟩ := restrict h' fun b => decide (b ≠ e)
      have gk : ∀ b, b ≠ e → G'.get? b = h'.get? b := fun b hb => g1 b (decide_eq_true hb)
      have ge : G'.get? e = none := g2 e (by simp)
      have nw : ∀ {b o}, hp.get? b = some o → b ≠ e := fun q => Nat.ne_of_lt (Nat.lt_of_lt_of_le (Heap.lt_size q) M.new)
      have old : ∀ b o, hp.get? b = some o → G'.get? b = some o := fun b o q => (gk b (nw q)).trans (M.keep b o q)
      have ob : ObjOk X.prog X.w (L2.upd H1 d (.xd (brFs (.int i) (.int j)))) G' d (.xd (brFs (.int i) (.int j))) := ⟨_, hns.at (fun o q => (gk d M.ne).trans q), fun f => relO_br (u := .int i) (v := .int j) (u' := .int i ti) (v' := .int j tj) ⟨ti, rfl⟩ ⟨tj, rfl⟩ f⟩
      have J : Inv X pins σ (L2.upd H1 d (.xd (brFs (.int i) (.int j)))) ⟨G', g, dr, tk', os⟩ := I1.laid (t' := tk') old M.big ob
      refine ⟨e, oe, fv, ⟨G', g, dr, tk', os⟩, _, .ref (C_BadRule X.K), some d, rfl, J, fun b o q => ?_, ge, hoe, ⟨hc, hd⟩, hdat, h1, ?_, rfl, I1.bare, r, q1 d (I1.hok.fresh M.big)⟩
      · refine (gk b fun z => ?_).symm.trans q
        have q' : G'.get? e = some o := by rw [← z]; exact q
        rw [ge] at q'
        cases q'
      · rw [upd_ne (Ne.symm M.ne)]
        exact I1.hok.fresh M.new
end So
end

section
set_option Elab.async false
set_option linter.all false
set_option maxRecDepth 100000
set_option maxHeartbeats 4000000
/-! data in the heap: what stays; conditions, deeds -/
namespace So
open PySem PySem.Spec PyProof.Rows L2
open GxR (TabB TabG Tabbed)
section
variable {K : PySem.W.Frag} {E : List Addr} {H H1 : Hp} {a : Addr} {xs : List V}
theorem InsAll.nil : InsAll H [] := fun _ h => nomatch h
theorem InsAll.one {r C dx : Addr} {fs : List (Str × V)} (h : H r = some (.ins C dx fs)) : InsAll H [r] := fun e m => by
  rw [List.mem_singleton.mp m]
  exact ⟨_, _, _, h⟩
theorem Fr.rd {o : HO} (f : Fr K E H H1) (i : InsAll H E) (ho : ∀ C dx fs, o ≠ .ins C dx fs) (nt : NT o) (h : H a = some o ∨ ∃ q, H a = some (.frz q o)) : H1 a = some o ∨ ∃ q, H1 a = some (.frz q o) := by
  rcases h with h | ⟨q, h⟩
  · refine .inl (f.1 _ _ (fun m => ?_) h nt)
    obtain ⟨C, dx, fs, e⟩ := i a m
    rw [e] at h
    exact ho _ _ _ (Option.some.inj h).symm
  · refine .inr ⟨q, f.1 _ _ (fun m => ?_) h (by intro _ z; cases z)⟩
    obtain ⟨C, dx, fs, e⟩ := i a m
    rw [e] at h
    cases h
theorem Fr.sqL' (f : Fr K E H H1) (i : InsAll H E) (h : SqL K H a xs) : SqL K H1 a xs := by
  rcases h with h | h
  · exact .inl (f.rd i (by intro _ _ _ z; cases z) (by intro _ z; cases z) h)
  · exact .inr h
theorem Fr.sqT' (f : Fr K E H H1) (i : InsAll H E) (h : SqT K H a xs) : SqT K H1 a xs := by
  rcases h with h | h
  · exact .inl (f.rd i (by intro _ _ _ z; cases z) (by intro _ z; cases z) h)
  · exact .inr h
theorem Fr.dp (f : Fr K E H H1) (i : InsAll H E) {v : V} {d : PyData} (h : Dp K H v d) : Dp K H1 v d :=
  Dp.rec (motive_1 := fun v d _ => Dp K H1 v d) (motive_2 := fun vs ds _ => DpAll K H1 vs ds) .non .bl .int .str (fun h _ r => .lst (f.sqL' i h) r) (fun h _ r => .tup (f.sqT' i h) r) .nil (fun _ _ a b => .cons a b) h
theorem Fr.dps (f : Fr K E H H1) (i : InsAll H E) {vs : List V} {ds : List PyData} (h : DpAll K H vs ds) : DpAll K H1 vs ds := by
  induction vs generalizing ds with
  | nil => cases h; exact .nil
  | cons v vs ih =>
    cases h with
    | cons a b => exact .cons (f.dp i a) (ih b)
theorem dp_tup {v : V} {ds : List PyData} (h : Dp K H v (.tuple ds)) : ∃ a xs, v = .ref a ∧ SqT K H a xs ∧ DpAll K H xs ds := by
  cases h with
  | tup h r => exact ⟨_, _, rfl, h, r⟩
theorem dp_lst {v : V} {ds : List PyData} (h : Dp K H v (.list ds)) : ∃ a xs, v = .ref a ∧ SqL K H a xs ∧ DpAll K H xs ds := by
  cases h with
  | lst h r => exact ⟨_, _, rfl, h, r⟩
theorem dp_str {v : V} {x : Str} (h : Dp K H v (.str x)) : v = .str x := by cases h; rfl
theorem dp_int {v : V} {x : Int} (h : Dp K H v (.int x)) : v = .int x := by cases h; rfl
theorem dpAll_strs : ∀ {vs : List V} {xs : List Str}, DpAll K H vs (xs.map PyData.str) → vs = xs.map V.str
  | _, [], h => by cases h; rfl
  | _, x :: xs, h => by
    cases h with
    | cons a b => rw [dp_str a, dpAll_strs b]; rfl
theorem strs_dpAll : ∀ {xs : List Str}, DpAll K H (xs.map V.str) (xs.map PyData.str)
  | [] => .nil
  | x :: xs => .cons (.str x) strs_dpAll
theorem DpAll.len {vs : List V} {ds : List PyData} (h : DpAll K H vs ds) : vs.length = ds.length := by
  induction vs generalizing ds with
  | nil => cases h; rfl
  | cons v vs ih => cases h with | cons a b => simp [ih b]
theorem DpAll.at {vs : List V} {ds : List PyData} (h : DpAll K H vs ds) {i : Nat} {v : V} (e : vs[i]? = some v) : ∃ d, ds[i]? = some d ∧ Dp K H v d := by
  induction vs generalizing ds i with
  | nil => simp at e
  | cons u vs ih =>
    cases h with
    | cons a b =>
      cases i with
      | zero => simp only [List.getElem?_cons_zero, Option.some.injEq] at e; subst e; exact ⟨_, rfl, a⟩
      | succ i => simp only [List.getElem?_cons_succ] at e ⊢; exact ih b e
theorem DpAll.snoc {vs : List V} {ds : List PyData} {v : V} {d : PyData} (h : DpAll K H vs ds) (e : Dp K H v d) : DpAll K H (vs ++ [v]) (ds ++ [d]) := by
  induction vs generalizing ds with
  | nil => cases h; exact .cons e .nil
  | cons u vs ih => cases h with | cons a b => exact .cons a (ih b)
end
/-! ### data that is new -/
def seqO : HO → Bool
  | .lst _ => true
  | .tup _ => true
  | _ => false
/-- the lists and tuples that were not there in H0, but for E -/
def Nu (H0 : Hp) (E : List Addr) (H : Hp) : Hp := fun p => if H0 p = none ∧ p ∉ E then (match H p with
  | some o => if seqO o = true then some o else none
  | none => none) else none
section
variable {K : PySem.W.Frag} {E E' : List Addr} {H0 H0' H H' : Hp} {p : Addr} {o : HO}
theorem Nu.iff : Nu H0 E H p = some o ↔ H0 p = none ∧ p ∉ E ∧ H p = some o ∧ seqO o = true := by
  unfold Nu
  constructor
  · intro h
    split at h
    · rename_i c
      split at h
      · rename_i u e
        split at h
        · rename_i z
          cases h
          exact ⟨c.1, c.2, e, z⟩
        · cases h
      · cases h
    · cases h
  · rintro ⟨h1, h2, h3, h4⟩
    rw [if_pos ⟨h1, h2⟩, h3]
    show (if seqO o = true then some o else none) = some o
    rw [if_pos h4]
theorem Nu.same : Same (Nu H0 E H) H := fun _ _ h => (Nu.iff.mp h).2.2.1
theorem seq_nt (h : seqO o = true) : NT o := by
  intro _ z
  cases z <;> cases h
theorem Nu.le (h : ∀ p o, H0 p = none → p ∉ E → H p = some o → seqO o = true → H0' p = none ∧ p ∉ E' ∧ H' p = some o) : Same (Nu H0 E H) (Nu H0' E' H') := fun p o e => by
  obtain ⟨a, b, c, d⟩ := Nu.iff.mp e
  obtain ⟨a', b', c'⟩ := h p o a b c d
  exact Nu.iff.mpr ⟨a', b', c', d⟩
/-- v is the data d, all of it tracked -/
inductive Tr (H : Hp) : V → PyData → Prop
  | non : Tr H .non .none
  | bl (b : Bool) : Tr H (.bl b) (.bool b)
  | int (i : Int) : Tr H (.int i) (.int i)
  | str (x : Str) : Tr H (.str x) (.str x)
  | lst {a : Addr} {xs : List V} {ds : List PyData} (e : H a = some (.lst xs)) (hl : xs.length = ds.length) (h : ∀ (i : Nat) (v : V) (d : PyData), xs[i]? = some v → ds[i]? = some d → Tr H v d) : Tr H (.ref a) (.list ds)
  | tup {a : Addr} {xs : List V} {ds : List PyData} (e : H a = some (.tup xs)) (hl : xs.length = ds.length) (h : ∀ (i : Nat) (v : V) (d : PyData), xs[i]? = some v → ds[i]? = some d → Tr H v d) : Tr H (.ref a) (.tuple ds)
/-- item by item -/
inductive TrAll (H : Hp) : List V → List PyData → Prop
  | nil : TrAll H [] []
  | cons {v : V} {d : PyData} {vs : List V} {ds : List PyData} : Tr H v d → TrAll H vs ds → TrAll H (v :: vs) (d :: ds)
theorem TrAll.len {vs : List V} {ds : List PyData} (h : TrAll H vs ds) : vs.length = ds.length := by
  induction h with
  | nil => rfl
  | cons _ _ ih => simp [ih]
theorem TrAll.at {vs : List V} {ds : List PyData} (h : TrAll H vs ds) : ∀ (i : Nat) (v : V) (d : PyData), vs[i]? = some v → ds[i]? = some d → Tr H v d := by
  induction h with
  | nil => intro i v d e; simp at e
  | cons a _ ih =>
    intro i v d e1 e2
    cases i with
    | zero => simp only [List.getElem?_cons_zero, Option.some.injEq] at e1 e2; subst e1 e2; exact a
    | succ i => exact ih i v d e1 e2
theorem TrAll.of : ∀ {vs : List V} {ds : List PyData}, vs.length = ds.length → (∀ (i : Nat) (v : V) (d : PyData), vs[i]? = some v → ds[i]? = some d → Tr H v d) → TrAll H vs ds
  | [], [], _, _ => .nil
  | v :: vs, d :: ds, hl, h => .cons (h 0 v d rfl rfl) (TrAll.of (by simpa using hl) fun i v d e1 e2 => h (i + 1) v d e1 e2)
theorem Tr.mkT {a : Addr} {vs : List V} {ds : List PyData} (e : H a = some (.tup vs)) (h : TrAll H vs ds) : Tr H (.ref a) (.tuple ds) := .tup e h.len h.at
theorem Tr.mkL {a : Addr} {vs : List V} {ds : List PyData} (e : H a = some (.lst vs)) (h : TrAll H vs ds) : Tr H (.ref a) (.list ds) := .lst e h.len h.at
theorem tr_tup {v : V} {ds : List PyData} (h : Tr H v (.tuple ds)) : ∃ a vs, v = .ref a ∧ H a = some (.tup vs) ∧ TrAll H vs ds := by
  cases h with
  | tup e hl h => exact ⟨_, _, rfl, e, .of hl h⟩
theorem tr_lst {v : V} {ds : List PyData} (h : Tr H v (.list ds)) : ∃ a vs, v = .ref a ∧ H a = some (.lst vs) ∧ TrAll H vs ds := by
  cases h with
  | lst e hl h => exact ⟨_, _, rfl, e, .of hl h⟩
theorem tr_str {v : V} {x : Str} (h : Tr H v (.str x)) : v = .str x := by cases h; rfl
theorem tr_int {v : V} {x : Int} (h : Tr H v (.int x)) : v = .int x := by cases h; rfl
theorem Tr.same (s : Same H H') {v : V} {d : PyData} (h : Tr H v d) : Tr H' v d := by
  induction h with
  | non => exact .non
  | bl b => exact .bl b
  | int i => exact .int i
  | str x => exact .str x
  | lst e hl _ ih => exact .lst (s _ _ e) hl ih
  | tup e hl _ ih => exact .tup (s _ _ e) hl ih
theorem TrAll.same (s : Same H H') {vs : List V} {ds : List PyData} (h : TrAll H vs ds) : TrAll H' vs ds := by
  induction h with
  | nil => exact .nil
  | cons a _ ih => exact .cons (a.same s) ih
theorem dpAll_of : ∀ {vs : List V} {ds : List PyData}, vs.length = ds.length → (∀ (i : Nat) (v : V) (d : PyData), vs[i]? = some v → ds[i]? = some d → Dp K H v d) → DpAll K H vs ds
  | [], [], _, _ => .nil
  | v :: vs, d :: ds, hl, h => .cons (h 0 v d rfl rfl) (dpAll_of (by simpa using hl) fun i v d e1 e2 => h (i + 1) v d e1 e2)
theorem Tr.dp {v : V} {d : PyData} (h : Tr H v d) : Dp K H v d := by
  induction h with
  | non => exact .non
  | bl b => exact .bl b
  | int i => exact .int i
  | str x => exact .str x
  | lst e hl _ ih => exact .lst (SqL.of e) (dpAll_of hl ih)
  | tup e hl _ ih => exact .tup (.inl (.inl e)) (dpAll_of hl ih)
theorem TrAll.snoc {vs : List V} {ds : List PyData} {v : V} {d : PyData} (h : TrAll H vs ds) (e : Tr H v d) : TrAll H (vs ++ [v]) (ds ++ [d]) := by
  induction h with
  | nil => exact .cons e .nil
  | cons a _ ih => exact .cons a ih
theorem strs_trAll : ∀ {xs : List Str}, TrAll H (xs.map V.str) (xs.map PyData.str)
  | [] => .nil
  | x :: xs => .cons (.str x) strs_trAll
theorem trAll_strs : ∀ {vs : List V} {xs : List Str}, TrAll H vs (xs.map PyData.str) → vs = xs.map V.str
  | _, [], h => by cases h; rfl
  | _, x :: xs, h => by
    cases h with
    | cons a b => rw [tr_str a, trAll_strs b]; rfl
/-- tracked data stays where nothing of it is a list that may change -/
theorem Fr.tr {F : List Addr} (f : Fr K F H H') (i : ∀ e ∈ F, ∀ o, H e = some o → seqO o = false) {v : V} {d : PyData} (h : Tr H v d) : Tr H' v d := by
  induction h with
  | non => exact .non
  | bl b => exact .bl b
  | int i => exact .int i
  | str x => exact .str x
  | lst e hl _ ih => exact .lst (f.1 _ _ (fun m => by have := i _ m _ e; cases this) e (by intro _ z; cases z)) hl ih
  | tup e hl _ ih => exact .tup (f.1 _ _ (fun m => by have := i _ m _ e; cases this) e (by intro _ z; cases z)) hl ih
theorem Fr.trs {F : List Addr} (f : Fr K F H H') (i : ∀ e ∈ F, ∀ o, H e = some o → seqO o = false) {vs : List V} {ds : List PyData} (h : TrAll H vs ds) : TrAll H' vs ds := by
  induction h with
  | nil => exact .nil
  | cons a _ ih => exact .cons (f.tr i a) ih
/-- v is the data d, all of it new since H0, but for E -/
abbrev ND (K : PySem.W.Frag) (H0 : Hp) (E : List Addr) (H : Hp) (v : V) (d : PyData) : Prop := Tr (Nu H0 E H) v d
abbrev NDs (K : PySem.W.Frag) (H0 : Hp) (E : List Addr) (H : Hp) (vs : List V) (ds : List PyData) : Prop := TrAll (Nu H0 E H) vs ds
theorem ND.tr {v : V} {d : PyData} (h : Tr (Nu H0 E H) v d) : Tr H v d := Tr.same Nu.same h
theorem NDs.tr {vs : List V} {ds : List PyData} (h : TrAll (Nu H0 E H) vs ds) : TrAll H vs ds := TrAll.same Nu.same h
/-- it stays where what may change is excluded or was there before -/
theorem nu_fr {F : List Addr} (f : Fr K F H H') (i : ∀ e ∈ F, e ∈ E ∨ H0 e ≠ none) : Same (Nu H0 E H) (Nu H0 E H') := Nu.le fun p o a b c d => ⟨a, b, f.1 p o (fun m => (i p m).elim b fun z => z a) c (seq_nt d)⟩
theorem nu_upd {a : Addr} {u : HO} (i : a ∈ E ∨ H0 a ≠ none ∨ H a = none) : Same (Nu H0 E H) (Nu H0 E (upd H a u)) := Nu.le fun p o x b c d => ⟨x, b, by
  rw [upd_ne]; exact c
  intro z
  subst z
  rcases i with i | i | i
  · exact b i
  · exact i x
  · rw [i] at c; cases c⟩
/-- new since later is new since before -/
theorem nu_back (l : ∀ p, H0' p = none → H0 p = none) (i : ∀ e ∈ E, e ∈ E' ∨ H0' e ≠ none) : Same (Nu H0' E' H) (Nu H0 E H) := Nu.le fun p o a b c _ => ⟨l p a, fun m => (i p m).elim b fun z => z a, c⟩
/-- a new tuple, a new list of new things -/
theorem ND.tup {a : Addr} {vs : List V} {ds : List PyData} (h : TrAll (Nu H0 E H) vs ds) (e : H a = some (.tup vs)) (n : H0 a = none) (m : a ∉ E) : Tr (Nu H0 E H) (.ref a) (.tuple ds) := Tr.mkT (Nu.iff.mpr ⟨n, m, e, rfl⟩) h
theorem ND.lst {a : Addr} {vs : List V} {ds : List PyData} (h : TrAll (Nu H0 E H) vs ds) (e : H a = some (.lst vs)) (n : H0 a = none) (m : a ∉ E) : Tr (Nu H0 E H) (.ref a) (.list ds) := Tr.mkL (Nu.iff.mpr ⟨n, m, e, rfl⟩) h
end
/-! ### conditions -/
inductive Cnd where
  | any
  | fact (k n : Str)
  | pair (a b : Str)
  | over (n : Nat)
  | neg (c : Cnd)
  | par (c : Cnd)
  | and2 (a b : Cnd)
  | and3 (a b c : Cnd)
  | and4 (a b c d : Cnd)
  | or2 (a b : Cnd)
/-- as the program holds it -/
def Cnd.p : Cnd → PyData
  | .any => .tuple [.str "any"]
  | .fact k n => .tuple [.str k, .str n]
  | .pair a b => .tuple [.str "pair", .str a, .str b]
  | .over n => .tuple [.str "over", .int n]
  | .neg c => .tuple [.str "not", c.p]
  | .par c => c.p
  | .and2 a b => .tuple [.str "and", .list [a.p, b.p]]
  | .and3 a b c => .tuple [.str "and", .list [a.p, b.p, c.p]]
  | .and4 a b c d => .tuple [.str "and", .list [a.p, b.p, c.p, d.p]]
  | .or2 a b => .tuple [.str "or", .list [a.p, b.p]]
/-- a number in figures -/
def numS (n : Nat) : Str := Str.ofString (toString (n : Int))
/-- as the law holds it -/
def Cnd.l : Cnd → PyData
  | .any => .tuple [.str "any"]
  | .fact k n => .tuple [.str k, .str n]
  | .pair a b => .tuple [.str "pair", .str a, .str b]
  | .over n => .tuple [.str "over", .str (numS n)]
  | .neg c => .tuple [.str "not", c.l]
  | .par c => .tuple [.str "(", c.l]
  | .and2 a b => .tuple [.str "and", .list [a.l, b.l]]
  | .and3 a b c => .tuple [.str "and", .list [a.l, b.l, c.l]]
  | .and4 a b c d => .tuple [.str "and", .list [a.l, b.l, c.l, d.l]]
  | .or2 a b => .tuple [.str "or", .list [a.l, b.l]]
/-- its words -/
def Cnd.told : Cnd → List Str
  | .any => ["any"]
  | .fact k n => [k, n]
  | .pair a b => ["pair", a, b]
  | .over n => ["over", numS n]
  | .neg c => ("not" : Str) :: c.told
  | .par c => ("(" : Str) :: (c.told ++ [(")" : Str)])
  | .and2 a b => a.told ++ (("and" : Str) :: b.told)
  | .and3 a b c => a.told ++ (("and" : Str) :: b.told) ++ (("and" : Str) :: c.told)
  | .and4 a b c d => a.told ++ (("and" : Str) :: b.told) ++ (("and" : Str) :: c.told) ++ (("and" : Str) :: d.told)
  | .or2 a b => a.told ++ (("or" : Str) :: b.told)
def sgnsAz : List Nat := (List.range 26).map (· + 97)
/-- a name: one to ten small letters -/
def Nm (x : Str) : Prop := 1 ≤ x.length ∧ x.length ≤ 10 ∧ ∀ c ∈ x.cps.toList, c ∈ ("abcdefghijklmnopqrstuvwxyz" : Str).cps.toList
def kinds1 : List Str := ["from", "has", "first", "last", "marked"]
def kindsW : List Str := ["has", "first", "last"]
def nums : List Nat := [0, 1, 9, 10, 500, 99998, 99999]
/-- well formed, at level 0 (single), 1 (joined), 2; its names; W: the names that facts of words may speak of -/
def Cnd.wf (W : List Str) : Cnd → Nat → Prop
  | .any, _ => True
  | .fact k n, _ => k ∈ kinds1 ∧ Nm n ∧ (k ∈ kindsW → n ∈ W)
  | .pair a b, _ => Nm a ∧ Nm b ∧ a ∈ W ∧ b ∈ W
  | .over n, _ => n ∈ nums
  | .neg c, _ => c.wf W 0
  | .par c, _ => c.wf W 2
  | .and2 a b, n => 1 ≤ n ∧ a.wf W 0 ∧ b.wf W 0
  | .and3 a b c, n => 1 ≤ n ∧ a.wf W 0 ∧ b.wf W 0 ∧ c.wf W 0
  | .and4 a b c d, n => 1 ≤ n ∧ a.wf W 0 ∧ b.wf W 0 ∧ c.wf W 0 ∧ d.wf W 0
  | .or2 a b, n => 2 ≤ n ∧ a.wf W 1 ∧ b.wf W 1
def Cnd.dep : Cnd → Nat
  | .neg c => c.dep + 1
  | .par c => c.dep + 1
  | .and2 a b => max a.dep b.dep
  | .and3 a b c => max a.dep (max b.dep c.dep)
  | .and4 a b c d => max a.dep (max b.dep (max c.dep d.dep))
  | .or2 a b => max a.dep b.dep
  | _ => 0
/-- the parts that and joins -/
def Cnd.js : Cnd → List Cnd
  | .and2 a b => [a, b]
  | .and3 a b c => [a, b, c]
  | .and4 a b c d => [a, b, c, d]
  | c => [c]
/-- the parts that or joins -/
def Cnd.os : Cnd → List Cnd
  | .or2 a b => [a, b]
  | c => [c]
theorem Cnd.wf.up {W : List Str} {c : Cnd} {n m : Nat} (h : c.wf W n) (e : n ≤ m) : c.wf W m := by
  cases c <;> first | exact h | (obtain ⟨h1, h2⟩ := h; exact ⟨Nat.le_trans h1 e, h2⟩)
/-- a letter -/
structure Ltr where
  snd : Str
  ws : List Str
  sz : Nat
def Ltr.p (l : Ltr) : PyData := .tuple [.str l.snd, .list (l.ws.map PyData.str), .int l.sz]
/-- straight ahead of -/
def hasPair (ws : List Str) (a b : Str) : Bool := (ws.zip ws.tail).contains (a, b)
def evFact (l : Ltr) (ms : List Str) (k n : Str) : Bool :=
  if k = "from" then l.snd == n else if k = "marked" then ms.contains n else if k = "has" then l.ws.contains n else if k = "first" then l.ws.head? == some n else l.ws.getLast? == some n
def Cnd.ev (l : Ltr) (ms : List Str) : Cnd → Bool
  | .any => true
  | .fact k n => evFact l ms k n
  | .pair a b => hasPair l.ws a b
  | .over n => decide (n < l.sz)
  | .neg c => !c.ev l ms
  | .par c => c.ev l ms
  | .and2 a b => a.ev l ms && b.ev l ms
  | .and3 a b c => a.ev l ms && (b.ev l ms && c.ev l ms)
  | .and4 a b c d => a.ev l ms && (b.ev l ms && (c.ev l ms && d.ev l ms))
  | .or2 a b => a.ev l ms || b.ev l ms
end So
end

section
set_option Elab.async false
set_option linter.all false
set_option maxRecDepth 100000
set_option maxHeartbeats 4000000
namespace So
open PySem PySem.Spec PyProof.Rows L2 GxA
open GxR (TabB TabG Tabbed)
theorem iteD {p A B : Prop} [Decidable p] (hp : p) (h : A) : if decide p = true then A else B := by
  rw [if_pos (decide_eq_true hp)]; exact h
theorem iteN {p A B : Prop} [Decidable p] (hp : ¬ p) (h : B) : if decide p = true then A else B := by
  rw [if_neg (by rw [decide_eq_false hp]; exact Bool.false_ne_true)]; exact h
theorem iteB {b : Bool} {A B : Prop} (hb : b = true) (h : A) : if b = true then A else B := by
  rw [if_pos hb]; exact h
theorem iteNB {b : Bool} {A B : Prop} (hb : b = false) (h : B) : if b = true then A else B := by
  rw [if_neg (by rw [hb]; exact Bool.false_ne_true)]; exact h
theorem Nm.line {x : Str} (h : Nm x) : x.length ≤ sizeLine := Nat.le_trans h.2.1 (by decide)
theorem mtN {K : PySem.W.Frag} : tb_is_name K ∈ tabs K := by simp
theorem mtL {K : PySem.W.Frag} : tb_is_letter K ∈ tabs K := by simp
theorem mtD {K : PySem.W.Frag} : tb_is_number K ∈ tabs K := by simp
theorem mtW {K : PySem.W.Frag} : tb_Way_holds K ∈ tabs K := by simp
theorem g_str {x : Str} {g : TG} {te : TE} {vs : List Nat} {σw : L2.St} {c : Bool} {H1 : Hp} {Qe Qf : Hp → Prop} (Pv : Nat → Hp → Prop) (h0 : Pv 0 H1)
    (hs : ∀ i a H, x.cps[i]? = some a → Pv i H → g (.str ⟨#[a]⟩) σw H fun σ2 H2 => wipe σ2 vs = σw ∧ te σ2 H2 fun y H3 => ∃ b : Bool, y = .bl b ∧ if b = c then Pv (i + 1) H3 else Qf H3) (hd : ∀ H, Pv x.cps.size H → Qe H) :
    ∃ W : Nat → Nat → Hp → Prop, (∃ m, W 0 m H1) ∧ GTurn (Its x) g te vs σw c Qe Qf W := by
  refine ⟨fun i m H => m = x.cps.size - i ∧ i ≤ x.cps.size ∧ Pv i H, ⟨x.cps.size, by simp, Nat.zero_le _, h0⟩, ?_⟩
  rintro i m H ⟨rfl, hi, p⟩
  by_cases e : i = x.cps.size
  · subst e
    exact .inl ⟨Nat.le_refl _, hd H p⟩
  · refine .inr ⟨by show i < x.cps.size; omega, Pv (i + 1), fun H' q => ⟨_, ?_, rfl, by omega, q⟩, ?_⟩
    · omega
    · rintro v H' ⟨rfl, a, ha, rfl⟩
      exact hs i a H' ha p
theorem g_list {K : PySem.W.Frag} {a : Addr} {xs : List V} {g : TG} {te : TE} {vs : List Nat} {σw : L2.St} {c : Bool} {H1 : Hp} {Qe Qf : Hp → Prop} (Pv : Nat → Hp → Prop) (h0 : Pv 0 H1) (hl : ∀ i H, i ≤ xs.length → Pv i H → SqL K H a xs)
    (hs : ∀ i x H, xs[i]? = some x → Pv i H → g x σw H fun σ2 H2 => wipe σ2 vs = σw ∧ te σ2 H2 fun y H3 => ∃ b : Bool, y = .bl b ∧ if b = c then Pv (i + 1) H3 else Qf H3) (hd : ∀ H, Pv xs.length H → Qe H) :
    ∃ W : Nat → Nat → Hp → Prop, (∃ m, W 0 m H1) ∧ GTurn (Itl K a) g te vs σw c Qe Qf W := by
  refine ⟨fun i m H => m = xs.length - i ∧ i ≤ xs.length ∧ Pv i H, ⟨xs.length, by simp, Nat.zero_le _, h0⟩, ?_⟩
  rintro i m H ⟨rfl, hi, p⟩
  have q := hl i H hi p
  by_cases e : i = xs.length
  · subst e
    exact .inl ⟨⟨xs, q, Nat.le_refl _⟩, hd H p⟩
  · have lt : i < xs.length := by omega
    refine .inr ⟨⟨xs, xs[i], q, List.getElem?_eq_getElem lt⟩, Pv (i + 1), fun H' q => ⟨_, ?_, rfl, by omega, q⟩, ?_⟩
    · omega
    · rintro v H' ⟨rfl, hv⟩
      exact hs i v H' (hv xs q) p
end So
end

section
set_option Elab.async false
set_option linter.all false
set_option maxRecDepth 100000
set_option maxHeartbeats 4000000
namespace So
open PySem PySem.Spec PyProof.Rows L2 GxA
open GxR (TabB TabG Tabbed)
section
variable {P : Program} {w : World} {K : PySem.W.Frag} {mg : Str → Option Value} {base : Heap}
def spIsName (K : PySem.W.Frag) : Sp := fun vs H Q _ => ∃ x : Str, vs = [.str x] ∧ Nm x ∧ Tb K H ∧ ∀ H', Fr K [] H H' → Q (.bl true) H'
theorem R_is_name (T : Txt w K mg base) : FnR P w K mg base CX0 6 (a_is_name K) (spIsName K) := by
  refine mkRC (p := ("is_name", none)) rfl T.f_is_name sc_is_name bd_is_name ?_ ?_
  · rintro vs H Q E ⟨x, rfl, _⟩; rfl
  rintro A outer s H vs Q E hr ⟨x, rfl, ⟨n1, n2, n3⟩, tb, k⟩
  obtain ⟨tS, hS⟩ := T.i_SIGNS
  obtain ⟨tL, hL⟩ := T.i_LONGEST_NAME
  have nd := sc_is_name.nd
  refine ⟨_, pss_cons (ps_if (PW.pt (pw_or (pt_not (pt_val (pe_callB call_isi (by rfl) T.z_isinstance (by decide +kernel) (pa_cons (pv 0) (pa_cons (pe_bltn (by rfl) T.z_str (by decide +kernel) (v := .ty "str") rfl) pa_nil)))))
      (pw_or1 (pt_not (pt_chain op_le op_le pe_int (pe_callB call_len_str (by rfl) T.z_len PySem.boot_len (pa_cons (pv 0) pa_nil)) (pe_glob (by rfl) hL (v := .int 10) ⟨_, rfl⟩))))))
      (pss_one (ps_ret pe_bl)) pss_nil)
    (pss_one (ps_ret (pe_allG (own := [("sign", 1)]) (g := gName 1) hr (by rfl) T.z_all T.t_is_name rfl nd (pi_str (pv 0)) (blkOk_by (own := [("sign", 1)]) (N := N_is_name) (sc := defScope s_is_name) (by decide +kernel)) (by decide +kernel) rfl rfl
      (fun _ _ _ _ _ _ => pg_name (i := 1) nd rfl (Or.inl rfl)) (fun _ _ _ _ _ _ => pe_cmpR op_in_sign (pv 1) (pe_glob (by rfl) hS (v := .str "abcdefghijklmnopqrstuvwxyz") ⟨_, rfl⟩) rfl)))), ?_⟩
  refine ⟨_, rfl, _, _, _, _, true, rfl, .ty _, .base (.str x), kit_ty (by decide +kernel), ?_⟩
  refine ⟨true, rfl, ?_⟩
  refine iteF ?_
  refine ⟨_, rfl, x, rfl, Nm.line ⟨n1, n2, n3⟩, ?_⟩
  refine ⟨_, _, rfl, rfl, _, rfl, iteD (Int.ofNat_le.mpr n1) ?_⟩
  refine ⟨_, _, rfl, rfl, _, rfl, ?_⟩
  rw [decide_eq_true (show ((x.length : Int) ≤ 10) by omega)]
  refine iteF ?_
  refine ⟨_, rfl, x, rfl, tb _ mtN, fun H2 t2 => ?_⟩
  refine g_str (fun _ H => Fr K [] H2 H) (Fr.refl (Fr.tab (E := []) tb t2 mtN).2) (fun i a H ha f => ?_) (fun H f => k H ((Fr.tab tb t2 mtN).trans f))
  refine ⟨rfl, _, rfl, _, _, rfl, rfl, _, rfl, ?_⟩
  rw [decide_eq_true (n3 a (by rw [Array.mem_toList_iff]; exact Array.mem_of_getElem? ha))]
  exact iteT f
end
end So
end

section
set_option Elab.async false
set_option linter.all false
set_option maxRecDepth 100000
set_option maxHeartbeats 4000000
namespace So
open PySem PySem.Spec PyProof.Rows L2 GxA
open GxR (TabB TabG Tabbed)
section
variable {P : Program} {w : World} {K : PySem.W.Frag} {mg : Str → Option Value} {base : Heap}
theorem Fr.same {E : List Addr} {H H' : Hp} (t : Tb K H) (s : Same H H') : Fr K E H H' := ⟨fun p o _ e _ => s p o e, ⟨fun p m => by
  obtain ⟨ps, e, z⟩ := t p m
  exact ⟨ps, s _ _ e, z⟩, t.dj, t.lam.ext s⟩, fun p h => s.free h, fun p φ h => s _ _ h⟩
def spIsSize (K : PySem.W.Frag) : Sp := fun vs H Q _ => ∃ n : Nat, vs = [.int n] ∧ n ≤ 99999 ∧ Q (.bl true) H
theorem R_is_size (T : Txt w K mg base) : FnR P w K mg base CX0 1 (a_is_size K) (spIsSize K) := by
  refine mkR T.f_is_size sc_is_size bd_is_size ?_ ?_
  · rintro vs H Q E ⟨x, rfl, _⟩; rfl
  rintro cdv A outer s H vs Q E hr ⟨n, rfl, hn, k⟩
  obtain ⟨tL, hL⟩ := T.i_BIGGEST_SIZE
  have nd := sc_is_size.nd
  refine ⟨_, pss_cons (ps_if (PW.pt (pw_or (pt_not (pt_val (pe_callB call_isi (by rfl) T.z_isinstance (by decide +kernel) (pa_cons (pv 0) (pa_cons (pe_bltn (by rfl) T.z_int (by decide +kernel) (v := .ty "int") rfl) pa_nil)))))
      (pw_or1 (pt_val (pe_callB call_isi (by rfl) T.z_isinstance (by decide +kernel) (pa_cons (pv 0) (pa_cons (pe_bltn (by rfl) T.z_bool (by decide +kernel) (v := .ty "bool") rfl) pa_nil)))))))
      (pss_one (ps_ret pe_bl)) pss_nil)
    (pss_one (ps_ret (pe_chain op_le op_le pe_int (pv 0) (pe_glob (by rfl) hL (v := .int 99999) ⟨_, rfl⟩)))), ?_⟩
  refine ⟨_, rfl, _, _, _, _, true, rfl, .ty _, .base (.int n), kit_ty (by decide +kernel), ?_⟩
  refine ⟨true, rfl, ?_⟩
  refine iteF ?_
  refine ⟨_, rfl, _, _, _, _, false, rfl, .ty _, .base (.int n), kit_ty (by decide +kernel), ?_⟩
  refine ⟨false, rfl, iteF ?_⟩
  refine ⟨_, rfl, _, _, rfl, rfl, _, rfl, iteD (by omega) ?_⟩
  refine ⟨_, _, rfl, rfl, ?_⟩
  show Q (.bl (decide ((n : Int) ≤ 99999))) H
  rw [decide_eq_true (by omega : (n : Int) ≤ 99999)]
  exact k
def spIsLetter (K : PySem.W.Frag) : Sp := fun vs H Q _ => ∃ (a l : Addr) (L : Ltr), vs = [.ref a] ∧ H a = some (.tup [.str L.snd, .ref l, .int L.sz]) ∧ H l = some (.lst (L.ws.map V.str)) ∧ Nm L.snd ∧ (∀ x ∈ L.ws, Nm x) ∧ L.sz ≤ 99999 ∧ Tb K H ∧ ∀ H', Fr K [] H H' → Q (.bl true) H'
theorem at_map {xs : List Str} {i : Nat} {a : V} (ha : (xs.map V.str)[i]? = some a) : ∃ x, xs[i]? = some x ∧ a = V.str x := by
  rw [List.getElem?_map] at ha
  cases e : xs[i]? with
  | none => rw [e] at ha; cases ha
  | some x => rw [e] at ha; exact ⟨x, rfl, (Option.some.inj ha).symm⟩
theorem R_is_letter (T : Txt w K mg base) : FnR P w K mg base CX0 12 (a_is_letter K) (spIsLetter K) := by
  refine mkRC (p := ("is_letter", none)) rfl T.f_is_letter sc_is_letter bd_is_letter ?_ ?_
  · rintro vs H Q E ⟨a, l, L, rfl, _⟩; rfl
  rintro A outer s H vs Q E hr ⟨a, l, L, rfl, ha, hl, n1, n2, n3, tb, k⟩
  obtain ⟨_, F1⟩ := T.f_is_name
  obtain ⟨_, F2⟩ := T.f_is_size
  have nd := sc_is_letter.nd
  refine ⟨_, pss_cons (ps_if (PW.pt (pw_or (pt_not (pt_val (pe_callB call_isi (by rfl) T.z_isinstance (by decide +kernel) (pa_cons (pv 0) (pa_cons (pe_bltn (by rfl) T.z_tuple (by decide +kernel) (v := .ty "tuple") rfl) pa_nil)))))
      (pw_or1 (pt_cmpR op_ne (pe_callB call_len_seq (by rfl) T.z_len PySem.boot_len (pa_cons (pv 0) pa_nil)) pe_int (nomark _)))))
      (pss_one (ps_ret pe_bl)) pss_nil)
    (pss_cons (ps_asg (pv 0) (pg_tup (by rfl) (pgs_cons (pg_name (i := 1) nd rfl (.inl rfl)) (pgs_cons (pg_name (i := 2) nd rfl (.inl rfl)) (pgs_cons (pg_name (i := 3) nd rfl (.inl rfl)) pgs_nil)))))
    (pss_cons (ps_if (PW.pt (pw_or (pt_not (pt_val (pe_cF (R_is_name T) (hr.mono (by decide)) (by rfl) T.g_is_name F1.kp (pa_cons (pv 1) pa_nil))))
      (pw_or (pt_not (pt_val (pe_callB call_isi (by rfl) T.z_isinstance (by decide +kernel) (pa_cons (pv 2) (pa_cons (pe_bltn (by rfl) T.z_list (by decide +kernel) (v := .ty "list") rfl) pa_nil)))))
      (pw_or1 (pt_not (pt_val (pe_cF (R_is_size T) (hr.mono (by decide)) (by rfl) T.g_is_size F2.kp (pa_cons (pv 3) pa_nil))))))))
      (pss_one (ps_ret pe_bl)) pss_nil)
    (pss_one (ps_ret (pe_allG (own := [("word", 4)]) (g := gName 4) (hr.mono (by decide) : Room (10 + 1) _) (by rfl) T.z_all T.t_is_letter rfl nd (pi_list (pv 2)) (blkOk_by (own := [("word", 4)]) (N := N_is_letter) (sc := defScope s_is_letter) (by decide +kernel)) (by decide +kernel) rfl rfl
      (fun _ _ _ _ _ _ => pg_name (i := 4) nd rfl (Or.inl rfl)) (fun _ _ _ _ _ _ => pe_cF (R_is_name T) ((hr.in1.in1.deeper _).mono (by decide)) (by rfl) T.g_is_name F1.kp (pa_cons (pv 4) pa_nil))))))), ?_⟩
  refine ⟨_, rfl, _, _, _, _, true, rfl, .ty _, .base (.tup ha), kit_ty (by decide +kernel), ?_⟩
  refine ⟨true, rfl, ?_⟩
  refine iteF ?_
  refine ⟨_, rfl, a, _, rfl, .inr (.inl (.inl ha)), ?_⟩
  refine ⟨rfl, _, rfl, ?_⟩
  refine iteF ?_
  refine ⟨_, rfl, a, _, rfl, .inl (.inl ha), rfl, _, _, rfl, _, _, rfl, _, _, rfl, rfl, ?_⟩
  refine ⟨_, rfl, L.snd, rfl, n1, tb, fun H1 f1 => ?_⟩
  refine ⟨true, rfl, iteF ?_⟩
  have hl1 : H1 l = some (.lst (L.ws.map V.str)) := f1.at hl
  refine ⟨_, rfl, _, _, _, _, true, rfl, .ty _, .base (.lst hl1), kit_ty (by decide +kernel), ?_⟩
  refine ⟨true, rfl, iteF ?_⟩
  refine ⟨_, rfl, L.sz, rfl, n3, true, rfl, iteF ?_⟩
  refine ⟨_, rfl, l, rfl, ⟨_, SqL.of hl1⟩, f1.2 _ mtL, fun H2 t2 => ?_⟩
  have f2 : Fr K [] H1 H2 := Fr.tab f1.2 t2 mtL
  have hl2 : H2 l = some (.lst (L.ws.map V.str)) := f2.at hl1
  refine g_list (xs := L.ws.map V.str) (fun _ H => Fr K [] H2 H) (Fr.refl f2.2) (fun i H _ f => SqL.of (f.at hl2)) (fun i a H ha f => ?_) (fun H f => k H (f1.trans (f2.trans f)))
  obtain ⟨x, hx, rfl⟩ := at_map ha
  refine ⟨rfl, _, rfl, x, rfl, n2 x (List.mem_of_getElem? hx), f.2, fun H3 f3 => ⟨true, rfl, iteT (f.trans f3)⟩⟩
open SkX in
theorem R_name_key (T : Txt w K mg base) : ∃ fd, FnOk P w K mg base CX0 1 (a_name_key K) fd ["name"] spKey ∧ Binds K fd ["name"] [] ∧ PySem.W.keepIn K (.ref (a_name_key K)) = true := by
  obtain ⟨fd, F⟩ := T.f_name_key
  refine ⟨fd, F.ok sc_name_key ?_ ?_, F.bindsN bd_name_key, F.kp⟩
  · rintro vs H Q E ⟨x, rfl, _⟩; rfl
  rintro cdv A outer s H vs Q E hr ⟨x, rfl, hx, k⟩
  refine ⟨_, PSs.nox (pss_one (ps_ret (pe_tup (pa_cons (pe_callB call_len_str (by rfl) T.z_len PySem.boot_len (pa_cons (pv 0) pa_nil)) (pa_cons (pv 0) pa_nil))))), ?_⟩
  exact ⟨_, rfl, x, rfl, Nat.le_trans hx (by decide), _, rfl, by show 2 ≤ sizeLine; decide, k⟩
def spInOrder (K : PySem.W.Frag) : Sp := fun vs H Q _ => ∃ (l : Addr) (ns : List Str), vs = [.ref l] ∧ SqL K H l (ns.map V.str) ∧ ns.length ≤ 1000 ∧ (∀ x ∈ ns, x.length ≤ 1000) ∧ Tb K H ∧
  ∀ (H' : Hp) (a : Addr) (ns' : List Str), Fr K [] H H' → H' a = none → ns'.Perm ns → ns'.Pairwise SkX.NLe → Q (.ref a) (upd H' a (.lst (ns'.map V.str)))
theorem R_in_order (T : Txt w K mg base) : FnR P w K mg base CX0 6 (a_in_order K) (spInOrder K) := by
  refine mkR T.f_in_order sc_in_order bd_in_order ?_ ?_
  · rintro vs H Q E ⟨l, ns, rfl, _⟩; rfl
  rintro cdv A outer s H vs Q E hr ⟨l, ns, rfl, hs, hn, hx, tb, k⟩
  obtain ⟨fd, G, b, kp⟩ := R_name_key (P := P) T
  refine ⟨_, pss_one (ps_ret (pe_callBK (SkX.cr_sortedNames G b (hr.mono (by decide) : Room (1 + 2) _)) (by rfl) T.z_sorted (by decide +kernel) (pa_cons (pv 0) pa_nil) (pk_cons (pe_glob (by rfl) T.g_name_key (v := .ref (a_name_key K)) rfl) pk_nil))), ?_⟩
  refine ⟨_, rfl, l, ns, rfl, rfl, hs, hn, hx, fun H' a ns' sm na p o => k H' a ns' (Fr.same tb sm) na p o⟩
end
end So
end

section
set_option Elab.async false
set_option linter.all false
set_option maxRecDepth 100000
set_option maxHeartbeats 4000000
namespace So
open PySem PySem.Spec PyProof.Rows L2 GxA
open GxR (TabB TabG Tabbed)
/-! ### the reader -/
def rfs (wl : Addr) (row : V) (i : Nat) : List (Str × V) := [("words", .ref wl), ("row", row), ("at", .int i)]
theorem rfs_words (wl : Addr) (row : V) (i : Nat) : (rfs wl row i).lookup ("words" : Str) = some (.ref wl) := rfl
theorem rfs_at (wl : Addr) (row : V) (i : Nat) : (rfs wl row i).lookup ("at" : Str) = some (.int i) := rfl
theorem rfs_put (wl : Addr) (row : V) (i j : Nat) : putF "at" (.int j) (rfs wl row i) = rfs wl row j := rfl
theorem rfs_make (wl : Addr) (row : V) : putF "at" (.int 0) (putF "row" row (putF "words" (.ref wl) [])) = rfs wl row 0 := rfl
/-- the row of the reader that is spoken of -/
class RowV where
  v : V
instance (priority := low) rowV0 : RowV := ⟨.non⟩
theorem rfs_inj {C C' dx dx' wl wl' : Addr} {row row' : V} {i j : Nat} (h : some (HO.ins C dx (rfs wl row i)) = some (HO.ins C' dx' (rfs wl' row' j))) : row = row' := by
  injection h with h
  injection h with _ _ h
  injection h with _ h
  injection h with h _
  injection h
variable [RowV]
/-- a reader at r, its words, how far it is -/
structure RdAt (K : PySem.W.Frag) (H : Hp) (r wl : Addr) (ws : List Str) (i : Nat) : Prop where
  ob : ∃ dx row, H r = some (.ins (C_Reader K) dx (rfs wl row i))
  rv : ∀ dx row, H r = some (.ins (C_Reader K) dx (rfs wl row i)) → row = RowV.v
  wl : H wl = some (.lst (ws.map V.str))
theorem RdAt.of {K : PySem.W.Frag} {H : Hp} {r wl dx : Addr} {row : V} {ws : List Str} {i : Nat} (e : H r = some (.ins (C_Reader K) dx (rfs wl row i))) (hw : H wl = some (.lst (ws.map V.str))) (hv : row = RowV.v) : RdAt K H r wl ws i :=
  ⟨⟨dx, row, e⟩, fun dx' row' e' => by rw [e] at e'; rw [← rfs_inj e']; exact hv, hw⟩
theorem RdAt.obv {K : PySem.W.Frag} {H : Hp} {r wl : Addr} {ws : List Str} {i : Nat} (R : RdAt K H r wl ws i) : ∃ dx, H r = some (.ins (C_Reader K) dx (rfs wl RowV.v i)) := by
  obtain ⟨dx, row, e⟩ := R.ob
  rw [← R.rv dx row e]
  exact ⟨dx, e⟩
theorem RdAt.ins {K : PySem.W.Frag} {H : Hp} {r wl : Addr} {ws : List Str} {i : Nat} (R : RdAt K H r wl ws i) : InsAll H [r] := by
  obtain ⟨dx, row, e⟩ := R.ob
  exact InsAll.one e
theorem RdAt.nl {K : PySem.W.Frag} {H : Hp} {r wl : Addr} {ws : List Str} {i : Nat} (R : RdAt K H r wl ws i) : wl ≠ r := by
  obtain ⟨dx, row, e⟩ := R.ob
  exact ne_of R.wl e (by intro z; cases z)
theorem iteNT {c A B : Prop} [Decidable c] (hc : ¬ c) (h : A) : if (!decide c) = true then A else B := by
  rw [decide_eq_false hc]
  exact iteT h
theorem RdAt.move {K : PySem.W.Frag} {H : Hp} {r wl : Addr} {ws : List Str} {i : Nat} (R : RdAt K H r wl ws i) (tb : Tb K H) {dx : Addr} {row : V} (e : H r = some (.ins (C_Reader K) dx (rfs wl row i))) (j : Nat) :
    Fr K [r] H (upd H r (.ins (C_Reader K) dx (rfs wl row j))) ∧ RdAt K (upd H r (.ins (C_Reader K) dx (rfs wl row j))) r wl ws j :=
  ⟨Fr.put tb e (by intro _ z; cases z) (List.mem_singleton.mpr rfl), .of upd_same (by rw [upd_ne R.nl]; exact R.wl) (R.rv dx row e)⟩
section
variable {P : Program} {w : World} {K : PySem.W.Frag} {mg : Str → Option Value} {base : Heap}
theorem Fr.put3 {H : Hp} {r : Addr} {o o1 o2 o3 : HO} (t : Tb K H) (h : H r = some o) (n : NT o) (n1 : NT o1) (n2 : NT o2) : Fr K [r] H (upd (upd (upd H r o1) r o2) r o3) := by
  have a := Fr.put (E := [r]) (o' := o1) t h n (List.mem_singleton.mpr rfl)
  have b := Fr.put (E := [r]) (o' := o2) a.2 upd_same n1 (List.mem_singleton.mpr rfl)
  have c := Fr.put (E := [r]) (o' := o3) b.2 upd_same n2 (List.mem_singleton.mpr rfl)
  exact (a.trans b).trans c
def spRInit (K : PySem.W.Frag) : Sp := fun vs H Q _ => ∃ (r dx wl : Addr) (row : V) (ws : List Str), vs = [.ref r, .ref wl, row] ∧ row = RowV.v ∧ H r = some (.ins (C_Reader K) dx []) ∧ H wl = some (.lst (ws.map V.str)) ∧ Tb K H ∧
  ∀ H', Fr K [r] H H' → RdAt K H' r wl ws 0 → Q .non H'
theorem R_Reader_init (T : Txt w K mg base) : FnR P w K mg base CX0 1 (a_Reader_init K) (spRInit K) := by
  refine mkR T.f_Reader_init sc_Reader_init bd_Reader_init ?_ ?_
  · rintro vs H Q E ⟨r, dx, wl, row, ws, rfl, _⟩; rfl
  rintro cdv A outer s H vs Q E hr ⟨r, dx, wl, row, ws, rfl, hrv, hr0, hw, tb, k⟩
  refine ⟨_, pss_cons (ps_fld (pv 0) (pv 1) rfl) (pss_cons (ps_fld (pv 0) (pv 2) rfl) (pss_one (ps_fld (pv 0) pe_int rfl))), ?_⟩
  refine ⟨_, rfl, _, rfl, r, _, dx, [], rfl, hr0, T.c_Reader, T.n_Reader_words, by decide, ?_⟩
  refine ⟨_, rfl, _, rfl, r, _, dx, _, rfl, upd_same, T.c_Reader, T.n_Reader_row, (by show 1 < 1000; decide), ?_⟩
  refine ⟨_, rfl, r, _, dx, _, rfl, upd_same, T.c_Reader, T.n_Reader_at, (by show 2 < 1000; decide), ?_⟩
  have nw : wl ≠ r := ne_of hw hr0 (by intro z; cases z)
  refine k _ (Fr.put3 tb hr0 (by intro _ z; cases z) (by intro _ z; cases z) (by intro _ z; cases z)) (.of (dx := dx) (row := row) (by rw [upd_same]; exact congrArg (fun z => some (HO.ins (C_Reader K) dx z)) (rfs_make wl row)) ?_ hrv)
  · rw [upd_ne nw, upd_ne nw, upd_ne nw]; exact hw
/-- the word that comes next -/
def nxt (ws : List Str) (i : Nat) : Str := ws.getD i ""
def spPeek (K : PySem.W.Frag) : Sp := fun vs H Q _ => ∃ (r wl : Addr) (ws : List Str) (i : Nat), vs = [.ref r] ∧ RdAt K H r wl ws i ∧ Q (.str (nxt ws i)) H
theorem R_peek (T : Txt w K mg base) : FnR P w K mg base CX0 1 (a_Reader_peek K) (spPeek K) := by
  refine mkR T.f_Reader_peek sc_Reader_peek bd_Reader_peek ?_ ?_
  · rintro vs H Q E ⟨r, wl, ws, i, rfl, _⟩; rfl
  rintro cdv A outer s H vs Q E hr ⟨r, wl, ws, i, rfl, R, k⟩
  refine ⟨_, pss_cons (ps_if (pt_cmpR op_lt (pe_fld (pv 0) rfl) (pe_callB call_len_seq (by rfl) T.z_len PySem.boot_len (pa_cons (pe_fld (pv 0) rfl) pa_nil)) (nomark _))
      (pss_one (ps_ret (pe_ix ix_list (pe_fld (pv 0) rfl) (pe_fld (pv 0) rfl) (fun _ _ => rfl)))) pss_nil)
    (pss_one (ps_ret pe_str)), ?_⟩
  obtain ⟨dx, row, e⟩ := R.ob
  refine ⟨_, rfl, r, _, dx, _, _, rfl, e, T.c_Reader, T.n_Reader_at, rfs_at .., ?_⟩
  refine ⟨_, rfl, r, _, dx, _, _, rfl, e, T.c_Reader, T.n_Reader_words, rfs_words .., wl, _, rfl, .inl (SqL.of R.wl), ?_⟩
  refine ⟨_, _, rfl, rfl, _, rfl, ?_⟩
  by_cases lt : i < ws.length
  · refine iteD (by rw [List.length_map]; omega) ?_
    refine ⟨_, rfl, r, _, dx, _, _, rfl, e, T.c_Reader, T.n_Reader_words, rfs_words .., _, rfl, r, _, dx, _, _, rfl, e, T.c_Reader, T.n_Reader_at, rfs_at .., ?_⟩
    refine ⟨wl, _, _, V.str (nxt ws i), rfl, rfl, SqL.of R.wl, atI_nat ?_, k⟩
    rw [List.getElem?_map, List.getElem?_eq_getElem lt]
    show some (V.str ws[i]) = _
    unfold nxt
    rw [List.getD_eq_getElem?_getD, List.getElem?_eq_getElem lt]
    rfl
  · refine iteN (by rw [List.length_map]; omega) ?_
    have e2 : nxt ws i = "" := by
      unfold nxt
      rw [List.getD_eq_getElem?_getD, List.getElem?_eq_none (by omega)]
      rfl
    rw [e2] at k
    exact k
def spTake (K : PySem.W.Frag) : Sp := fun vs H Q _ => ∃ (r wl : Addr) (ws : List Str) (i : Nat) (x : Str), vs = [.ref r, .str x] ∧ RdAt K H r wl ws i ∧ Tb K H ∧ nxt ws i = x ∧ ∀ H', Fr K [r] H H' → RdAt K H' r wl ws (i + 1) → Q .non H'
theorem R_take (T : Txt w K mg base) : FnR P w K mg base CX0 2 (a_Reader_take K) (spTake K) := by
  refine mkR T.f_Reader_take sc_Reader_take bd_Reader_take ?_ ?_
  · rintro vs H Q E ⟨r, wl, ws, i, x, rfl, _⟩; rfl
  rintro cdv A outer s H vs Q E hr ⟨r, wl, ws, i, x, rfl, R, tb, hx, k⟩
  refine ⟨_, pss_cons (ps_if (pt_cmpR op_ne (pe_m0F (pv 0) T.c_Reader T.m_Reader_peek (R_peek T) hr) (pv 1) (nomark _)) (pss_one ps_never) pss_nil)
    (pss_one (ps_fldaug (pv 0) pe_int in_add)), ?_⟩
  obtain ⟨dx, row, e⟩ := R.ob
  refine ⟨_, rfl, r, dx, _, rfl, e, rfl, r, wl, ws, i, rfl, R, _, rfl, rfl, _, rfl, iteNS (by rw [hx]) ?_⟩
  refine ⟨_, rfl, r, _, dx, _, _, rfl, e, T.c_Reader, T.n_Reader_at, rfs_at .., _, _, rfl, rfl, dx, _, e, (by show 3 < 1000; decide), ?_⟩
  exact k _ (R.move tb e (i + 1)).1 (R.move tb e (i + 1)).2
def spSkip (K : PySem.W.Frag) : Sp := fun vs H Q _ => ∃ (r wl : Addr) (ws : List Str) (i : Nat) (x : Str), vs = [.ref r, .str x] ∧ RdAt K H r wl ws i ∧ Tb K H ∧
  (nxt ws i = x → ∀ H', Fr K [r] H H' → RdAt K H' r wl ws (i + 1) → Q (.bl true) H') ∧ (nxt ws i ≠ x → Q (.bl false) H)
theorem R_skip (T : Txt w K mg base) : FnR P w K mg base CX0 2 (a_Reader_skip K) (spSkip K) := by
  refine mkR T.f_Reader_skip sc_Reader_skip bd_Reader_skip ?_ ?_
  · rintro vs H Q E ⟨r, wl, ws, i, x, rfl, _⟩; rfl
  rintro cdv A outer s H vs Q E hr ⟨r, wl, ws, i, x, rfl, R, tb, k1, k2⟩
  refine ⟨_, pss_cons (ps_if (pt_cmpR op_ne (pe_m0F (pv 0) T.c_Reader T.m_Reader_peek (R_peek T) hr) (pv 1) (nomark _)) (pss_one (ps_ret pe_bl)) pss_nil)
    (pss_cons (ps_fldaug (pv 0) pe_int in_add) (pss_one (ps_ret pe_bl))), ?_⟩
  obtain ⟨dx, row, e⟩ := R.ob
  refine ⟨_, rfl, r, dx, _, rfl, e, rfl, r, wl, ws, i, rfl, R, _, rfl, rfl, _, rfl, ?_⟩
  by_cases hx : nxt ws i = x
  · refine iteNS (by rw [hx]) ?_
    refine ⟨_, rfl, r, _, dx, _, _, rfl, e, T.c_Reader, T.n_Reader_at, rfs_at .., _, _, rfl, rfl, dx, _, e, (by show 3 < 1000; decide), ?_⟩
    exact k1 hx _ (R.move tb e (i + 1)).1 (R.move tb e (i + 1)).2
  · exact iteNT (fun z => hx (by injection z)) (k2 hx)
def spTakeName (K : PySem.W.Frag) : Sp := fun vs H Q _ => ∃ (r wl : Addr) (ws : List Str) (i : Nat), vs = [.ref r] ∧ RdAt K H r wl ws i ∧ Tb K H ∧ Nm (nxt ws i) ∧ ∀ H', Fr K [r] H H' → RdAt K H' r wl ws (i + 1) → Q (.str (nxt ws i)) H'
theorem RdAt.fr {H H' : Hp} {r wl : Addr} {ws : List Str} {i : Nat} (R : RdAt K H r wl ws i) (f : Fr K [] H H') : RdAt K H' r wl ws i := by
  obtain ⟨dx, row, e⟩ := R.ob
  exact .of (f.at e) (f.at R.wl) (R.rv dx row e)
theorem R_take_name (T : Txt w K mg base) : FnR P w K mg base CX0 8 (a_Reader_take_name K) (spTakeName K) := by
  refine mkR T.f_Reader_take_name sc_Reader_take_name bd_Reader_take_name ?_ ?_
  · rintro vs H Q E ⟨r, wl, ws, i, rfl, _⟩; rfl
  rintro cdv A outer s H vs Q E hr ⟨r, wl, ws, i, rfl, R, tb, hn, k⟩
  obtain ⟨_, F1⟩ := T.f_is_name
  have nd := sc_Reader_take_name.nd
  refine ⟨_, pss_cons (ps_set (i := 1) nd rfl (.inl rfl) (pe_m0F (pv 0) T.c_Reader T.m_Reader_peek (R_peek T) (hr.mono (by decide))))
    (pss_cons (ps_if (pt_not (pt_val (pe_cF (R_is_name T) (hr.mono (by decide)) (by rfl) T.g_is_name F1.kp (pa_cons (pv 1) pa_nil)))) (pss_one ps_never) pss_nil)
    (pss_cons (ps_fldaug (pv 0) pe_int in_add) (pss_one (ps_ret (pv 1))))), ?_⟩
  obtain ⟨dx, row, e⟩ := R.ob
  refine ⟨_, rfl, r, dx, _, rfl, e, rfl, r, wl, ws, i, rfl, R, ?_⟩
  refine ⟨_, rfl, _, rfl, hn, tb, fun H1 f1 => ⟨true, rfl, iteF ?_⟩⟩
  refine ⟨_, rfl, r, _, dx, _, _, rfl, f1.at e, T.c_Reader, T.n_Reader_at, rfs_at .., _, _, rfl, rfl, dx, _, f1.at e, (by show 3 < 1000; decide), ?_⟩
  have m := (R.fr f1).move f1.2 (f1.at e) (i + 1)
  exact ⟨_, rfl, k _ (f1.nil.trans m.1) m.2⟩
end
end So
end

section
set_option Elab.async false
set_option linter.all false
set_option maxRecDepth 100000
set_option maxHeartbeats 4000000
namespace So
open PySem PySem.Spec PyProof.Rows L2 GxA
open GxR (TabB TabG Tabbed)
variable [RowV]
/-! ### numbers -/
def NumOk (x : Str) (n : Nat) : Bool := decide (1 ≤ x.length) && decide (x.length ≤ 5) && (match x.cps.toList with
  | c :: _ => decide (c = 48 → x.length = 1)
  | [] => false) && x.cps.toList.all (fun c => decide (c ∈ ("0123456789" : Str).cps.toList)) && decide (PySem.intText? x = some (n : Int))
theorem num_ok : ∀ n ∈ nums, NumOk (numS n) n = true := by decide +kernel
theorem drop_nxt {ws : List Str} {i : Nat} {x : Str} {r : List Str} (h : ws.drop i = x :: r) : nxt ws i = x ∧ ws.drop (i + 1) = r := by
  have e : ws[i]? = some x := by
    have := congrArg (fun z => z[0]?) h
    simpa [List.getElem?_drop] using this
  refine ⟨?_, ?_⟩
  · unfold nxt
    rw [List.getD_eq_getElem?_getD, e]; rfl
  · rw [← List.tail_drop, h]; rfl
theorem drop_lt {ws : List Str} {i : Nat} {x : Str} {r : List Str} (h : ws.drop i = x :: r) : i < ws.length := by
  rcases Nat.lt_or_ge i ws.length with k | k
  · exact k
  · rw [List.drop_eq_nil_of_le k] at h; cases h
section
variable {P : Program} {w : World} {K : PySem.W.Frag} {mg : Str → Option Value} {base : Heap}
theorem NotT.lst {H : Hp} {D : Addr} {xs : List V} (h : H D = some (.lst xs)) : NotT K H D := fun o e n z => by
  rw [h] at e
  cases e
  cases z
theorem NotT.no {H : Hp} {D : Addr} (h : H D = none) : NotT K H D := fun o e n z => by
  rw [h] at e
  cases e
theorem Fr.upNew {E : List Addr} {H H1 : Hp} {D : Addr} {o : HO} (f : Fr K E H H1) (t : Tb K H) (h : H D = none) (nt : NotT K H1 D := by first | exact NotT.lst (by assumption) | exact NotT.no (by assumption)) : Fr K E H (upd H1 D o) :=
  ⟨fun p u n e z => by rw [upd_ne (ne_of_none e h)]; exact f.1 p u n e z, f.2.upd nt, fun p z => f.3 p (upd_live p z), fun p φ e => by rw [upd_ne (ne_of_none e h)]; exact f.4 p φ e⟩
theorem RdAt.upd {H : Hp} {r wl D : Addr} {ws : List Str} {i : Nat} {o : HO} (R : RdAt K H r wl ws i) (h1 : r ≠ D) (h2 : wl ≠ D) : RdAt K (L2.upd H D o) r wl ws i := by
  obtain ⟨dx, row, e⟩ := R.ob
  exact .of (by rw [upd_ne h1]; exact e) (by rw [upd_ne h2]; exact R.wl) (R.rv dx row e)
def spIsNum (K : PySem.W.Frag) : Sp := fun vs H Q _ => ∃ n : Nat, vs = [.str (numS n)] ∧ n ∈ nums ∧ Tb K H ∧ ∀ H', Fr K [] H H' → Q (.bl true) H'
theorem R_is_number (T : Txt w K mg base) : FnR P w K mg base CX0 6 (a_is_number K) (spIsNum K) := by
  refine mkRC (p := ("is_number", none)) rfl T.f_is_number sc_is_number bd_is_number ?_ ?_
  · rintro vs H Q E ⟨x, rfl, _⟩; rfl
  rintro A outer s H vs Q E hr ⟨n, rfl, hn, tb, k⟩
  obtain ⟨tS, hS⟩ := T.i_DIGITS
  obtain ⟨tL, hL⟩ := T.i_LONGEST_NUMBER
  have nd := sc_is_number.nd
  refine ⟨_, pss_cons (ps_if (pt_not (pt_chain op_le op_le pe_int (pe_callB call_len_str (by rfl) T.z_len PySem.boot_len (pa_cons (pv 0) pa_nil)) (pe_glob (by rfl) hL (v := .int 5) ⟨_, rfl⟩)))
      (pss_one (ps_ret pe_bl)) pss_nil)
    (pss_cons (ps_if (PW.pt (pw_and (pt_cmpR op_eq (pe_ix ix_str (pv 0) pe_int (fun _ _ => rfl)) pe_str (nomark _)) (pw_and1 (pt_cmpR op_gt (pe_callB call_len_str (by rfl) T.z_len PySem.boot_len (pa_cons (pv 0) pa_nil)) pe_int (nomark _)))))
      (pss_one (ps_ret pe_bl)) pss_nil)
    (pss_one (ps_ret (pe_allG (own := [("sign", 1)]) (g := gName 1) hr (by rfl) T.z_all T.t_is_number rfl nd (pi_str (pv 0)) (blkOk_by (own := [("sign", 1)]) (N := N_is_number) (sc := defScope s_is_number) (by decide +kernel)) (by decide +kernel) rfl rfl
      (fun _ _ _ _ _ _ => pg_name (i := 1) nd rfl (Or.inl rfl)) (fun _ _ _ _ _ _ => pe_cmpR op_in_sign (pv 1) (pe_glob (by rfl) hS (v := .str "0123456789") ⟨_, rfl⟩) rfl))))), ?_⟩
  have ok := num_ok n hn
  generalize numS n = x at ok ⊢
  unfold NumOk at ok
  simp only [Bool.and_eq_true, decide_eq_true_eq, List.all_eq_true] at ok
  obtain ⟨⟨⟨⟨h1, h2⟩, h3⟩, h4⟩, h5⟩ := ok
  have line : x.length ≤ sizeLine := Nat.le_trans h2 (by decide)
  refine ⟨_, rfl, x, rfl, line, ?_⟩
  refine ⟨_, _, rfl, rfl, _, rfl, iteD (Int.ofNat_le.mpr h1) ?_⟩
  refine ⟨_, _, rfl, rfl, _, rfl, ?_⟩
  rw [decide_eq_true (show ((x.length : Int) ≤ 5) by omega)]
  refine iteF ?_
  cases hc : x.cps.toList with
  | nil => rw [hc] at h3; cases h3
  | cons c cs =>
    rw [hc] at h3
    have h3 : c = 48 → x.length = 1 := of_decide_eq_true h3
    refine ⟨_, rfl, x, 0, c, rfl, rfl, line, ?_, ?_⟩
    · exact atI_nat (j := 0) (by rw [hc]; rfl)
    refine ⟨rfl, _, rfl, ?_⟩
    have fin : tRet (tGenC true (tb_is_number K) (iStr (tVar 0)) (gName 1) (tOp (fun x y H Q => ∃ c z, x = V.str { cps := #[c] } ∧ y = V.str z ∧ Q (V.bl (decide (c ∈ z.cps.toList))) H) (tVar 1) (tC (V.str "0123456789"))) [1]) { nx := fun _ H' => Q .non H', rt := Q } (start N_is_number [V.str x]) H := by
      refine ⟨_, rfl, x, rfl, tb _ mtD, fun H2 t2 => ?_⟩
      refine g_str (fun _ H => Fr K [] H2 H) (Fr.refl (Fr.tab (E := []) tb t2 mtD).2) (fun i a H ha f => ?_) (fun H f => k H ((Fr.tab tb t2 mtD).trans f))
      refine ⟨rfl, _, rfl, _, _, rfl, rfl, _, rfl, ?_⟩
      rw [decide_eq_true (h4 a (by rw [Array.mem_toList_iff]; exact Array.mem_of_getElem? ha))]
      exact iteT f
    by_cases e0 : V.str ⟨#[c]⟩ = V.str "0"
    · refine iteD e0 ?_
      have ec : c = 48 := by
        injection e0 with e0
        have := congrArg (fun z : Str => z.cps[0]?) e0
        exact Option.some.inj this
      refine ⟨_, rfl, x, rfl, line, _, _, rfl, rfl, _, rfl, ?_⟩
      refine iteN (by rw [h3 ec]; decide) fin
    · exact iteN e0 (iteF fin)
def spTakeNum (K : PySem.W.Frag) : Sp := fun vs H Q _ => ∃ (r wl : Addr) (ws : List Str) (i n : Nat), vs = [.ref r] ∧ RdAt K H r wl ws i ∧ Tb K H ∧ nxt ws i = numS n ∧ n ∈ nums ∧ ∀ H', Fr K [r] H H' → RdAt K H' r wl ws (i + 1) → Q (.int n) H'
theorem R_take_number (T : Txt w K mg base) : FnR P w K mg base CX0 8 (a_Reader_take_number K) (spTakeNum K) := by
  refine mkR T.f_Reader_take_number sc_Reader_take_number bd_Reader_take_number ?_ ?_
  · rintro vs H Q E ⟨r, wl, ws, i, n, rfl, _⟩; rfl
  rintro cdv A outer s H vs Q E hr ⟨r, wl, ws, i, n, rfl, R, tb, hx, hn, k⟩
  obtain ⟨_, F1⟩ := T.f_is_number
  have nd := sc_Reader_take_number.nd
  refine ⟨_, pss_cons (ps_set (i := 1) nd rfl (.inl rfl) (pe_m0F (pv 0) T.c_Reader T.m_Reader_peek (R_peek T) (hr.mono (by decide))))
    (pss_cons (ps_if (pt_not (pt_val (pe_cF (R_is_number T) (hr.mono (by decide)) (by rfl) T.g_is_number F1.kp (pa_cons (pv 1) pa_nil)))) (pss_one ps_never) pss_nil)
    (pss_cons (ps_fldaug (pv 0) pe_int in_add) (pss_one (ps_ret (pe_callTy call_int_str (by rfl) T.z_int (by decide +kernel) (pa_cons (pv 1) pa_nil)))))), ?_⟩
  obtain ⟨dx, row, e⟩ := R.ob
  refine ⟨_, rfl, r, dx, _, rfl, e, rfl, r, wl, ws, i, rfl, R, ?_⟩
  rw [hx]
  refine ⟨_, rfl, n, rfl, hn, tb, fun H1 f1 => ⟨true, rfl, iteF ?_⟩⟩
  refine ⟨_, rfl, r, _, dx, _, _, rfl, f1.at e, T.c_Reader, T.n_Reader_at, rfs_at .., _, _, rfl, rfl, dx, _, f1.at e, (by show 3 < 1000; decide), ?_⟩
  have m := (R.fr f1).move f1.2 (f1.at e) (i + 1)
  have ok := num_ok n hn
  unfold NumOk at ok
  simp only [Bool.and_eq_true, decide_eq_true_eq] at ok
  exact ⟨_, rfl, _, n, rfl, ok.2, Nat.le_trans ok.1.1.1.2 (by decide), k _ (f1.nil.trans m.1) m.2⟩
end
end So
end

section
set_option Elab.async false
set_option linter.all false
set_option maxRecDepth 100000
set_option maxHeartbeats 4000000
namespace So
open PySem PySem.Spec PyProof.Rows L2 GxA
open GxR (TabB TabG Tabbed)
variable [RowV]
/-! ### facts and deeds -/
def factN : Cnd → List Str
  | .fact _ n => [n]
  | .pair a b => [a, b]
  | _ => []
def factK : Cnd → Str
  | .fact k _ => k
  | .pair _ _ => "pair"
  | _ => ""
def isF : Cnd → Prop
  | .fact k n => k ∈ kinds1 ∧ Nm n
  | .pair a b => Nm a ∧ Nm b
  | _ => False
abbrev factsL : List (Str × Int) := [("from", 1), ("has", 1), ("first", 1), ("last", 1), ("pair", 2), ("marked", 1)]
theorem isF_told {c : Cnd} (h : isF c) : c.told = factK c :: factN c := by cases c <;> first | rfl | exact h.elim
theorem isF_p {c : Cnd} (h : isF c) : c.p = .tuple ((factK c :: factN c).map PyData.str) := by cases c <;> first | rfl | exact h.elim
theorem isF_mem {c : Cnd} (h : isF c) : (factK c, ((factN c).length : Int)) ∈ factsL := by
  cases c with
  | fact k n =>
    have hk : k ∈ kinds1 := h.1
    simp only [kinds1, List.mem_cons, List.not_mem_nil, or_false] at hk
    rcases hk with rfl | rfl | rfl | rfl | rfl <;> simp [factsL, factK, factN]
  | pair a b => simp [factsL, factK, factN]
  | _ => exact h.elim
theorem isF_nm {c : Cnd} (h : isF c) : ∀ x ∈ factN c, Nm x := by
  cases c with
  | fact k n => intro x hx; rw [List.mem_singleton.mp hx]; exact h.2
  | pair a b =>
    intro x hx
    rcases List.mem_cons.mp hx with rfl | hx
    · exact h.1
    · rw [List.mem_singleton.mp hx]; exact h.2
  | _ => exact h.elim
theorem isF_len {c : Cnd} (h : isF c) : (factN c).length ≤ 2 := by
  cases c <;> first | exact h.elim | (simp [factN])
/-- a deed: its kind, its name -/
abbrev Deed := Str × Str
def dTold (d : Deed) : List Str := if d.1 = "stop" then ["stop"] else [d.1, d.2]
def dP (d : Deed) : PyData := .tuple [.str d.1, .str d.2]
def kindsD : List Str := ["mark", "unmark", "file", "pass"]
def dWf (d : Deed) : Prop := d = (("stop" : Str), ("" : Str)) ∨ (d.1 ∈ kindsD ∧ Nm d.2)
theorem take_snoc {xs : List Str} {j : Nat} {x : Str} (h : xs[j]? = some x) : (xs.take j).map V.str ++ [V.str x] = (xs.take (j + 1)).map V.str := by
  rw [List.take_add_one, h, List.map_append]; rfl
theorem drop_at {ws xs r : List Str} {i : Nat} (h : ws.drop i = xs ++ r) {j : Nat} {x : Str} (e : xs[j]? = some x) : nxt ws (i + j) = x := by
  have : ws[i + j]? = some x := by
    rw [← List.getElem?_drop, h, List.getElem?_append_left (List.getElem?_eq_some_iff.mp e).1]
    exact e
  unfold nxt
  rw [List.getD_eq_getElem?_getD, this]; rfl
theorem drop_app {ws xs r : List Str} {i : Nat} (h : ws.drop i = xs ++ r) : ws.drop (i + xs.length) = r := by
  rw [← List.drop_drop, h, List.drop_left]
section
variable {P : Program} {w : World} {K : PySem.W.Frag} {mg : Str → Option Value} {base : Heap}
def spReadFact (K : PySem.W.Frag) : Sp := fun vs H Q _ => ∃ (r wl : Addr) (ws : List Str) (i : Nat) (c : Cnd) (rest : List Str), vs = [.ref r] ∧ RdAt K H r wl ws i ∧ Tb K H ∧ isF c ∧ ws.drop i = c.told ++ rest ∧
  ∀ H' v, Fr K [r] H H' → RdAt K H' r wl ws (i + c.told.length) → ND K H [] H' v c.p → Q v H'
theorem R_read_fact (T : Txt w K mg base) : FnR P w K mg base CX0 10 (a_Reader_read_fact K) (spReadFact K) := by
  refine mkR T.f_Reader_read_fact sc_Reader_read_fact bd_Reader_read_fact ?_ ?_
  · rintro vs H Q E ⟨r, wl, ws, i, c, rest, rfl, _⟩; rfl
  rintro cdv A outer s H vs Q E hr ⟨r, wl, ws, i, c, rest, rfl, R, tb, hc, hd, k⟩
  have nd := sc_Reader_read_fact.nd
  obtain ⟨es, nn, D⟩ := T.t_FACTS
  refine ⟨_, pss_cons (ps_set (i := 1) nd rfl (.inl rfl) (pe_m0F (pv 0) T.c_Reader T.m_Reader_peek (R_peek T) (hr.mono (by decide))))
    (pss_cons (ps_if (pt_cmpR (op_notIn_kd D) (pv 1) (pe_glob (by rfl) T.g_FACTS (v := .ref (He.ga K "FACTS")) rfl) (by rfl)) (pss_one ps_never) pss_nil)
    (pss_cons (ps_fldaug (pv 0) pe_int in_add)
    (pss_cons (ps_setLc (i := 2) (own := [("_", 3)]) (g := gName 3) (tt := tYes) rfl nd rfl rfl (sw_true rfl rfl rfl (by decide +kernel))
        (pi_range1 (by rfl) T.z_range (pa_cons (pe_ix ix_kdict (pe_glob (by rfl) T.g_FACTS (v := .ref (He.ga K "FACTS")) rfl) (pv 1) (fun _ _ => rfl)) pa_nil))
        (blkOk_by (own := [("_", 3)]) (N := N_Reader_read_fact) (sc := defScope s_Reader_read_fact) (by decide +kernel)) (fun _ _ _ _ _ => pg_name (i := 3) nd rfl (Or.inl rfl)) (fun _ _ _ _ _ => pts_nil)
        (fun _ _ _ _ _ => pe_m0F (pv 0) T.c_Reader T.m_Reader_take_name (R_take_name T) (hr.mono (by decide))))
    (pss_one (ps_ret (pe_tup (pa_cons (pv 1) (StX.pa_star (pv 2) pa_nil)))))))), ?_⟩
  obtain ⟨dx, row, e⟩ := R.ob
  have ht := isF_told hc
  have hx : nxt ws i = factK c := by
    rw [ht] at hd
    exact (drop_nxt hd).1
  have hN : ws.drop (i + 1) = factN c ++ rest := by
    rw [ht] at hd
    exact (drop_nxt hd).2
  obtain ⟨u, hu, ru⟩ := T.v_FACTS _ (isF_mem hc)
  refine ⟨_, rfl, r, dx, _, rfl, e, rfl, r, wl, ws, i, rfl, R, ?_⟩
  rw [hx]
  refine ⟨_, rfl, _, _, rfl, rfl, hu, _, rfl, iteF ?_⟩
  refine ⟨_, rfl, r, _, dx, _, _, rfl, e, T.c_Reader, T.n_Reader_at, rfs_at .., _, _, rfl, rfl, dx, _, e, (by show 3 < 1000; decide), ?_⟩
  have m := R.move tb e (i + 1)
  obtain ⟨f1, R1⟩ := m
  let H1 : Hp := L2.upd H r (.ins (C_Reader K) dx (rfs wl row (i + 1)))
  have ll := isF_len hc
  refine ⟨_, rfl, He.ga K "FACTS", factK c, .int (factN c).length, rfl, rfl, ⟨es, nn, u, D.at_, D.lit, hu, ru⟩, _, rfl, by omega, by omega, fun D2 hD => ?_⟩
  have nD : r ≠ D2 := by
    obtain ⟨_, _, e1⟩ := R1.ob
    exact ne_of_none e1 hD
  have nw : wl ≠ D2 := ne_of_none R1.wl hD
  refine lc_range (lo := 0) (n := (factN c).length) (fun j H => Fr K [r] H1 H ∧ RdAt K H r wl ws (i + 1 + j) ∧ H D2 = some (.lst (((factN c).take j).map V.str))) ⟨(Fr.refl f1.2).upNew f1.2 hD, R1.upd nD nw, by rw [upd_same]; rfl⟩
    (fun j H hj ⟨f, R2, h2⟩ => ?_) (fun H ⟨f, R2, h2⟩ => ?_)
  · refine ⟨rfl, ?_⟩
    obtain ⟨dx2, row2, e2⟩ := R2.ob
    have hj2 : (factN c)[j]? = some (factN c)[j] := List.getElem?_eq_getElem hj
    have hn := drop_at hN hj2
    refine ⟨_, rfl, r, dx2, _, rfl, e2, rfl, r, wl, ws, i + 1 + j, rfl, R2, f.2, by rw [hn]; exact isF_nm hc _ (List.getElem_mem hj), fun H3 f3 R3 => ?_⟩
    have h3 : H3 D2 = _ := f3.at h2 (by intro _ z; cases z) (fun z => nD (List.mem_singleton.mp z).symm)
    refine ⟨_, h3, ?_, (f.trans f3).upNew f1.2 hD, R3.upd nD nw, ?_⟩
    · rw [List.length_map, List.length_take]
      exact Nat.lt_of_le_of_lt (Nat.le_trans (Nat.min_le_right _ _) ll) (by decide)
    · rw [upd_same, hn, ← take_snoc hj2]
  · refine ⟨_, rfl, _, rfl, D2, _, rfl, .inr (SqL.of h2), ?_, ?_⟩
    · rw [List.take_length]
      simp only [List.length_cons, List.length_append, List.length_map, List.length_nil]
      exact Nat.le_trans (by omega : (factN c).length + 0 + 1 ≤ 3) (by decide)
    intro t nt
    have i1 : i + c.told.length = i + 1 + (factN c).length := by rw [ht, List.length_cons]; omega
    have g1 : Fr K [r] H (L2.upd H t (.tup [])) → True := fun _ => trivial
    have nr : r ≠ t := by
      obtain ⟨_, _, e2⟩ := R2.ob
      exact ne_of_none e2 nt
    refine k _ _ ((f1.trans f).trans (Fr.new f.2 nt)) (by rw [i1]; exact R2.upd nr (ne_of_none R2.wl nt)) ?_
    rw [isF_p hc]
    refine ND.tup ?_ upd_same ((f1.trans f).3 _ nt) (by simp)
    rw [List.take_length, List.append_nil]
    exact strs_trAll (xs := factK c :: factN c)
def spReadDeed (K : PySem.W.Frag) : Sp := fun vs H Q _ => ∃ (r wl : Addr) (ws : List Str) (i : Nat) (d : Deed) (rest : List Str), vs = [.ref r] ∧ RdAt K H r wl ws i ∧ Tb K H ∧ dWf d ∧ ws.drop i = dTold d ++ rest ∧
  ∀ H' v, Fr K [r] H H' → RdAt K H' r wl ws (i + (dTold d).length) → ND K H [] H' v (dP d) → Q v H'
theorem R_read_deed (T : Txt w K mg base) : FnR P w K mg base CX0 10 (a_Reader_read_deed K) (spReadDeed K) := by
  refine mkR T.f_Reader_read_deed sc_Reader_read_deed bd_Reader_read_deed ?_ ?_
  · rintro vs H Q E ⟨r, wl, ws, i, c, rest, rfl, _⟩; rfl
  rintro cdv A outer s H vs Q E hr ⟨r, wl, ws, i, d, rest, rfl, R, tb, hw, hd, k⟩
  have nd := sc_Reader_read_deed.nd
  refine ⟨_, pss_cons (ps_if (pt_val (pe_methR (pv 0) T.c_Reader T.m_Reader_skip (R_skip T) (hr.mono (by decide)) pass0 (pa_cons pe_str pa_nil))) (pss_one (ps_ret (pe_tup (pa_cons pe_str (pa_cons pe_str pa_nil))))) pss_nil)
    (pss_cons (ps_set (i := 1) nd rfl (.inl rfl) (pe_m0F (pv 0) T.c_Reader T.m_Reader_peek (R_peek T) (hr.mono (by decide))))
    (pss_cons (ps_if (pt_cmpR op_notIn_seq (pv 1) (pe_glob (by rfl) T.g_DEEDS (v := .ref (He.ga K "DEEDS")) rfl) (by rfl)) (pss_one ps_never) pss_nil)
    (pss_cons (ps_fldaug (pv 0) pe_int in_add)
    (pss_one (ps_ret (pe_tup (pa_cons (pv 1) (pa_cons (pe_m0F (pv 0) T.c_Reader T.m_Reader_take_name (R_take_name T) (hr.mono (by decide))) pa_nil)))))))), ?_⟩
  obtain ⟨dx, row, e⟩ := R.ob
  refine ⟨_, rfl, r, dx, _, rfl, e, rfl, r, wl, ws, i, "stop", rfl, R, tb, fun hx H1 f1 R1 => ?_, fun hx => ?_⟩
  · refine ⟨true, rfl, iteT ?_⟩
    refine ⟨by show 2 ≤ sizeLine; decide, fun t nt => ?_⟩
    rcases hw with rfl | ⟨h1, h2⟩
    · have e1 : dTold ((("stop" : Str), ("" : Str)) : Deed) = [("stop" : Str)] := by unfold dTold; exact if_pos rfl
      refine k _ _ (f1.trans (Fr.new f1.2 nt)) ?_ (ND.tup (.cons (.str _) (.cons (.str _) .nil)) upd_same (f1.3 _ nt) (by simp))
      rw [e1]
      obtain ⟨_, _, e2⟩ := R1.ob
      exact R1.upd (ne_of_none e2 nt) (ne_of_none R1.wl nt)
    · exfalso
      have n1 : d.1 ≠ "stop" := by
        intro z
        rw [z] at h1
        revert h1
        decide +kernel
      unfold dTold at hd
      rw [if_neg n1] at hd
      exact n1 ((drop_nxt hd).1.symm.trans hx)
  · refine ⟨false, rfl, iteF ?_⟩
    rcases hw with rfl | ⟨h1, h2⟩
    · exfalso
      have e1 : dTold ((("stop" : Str), ("" : Str)) : Deed) = [("stop" : Str)] := by unfold dTold; exact if_pos rfl
      rw [e1] at hd
      exact hx (drop_nxt hd).1
    · have n1 : d.1 ≠ "stop" := by
        intro z
        rw [z] at h1
        revert h1
        decide +kernel
      have e1 : dTold d = [d.1, d.2] := by unfold dTold; exact if_neg n1
      rw [e1] at hd k
      have q1 := drop_nxt hd
      have q2 := drop_nxt q1.2
      refine ⟨_, rfl, r, dx, _, rfl, e, rfl, r, wl, ws, i, rfl, R, ?_⟩
      rw [q1.1]
      refine ⟨_, rfl, _, _, rfl, .inr (T.t_DEEDS _), rfl, rfl, _, rfl, ?_⟩
      have hin : inV (V.str d.1) [.str "mark", .str "unmark", .str "file", .str "pass"] = true := by
        simp only [kindsD, List.mem_cons, List.not_mem_nil, or_false] at h1
        rcases h1 with h | h | h | h <;> rw [h] <;> decide +kernel
      show (if (if true = true then !inV (V.str d.1) [.str "mark", .str "unmark", .str "file", .str "pass"] else inV (V.str d.1) [.str "mark", .str "unmark", .str "file", .str "pass"]) = true then _ else _)
      rw [hin]
      refine iteF ?_
      refine ⟨_, rfl, r, _, dx, _, _, rfl, e, T.c_Reader, T.n_Reader_at, rfs_at .., _, _, rfl, rfl, dx, _, e, (by show 3 < 1000; decide), ?_⟩
      obtain ⟨f1, R1⟩ := R.move tb e (i + 1)
      obtain ⟨dx2, row2, e2⟩ := R1.ob
      refine ⟨_, rfl, _, rfl, r, dx2, _, rfl, e2, rfl, r, wl, ws, i + 1, rfl, R1, f1.2, by rw [q2.1]; exact h2, fun H3 f3 R3 => ?_⟩
      rw [q2.1]
      refine ⟨by show 2 ≤ sizeLine; decide, fun t nt => ?_⟩
      refine k _ _ ((f1.trans f3).trans (Fr.new f3.2 nt)) ?_ (ND.tup (.cons (.str _) (.cons (.str _) .nil)) upd_same ((f1.trans f3).3 _ nt) (by simp))
      obtain ⟨_, _, e3⟩ := R3.ob
      exact R3.upd (ne_of_none e3 nt) (ne_of_none R3.wl nt)
end
end So
end

section
set_option Elab.async false
set_option linter.all false
set_option maxRecDepth 100000
set_option maxHeartbeats 4000000
namespace So
open PySem PySem.Spec PyProof.Rows L2 GxA
open GxR (TabB TabG Tabbed)
variable [RowV]
/-! ### conditions read -/
theorem nxt_drop {ws rest : List Str} {i : Nat} (h : ws.drop i = rest) : nxt ws i = rest.headD "" := by
  cases rest with
  | nil =>
    have : ws.length ≤ i := by
      rcases Nat.lt_or_ge i ws.length with k | k
      · have := congrArg List.length h
        rw [List.length_drop, List.length_nil] at this
        omega
      · exact k
    unfold nxt
    rw [List.getD_eq_getElem?_getD, List.getElem?_eq_none this]
    rfl
  | cons x r => exact (drop_nxt h).1
/-- what may not come behind -/
def Stop (l : Nat) (rest : List Str) : Prop := (1 ≤ l → rest.headD "" ≠ "and") ∧ (2 ≤ l → rest.headD "" ≠ "or")
theorem Stop.zero {rest : List Str} : Stop 0 rest := ⟨fun h => by omega, fun h => by omega⟩
theorem ne_kind {k : Str} (h : k ∈ kinds1) : k ≠ "not" ∧ k ≠ "(" ∧ k ≠ "any" ∧ k ≠ "over" := by
  simp only [kinds1, List.mem_cons, List.not_mem_nil, or_false] at h
  rcases h with rfl | rfl | rfl | rfl | rfl <;> decide +kernel
section
variable {P : Program} {w : World} {K : PySem.W.Frag} {mg : Str → Option Value} {base : Heap}
abbrev tSkip (K : PySem.W.Frag) (x : Str) : TT := tB (tMethR (C_Reader K) "skip" (spSkip K) E0 (tVar 0) (tCons (tC (.str x)) tNil))
theorem rd_no {σ : L2.St} {H : Hp} {r wl : Addr} {ws : List Str} {i : Nat} {x : Str} {Q : Bool → Hp → Prop} (hs : σ[0]? = some (some (.ref r))) (R : RdAt K H r wl ws i) (tb : Tb K H) (hx : nxt ws i ≠ x) (q : Q false H) : tSkip K x σ H Q := by
  obtain ⟨dx, row, e⟩ := R.ob
  exact ⟨_, hs, r, dx, _, rfl, e, rfl, r, wl, ws, i, x, rfl, R, tb, fun z => absurd z hx, fun _ => ⟨false, rfl, q⟩⟩
theorem rd_yes {σ : L2.St} {H : Hp} {r wl : Addr} {ws : List Str} {i : Nat} {x : Str} {Q : Bool → Hp → Prop} (hs : σ[0]? = some (some (.ref r))) (R : RdAt K H r wl ws i) (tb : Tb K H) (hx : nxt ws i = x)
    (q : ∀ H1, Fr K [r] H H1 → RdAt K H1 r wl ws (i + 1) → Q true H1) : tSkip K x σ H Q := by
  obtain ⟨dx, row, e⟩ := R.ob
  exact ⟨_, hs, r, dx, _, rfl, e, rfl, r, wl, ws, i, x, rfl, R, tb, fun _ H1 f1 R1 => ⟨true, rfl, q H1 f1 R1⟩, fun z => absurd hx z⟩
def spRd (l m : Nat) (K : PySem.W.Frag) : Sp := fun vs H Q _ => ∃ (r wl : Addr) (ws : List Str) (i : Nat) (c : Cnd) (rest W : List Str), vs = [.ref r] ∧ RdAt K H r wl ws i ∧ Tb K H ∧ c.wf W l ∧ c.dep < m ∧ ws.drop i = c.told ++ rest ∧ Stop l rest ∧
  ∀ H' v, Fr K [r] H H' → RdAt K H' r wl ws (i + c.told.length) → ND K H [] H' v c.p → Q v H'
theorem fnr_false {k : Nat} {f : Addr} {sp : Sp} (h : ∀ vs H Q E, ¬ sp vs H Q E) : FnR P w K mg base CX0 k f sp := fun _ _ _ _ _ _ _ _ _ _ _ z => absurd z (h _ _ _ _)
theorem RdAt.new {H : Hp} {r wl t : Addr} {ws : List Str} {i : Nat} {o : HO} (R : RdAt K H r wl ws i) (nt : H t = none) : RdAt K (L2.upd H t o) r wl ws i := by
  obtain ⟨_, _, e⟩ := R.ob
  exact R.upd (ne_of_none e nt) (ne_of_none R.wl nt)
theorem RdAt.some {H : Hp} {r wl : Addr} {ws : List Str} {i : Nat} (R : RdAt K H r wl ws i) : H r ≠ none := by
  obtain ⟨_, _, e⟩ := R.ob
  rw [e]
  intro z; cases z
theorem single_step (T : Txt w K mg base) {m n : Nat} (hS : FnR P w K mg base CX0 (n + 10) (a_Reader_read_single K) (spRd 0 m K)) (hC : FnR P w K mg base CX0 (n + 12) (a_Reader_read_condition K) (spRd 2 m K)) :
    FnR P w K mg base CX0 (n + 13) (a_Reader_read_single K) (spRd 0 (m + 1) K) := by
  refine mkR T.f_Reader_read_single sc_Reader_read_single bd_Reader_read_single ?_ ?_
  · rintro vs H Q E ⟨r, wl, ws, i, c, rest, W, rfl, _⟩; rfl
  rintro cdv A outer s H vs Q E hr ⟨r, wl, ws, i, c, rest, W, rfl, R, tb, hw, hm, hd, _, k⟩
  have nd := sc_Reader_read_single.nd
  refine ⟨_, pss_cons (ps_if (pt_val (pe_methR (pv 0) T.c_Reader T.m_Reader_skip (R_skip T) (hr.mono (by omega)) pass0 (pa_cons pe_str pa_nil)))
      (pss_one (ps_ret (pe_tup (pa_cons pe_str (pa_cons (pe_m0F (pv 0) T.c_Reader T.m_Reader_read_single hS (hr.mono (by omega))) pa_nil))))) pss_nil)
    (pss_cons (ps_if (pt_val (pe_methR (pv 0) T.c_Reader T.m_Reader_skip (R_skip T) (hr.mono (by omega)) pass0 (pa_cons pe_str pa_nil)))
      (pss_cons (ps_set (i := 1) nd rfl (.inl rfl) (pe_m0F (pv 0) T.c_Reader T.m_Reader_read_condition hC hr))
        (pss_cons (ps_expr (pe_methR (pv 0) T.c_Reader T.m_Reader_take (R_take T) (hr.mono (by omega)) pass0 (pa_cons pe_str pa_nil))) (pss_one (ps_ret (pv 1))))) pss_nil)
    (pss_cons (ps_if (pt_val (pe_methR (pv 0) T.c_Reader T.m_Reader_skip (R_skip T) (hr.mono (by omega)) pass0 (pa_cons pe_str pa_nil)))
      (pss_one (ps_ret (pe_tup (pa_cons pe_str pa_nil)))) pss_nil)
    (pss_cons (ps_if (pt_val (pe_methR (pv 0) T.c_Reader T.m_Reader_skip (R_skip T) (hr.mono (by omega)) pass0 (pa_cons pe_str pa_nil)))
      (pss_one (ps_ret (pe_tup (pa_cons pe_str (pa_cons (pe_m0F (pv 0) T.c_Reader T.m_Reader_take_number (R_take_number T) (hr.mono (by omega))) pa_nil))))) pss_nil)
    (pss_one (ps_ret (pe_m0F (pv 0) T.c_Reader T.m_Reader_read_fact (R_read_fact T) (hr.mono (by omega)))))))), ?_⟩
  have fct : isF c → tRet (tM0 (C_Reader K) "read_fact" (spReadFact K) (tVar 0)) { nx := fun _ H' => Q .non H', rt := Q } (start ["self", "inner"] [V.ref r]) H := fun hf => by
    obtain ⟨dx, row, e⟩ := R.ob
    exact ⟨_, rfl, r, dx, _, rfl, e, rfl, r, wl, ws, i, c, rest, rfl, R, tb, hf, hd, k⟩
  cases c with
  | any =>
    have q := drop_nxt hd
    refine rd_no rfl R tb (by rw [q.1]; decide +kernel) (iteF ?_)
    refine rd_no rfl R tb (by rw [q.1]; decide +kernel) (iteF ?_)
    refine rd_yes rfl R tb q.1 fun H1 f1 R1 => iteT ?_
    refine ⟨by show 1 ≤ sizeLine; decide, fun t nt => ?_⟩
    exact k _ _ (f1.trans (Fr.new f1.2 nt)) (R1.new nt) (ND.tup (.cons (.str _) .nil) upd_same (f1.3 _ nt) (by simp))
  | over nn =>
    have q := drop_nxt hd
    refine rd_no rfl R tb (by rw [q.1]; decide +kernel) (iteF ?_)
    refine rd_no rfl R tb (by rw [q.1]; decide +kernel) (iteF ?_)
    refine rd_no rfl R tb (by rw [q.1]; decide +kernel) (iteF ?_)
    refine rd_yes rfl R tb q.1 fun H1 f1 R1 => iteT ?_
    obtain ⟨dx, row, e⟩ := R1.ob
    refine ⟨_, rfl, r, dx, _, rfl, e, rfl, r, wl, ws, i + 1, nn, rfl, R1, f1.2, (drop_nxt q.2).1, hw, fun H2 f2 R2 => ?_⟩
    refine ⟨by show 2 ≤ sizeLine; decide, fun t nt => ?_⟩
    exact k _ _ ((f1.trans f2).trans (Fr.new f2.2 nt)) (R2.new nt) (ND.tup (.cons (.str _) (.cons (.int _) .nil)) upd_same ((f1.trans f2).3 _ nt) (by simp))
  | fact kk nn =>
    have q := drop_nxt hd
    obtain ⟨h1, h2, h3, h4⟩ := ne_kind hw.1
    refine rd_no rfl R tb (by rw [q.1]; exact h1) (iteF ?_)
    refine rd_no rfl R tb (by rw [q.1]; exact h2) (iteF ?_)
    refine rd_no rfl R tb (by rw [q.1]; exact h3) (iteF ?_)
    refine rd_no rfl R tb (by rw [q.1]; exact h4) (iteF ?_)
    exact fct ⟨hw.1, hw.2.1⟩
  | pair a b =>
    have q := drop_nxt hd
    refine rd_no rfl R tb (by rw [q.1]; decide +kernel) (iteF ?_)
    refine rd_no rfl R tb (by rw [q.1]; decide +kernel) (iteF ?_)
    refine rd_no rfl R tb (by rw [q.1]; decide +kernel) (iteF ?_)
    refine rd_no rfl R tb (by rw [q.1]; decide +kernel) (iteF ?_)
    exact fct ⟨hw.1, hw.2.1⟩
  | neg c =>
    have q := drop_nxt (show ws.drop i = ("not" : Str) :: (c.told ++ rest) from hd)
    refine rd_yes rfl R tb q.1 fun H1 f1 R1 => iteT ?_
    obtain ⟨dx, row, e⟩ := R1.ob
    refine ⟨_, rfl, r, dx, _, rfl, e, rfl, r, wl, ws, i + 1, c, rest, W, rfl, R1, f1.2, hw, Nat.lt_of_succ_lt_succ hm, q.2, Stop.zero, fun H2 v f2 R2 d2 => ?_⟩
    refine ⟨by show 2 ≤ sizeLine; decide, fun t nt => ?_⟩
    have hl : i + (Cnd.neg c).told.length = i + 1 + c.told.length := by show i + (c.told.length + 1) = _; omega
    exact k _ _ ((f1.trans f2).trans (Fr.new f2.2 nt)) (by rw [hl]; exact R2.new nt) (ND.tup (.cons (.str _) (.cons (Tr.same (Same.trans (nu_back f1.3 (by simp)) (nu_upd (.inr (.inr nt)))) d2) .nil)) upd_same ((f1.trans f2).3 _ nt) (by simp))
  | par c =>
    have hd : ws.drop i = ("(" : Str) :: (c.told ++ ((")" : Str) :: rest)) := by
      rw [hd]
      show ("(" : Str) :: ((c.told ++ [(")" : Str)]) ++ rest) = _
      rw [List.append_assoc]
      rfl
    have q := drop_nxt hd
    refine rd_no rfl R tb (by rw [q.1]; decide +kernel) (iteF ?_)
    refine rd_yes rfl R tb q.1 fun H1 f1 R1 => iteT ?_
    obtain ⟨dx, row, e⟩ := R1.ob
    refine ⟨_, rfl, r, dx, _, rfl, e, rfl, r, wl, ws, i + 1, c, (")" : Str) :: rest, W, rfl, R1, f1.2, hw, Nat.lt_of_succ_lt_succ hm, q.2, ⟨fun _ => (by decide +kernel : (")" : Str) ≠ "and"), fun _ => (by decide +kernel : (")" : Str) ≠ "or")⟩, fun H2 v f2 R2 d2 => ?_⟩
    have q2 := drop_nxt (drop_app q.2)
    obtain ⟨dx2, row2, e2⟩ := R2.ob
    refine ⟨_, rfl, r, dx2, _, rfl, e2, rfl, r, wl, ws, _, ")", rfl, R2, f2.2, q2.1, fun H3 f3 R3 => ?_⟩
    have hl : i + (Cnd.par c).told.length = i + 1 + c.told.length + 1 := by show i + ((c.told ++ [(")" : Str)]).length + 1) = _; rw [List.length_append]; show i + (c.told.length + 1 + 1) = _; omega
    exact ⟨_, rfl, k _ _ ((f1.trans f2).trans f3) (by rw [hl]; exact R3) (Tr.same (Same.trans (nu_back f1.3 (by simp)) (nu_fr f3 fun e m => .inr (by rw [List.mem_singleton.mp m]; exact R.some))) d2)⟩
  | and2 a b => exact absurd hw.1 (by omega)
  | and3 a b c => exact absurd hw.1 (by omega)
  | and4 a b c d => exact absurd hw.1 (by omega)
  | or2 a b => exact absurd hw.1 (by omega)
end
end So
end

section
set_option Elab.async false
set_option linter.all false
set_option maxRecDepth 100000
set_option maxHeartbeats 4000000
namespace So
open PySem PySem.Spec PyProof.Rows L2 GxA
open GxR (TabB TabG Tabbed)
variable [RowV]
section
variable {P : Program} {w : World} {K : PySem.W.Frag} {mg : Str → Option Value} {base : Heap}
abbrev rLenS (K : PySem.W.Frag) : List V → Hp → VK → Prop := fun xs H Q => ∃ p ys, xs = [.ref p] ∧ (SqL K H p ys ∨ SqT K H p ys) ∧ Q (.int ys.length) H
def jn (x : Str) (ps : List Cnd) : List Str := ps.flatMap fun p => x :: p.told
def joinP (x : Str) : List Cnd → PyData
  | [p] => p.p
  | ps => .tuple [.str x, .list (ps.map Cnd.p)]
abbrev tParts (K : PySem.W.Frag) (mth x : Str) (sp : Sp) : TS := tSeq (tAsg (tLst (tCons (tM0 (C_Reader K) mth sp (tVar 0)) tNil)) (gName 1)) (tSeq (tWhile (tSkip K x) (tDrop (tBM K "list" rAppend (tVar 1) (tCons (tM0 (C_Reader K) mth sp (tVar 0)) tNil))))
  (tRet (tIf (tTest (tOp rEq (tCB (rLenS K) (tCons (tVar 1) tNil)) (tC (.int 1)))) (tOp (rIxL K) (tVar 1) (tC (.int 0))) (tTup (tCons (tC (.str x)) (tCons (tVar 1) tNil))))))
theorem nu_ex {H0 H1 : Hp} {D : Addr} (h : H1 D = none) : Same (Nu H0 [] H1) (Nu H0 [D] H1) := Nu.le fun p o a _ c _ => ⟨a, (fun m => by rw [List.mem_singleton.mp m, h] at c; cases c), c⟩
theorem nu_drop {H0 H1 : Hp} {E : List Addr} : Same (Nu H0 E H1) (Nu H0 [] H1) := Nu.le fun p o a _ c _ => ⟨a, by simp, c⟩
theorem parts_read {l m : Nat} {x mth : Str} {Q : VK} {H : Hp} {r wl : Addr} {ws : List Str} {i : Nat} {p0 : Cnd} {ps : List Cnd} {rest W : List Str} (R : RdAt K H r wl ws i) (tb : Tb K H) (hw : ∀ p ∈ p0 :: ps, p.wf W l ∧ p.dep < m)
    (hd : ws.drop i = p0.told ++ (jn x ps ++ rest)) (hx : rest.headD "" ≠ x) (hs1 : ∀ t, Stop l (x :: t)) (hs2 : Stop l rest) (hl : ps.length ≤ 10) (hm : ∀ wl row i, (rfs wl row i).lookup mth = none)
    (k : ∀ H' v, Fr K [r] H H' → RdAt K H' r wl ws (i + (p0.told ++ jn x ps).length) → ND K H [] H' v (joinP x (p0 :: ps)) → Q v H') :
    tParts K mth x (spRd l m K) { nx := fun _ H' => Q .non H', rt := Q } (start ["self", "parts"] [.ref r]) H := by
  have stp : ∀ qs : List Cnd, Stop l (jn x qs ++ rest) := fun qs => by
    cases qs with
    | nil => exact hs2
    | cons q qs => exact hs1 _
  obtain ⟨dx, row, e⟩ := R.ob
  refine ⟨_, rfl, r, dx, _, rfl, e, hm _ _ _, r, wl, ws, i, p0, _, W, rfl, R, tb, (hw p0 List.mem_cons_self).1, (hw p0 List.mem_cons_self).2, hd, stp ps, fun H1 v1 f1 R1 d1 => ?_⟩
  refine ⟨by show 1 ≤ sizeLine; decide, fun D nD => ?_⟩
  have hD : H D = none := f1.3 _ nD
  have nr : r ≠ D := ne_of_none e hD
  have nw : wl ≠ D := ne_of_none R.wl hD
  refine ⟨fun mm σ H' => ∃ (done todo : List Cnd) (vs : List V) (j : Nat), mm = todo.length ∧ σ = [some (V.ref r), some (V.ref D)] ∧ p0 :: ps = done ++ todo ∧ Fr K [r] H H' ∧ RdAt K H' r wl ws j ∧ ws.drop j = jn x todo ++ rest ∧
    j + (jn x todo).length = i + (p0.told ++ jn x ps).length ∧ H' D = some (.lst vs) ∧ NDs K H [D] H' vs (done.map Cnd.p), ⟨ps.length, [p0], ps, [v1], i + p0.told.length, rfl, rfl, rfl, f1.upNew tb hD, R1.upd nr nw, drop_app hd, ?_, upd_same, ?_⟩, ?_⟩
  · rw [List.length_append]; omega
  · exact .cons (Tr.same (Same.trans (nu_ex nD) (nu_upd (.inl (List.mem_singleton.mpr rfl)))) d1) .nil
  rintro mm σ H2 ⟨done, todo, vs, j, rfl, rfl, hp, f2, R2, hd2, hj, h2, n2⟩
  cases todo with
  | nil =>
    refine rd_no rfl R2 f2.2 (by rw [nxt_drop hd2]; exact hx) (iteF ?_)
    have hdn : p0 :: ps = done := by rw [hp, List.append_nil]
    subst hdn
    have hlen : vs.length = ps.length + 1 := by rw [TrAll.len n2, List.length_map, List.length_cons]
    have hj2 : j = i + (p0.told ++ jn x ps).length := by simpa [jn] using hj
    subst hj2
    refine ⟨_, rfl, D, vs, rfl, .inl (SqL.of h2), rfl, _, rfl, ?_⟩
    cases ps with
    | nil =>
      refine iteD (by rw [hlen]; rfl) ?_
      match vs, hlen, n2, h2 with
      | [v], _, n2, h2 =>
        cases n2 with
        | cons a _ => exact ⟨_, rfl, D, _, _, v, rfl, rfl, SqL.of h2, rfl, k _ _ f2 R2 (Tr.same nu_drop a)⟩
    | cons p ps =>
      refine iteN (by rw [hlen]; intro z; injection z with z; simp only [List.length_cons] at z; omega) ?_
      refine ⟨_, rfl, by show 2 ≤ sizeLine; decide, fun t nt => ?_⟩
      have tD : D ≠ t := ne_of_none h2 nt
      refine k _ _ (f2.trans (Fr.new f2.2 nt)) (R2.new nt) (ND.tup (.cons (.str x) (.cons (ND.lst (TrAll.same (Same.trans nu_drop (nu_upd (.inr (.inr nt)))) n2) (by rw [upd_ne tD]; exact h2) hD (by simp)) .nil)) upd_same (f2.3 _ nt) (by simp))
  | cons p todo =>
    have hd3 : ws.drop j = x :: (p.told ++ (jn x todo ++ rest)) := by
      rw [hd2]
      simp [jn]
    have q := drop_nxt hd3
    refine rd_yes rfl R2 f2.2 q.1 fun H3 f3 R3 => iteT ?_
    refine ⟨fun σ' H' => ∃ (done todo' : List Cnd) (vs : List V) (j : Nat), todo.length = todo'.length ∧ σ' = [some (V.ref r), some (V.ref D)] ∧ p0 :: ps = done ++ todo' ∧ Fr K [r] H H' ∧ RdAt K H' r wl ws j ∧ ws.drop j = jn x todo' ++ rest ∧
      j + (jn x todo').length = i + (p0.told ++ jn x ps).length ∧ H' D = some (.lst vs) ∧ NDs K H [D] H' vs (done.map Cnd.p), fun σ' H' h => ⟨todo.length, by simp, h⟩, ?_⟩
    have h3 : H3 D = some (.lst vs) := f3.at h2 (by intro _ z; cases z) (fun z => nr (List.mem_singleton.mp z).symm)
    obtain ⟨dx3, row3, e3⟩ := R3.ob
    have hmem : p ∈ p0 :: ps := by rw [hp]; simp
    refine ⟨_, rfl, .inl ⟨rfl, _, SqL.of h3⟩, _, rfl, r, dx3, _, rfl, e3, hm _ _ _, r, wl, ws, j + 1, p, _, W, rfl, R3, f3.2, (hw p hmem).1, (hw p hmem).2, q.2, stp todo, fun H4 v4 f4 R4 d4 => ?_⟩
    have h4 : H4 D = some (.lst vs) := f4.at h3 (by intro _ z; cases z) (fun z => nr (List.mem_singleton.mp z).symm)
    have rT : ∀ e ∈ [r], e ∈ [D] ∨ H e ≠ none := fun e m => .inr (by rw [List.mem_singleton.mp m]; exact R.some)
    have hlen : vs.length = done.length := by rw [TrAll.len n2, List.length_map]
    have hle : done.length ≤ 11 := by
      have := congrArg List.length hp
      rw [List.length_append, List.length_cons] at this
      omega
    refine ⟨D, vs, v4, rfl, rfl, h4, Nat.lt_of_le_of_lt (by rw [hlen]; exact hle) (by decide), ?_⟩
    refine ⟨done ++ [p], todo, vs ++ [v4], _, rfl, rfl, by rw [hp]; simp, ((f2.trans f3).trans f4).upNew tb hD, R4.upd nr nw, drop_app q.2, ?_, upd_same, ?_⟩
    · have e1 : (jn x (p :: todo)).length = 1 + p.told.length + (jn x todo).length := by simp [jn]; omega
      omega
    · rw [List.map_append]
      refine TrAll.snoc (TrAll.same (Same.trans (Same.trans (nu_fr f3 rT) (nu_fr f4 rT)) (nu_upd (.inl (List.mem_singleton.mpr rfl)))) n2) (Tr.same (Same.trans (nu_back (fun p z => f2.3 p (f3.3 p z)) (fun e m => .inr (by rw [List.mem_singleton.mp m, h3]; intro z; cases z))) (nu_upd (.inl (List.mem_singleton.mpr rfl)))) d4)
theorem R_joined (T : Txt w K mg base) {m n : Nat} (hS : FnR P w K mg base CX0 (n + 2) (a_Reader_read_single K) (spRd 0 m K)) : FnR P w K mg base CX0 (n + 3) (a_Reader_read_joined K) (spRd 1 m K) := by
  refine mkR T.f_Reader_read_joined sc_Reader_read_joined bd_Reader_read_joined ?_ ?_
  · rintro vs H Q E ⟨r, wl, ws, i, c, rest, W, rfl, _⟩; rfl
  rintro cdv A outer s H vs Q E hr ⟨r, wl, ws, i, c, rest, W, rfl, R, tb, hw, hm, hd, hs, k⟩
  have nd := sc_Reader_read_joined.nd
  refine ⟨_, PSs.nox <| pss_cons (ps_set (i := 1) nd rfl (.inl rfl) (pe_lst (pa_cons (pe_m0F (pv 0) T.c_Reader T.m_Reader_read_single hS hr) pa_nil)))
    (pss_cons (ps_while PassesOwn.never (pt_val (pe_methR (pv 0) T.c_Reader T.m_Reader_skip (R_skip T) (hr.mono (by omega)) pass0 (pa_cons pe_str pa_nil)))
      (pss_one (ps_expr (pe_bm PySem.F.plainAttrs_list PySem.F.slot_list_append PySem.F.type_list_append mt_append (pv 1) (pa_cons (pe_m0F (pv 0) T.c_Reader T.m_Reader_read_single hS hr) pa_nil)))))
    (pss_one (ps_ret (pe_ifExp (pt_cmpR op_eq (pe_callB call_len_seq (by rfl) T.z_len PySem.boot_len (pa_cons (pv 1) pa_nil)) pe_int (nomark _)) (pe_ix ix_list (pv 1) pe_int (fun _ _ => rfl)) (pe_tup (pa_cons pe_str (pa_cons (pv 1) pa_nil))))))), ?_⟩
  have st : ∀ t, Stop 0 (("and" : Str) :: t) := fun _ => Stop.zero
  have go : ∀ p0 ps, c.told = p0.told ++ jn "and" ps → joinP "and" (p0 :: ps) = c.p → (∀ p ∈ p0 :: ps, p.wf W 0 ∧ p.dep < m) → ps.length ≤ 10 → tParts K "read_single" "and" (spRd 0 m K) { nx := fun _ H' => Q .non H', rt := Q } (start ["self", "parts"] [.ref r]) H := fun p0 ps e1 e2 h3 h4 =>
    parts_read R tb h3 (by rw [hd, e1, List.append_assoc]) (hs.1 (Nat.le_refl _)) st Stop.zero h4 (fun _ _ _ => rfl) fun H' v f R' d => k H' v f (by rw [e1]; exact R') (by rw [← e2]; exact d)
  have go1 : c.wf W 0 → c.dep < m → tParts K "read_single" "and" (spRd 0 m K) { nx := fun _ H' => Q .non H', rt := Q } (start ["self", "parts"] [.ref r]) H := fun h h' => go c [] (by simp [jn]) rfl (by intro p hp; rw [List.mem_singleton.mp hp]; exact ⟨h, h'⟩) (by simp)
  cases c with
  | and2 a b => exact go a [b] (by simp [jn, Cnd.told]) rfl (by
      intro p hp
      simp only [List.mem_cons, List.not_mem_nil, or_false] at hp
      simp only [Cnd.dep] at hm
      rcases hp with rfl | rfl
      · exact ⟨hw.2.1, by omega⟩
      · exact ⟨hw.2.2, by omega⟩) (by simp)
  | and3 a b c => exact go a [b, c] (by simp [jn, Cnd.told]) rfl (by
      intro p hp
      simp only [List.mem_cons, List.not_mem_nil, or_false] at hp
      simp only [Cnd.dep] at hm
      rcases hp with rfl | rfl | rfl
      · exact ⟨hw.2.1, by omega⟩
      · exact ⟨hw.2.2.1, by omega⟩
      · exact ⟨hw.2.2.2, by omega⟩) (by simp)
  | and4 a b c d => exact go a [b, c, d] (by simp [jn, Cnd.told]) rfl (by
      intro p hp
      simp only [List.mem_cons, List.not_mem_nil, or_false] at hp
      simp only [Cnd.dep] at hm
      rcases hp with rfl | rfl | rfl | rfl
      · exact ⟨hw.2.1, by omega⟩
      · exact ⟨hw.2.2.1, by omega⟩
      · exact ⟨hw.2.2.2.1, by omega⟩
      · exact ⟨hw.2.2.2.2, by omega⟩) (by simp)
  | or2 a b => exact absurd hw.1 (by omega)
  | _ => exact go1 hw hm
theorem R_cond (T : Txt w K mg base) {m n : Nat} (hS : FnR P w K mg base CX0 (n + 2) (a_Reader_read_joined K) (spRd 1 m K)) : FnR P w K mg base CX0 (n + 3) (a_Reader_read_condition K) (spRd 2 m K) := by
  refine mkR T.f_Reader_read_condition sc_Reader_read_condition bd_Reader_read_condition ?_ ?_
  · rintro vs H Q E ⟨r, wl, ws, i, c, rest, W, rfl, _⟩; rfl
  rintro cdv A outer s H vs Q E hr ⟨r, wl, ws, i, c, rest, W, rfl, R, tb, hw, hm, hd, hs, k⟩
  have nd := sc_Reader_read_condition.nd
  refine ⟨_, PSs.nox <| pss_cons (ps_set (i := 1) nd rfl (.inl rfl) (pe_lst (pa_cons (pe_m0F (pv 0) T.c_Reader T.m_Reader_read_joined hS hr) pa_nil)))
    (pss_cons (ps_while PassesOwn.never (pt_val (pe_methR (pv 0) T.c_Reader T.m_Reader_skip (R_skip T) (hr.mono (by omega)) pass0 (pa_cons pe_str pa_nil)))
      (pss_one (ps_expr (pe_bm PySem.F.plainAttrs_list PySem.F.slot_list_append PySem.F.type_list_append mt_append (pv 1) (pa_cons (pe_m0F (pv 0) T.c_Reader T.m_Reader_read_joined hS hr) pa_nil)))))
    (pss_one (ps_ret (pe_ifExp (pt_cmpR op_eq (pe_callB call_len_seq (by rfl) T.z_len PySem.boot_len (pa_cons (pv 1) pa_nil)) pe_int (nomark _)) (pe_ix ix_list (pv 1) pe_int (fun _ _ => rfl)) (pe_tup (pa_cons pe_str (pa_cons (pv 1) pa_nil))))))), ?_⟩
  have st : ∀ t, Stop 1 (("or" : Str) :: t) := fun _ => ⟨fun _ => (by decide +kernel : ("or" : Str) ≠ "and"), fun h => by omega⟩
  have go : ∀ p0 ps, c.told = p0.told ++ jn "or" ps → joinP "or" (p0 :: ps) = c.p → (∀ p ∈ p0 :: ps, p.wf W 1 ∧ p.dep < m) → ps.length ≤ 10 → tParts K "read_joined" "or" (spRd 1 m K) { nx := fun _ H' => Q .non H', rt := Q } (start ["self", "parts"] [.ref r]) H := fun p0 ps e1 e2 h3 h4 =>
    parts_read R tb h3 (by rw [hd, e1, List.append_assoc]) (hs.2 (Nat.le_refl _)) st ⟨fun _ => hs.1 (by omega), fun h => by omega⟩ h4 (fun _ _ _ => rfl) fun H' v f R' d => k H' v f (by rw [e1]; exact R') (by rw [← e2]; exact d)
  have go1 : c.wf W 1 → c.dep < m → tParts K "read_joined" "or" (spRd 1 m K) { nx := fun _ H' => Q .non H', rt := Q } (start ["self", "parts"] [.ref r]) H := fun h h' => go c [] (by simp [jn]) rfl (by intro p hp; rw [List.mem_singleton.mp hp]; exact ⟨h, h'⟩) (by simp)
  cases c with
  | or2 a b => exact go a [b] (by simp [jn, Cnd.told]) rfl (by
      intro p hp
      simp only [List.mem_cons, List.not_mem_nil, or_false] at hp
      simp only [Cnd.dep] at hm
      rcases hp with rfl | rfl
      · exact ⟨hw.2.1, by omega⟩
      · exact ⟨hw.2.2, by omega⟩) (by simp)
  | and2 a b => exact go1 ⟨Nat.le_refl _, hw.2⟩ hm
  | and3 a b c => exact go1 ⟨Nat.le_refl _, hw.2⟩ hm
  | and4 a b c d => exact go1 ⟨Nat.le_refl _, hw.2⟩ hm
  | _ => exact go1 hw hm
/-- all conditions of less depth than m -/
theorem R_all (T : Txt w K mg base) : ∀ m : Nat, FnR P w K mg base CX0 (3 * m + 12) (a_Reader_read_single K) (spRd 0 m K) ∧ FnR P w K mg base CX0 (3 * m + 14) (a_Reader_read_condition K) (spRd 2 m K)
  | 0 => ⟨fnr_false fun vs H Q E ⟨_, _, _, _, _, _, _, _, _, _, _, h, _⟩ => absurd h (Nat.not_lt_zero _), fnr_false fun vs H Q E ⟨_, _, _, _, _, _, _, _, _, _, _, h, _⟩ => absurd h (Nat.not_lt_zero _)⟩
  | m + 1 => by
    obtain ⟨h1, h2⟩ := R_all T m
    have s1 : FnR P w K mg base CX0 (3 * (m + 1) + 12) (a_Reader_read_single K) (spRd 0 (m + 1) K) := single_step T (n := 3 * m + 2) (h1.mono (by omega)) h2
    exact ⟨s1, R_cond T (R_joined T s1)⟩
end
end So
end

section
set_option Elab.async false
set_option linter.all false
set_option maxRecDepth 100000
set_option maxHeartbeats 4000000
namespace So
open PySem PySem.Spec PyProof.Rows L2 GxA
open GxR (TabB TabG Tabbed)
variable [RowV]
theorem upd_upd {H : Hp} {a : Addr} {x y : HO} : L2.upd (L2.upd H a x) a y = L2.upd H a y := by
  funext p
  by_cases h : p = a
  · rw [h, upd_same, upd_same]
  · rw [upd_ne h, upd_ne h, upd_ne h]
def rufs (wl v dl : V) : List (Str × V) := [("words", wl), ("condition", v), ("deeds", dl)]
theorem rufs_make (wl v dl : V) : putF "deeds" dl (putF "condition" v (putF "words" wl [])) = rufs wl v dl := rfl
/-- a rule at a, its data new since H0 but for E -/
def RuleN (K : PySem.W.Frag) (H0 : Hp) (E : List Addr) (H : Hp) (a : Addr) (c : Cnd) (ds : List Deed) : Prop := (H0 a = none ∧ a ∉ E) ∧ ∃ (dx : Addr) (wl v dl : V), H a = some (.ins (C_Rule K) dx (rufs wl v dl)) ∧ ND K H0 E H v c.p ∧ ND K H0 E H dl (.list (ds.map dP))
def RuleAt (K : PySem.W.Frag) (H : Hp) (a : Addr) (c : Cnd) (ds : List Deed) : Prop := ∃ (dx : Addr) (wl v dl : V), H a = some (.ins (C_Rule K) dx (rufs wl v dl)) ∧ Tr H v c.p ∧ Tr H dl (.list (ds.map dP))
def dsT : List Deed → List Str
  | [] => []
  | d :: ds => dTold d ++ ds.flatMap fun e => ("," : Str) :: dTold e
def ruleT (c : Cnd) (ds : List Deed) : List Str := ("if" : Str) :: (c.told ++ (("then" : Str) :: dsT ds))
section
variable {P : Program} {w : World} {K : PySem.W.Frag} {mg : Str → Option Value} {base : Heap}
def spRuInit (K : PySem.W.Frag) : Sp := fun vs H Q _ => ∃ (a dx : Addr) (wl v dl : V), vs = [.ref a, wl, v, dl] ∧ H a = some (.ins (C_Rule K) dx []) ∧ Q .non (L2.upd H a (.ins (C_Rule K) dx (rufs wl v dl)))
theorem R_Rule_init (T : Txt w K mg base) : FnR P w K mg base CX0 1 (a_Rule_init K) (spRuInit K) := by
  refine mkR T.f_Rule_init sc_Rule_init bd_Rule_init ?_ ?_
  · rintro vs H Q E ⟨a, dx, wl, v, dl, rfl, _⟩; rfl
  rintro cdv A outer s H vs Q E hr ⟨a, dx, wl, v, dl, rfl, ha, k⟩
  refine ⟨_, pss_cons (ps_fld (pv 0) (pv 1) rfl) (pss_cons (ps_fld (pv 0) (pv 2) rfl) (pss_one (ps_fld (pv 0) (pv 3) rfl))), ?_⟩
  refine ⟨_, rfl, _, rfl, a, _, dx, [], rfl, ha, T.c_Rule, T.n_Rule_words, by decide, ?_⟩
  refine ⟨_, rfl, _, rfl, a, _, dx, _, rfl, upd_same, T.c_Rule, T.n_Rule_condition, (by show 1 < 1000; decide), ?_⟩
  refine ⟨_, rfl, _, rfl, a, _, dx, _, rfl, upd_same, T.c_Rule, T.n_Rule_deeds, (by show 2 < 1000; decide), ?_⟩
  show Q .non _
  rw [upd_upd, upd_upd, rufs_make]
  exact k
def spReadRule (K : PySem.W.Frag) : Sp := fun vs H Q _ => ∃ (r wl : Addr) (c : Cnd) (d0 : Deed) (ds : List Deed) (W : List Str), vs = [.ref r] ∧ RdAt K H r wl (ruleT c (d0 :: ds)) 0 ∧ Tb K H ∧ c.wf W 2 ∧ c.dep < 4 ∧ (∀ d ∈ d0 :: ds, dWf d) ∧ ds.length ≤ 5 ∧
  ∀ H' a, Fr K [r] H H' → RuleN K H [] H' a c (d0 :: ds) → Q (.ref a) H'
def jd (ds : List Deed) : List Str := ds.flatMap fun e => ("," : Str) :: dTold e
theorem Fr.drop1 {E : List Addr} {H H' : Hp} {D : Addr} (f : Fr K (E ++ [D]) H H') (h : H D = none) : Fr K E H H' := ⟨fun p o n e z => f.1 p o (fun m => by
  rcases List.mem_append.mp m with m | m
  · exact n m
  · rw [List.mem_singleton.mp m, h] at e; cases e) e z, f.2, f.3, f.4⟩
theorem deeds_loop {T : Txt w K mg base} {D : Ends} {H H1 : Hp} {r wl Dl : Addr} {ws : List Str} {i : Nat} {d0 : Deed} {ds : List Deed} {cv : V} {v1 : V} (tb : Tb K H1) (hr : H r ≠ none) (R : RdAt K H1 r wl ws i) (lv : ∀ p, H1 p = none → H p = none) (nr : r ≠ Dl) (nw : wl ≠ Dl) (hD1 : H1 Dl = some (.lst [v1])) (n1 : NDs K H [Dl] H1 [v1] [dP d0])
    (hw : ∀ d ∈ ds, dWf d) (hd : ws.drop i = jd ds) (hl : ds.length ≤ 10)
    (k : ∀ H' vs, Fr K [r, Dl] H1 H' → RdAt K H' r wl ws (i + (jd ds).length) → H' Dl = some (.lst vs) → NDs K H [Dl] H' vs ((d0 :: ds).map dP) → D.nx [some (V.ref r), some cv, some (V.ref Dl)] H') :
    tWhile (tSkip K ",") (tDrop (tBM K "list" rAppend (tVar 2) (tCons (tM0 (C_Reader K) "read_deed" (spReadDeed K) (tVar 0)) tNil))) D [some (V.ref r), some cv, some (V.ref Dl)] H1 := by
  refine ⟨fun mm σ H' => ∃ (done todo : List Deed) (vs : List V) (j : Nat), mm = todo.length ∧ σ = [some (V.ref r), some cv, some (V.ref Dl)] ∧ d0 :: ds = done ++ todo ∧ (∀ d ∈ todo, dWf d) ∧ Fr K [r, Dl] H1 H' ∧ RdAt K H' r wl ws j ∧ ws.drop j = jd todo ∧
    j + (jd todo).length = i + (jd ds).length ∧ H' Dl = some (.lst vs) ∧ NDs K H [Dl] H' vs (done.map dP), ⟨ds.length, [d0], ds, [v1], i, rfl, rfl, rfl, hw, Fr.refl tb, R, hd, rfl, hD1, n1⟩, ?_⟩
  rintro mm σ H2 ⟨done, todo, vs, j, rfl, rfl, hp, hw2, f2, R2, hd2, hj, h2, n2⟩
  cases todo with
  | nil =>
    refine rd_no rfl R2 f2.2 (by rw [nxt_drop hd2]; exact (by decide +kernel : ("" : Str) ≠ ",")) (iteF ?_)
    have hdn : d0 :: ds = done := by rw [hp, List.append_nil]
    subst hdn
    have hj2 : j = i + (jd ds).length := by simpa [jd] using hj
    subst hj2
    exact k _ _ f2 R2 h2 n2
  | cons p todo =>
    have hd3 : ws.drop j = ("," : Str) :: (dTold p ++ jd todo) := by
      rw [hd2]
      simp [jd]
    have q := drop_nxt hd3
    refine rd_yes rfl R2 f2.2 q.1 fun H3 f3 R3 => iteT ?_
    refine ⟨fun σ' H' => ∃ (done todo' : List Deed) (vs : List V) (j : Nat), todo.length = todo'.length ∧ σ' = [some (V.ref r), some cv, some (V.ref Dl)] ∧ d0 :: ds = done ++ todo' ∧ (∀ d ∈ todo', dWf d) ∧ Fr K [r, Dl] H1 H' ∧ RdAt K H' r wl ws j ∧ ws.drop j = jd todo' ∧
      j + (jd todo').length = i + (jd ds).length ∧ H' Dl = some (.lst vs) ∧ NDs K H [Dl] H' vs (done.map dP), fun σ' H' h => ⟨todo.length, by simp, h⟩, ?_⟩
    have h3 : H3 Dl = some (.lst vs) := f3.at h2 (by intro _ z; cases z) (fun z => nr (List.mem_singleton.mp z).symm)
    obtain ⟨dx3, row3, e3⟩ := R3.ob
    refine ⟨_, rfl, .inl ⟨rfl, _, SqL.of h3⟩, _, rfl, r, dx3, _, rfl, e3, rfl, r, wl, ws, j + 1, p, _, rfl, R3, f3.2, hw2 p List.mem_cons_self, q.2, fun H4 v4 f4 R4 d4 => ?_⟩
    have h4 : H4 Dl = some (.lst vs) := f4.at h3 (by intro _ z; cases z) (fun z => nr (List.mem_singleton.mp z).symm)
    have rT : ∀ e ∈ [r], e ∈ [Dl] ∨ H e ≠ none := fun e m => .inr (by rw [List.mem_singleton.mp m]; exact hr)
    have hlen : vs.length = done.length := by rw [TrAll.len n2, List.length_map]
    have hle : done.length ≤ 11 := by
      have := congrArg List.length hp
      rw [List.length_append, List.length_cons] at this
      omega
    refine ⟨Dl, vs, v4, rfl, rfl, h4, Nat.lt_of_le_of_lt (by rw [hlen]; exact hle) (by decide), ?_⟩
    refine ⟨done ++ [p], todo, vs ++ [v4], _, rfl, rfl, by rw [hp]; simp, fun d m => hw2 d (List.mem_cons_of_mem _ m), (f2.trans ((f3.trans f4).mono (by simp))).trans (Fr.put f4.2 h4 (by intro _ z; cases z) (by simp)), R4.upd nr nw, drop_app q.2, ?_, upd_same, ?_⟩
    · have e1 : (jd (p :: todo)).length = 1 + (dTold p).length + (jd todo).length := by simp [jd]; omega
      omega
    · rw [List.map_append]
      refine TrAll.snoc (TrAll.same (Same.trans (Same.trans (nu_fr f3 rT) (nu_fr f4 rT)) (nu_upd (.inl (List.mem_singleton.mpr rfl)))) n2) (Tr.same (Same.trans (nu_back (fun p z => lv p (f2.3 p (f3.3 p z))) (fun e m => .inr (by rw [List.mem_singleton.mp m, h3]; intro z; cases z))) (nu_upd (.inl (List.mem_singleton.mpr rfl)))) d4)
theorem R_read_rule (T : Txt w K mg base) : FnR P w K mg base CX0 40 (a_Reader_read_rule K) (spReadRule K) := by
  refine mkR T.f_Reader_read_rule sc_Reader_read_rule bd_Reader_read_rule ?_ ?_
  · rintro vs H Q E ⟨r, wl, c, d0, ds, W, rfl, _⟩; rfl
  rintro cdv A outer s H vs Q E hr ⟨r, wl, c, d0, ds, W, rfl, R, tb, hw, hm, hdw, hdl, k⟩
  have nd := sc_Reader_read_rule.nd
  refine ⟨_, PSs.nox <| pss_cons (ps_expr (pe_methR (pv 0) T.c_Reader T.m_Reader_take (R_take T) (hr.mono (by decide)) pass0 (pa_cons pe_str pa_nil)))
    (pss_cons (ps_set (i := 1) nd rfl (.inl rfl) (pe_m0F (pv 0) T.c_Reader T.m_Reader_read_condition (R_all T 4).2 (hr.mono (by decide))))
    (pss_cons (ps_expr (pe_methR (pv 0) T.c_Reader T.m_Reader_take (R_take T) (hr.mono (by decide)) pass0 (pa_cons pe_str pa_nil)))
    (pss_cons (ps_set (i := 2) nd rfl (.inl rfl) (pe_lst (pa_cons (pe_m0F (pv 0) T.c_Reader T.m_Reader_read_deed (R_read_deed T) (hr.mono (by decide))) pa_nil)))
    (pss_cons (ps_while PassesOwn.never (pt_val (pe_methR (pv 0) T.c_Reader T.m_Reader_skip (R_skip T) (hr.mono (by decide)) pass0 (pa_cons pe_str pa_nil)))
      (pss_one (ps_expr (pe_bm PySem.F.plainAttrs_list PySem.F.slot_list_append PySem.F.type_list_append mt_append (pv 2) (pa_cons (pe_m0F (pv 0) T.c_Reader T.m_Reader_read_deed (R_read_deed T) (hr.mono (by decide))) pa_nil)))))
    (pss_cons (ps_if (pt_cmpR op_lt (pe_fld (pv 0) rfl) (pe_callB call_len_seq (by rfl) T.z_len PySem.boot_len (pa_cons (pe_fld (pv 0) rfl) pa_nil)) (nomark _)) (pss_one ps_never) pss_nil)
    (pss_one (ps_ret (StX.pe_makeR T.mk_Rule (R_Rule_init T) (hr.mono (by decide)) (by rfl) T.g_Rule pass0 (pa_cons (pe_fld (pv 0) rfl) (pa_cons (pv 1) (pa_cons (pv 2) pa_nil))))))))))), ?_⟩
  have hd : (ruleT c (d0 :: ds)).drop 0 = ("if" : Str) :: (c.told ++ (("then" : Str) :: (dTold d0 ++ jd ds))) := rfl
  generalize hws : ruleT c (d0 :: ds) = ws at R hd
  have q1 := drop_nxt hd
  have q2 := drop_nxt (drop_app q1.2)
  obtain ⟨dx, row, e⟩ := R.ob
  refine ⟨_, rfl, r, dx, _, rfl, e, rfl, r, wl, ws, 0, "if", rfl, R, tb, q1.1, fun H1 f1 R1 => ?_⟩
  obtain ⟨dx1, row1, e1⟩ := R1.ob
  refine ⟨_, rfl, r, dx1, _, rfl, e1, rfl, r, wl, ws, 0 + 1, c, _, W, rfl, R1, f1.2, hw, hm, q1.2, ⟨fun _ => (by decide +kernel : ("then" : Str) ≠ "and"), fun _ => (by decide +kernel : ("then" : Str) ≠ "or")⟩, fun H2 v f2 R2 d2 => ?_⟩
  obtain ⟨dx2, row2, e2⟩ := R2.ob
  refine ⟨_, rfl, r, dx2, _, rfl, e2, rfl, r, wl, ws, _, "then", rfl, R2, f2.2, q2.1, fun H3 f3 R3 => ?_⟩
  obtain ⟨dx3, row3, e3⟩ := R3.ob
  refine ⟨_, rfl, r, dx3, _, rfl, e3, rfl, r, wl, ws, _, d0, _, rfl, R3, f3.2, hdw d0 List.mem_cons_self, q2.2, fun H4 v4 f4 R4 d4 => ?_⟩
  refine ⟨by show 1 ≤ sizeLine; decide, fun Dl nD => ?_⟩
  have F3 : Fr K [r] H H3 := (f1.trans f2).trans f3
  have F4 : Fr K [r] H H4 := F3.trans f4
  have hD : H Dl = none := F4.3 _ nD
  have rs := R.some
  have rT : ∀ E : List Addr, ∀ e ∈ [r], e ∈ E ∨ H e ≠ none := fun E e m => .inr (by rw [List.mem_singleton.mp m]; exact rs)
  have d2' : ND K H [] H4 v c.p := Tr.same (Same.trans (nu_back f1.3 (by simp)) (Same.trans (nu_fr f3 (rT [])) (nu_fr f4 (rT [])))) d2
  refine deeds_loop (T := T) (H := H) (d0 := d0) (ds := ds) (F4.2.upd (F4.2.ne0 nD)) rs (R4.new nD) (fun p z => F4.3 p (upd_live p z)) (ne_of_none e hD) (ne_of_none R.wl hD) upd_same (.cons (Tr.same (Same.trans (nu_back (E := []) (E' := []) F3.3 (by simp)) (Same.trans (nu_ex nD) (nu_upd (.inl (List.mem_singleton.mpr rfl))))) d4) .nil)
    (fun d m => hdw d (List.mem_cons_of_mem _ m)) (drop_app q2.2) (by omega) fun H5 vs g5 R5 h5 n5 => ?_
  have f5 : Fr K [r] H H5 := Fr.drop1 (((F4.trans (Fr.new F4.2 nD)).mono (by simp)).trans g5) hD
  have hlen : ws.length = 0 + 1 + c.told.length + 1 + (dTold d0).length + (jd ds).length := by
    have := congrArg List.length hd
    simp only [List.drop_zero, List.length_cons, List.length_append] at this
    omega
  obtain ⟨dx5, row5, e5⟩ := R5.ob
  refine ⟨_, rfl, r, _, dx5, _, _, rfl, e5, T.c_Reader, T.n_Reader_at, rfs_at .., ?_⟩
  refine ⟨_, rfl, r, _, dx5, _, _, rfl, e5, T.c_Reader, T.n_Reader_words, rfs_words .., wl, _, rfl, .inl (SqL.of R5.wl), ?_⟩
  refine ⟨_, _, rfl, rfl, _, rfl, iteN (by rw [List.length_map, hlen]; omega) ?_⟩
  refine ⟨_, rfl, r, _, dx5, _, _, rfl, e5, T.c_Reader, T.n_Reader_words, rfs_words .., _, rfl, _, rfl, fun x dx nx ndx ne => ?_⟩
  refine ⟨x, dx, _, _, _, rfl, upd_same, rfl, ?_⟩
  rw [upd_upd]
  have nx' : (L2.upd H5 dx (.own x)) x = none := by rw [upd_ne ne.symm]; exact nx
  refine k _ x ((f5.trans (Fr.new f5.2 ndx)).trans (Fr.new (Fr.new (E := []) f5.2 ndx).2 nx')) ⟨⟨f5.3 _ nx, by simp⟩, dx, _, _, _, upd_same, ?_, ?_⟩
  · refine Tr.same ?_ d2'
    refine Same.trans (nu_ex nD) (Same.trans (nu_upd (.inl (List.mem_singleton.mpr rfl))) (Same.trans (nu_fr g5 fun e m => ?_) (Same.trans nu_drop (Same.trans (nu_upd (.inr (.inr ndx))) (nu_upd (.inr (.inr nx')))))))
    simp only [List.mem_cons, List.not_mem_nil, or_false] at m
    rcases m with rfl | rfl
    · exact .inr rs
    · exact .inl (List.mem_singleton.mpr rfl)
  · have hx5 : Dl ≠ x := ne_of_none h5 nx
    have hx6 : Dl ≠ dx := ne_of_none h5 ndx
    exact ND.lst (TrAll.same (Same.trans nu_drop (Same.trans (nu_upd (.inr (.inr ndx))) (nu_upd (.inr (.inr nx'))))) n5) (by rw [upd_ne hx5, upd_ne hx6]; exact h5) hD (by simp)
end
end So
end

section
set_option Elab.async false
set_option linter.all false
set_option maxRecDepth 100000
set_option maxHeartbeats 4000000
/-! the words of a row, as lists of signs -/
namespace So
open PySem PySem.Spec PyProof.Rows L2 TL
def sg : List Nat := [40, 41, 44]
def padL (c : Nat) (l : List Nat) : List Nat := l.flatMap fun d => if d = c then [32, c, 32] else [d]
theorem repl1 (c : Nat) (z : List Nat) : ∀ l : List Nat, StrLaws.replL [c] z l = l.flatMap fun d => if d = c then z else [d]
  | [] => StrLaws.replL_nil
  | d :: l => by
    by_cases h : d = c
    · subst h
      rw [StrLaws.replL_hit (by simp) (by simp)]
      simp [repl1 d z l]
    · rw [StrLaws.replL_miss (by simp [h])]
      simp [repl1 c z l, h]
theorem tl_pad (c : Nat) (x : Str) : tl (Txt.replace x ⟨#[c]⟩ (RpX.pad c)) = padL c (tl x) := by
  have h := StrLaws.replace_list (x := x) (y := ⟨#[c]⟩) (z := RpX.pad c) (by show 1 ≤ 1; decide)
  show (Txt.replace x ⟨#[c]⟩ (RpX.pad c)).cps.toList = _
  rw [h]
  have e : (RpX.pad c).cps.toList = [32, c, 32] := rfl
  rw [e]
  exact repl1 c _ _
def padG (l : List Nat) : List Nat := l.flatMap fun d => if d ∈ sg then [32, d, 32] else [d]
theorem padL3 (l : List Nat) : padL 44 (padL 41 (padL 40 l)) = padG l := by
  induction l with
  | nil => rfl
  | cons d l ih =>
    have ap : ∀ c a b, padL c (a ++ b) = padL c a ++ padL c b := fun c a b => by simp [padL]
    have e : ∀ c, padL c (d :: l) = padL c [d] ++ padL c l := fun c => ap c [d] l
    have g : padG (d :: l) = padG [d] ++ padG l := by simp [padG]
    rw [e, ap, ap, ih, g]
    congr 1
    by_cases h1 : d = 40
    · subst h1; rfl
    · by_cases h2 : d = 41
      · subst h2; rfl
      · by_cases h3 : d = 44
        · subst h3; rfl
        · simp [padL, padG, sg, h1, h2, h3]
theorem tl_padAll (x : Str) : tl (RpX.padAll x [40, 41, 44]) = padG (tl x) := by
  show tl (Txt.replace (Txt.replace (Txt.replace x ⟨#[40]⟩ (RpX.pad 40)) ⟨#[41]⟩ (RpX.pad 41)) ⟨#[44]⟩ (RpX.pad 44)) = _
  rw [tl_pad, tl_pad, tl_pad, padL3]
/-- a word of a row: plain, or a sign -/
def Wd (w : List Nat) : Prop := (w ≠ [] ∧ 32 ∉ w ∧ ∀ d ∈ w, d ∉ sg) ∨ ∃ c ∈ sg, w = [c]
def wdP (w : List Nat) : List (List Nat) := if ∃ c ∈ sg, w = [c] then [[], w, []] else [w]
theorem wdP_ne (w : List Nat) : wdP w ≠ [] := by
  unfold wdP
  split <;> simp
theorem joinL_app {a b : List (List Nat)} (ha : a ≠ []) (hb : b ≠ []) : joinL [32] (a ++ b) = joinL [32] a ++ (32 :: joinL [32] b) := by
  induction a with
  | nil => exact absurd rfl ha
  | cons x a ih =>
    cases a with
    | nil =>
      cases b with
      | nil => exact absurd rfl hb
      | cons y b => rfl
    | cons x2 a =>
      have := ih (by simp)
      show x ++ ([32] ++ joinL [32] ((x2 :: a) ++ b)) = x ++ ([32] ++ joinL [32] (x2 :: a)) ++ _
      rw [this]
      simp
theorem padG_plain {w : List Nat} (h : ∀ d ∈ w, d ∉ sg) : padG w = w := by
  induction w with
  | nil => rfl
  | cons d w ih =>
    have h1 : d ∉ sg := h d List.mem_cons_self
    have h2 := ih fun e m => h e (List.mem_cons_of_mem _ m)
    show (if d ∈ sg then [32, d, 32] else [d]) ++ padG w = _
    rw [if_neg h1, h2]
    rfl
theorem padG_wd {w : List Nat} (h : Wd w) : padG w = joinL [32] (wdP w) := by
  by_cases hs : ∃ c ∈ sg, w = [c]
  · unfold wdP
    rw [if_pos hs]
    obtain ⟨c, hc, rfl⟩ := hs
    show (if c ∈ sg then [32, c, 32] else [c]) ++ [] = _
    rw [if_pos hc]
    rfl
  · unfold wdP
    rw [if_neg hs]
    rcases h with h | h
    · rw [padG_plain h.2.2]; rfl
    · exact absurd h hs
theorem padG_join : ∀ ws : List (List Nat), (∀ w ∈ ws, Wd w) → padG (joinL [32] ws) = joinL [32] (ws.flatMap wdP)
  | [], _ => rfl
  | [w], h => by
    show padG w = joinL [32] (wdP w ++ [])
    rw [List.append_nil, padG_wd (h w List.mem_cons_self)]
  | w :: v :: r, h => by
    have ih := padG_join (v :: r) fun u m => h u (List.mem_cons_of_mem _ m)
    have e : padG (w ++ ([32] ++ joinL [32] (v :: r))) = padG w ++ (32 :: padG (joinL [32] (v :: r))) := by
      simp [padG, sg]
    show padG (w ++ ([32] ++ joinL [32] (v :: r))) = joinL [32] (wdP w ++ (v :: r).flatMap wdP)
    rw [e, ih, padG_wd (h w List.mem_cons_self), joinL_app (wdP_ne w) (by simp [wdP_ne])]
theorem wdP_no32 {w : List Nat} (h : Wd w) : ∀ p ∈ wdP w, 32 ∉ p := by
  unfold wdP
  split
  · rename_i hs
    obtain ⟨c, hc, rfl⟩ := hs
    intro p hp
    simp only [List.mem_cons, List.not_mem_nil, or_false] at hp
    rcases hp with rfl | rfl | rfl
    · simp
    · simp only [sg, List.mem_cons, List.not_mem_nil, or_false] at hc
      rcases hc with rfl | rfl | rfl <;> decide
    · simp
  · rename_i hs
    intro p hp
    rw [List.mem_singleton.mp hp]
    rcases h with h | h
    · exact h.2.1
    · exact absurd h hs
theorem wdP_filter {w : List Nat} (h : Wd w) : (wdP w).filter (fun p => !p.isEmpty) = [w] := by
  have ne : w ≠ [] := by
    rcases h with h | ⟨c, _, rfl⟩
    · exact h.1
    · simp
  unfold wdP
  split <;> simp [ne]
/-- the words of a row -/
def wordsOf (x : Str) : List Str := (Txt.split (RpX.padAll x [40, 41, 44]) " ").filter fun z => decide (z.length ≠ 0)
theorem map_filter_tl (l : List Str) : (l.filter fun z => decide (z.length ≠ 0)).map tl = (l.map tl).filter (fun p => !p.isEmpty) := by
  induction l with
  | nil => rfl
  | cons z l ih =>
    have e : decide (z.length ≠ 0) = !(tl z).isEmpty := by
      rw [len_tl z]
      cases tl z <;> rfl
    rw [List.filter_cons, List.map_cons, List.filter_cons, e]
    split
    · rw [List.map_cons, ih]
    · exact ih
theorem spl32 (x : Str) : (Txt.split x " ").map tl = spl [32] 0 [] (tl x) := split_spl x " " (by decide +kernel) (kind_ok (by decide +kernel))
theorem wordsOf_tl (x : Str) : (wordsOf x).map tl = (spl [32] 0 [] (padG (tl x))).filter (fun p => !p.isEmpty) := by
  unfold wordsOf
  rw [map_filter_tl, spl32, tl_padAll]
theorem wordsOf_join {ws : List Str} (hne : ws ≠ []) (h : ∀ w ∈ ws, Wd (tl w)) : wordsOf (Txt.join " " ws) = ws := by
  refine map_tl_inj ?_
  have hw : ∀ w ∈ ws.map tl, Wd w := fun w m => by
    obtain ⟨z, hz, rfl⟩ := List.mem_map.mp m
    exact h z hz
  have e32 : tl (" " : Str) = [32] := by decide +kernel
  rw [wordsOf_tl, join_eq, tl_join, e32, padG_join _ hw, spl_join (S := [])]
  · generalize ws.map tl = vs at hw
    induction vs with
    | nil => rfl
    | cons v vs ih =>
      rw [List.flatMap_cons, List.filter_append, wdP_filter (hw v List.mem_cons_self), ih fun w m => hw w (List.mem_cons_of_mem _ m)]
      rfl
  · intro z
    cases ws with
    | nil => exact hne rfl
    | cons w ws =>
      have := (List.flatMap_eq_nil_iff.mp z) (tl w) (by simp)
      exact wdP_ne _ this
  · intro p hp
    obtain ⟨w, m, hp⟩ := List.mem_flatMap.mp hp
    exact wdP_no32 (hw w m) p hp
end So
end

section
set_option Elab.async false
set_option linter.all false
set_option maxRecDepth 100000
set_option maxHeartbeats 4000000
namespace So
open PySem PySem.Spec PyProof.Rows L2 GxA TL
open GxR (TabB TabG Tabbed)
section
variable {P : Program} {w : World} {K : PySem.W.Frag} {mg : Str → Option Value} {base : Heap}
def spWordsOf (K : PySem.W.Frag) : Sp := fun vs H Q _ => ∃ x : Str, vs = [.str x] ∧ x.length ≤ 1000 ∧ Tb K H ∧ ∀ H' D, Fr K [] H H' → H D = none → H' D = some (.lst ((wordsOf x).map V.str)) → Q (.ref D) H'
theorem len_word {L : List Str} {i : Nat} {x : Str} (h : L[i]? = some x) : (L.take (i + 1)).filter (fun z => decide (z.length ≠ 0)) = (L.take i).filter (fun z => decide (z.length ≠ 0)) ++ (if x.length ≠ 0 then [x] else []) := by
  rw [List.take_add_one, h, List.filter_append]
  congr 1
  show List.filter _ [x] = _
  by_cases e : x.length ≠ 0
  · rw [if_pos e]; simp [e]
  · rw [if_neg e]; simp [e]
theorem spl_len : ∀ (l acc : List Nat), (spl [32] 0 acc l).length ≤ l.length + 1 := by
  intro l
  induction l with
  | nil => intro acc; exact Nat.le_refl _
  | cons c r ih =>
    intro acc
    show (if _ then acc :: spl [32] 0 [] r else spl [32] 0 (acc ++ [c]) r).length ≤ r.length + 1 + 1
    split
    · exact Nat.succ_le_succ (ih [])
    · exact Nat.le_succ_of_le (ih _)
theorem spl_part : ∀ (l acc p : List Nat), p ∈ spl [32] 0 acc l → p.length ≤ acc.length + l.length := by
  intro l
  induction l with
  | nil =>
    intro acc p h
    rw [List.mem_singleton.mp (show p ∈ [acc] from h)]
    exact Nat.le_refl _
  | cons c r ih =>
    intro acc p h
    have h : p ∈ (if pre [32] (c :: r) = true then acc :: spl [32] 0 [] r else spl [32] 0 (acc ++ [c]) r) := h
    split at h
    · rcases List.mem_cons.mp h with rfl | h
      · omega
      · have := ih [] p h
        simp only [List.length_nil, List.length_cons] at *
        omega
    · have := ih _ p h
      simp only [List.length_append, List.length_cons, List.length_nil] at *
      omega
def tTru (K : PySem.W.Frag) (ta : TE) : TT := fun σ H Q => ta σ H fun x H' => ∃ k, TruV K x H' k ∧ Q k H'
theorem R_words_of (T : Txt w K mg base) : FnR P w K mg base CX0 2 (a_words_of K) (spWordsOf K) := by
  refine mkR T.f_words_of sc_words_of bd_words_of ?_ ?_
  · rintro vs H Q E ⟨x, rfl, _⟩; rfl
  rintro cdv A outer s H vs Q E hr ⟨x, rfl, hx, tb, k⟩
  have nd := sc_words_of.nd
  refine ⟨_, PSs.nox <| pss_cons (RpX.ps_forRepl (ix := 1) (ir := 0) PassesOwn.never rfl nd rfl rfl (by decide) rfl rfl (by decide +kernel))
    (pss_one (ps_ret (pe_lc (own := [("word", 2)]) (g := gName 2) (tt := tTru K (tVar 2)) rfl nd (pi_list (pe_split (pv 0) pe_str)) (blkOk_by (own := [("word", 2)]) (N := N_words_of) (sc := defScope s_words_of) (by decide +kernel))
      (fun _ _ _ _ _ => pg_name (i := 2) nd rfl (Or.inl rfl)) (fun _ _ _ _ _ => pts_one (pt_truth (pv 2) (by intro _; rfl))) (fun _ _ _ _ _ => pv 2)))), ?_⟩
  have el : ("()," : Str).cps.toList = [40, 41, 44] := by decide +kernel
  refine ⟨x, rfl, hx, by decide, fun v => ?_⟩
  rw [el]
  have hl := RpX.padAll_len [40, 41, 44] x
  have hl2 : (RpX.padAll x [40, 41, 44]).length ≤ 64064 := Nat.le_trans hl (by show (x.length + 1) * 64 ≤ 64064; omega)
  generalize hw : Txt.split (RpX.padAll x [40, 41, 44]) " " = L
  refine ⟨_, rfl, ⟨_, rfl⟩, _, _, rfl, rfl, by decide, Nat.le_trans (Nat.add_le_add_right hl2 2) (by decide), fun S nS => ?_⟩
  rw [hw]
  refine ⟨S, rfl, ⟨_, SqL.of upd_same⟩, fun D nD => ?_⟩
  have f1 : Fr K [] H (L2.upd H S (.lst (L.map V.str))) := Fr.new tb nS
  have hSD : S ≠ D := ne_of_none upd_same nD
  have hD : H D = none := upd_live _ nD
  have lenL : L.length ≤ 64065 := by
    have e : L.map tl = spl [32] 0 [] (tl (RpX.padAll x [40, 41, 44])) := by rw [← hw]; exact spl32 _
    have := congrArg List.length e
    rw [List.length_map] at this
    have h3 := spl_len (tl (RpX.padAll x [40, 41, 44])) []
    rw [← len_tl] at h3
    omega
  refine lc_list (xs := L.map V.str) (fun i H' => Fr K [] H H' ∧ H' S = some (.lst (L.map V.str)) ∧ H' D = some (.lst (((L.take i).filter fun z => decide (z.length ≠ 0)).map V.str)))
    ⟨f1.upNew tb hD, by rw [upd_ne hSD]; exact upd_same, upd_same⟩ (fun i H' _ ⟨_, h, _⟩ => SqL.of h) (fun i y H' hy ⟨f, h1, h2⟩ => ?_) (fun H' ⟨f, h1, h2⟩ => ?_)
  · obtain ⟨z, hz, rfl⟩ := at_map hy
    have lw := len_word hz
    have mz : z ∈ L := List.mem_of_getElem? hz
    have zl : z.length ≤ sizeLine := by
      have e : L.map tl = spl [32] 0 [] (tl (RpX.padAll x [40, 41, 44])) := by rw [← hw]; exact spl32 _
      have h3 := spl_part (tl (RpX.padAll x [40, 41, 44])) [] (tl z) (by rw [← e]; exact List.mem_map.mpr ⟨z, mz, rfl⟩)
      rw [← len_tl, ← len_tl] at h3
      exact Nat.le_trans h3 (Nat.le_trans (by simpa using hl2) (by decide))
    refine ⟨rfl, _, rfl, decide (z.length ≠ 0), ⟨zl, ?_⟩, ?_⟩
    · cases e : z.length <;> rfl
    by_cases e : z.length ≠ 0
    · refine iteD e ?_
      rw [if_pos e] at lw
      refine ⟨_, rfl, _, h2, ?_, f.upNew tb hD, by rw [upd_ne hSD]; exact h1, ?_⟩
      · rw [List.length_map]
        have g1 := List.length_filter_le (fun z : Str => decide (z.length ≠ 0)) (L.take i)
        have g2 : (L.take i).length ≤ L.length := by rw [List.length_take]; omega
        exact Nat.lt_of_le_of_lt (by omega : _ ≤ 64065) (by decide)
      · rw [upd_same, lw, List.map_append]
        rfl
    · refine iteN e ⟨f, h1, ?_⟩
      rw [if_neg e, List.append_nil] at lw
      rw [lw]
      exact h2
  · refine k _ _ f hD ?_
    rw [h2, List.length_map, List.take_length]
    show _ = some (HO.lst ((wordsOf x).map V.str))
    unfold wordsOf
    rw [hw]
end
end So
end

section
set_option Elab.async false
set_option linter.all false
set_option maxRecDepth 100000
set_option maxHeartbeats 4000000
namespace So
open PySem PySem.Spec PyProof.Rows L2 GxA TL
open GxR (TabB TabG Tabbed)
section
variable {P : Program} {w : World} {K : PySem.W.Frag} {mg : Str → Option Value} {base : Heap}
theorem RuleN.back {H0 H0' H : Hp} {E E' : List Addr} {a : Addr} {c : Cnd} {ds : List Deed} (l : ∀ p, H0' p = none → H0 p = none) (i : ∀ e ∈ E, e ∈ E' ∨ H0' e ≠ none) (h : RuleN K H0' E' H a c ds) : RuleN K H0 E H a c ds := by
  obtain ⟨n, dx, wl, v, dl, e, a1, a2⟩ := h
  exact ⟨⟨l _ n.1, fun m => (i _ m).elim n.2 (fun z => z n.1)⟩, dx, wl, v, dl, e, Tr.same (nu_back l i) a1, Tr.same (nu_back l i) a2⟩
theorem cut_take {xs : List V} {n : Nat} (h : xs.length ≤ n) : cutV xs none (some (n : Int)) = xs := by
  unfold cutV
  rw [HT.sIx_none, HT.sIx_nat, List.drop_zero, Nat.min_eq_right h]
  exact List.take_of_length_le (by omega)
def spRuleOf (K : PySem.W.Frag) : Sp := fun vs H Q _ => ∃ (wl : Addr) (row : V) (c : Cnd) (d0 : Deed) (ds : List Deed) (W : List Str), vs = [.ref wl, row] ∧ H wl = some (.lst ((ruleT c (d0 :: ds)).map V.str)) ∧ (ruleT c (d0 :: ds)).length ≤ 60 ∧ Tb K H ∧ c.wf W 2 ∧ c.dep < 4 ∧ (∀ d ∈ d0 :: ds, dWf d) ∧ ds.length ≤ 5 ∧
  ∀ H' a, Fr K [] H H' → RuleN K H [] H' a c (d0 :: ds) → Q (.ref a) H'
theorem R_rule_of (T : Txt w K mg base) : FnR P w K mg base CX0 44 (a_rule_of K) (spRuleOf K) := by
  refine mkR T.f_rule_of sc_rule_of bd_rule_of ?_ ?_
  · rintro vs H Q E ⟨wl, row, c, d0, ds, W, rfl, _⟩; rfl
  rintro cdv A outer s H vs Q E hr ⟨wl, row, c, d0, ds, W, rfl, hw, hlen, tb, hc, hm, hdw, hdl, k⟩
  have nd := sc_rule_of.nd
  letI : RowV := ⟨row⟩
  obtain ⟨tM, hM⟩ := T.i_MOST_WORDS
  refine ⟨_, pss_cons (ps_set (i := 2) nd rfl (.inl rfl) (pe_m0F (StX.pe_makeR T.mk_Reader (R_Reader_init T) (hr.mono (by decide)) (by rfl) T.g_Reader pass0
      (pa_cons (pe_slice sl_list (pv 0) po_none (po_some (pe_op op_add (pe_glob (by rfl) hM (v := .int 60) ⟨_, rfl⟩) pe_int))) (pa_cons (pv 1) pa_nil))) T.c_Reader T.m_Reader_read_rule (R_read_rule T) (hr.mono (by decide))))
    (pss_cons (ps_if (pt_cmpR op_gt (pe_callB call_len_seq (by rfl) T.z_len PySem.boot_len (pa_cons (pv 0) pa_nil)) (pe_glob (by rfl) hM (v := .int 60) ⟨_, rfl⟩) (nomark _)) (pss_one ps_never) pss_nil)
    (pss_one (ps_ret (pv 2)))), ?_⟩
  generalize hws : ruleT c (d0 :: ds) = ws at hw hlen
  refine ⟨_, rfl, ?_⟩
  refine ⟨60, 1, rfl, rfl, _, rfl, wl, ws.map V.str, rfl, SqL.of hw, fun cl ncl => ?_⟩
  rw [show ((60 : Int) + 1) = ((61 : Nat) : Int) from rfl, cut_take (by rw [List.length_map]; omega)]
  refine ⟨_, rfl, fun x dx nx ndx ne => ?_⟩
  have f1 : Fr K [] H (L2.upd H cl (.lst (ws.map V.str))) := Fr.new tb ncl
  have nx' : (L2.upd (L2.upd H cl (.lst (ws.map V.str))) dx (.own x)) x = none := by rw [upd_ne ne.symm]; exact nx
  have f2 := f1.trans (Fr.new (E := []) (o := .own x) f1.2 ndx)
  have f3 := f2.trans (Fr.new (E := []) (o := .ins (C_Reader K) dx []) f2.2 nx')
  refine ⟨x, dx, cl, _, ws, rfl, rfl, upd_same, ?_, f3.2, fun H2 g2 R2 => ⟨rfl, ?_⟩⟩
  · rw [upd_ne (ne_of_none upd_same nx).symm.symm, upd_ne (ne_of_none upd_same ndx)]
    exact upd_same
  obtain ⟨dx2, row2, e2⟩ := R2.ob
  refine ⟨x, dx2, _, rfl, e2, rfl, x, cl, c, d0, ds, W, rfl, by rw [hws]; exact R2, g2.2, hc, hm, hdw, hdl, fun H3 a g3 r3 => ?_⟩
  have hx : H x = none := upd_live _ nx
  have f4 : Fr K [] H H3 := Fr.drop1 (E := []) (((f3.mono (E' := [x]) (by simp)).trans g2).trans g3) hx
  have hw3 := f4.at hw
  refine ⟨_, rfl, wl, _, rfl, .inl (SqL.of hw3), _, _, rfl, rfl, _, rfl, iteN (by rw [List.length_map]; omega) ?_⟩
  exact ⟨_, rfl, k _ _ f4 (r3.back (fun p z => f3.3 p (g2.3 p z)) (by simp))⟩
end
end So
end

section
set_option Elab.async false
set_option linter.all false
set_option maxRecDepth 100000
set_option maxHeartbeats 4000000
namespace So
open PySem PySem.Spec PyProof.Rows L2 GxA TL
open GxR (TabB TabG Tabbed)
/-! ### facts gathered -/
/-- a fact's key, of words that W names -/
def KeyOk (W : List Str) (k : List Key) : Prop := (∃ a n : Str, k = [.inr a, .inr n] ∧ a ∈ kinds1 ∧ (a ∈ kindsW → n ∈ W)) ∨ (∃ a b : Str, k = [.inr "pair", .inr a, .inr b] ∧ a ∈ W ∧ b ∈ W) ∨ ∃ n : Int, k = [.inr "over", .inl n]
def Cnd.nf : Cnd → Nat
  | .any => 0
  | .neg c => c.nf
  | .par c => c.nf
  | .and2 a b => a.nf + b.nf
  | .and3 a b c => a.nf + (b.nf + c.nf)
  | .and4 a b c d => a.nf + (b.nf + (c.nf + d.nf))
  | .or2 a b => a.nf + b.nf
  | _ => 1
def Cnd.hgt : Cnd → Nat
  | .neg c => c.hgt + 1
  | .par c => c.hgt
  | .and2 a b => max a.hgt b.hgt + 1
  | .and3 a b c => max a.hgt (max b.hgt c.hgt) + 1
  | .and4 a b c d => max a.hgt (max b.hgt (max c.hgt d.hgt)) + 1
  | .or2 a b => max a.hgt b.hgt + 1
  | _ => 0
def addK {κ : Type} [DecidableEq κ] (ks : List κ) (k : κ) : List κ := if k ∈ ks then ks else ks ++ [k]
theorem addK_len {κ : Type} [DecidableEq κ] (ks : List κ) (k : κ) : (addK ks k).length ≤ ks.length + 1 := by
  unfold addK; split <;> simp
theorem addKs_len {κ : Type} [DecidableEq κ] : ∀ (l ks : List κ), (l.foldl addK ks).length ≤ ks.length + l.length
  | [], _ => Nat.le_refl _
  | a :: l, ks => by
    have h1 := addKs_len l (addK ks a)
    have h2 := addK_len ks a
    simp only [List.foldl_cons, List.length_cons]
    omega
theorem addKs_all {κ : Type} [DecidableEq κ] {C : κ → Prop} : ∀ (l ks : List κ), (∀ x ∈ ks, C x) → (∀ x ∈ l, C x) → ∀ x ∈ l.foldl addK ks, C x
  | [], _, h, _ => h
  | a :: l, ks, h, g => addKs_all l (addK ks a) (fun x m => by
      unfold addK at m
      split at m
      · exact h x m
      · rcases List.mem_append.mp m with m | m
        · exact h x m
        · rw [List.mem_singleton.mp m]; exact g a List.mem_cons_self) fun x m => g x (List.mem_cons_of_mem _ m)
theorem addKs_nd {κ : Type} [DecidableEq κ] : ∀ (l ks : List κ), ks.Nodup → (l.foldl addK ks).Nodup
  | [], _, h => h
  | a :: l, ks, h => addKs_nd l (addK ks a) (by
      unfold addK
      split
      · exact h
      · rename_i e; exact nd_snoc h e)
/-- the facts of a condition, as keys -/
def Cnd.fk : Cnd → List (List Key)
  | .any => []
  | .fact k n => [[.inr k, .inr n]]
  | .pair a b => [[.inr "pair", .inr a, .inr b]]
  | .over n => [[.inr "over", .inl n]]
  | .neg c => c.fk
  | .par c => c.fk
  | .and2 a b => a.fk ++ b.fk
  | .and3 a b c => a.fk ++ (b.fk ++ c.fk)
  | .and4 a b c d => a.fk ++ (b.fk ++ (c.fk ++ d.fk))
  | .or2 a b => a.fk ++ b.fk
theorem Cnd.fk_nf (c : Cnd) : c.fk.length = c.nf := by
  induction c with
  | any => rfl
  | fact => rfl
  | pair => rfl
  | over => rfl
  | neg c ih => exact ih
  | par c ih => exact ih
  | and2 a b h1 h2 => show (a.fk ++ b.fk).length = a.nf + b.nf; rw [List.length_append, h1, h2]
  | and3 a b c h1 h2 h3 => show (a.fk ++ (b.fk ++ c.fk)).length = a.nf + (b.nf + c.nf); rw [List.length_append, List.length_append, h1, h2, h3]
  | and4 a b c d h1 h2 h3 h4 => show (a.fk ++ (b.fk ++ (c.fk ++ d.fk))).length = a.nf + (b.nf + (c.nf + d.nf)); rw [List.length_append, List.length_append, List.length_append, h1, h2, h3, h4]
  | or2 a b h1 h2 => show (a.fk ++ b.fk).length = a.nf + b.nf; rw [List.length_append, h1, h2]
theorem Cnd.fk_ok {W : List Str} (c : Cnd) : ∀ l, c.wf W l → ∀ x ∈ c.fk, KeyOk W x := by
  have ap : ∀ {a b : List (List Key)}, (∀ x ∈ a, KeyOk W x) → (∀ x ∈ b, KeyOk W x) → ∀ x ∈ a ++ b, KeyOk W x := fun h g x m => (List.mem_append.mp m).elim (h x) (g x)
  induction c with
  | any => intro l h x m; cases m
  | fact k n => intro l h x m; rw [List.mem_singleton.mp m]; exact .inl ⟨_, _, rfl, h.1, h.2.2⟩
  | pair a b => intro l h x m; rw [List.mem_singleton.mp m]; exact .inr (.inl ⟨_, _, rfl, h.2.2.1, h.2.2.2⟩)
  | over n => intro l h x m; rw [List.mem_singleton.mp m]; exact .inr (.inr ⟨_, rfl⟩)
  | neg c ih => intro l h; exact ih 0 h
  | par c ih => intro l h; exact ih 2 h
  | and2 a b h1 h2 => intro l h; exact ap (h1 0 h.2.1) (h2 0 h.2.2)
  | and3 a b c h1 h2 h3 => intro l h; exact ap (h1 0 h.2.1) (ap (h2 0 h.2.2.1) (h3 0 h.2.2.2))
  | and4 a b c d h1 h2 h3 h4 => intro l h; exact ap (h1 0 h.2.1) (ap (h2 0 h.2.2.1) (ap (h3 0 h.2.2.2.1) (h4 0 h.2.2.2.2)))
  | or2 a b h1 h2 => intro l h; exact ap (h1 1 h.2.1) (h2 1 h.2.2)
theorem ne_kind2 {k : Str} (h : k ∈ kinds1) : k ≠ "not" ∧ k ≠ "and" ∧ k ≠ "or" ∧ k ≠ "any" := by
  simp only [kinds1, List.mem_cons, List.not_mem_nil, or_false] at h
  rcases h with rfl | rfl | rfl | rfl | rfl <;> decide +kernel
theorem keys_putK {κ : Type} [DecidableEq κ] (kvs : List (κ × V)) (k : κ) (v : V) : (putK kvs k v).map (·.1) = if k ∈ kvs.map (·.1) then kvs.map (·.1) else kvs.map (·.1) ++ [k] := by
  unfold putK
  by_cases h : k ∈ kvs.map (·.1)
  · rw [if_pos h, if_pos]
    · rw [List.map_map]
      refine List.map_congr_left fun p _ => ?_
      show (if p.1 = k then (p.1, v) else p).1 = p.1
      split <;> rfl
    · obtain ⟨p, hp, e⟩ := List.mem_map.mp h
      exact List.any_eq_true.mpr ⟨p, hp, decide_eq_true e⟩
  · rw [if_neg h, if_neg]
    · rw [List.map_append]; rfl
    · intro z
      obtain ⟨p, hp, e⟩ := List.any_eq_true.mp z
      exact h (List.mem_map.mpr ⟨p, hp, of_decide_eq_true e⟩)
theorem all_putK {κ : Type} [DecidableEq κ] {C : κ → Prop} {kvs : List (κ × V)} {k : κ} {v : V} (h : ∀ x ∈ kvs.map (·.1), C x) (hk : C k) : ∀ x ∈ (putK kvs k v).map (·.1), C x := by
  intro x m
  rw [keys_putK] at m
  split at m
  · exact h x m
  · rcases List.mem_append.mp m with m | m
    · exact h x m
    · rw [List.mem_singleton.mp m]; exact hk
def Cnd.isPar : Cnd → Bool
  | .par _ => true
  | _ => false
theorem unpar (W : List Str) : ∀ (c : Cnd) (l : Nat), c.wf W l → ∃ (c' : Cnd) (l' : Nat), c'.p = c.p ∧ c'.nf = c.nf ∧ c'.hgt = c.hgt ∧ c'.wf W l' ∧ c'.isPar = false ∧ (∀ L ms, c'.ev L ms = c.ev L ms) ∧ c'.fk = c.fk := by
  intro c
  induction c with
  | par c ih => intro l h; exact ih 2 h
  | _ => intro l h; exact ⟨_, l, rfl, rfl, rfl, h, rfl, (fun _ _ => rfl), rfl⟩
section
variable {P : Program} {w : World} {K : PySem.W.Frag} {mg : Str → Option Value} {base : Heap}
/-- the dict of these facts -/
def DX (ks : List (List Key)) (H : Hp) (d : Addr) : Prop := ∃ kvs : List (List Key × V), H d = some (.dT kvs) ∧ kvs.map (·.1) = ks
def spAdd (m : Nat) (K : PySem.W.Frag) : Sp := fun vs H Q _ => ∃ (v : V) (d : Addr) (c : Cnd) (W : List Str) (l : Nat) (ks : List (List Key)), vs = [v, .ref d] ∧ Tr H v c.p ∧ c.wf W l ∧ c.hgt < m ∧ DX ks H d ∧ ks.length + c.nf ≤ 1000 ∧ Tb K H ∧
  ∀ H', Fr K [d] H H' → DX (c.fk.foldl addK ks) H' d → Q .non H'
theorem dt_ok {ks : List (List Key)} {H : Hp} {d : Addr} (h : DX ks H d) : ∀ e ∈ [d], ∀ o, H e = some o → seqO o = false := by
  obtain ⟨kvs, e, _⟩ := h
  intro a m o ho
  rw [List.mem_singleton.mp m, e] at ho
  cases ho
  rfl
theorem add_step (T : Txt w K mg base) {m n : Nat} (hA : FnR P w K mg base CX0 (n + 1) (a_add_facts K) (spAdd m K)) : FnR P w K mg base CX0 (n + 2) (a_add_facts K) (spAdd (m + 1) K) := by
  refine mkR T.f_add_facts sc_add_facts bd_add_facts ?_ ?_
  · rintro vs H Q E ⟨v, d, c, W, l, n, rfl, _⟩; rfl
  rintro cdv A outer s H vs Q E hr ⟨v, d, c, W, l, ks, rfl, hv, hw, hh, hd, hn, tb, k⟩
  obtain ⟨c', l', p1, p2, p3, hw, np, _, p4⟩ := unpar W c l hw
  rw [← p1] at hv
  rw [← p3] at hh
  rw [← p2] at hn
  rw [← p4] at k
  clear p1 p2 p3 p4
  generalize c' = c at *
  have nd := sc_add_facts.nd
  obtain ⟨_, FA⟩ := T.f_add_facts
  refine ⟨_, PSs.nox <| pss_cons (ps_set (i := 2) nd rfl (.inl rfl) (pe_ix ix_tup (pv 0) pe_int (fun _ _ => rfl)))
    (pss_one (ps_if (pt_cmpR op_eq (pv 2) pe_str (nomark _))
      (pss_one (ps_expr (pe_cF hA hr (by rfl) T.g_add_facts FA.kp (pa_cons (pe_ix ix_tup (pv 0) pe_int (fun _ _ => rfl)) (pa_cons (pv 1) pa_nil)))))
      (pss_one (ps_if (PW.pt (pw_or (pt_cmpR op_eq (pv 2) pe_str (nomark _)) (pw_or1 (pt_cmpR op_eq (pv 2) pe_str (nomark _)))))
        (pss_one (ps_for PassesOwn.never rfl (pi_list (pe_ix ix_tup (pv 0) pe_int (fun _ _ => rfl))) (pg_name (i := 3) nd rfl (.inl rfl))
          (pss_one (ps_expr (pe_cF hA hr (by rfl) T.g_add_facts FA.kp (pa_cons (pv 3) (pa_cons (pv 1) pa_nil)))))))
        (pss_one (ps_if (pt_cmpR op_ne (pv 2) pe_str (nomark _))
          (pss_one (ps_dput (hu_of hr) (pv 1) (pv 0) pe_bl rfl)) pss_nil)))))), ?_⟩
  -- a fact put into the dict
  have put : ∀ (a : Addr) (key : List Key), v = .ref a → H a = some (.tup (key.map kV)) → c.fk = [key] → ∀ σ : L2.St, σ[0]? = some (some v) → σ[1]? = some (some (.ref d)) →
      sDPut (tVar 1) (tVar 0) (tC (.bl true)) { nx := fun _ H' => Q .non H', rt := Q } σ H := by
    intro a key e1 e2 e4 σ s0 s1
    subst e1
    obtain ⟨kvs, h1, h2⟩ := hd
    have hl : kvs.length = ks.length := by rw [← h2, List.length_map]
    refine ⟨_, s1, _, s0, d, _, rfl, DPut.t h1 e2 (Nat.lt_of_le_of_lt (by omega : kvs.length ≤ 1000) (by decide)), ?_⟩
    refine k _ (Fr.put tb h1 (by intro _ z; cases z) (List.mem_singleton.mpr rfl)) ⟨_, upd_same, ?_⟩
    rw [keys_putK, h2, e4]
    rfl
  -- the parts of and, or
  have loop : ∀ (a lst : Addr) (x : Str) (ps : List Cnd) (xs : List V), v = .ref a → H a = some (.tup [.str x, .ref lst]) → H lst = some (.lst xs) → TrAll H xs (ps.map Cnd.p) → (∀ p ∈ ps, (∃ l, p.wf W l) ∧ p.hgt < m) → c.fk = ps.flatMap Cnd.fk → c.nf = (ps.map Cnd.nf).sum → ∀ σ : L2.St, σ = [some v, some (.ref d), some (.str x), none] →
      tFor (iList K (tOp (rIxT K) (tVar 0) (tC (.int 1)))) (gName 3) (tDrop (tCF (spAdd m K) (tCons (tVar 3) (tCons (tVar 1) tNil)))) { nx := fun _ H' => Q .non H', rt := Q } σ H := by
    intro a lst x ps xs e1 e2 e3 e4 e5 e7 e6 σ es
    subst e1
    subst es
    refine ⟨_, rfl, a, _, _, .ref lst, rfl, rfl, .inl (.inl e2), rfl, lst, rfl, ⟨_, SqL.of e3⟩, ?_⟩
    have hlen : xs.length = ps.length := by rw [e4.len, List.length_map]
    have lenf : ∀ i, (((ps.take i).flatMap Cnd.fk).foldl addK ks).length ≤ ks.length + ((ps.take i).map Cnd.nf).sum := fun i => by
      refine Nat.le_trans (addKs_len _ _) ?_
      have : ∀ l : List Cnd, (l.flatMap Cnd.fk).length = (l.map Cnd.nf).sum := fun l => by
        induction l with
        | nil => rfl
        | cons c l ih => simp [Cnd.fk_nf, ih]
      rw [this]
      exact Nat.le_refl _
    refine for_list (xs := xs) (fun i σ H' => (∃ z, σ = [some (V.ref a), some (.ref d), some (.str x), z]) ∧ Fr K [d] H H' ∧ DX (((ps.take i).flatMap Cnd.fk).foldl addK ks) H' d) ⟨⟨_, rfl⟩, Fr.refl tb, hd⟩
      (fun i σ H' _ ⟨_, f, _⟩ => SqL.of (f.at e3 (by intro _ z; cases z) (fun z => ?_))) (fun i y σ H' hy ⟨⟨z, es⟩, f, hd2⟩ => ?_) (fun σ H' ⟨_, f, hd2⟩ => ?_)
    · obtain ⟨kvs, h1, _⟩ := hd
      rw [List.mem_singleton.mp z, h1] at e3
      cases e3
    · subst es
      obtain ⟨p, hp⟩ : ∃ p, ps[i]? = some p := by
        have : i < ps.length := by rw [← hlen]; exact (List.getElem?_eq_some_iff.mp hy).1
        exact ⟨_, List.getElem?_eq_getElem this⟩
      have hm := List.mem_of_getElem? hp
      obtain ⟨⟨l', hl'⟩, hh'⟩ := e5 p hm
      have ht : Tr H y p.p := e4.at i y p.p hy (by rw [List.getElem?_map, hp]; rfl)
      have sum_le : ((ps.take (i + 1)).map Cnd.nf).sum ≤ (ps.map Cnd.nf).sum := by
        conv => rhs; rw [← List.take_append_drop (i + 1) ps, List.map_append, List.sum_append]
        omega
      have sum_s : ((ps.take (i + 1)).map Cnd.nf).sum = ((ps.take i).map Cnd.nf).sum + p.nf := by
        rw [List.take_add_one, hp, List.map_append, List.sum_append]
        simp
      refine ⟨_, rfl, _, rfl, y, d, p, W, l', _, rfl, f.tr (dt_ok hd) ht, hl', hh', hd2, by have := lenf i; omega, f.2, fun H2 f2 hd3 => ?_⟩
      exact ⟨⟨_, rfl⟩, f.trans f2, by rw [List.take_add_one, hp, List.flatMap_append, List.foldl_append]; simpa using hd3⟩
    · rw [hlen, List.take_length] at hd2
      exact k H' f (by rw [e7]; exact hd2)
  cases c with
  | any =>
    obtain ⟨a, xs, rfl, ha, hx⟩ := tr_tup hv
    cases hx with
    | cons a1 a2 =>
      cases a2
      rw [tr_str a1] at ha
      refine ⟨_, rfl, a, _, _, _, rfl, rfl, .inl (.inl ha), rfl, ?_⟩
      refine ⟨_, rfl, rfl, _, rfl, iteN (by decide +kernel) ?_⟩
      refine ⟨_, rfl, rfl, _, rfl, iteN (by decide +kernel) ?_⟩
      refine ⟨_, rfl, rfl, _, rfl, iteN (by decide +kernel) ?_⟩
      refine ⟨_, rfl, rfl, _, rfl, iteNS rfl ?_⟩
      exact k H (Fr.refl tb) hd
  | over nn =>
    obtain ⟨a, xs, rfl, ha, hx⟩ := tr_tup hv
    cases hx with
    | cons a1 a2 =>
      cases a2 with
      | cons a2 a3 =>
      cases a3
      rw [tr_str a1, tr_int a2] at ha
      refine ⟨_, rfl, a, _, _, _, rfl, rfl, .inl (.inl ha), rfl, ?_⟩
      refine ⟨_, rfl, rfl, _, rfl, iteN (by decide +kernel) ?_⟩
      refine ⟨_, rfl, rfl, _, rfl, iteN (by decide +kernel) ?_⟩
      refine ⟨_, rfl, rfl, _, rfl, iteN (by decide +kernel) ?_⟩
      refine ⟨_, rfl, rfl, _, rfl, iteNT (by decide +kernel) ?_⟩
      exact put a [.inr "over", .inl nn] rfl ha rfl _ rfl rfl
  | pair x y =>
    obtain ⟨a, xs, rfl, ha, hx⟩ := tr_tup hv
    have hx := trAll_strs (xs := ["pair", x, y]) hx
    subst hx
    refine ⟨_, rfl, a, _, _, .str "pair", rfl, rfl, .inl (.inl ha), rfl, ?_⟩
    refine ⟨_, rfl, rfl, _, rfl, iteN (by decide +kernel) ?_⟩
    refine ⟨_, rfl, rfl, _, rfl, iteN (by decide +kernel) ?_⟩
    refine ⟨_, rfl, rfl, _, rfl, iteN (by decide +kernel) ?_⟩
    refine ⟨_, rfl, rfl, _, rfl, iteNT (by decide +kernel) ?_⟩
    exact put a [.inr "pair", .inr x, .inr y] rfl ha rfl _ rfl rfl
  | fact x y =>
    obtain ⟨a, xs, rfl, ha, hx⟩ := tr_tup hv
    have hx := trAll_strs (xs := [x, y]) hx
    subst hx
    obtain ⟨h1, h2, h3, h4⟩ := ne_kind2 hw.1
    refine ⟨_, rfl, a, _, _, .str x, rfl, rfl, .inl (.inl ha), rfl, ?_⟩
    refine ⟨_, rfl, rfl, _, rfl, iteN (fun z => h1 (by injection z)) ?_⟩
    refine ⟨_, rfl, rfl, _, rfl, iteN (fun z => h2 (by injection z)) ?_⟩
    refine ⟨_, rfl, rfl, _, rfl, iteN (fun z => h3 (by injection z)) ?_⟩
    refine ⟨_, rfl, rfl, _, rfl, iteNT (fun z => h4 (by injection z)) ?_⟩
    exact put a [.inr x, .inr y] rfl ha rfl _ rfl rfl
  | neg c =>
    obtain ⟨a, xs, rfl, ha, hx⟩ := tr_tup hv
    cases hx with
    | cons a1 a2 =>
      cases a2 with
      | cons a2 a3 =>
      cases a3
      rw [tr_str a1] at ha
      refine ⟨_, rfl, a, _, _, _, rfl, rfl, .inl (.inl ha), rfl, ?_⟩
      refine ⟨_, rfl, rfl, _, rfl, iteD rfl ?_⟩
      refine ⟨_, rfl, a, _, _, _, rfl, rfl, .inl (.inl ha), rfl, _, rfl, _, d, c, W, 0, ks, rfl, a2, hw, Nat.lt_of_succ_lt_succ hh, hd, hn, tb, k⟩
  | par c => cases np
  | and2 x y =>
    obtain ⟨a, xs, rfl, ha, hx⟩ := tr_tup hv
    cases hx with
    | cons a1 a2 =>
      cases a2 with
      | cons a2 a3 =>
      cases a3
      obtain ⟨lst, ys, rfl, hl, ht⟩ := tr_lst a2
      rw [tr_str a1] at ha
      refine ⟨_, rfl, a, _, _, _, rfl, rfl, .inl (.inl ha), rfl, ?_⟩
      refine ⟨_, rfl, rfl, _, rfl, iteN (by decide +kernel) ?_⟩
      refine ⟨_, rfl, rfl, _, rfl, iteD rfl (iteT ?_)⟩
      refine loop a lst "and" [x, y] ys rfl ha hl ht ?_ (by simp [Cnd.fk]) ?_ _ rfl
      · intro p hp
        simp only [List.mem_cons, List.not_mem_nil, or_false] at hp
        simp only [Cnd.hgt] at hh
        rcases hp with rfl | rfl
        · exact ⟨⟨_, hw.2.1⟩, by omega⟩
        · exact ⟨⟨_, hw.2.2⟩, by omega⟩
      · simp [Cnd.nf]
  | and3 x y z =>
    obtain ⟨a, xs, rfl, ha, hx⟩ := tr_tup hv
    cases hx with
    | cons a1 a2 =>
      cases a2 with
      | cons a2 a3 =>
      cases a3
      obtain ⟨lst, ys, rfl, hl, ht⟩ := tr_lst a2
      rw [tr_str a1] at ha
      refine ⟨_, rfl, a, _, _, _, rfl, rfl, .inl (.inl ha), rfl, ?_⟩
      refine ⟨_, rfl, rfl, _, rfl, iteN (by decide +kernel) ?_⟩
      refine ⟨_, rfl, rfl, _, rfl, iteD rfl (iteT ?_)⟩
      refine loop a lst "and" [x, y, z] ys rfl ha hl ht ?_ (by simp [Cnd.fk]) ?_ _ rfl
      · intro p hp
        simp only [List.mem_cons, List.not_mem_nil, or_false] at hp
        simp only [Cnd.hgt] at hh
        rcases hp with rfl | rfl | rfl
        · exact ⟨⟨_, hw.2.1⟩, by omega⟩
        · exact ⟨⟨_, hw.2.2.1⟩, by omega⟩
        · exact ⟨⟨_, hw.2.2.2⟩, by omega⟩
      · simp [Cnd.nf]
  | and4 x y z u =>
    obtain ⟨a, xs, rfl, ha, hx⟩ := tr_tup hv
    cases hx with
    | cons a1 a2 =>
      cases a2 with
      | cons a2 a3 =>
      cases a3
      obtain ⟨lst, ys, rfl, hl, ht⟩ := tr_lst a2
      rw [tr_str a1] at ha
      refine ⟨_, rfl, a, _, _, _, rfl, rfl, .inl (.inl ha), rfl, ?_⟩
      refine ⟨_, rfl, rfl, _, rfl, iteN (by decide +kernel) ?_⟩
      refine ⟨_, rfl, rfl, _, rfl, iteD rfl (iteT ?_)⟩
      refine loop a lst "and" [x, y, z, u] ys rfl ha hl ht ?_ (by simp [Cnd.fk]) ?_ _ rfl
      · intro p hp
        simp only [List.mem_cons, List.not_mem_nil, or_false] at hp
        simp only [Cnd.hgt] at hh
        rcases hp with rfl | rfl | rfl | rfl
        · exact ⟨⟨_, hw.2.1⟩, by omega⟩
        · exact ⟨⟨_, hw.2.2.1⟩, by omega⟩
        · exact ⟨⟨_, hw.2.2.2.1⟩, by omega⟩
        · exact ⟨⟨_, hw.2.2.2.2⟩, by omega⟩
      · simp [Cnd.nf]
  | or2 x y =>
    obtain ⟨a, xs, rfl, ha, hx⟩ := tr_tup hv
    cases hx with
    | cons a1 a2 =>
      cases a2 with
      | cons a2 a3 =>
      cases a3
      obtain ⟨lst, ys, rfl, hl, ht⟩ := tr_lst a2
      rw [tr_str a1] at ha
      refine ⟨_, rfl, a, _, _, _, rfl, rfl, .inl (.inl ha), rfl, ?_⟩
      refine ⟨_, rfl, rfl, _, rfl, iteN (by decide +kernel) ?_⟩
      refine ⟨_, rfl, rfl, _, rfl, iteN (by decide +kernel) ?_⟩
      refine ⟨_, rfl, rfl, _, rfl, iteD rfl ?_⟩
      refine loop a lst "or" [x, y] ys rfl ha hl ht ?_ (by simp [Cnd.fk]) ?_ _ rfl
      · intro p hp
        simp only [List.mem_cons, List.not_mem_nil, or_false] at hp
        simp only [Cnd.hgt] at hh
        rcases hp with rfl | rfl
        · exact ⟨⟨_, hw.2.1⟩, by omega⟩
        · exact ⟨⟨_, hw.2.2⟩, by omega⟩
      · simp [Cnd.nf]
theorem R_add_facts (T : Txt w K mg base) : ∀ m : Nat, FnR P w K mg base CX0 (m + 1) (a_add_facts K) (spAdd m K)
  | 0 => fnr_false fun vs H Q E ⟨_, _, _, _, _, _, _, _, _, h, _⟩ => absurd h (Nat.not_lt_zero _)
  | m + 1 => add_step T (R_add_facts T m)
end
end So
end

section
set_option Elab.async false
set_option linter.all false
set_option maxRecDepth 100000
set_option maxHeartbeats 4000000
namespace So
open PySem PySem.Spec PyProof.Rows L2 GxA TL
open GxR (TabB TabG Tabbed)
abbrev RuleD := Cnd × List Deed
def RulesAt (K : PySem.W.Frag) (H : Hp) (as : List Addr) (rs : List RuleD) : Prop := as.length = rs.length ∧ ∀ (i : Nat) (a : Addr) (r : RuleD), as[i]? = some a → rs[i]? = some r → RuleAt K H a r.1 r.2
/-- a rule of the law: its condition, its deeds, the names that its words facts speak of -/
def RWf (W : List Str) (r : RuleD) : Prop := r.1.wf W 2 ∧ r.1.dep < 4 ∧ r.1.hgt < 8 ∧ r.1.nf ≤ 20 ∧ r.2 ≠ [] ∧ (∀ d ∈ r.2, dWf d) ∧ r.2.length ≤ 5 ∧ (ruleT r.1 r.2).length ≤ 60
theorem filter_ne_len {l : List Key} {a : Key} (h : l.Nodup) : l.length ≤ (l.filter fun x => decide (x ≠ a)).length + 1 := by
  induction l with
  | nil => simp
  | cons x l ih =>
    obtain ⟨h1, h2⟩ := List.nodup_cons.mp h
    by_cases e : x = a
    · subst e
      have : l.filter (fun y => decide (y ≠ x)) = l := List.filter_eq_self.mpr fun y m => decide_eq_true fun z => h1 (by rw [← z]; exact m)
      rw [List.filter_cons, if_neg (by simp), this]
      simp
    · rw [List.filter_cons, if_pos (by simp [e])]
      have := ih h2
      simp only [List.length_cons]
      omega
theorem nodup_le : ∀ (W : List Str) (l : List Key), l.Nodup → (∀ x ∈ l, ∃ n ∈ W, x = .inr n) → l.length ≤ W.length
  | [], l, _, h => by
    cases l with
    | nil => exact Nat.le_refl _
    | cons x l => obtain ⟨n, m, _⟩ := h x List.mem_cons_self; cases m
  | n :: W, l, hn, h => by
    have h1 := nodup_le W (l.filter fun x => decide (x ≠ .inr n)) (hn.sublist List.filter_sublist) fun x m => by
      obtain ⟨m1, m2⟩ := List.mem_filter.mp m
      have m2 : x ≠ .inr n := of_decide_eq_true m2
      obtain ⟨n', m', e⟩ := h x m1
      rcases List.mem_cons.mp m' with z | z
      · rw [z] at e; exact absurd e m2
      · exact ⟨n', z, e⟩
    have h2 := filter_ne_len (a := .inr n) hn
    rw [List.length_cons]
    omega
section
variable {P : Program} {w : World} {K : PySem.W.Frag} {mg : Str → Option Value} {base : Heap}
theorem RuleAt.fr {H H' : Hp} {a : Addr} {c : Cnd} {ds : List Deed} (h : RuleAt K H a c ds) (f : Fr K [] H H') : RuleAt K H' a c ds := by
  obtain ⟨dx, wl, v, dl, e, a1, a2⟩ := h
  exact ⟨dx, wl, v, dl, f.at e, f.tr (fun _ m => nomatch m) a1, f.tr (fun _ m => nomatch m) a2⟩
theorem RulesAt.fr {H H' : Hp} {as : List Addr} {rs : List RuleD} (h : RulesAt K H as rs) (f : Fr K [] H H') : RulesAt K H' as rs := ⟨h.1, fun i a r e1 e2 => (h.2 i a r e1 e2).fr f⟩
theorem at_ref {as : List Addr} {i : Nat} {y : V} (h : (as.map V.ref)[i]? = some y) : ∃ a, as[i]? = some a ∧ y = .ref a := by
  rw [List.getElem?_map] at h
  cases e : as[i]? with
  | none => rw [e] at h; cases h
  | some a => rw [e] at h; exact ⟨a, rfl, (Option.some.inj h).symm⟩
theorem paired_at {α β : Type} {F : α → β → Prop} : ∀ {l₁ : List α} {l₂ : List β}, Paired F l₁ l₂ → ∀ {i : Nat} {a : α} {b : β}, l₁[i]? = some a → l₂[i]? = some b → F a b
  | _, _, .nil, i, _, _, h, _ => by simp at h
  | _, _, .cons h1 h2, 0, _, _, e1, e2 => by
    simp only [List.getElem?_cons_zero, Option.some.injEq] at e1 e2
    subst e1 e2
    exact h1
  | _, _, .cons h1 h2, i + 1, _, _, e1, e2 => paired_at h2 (by simpa using e1) (by simpa using e2)
/-- the facts of rules, each once -/
def factsR (rs : List RuleD) : List (List Key) := (rs.flatMap fun r => r.1.fk).foldl addK []
theorem fk_sum {W : List Str} (rs : List RuleD) (h : ∀ r ∈ rs, RWf W r) : (rs.flatMap fun r => r.1.fk).length ≤ 20 * rs.length := by
  induction rs with
  | nil => exact Nat.le_refl _
  | cons r rs ih =>
    have h1 := (h r List.mem_cons_self).2.2.2.1
    have h2 := ih fun q m => h q (List.mem_cons_of_mem _ m)
    rw [List.flatMap_cons, List.length_append, Cnd.fk_nf, List.length_cons]
    omega
theorem factsR_len {W : List Str} {rs : List RuleD} (h : ∀ r ∈ rs, RWf W r) : (factsR rs).length ≤ 20 * rs.length := by
  have := addKs_len (rs.flatMap fun r => r.1.fk) []
  have := fk_sum rs h
  unfold factsR
  simp only [List.length_nil] at *
  omega
theorem factsR_ok {W : List Str} {rs : List RuleD} (h : ∀ r ∈ rs, RWf W r) : ∀ x ∈ factsR rs, KeyOk W x := addKs_all _ _ (fun _ m => nomatch m) fun x m => by
  obtain ⟨r, hr, hx⟩ := List.mem_flatMap.mp m
  exact r.1.fk_ok 2 (h r hr).1 x hx
def spFactsOf (K : PySem.W.Frag) : Sp := fun vs H Q _ => ∃ (D : Addr) (as : List Addr) (rs : List RuleD) (W : List Str), vs = [.ref D] ∧ H D = some (.lst (as.map V.ref)) ∧ RulesAt K H as rs ∧ (∀ r ∈ rs, RWf W r) ∧ rs.length ≤ 20 ∧ Tb K H ∧
  ∀ H' p (kvs : List (List Key × V)) bs, Fr K [] H H' → H' p = some (.lst (bs.map V.ref)) → IsKeys H' kvs bs → kvs.map (·.1) = factsR rs → Q (.ref p) H'
theorem R_facts_of (T : Txt w K mg base) : FnR P w K mg base CX0 10 (a_facts_of K) (spFactsOf K) := by
  refine mkR T.f_facts_of sc_facts_of bd_facts_of ?_ ?_
  · rintro vs H Q E ⟨D, as, rs, W, rfl, _⟩; rfl
  rintro cdv A outer s H vs Q E hr ⟨D, as, rs, W, rfl, hD, hR, hW, hl, tb, k⟩
  have nd := sc_facts_of.nd
  obtain ⟨_, FA⟩ := T.f_add_facts
  refine ⟨_, PSs.nox <| pss_cons (ps_set (i := 1) nd rfl (.inl rfl) pe_dnewT)
    (pss_cons (ps_for PassesOwn.never rfl (pi_list (pv 0)) (pg_name (i := 2) nd rfl (.inl rfl))
      (pss_one (ps_expr (pe_cF (R_add_facts T 8) hr (by rfl) T.g_add_facts FA.kp (pa_cons (pe_fld (pv 2) rfl) (pa_cons (pv 1) pa_nil))))))
    (pss_one (ps_ret (pe_callTy (call_list_dT rfl) (by rfl) T.z_list (by decide +kernel) (pa_cons (pv 1) pa_nil))))), ?_⟩
  refine fun d nd2 => ?_
  have hd : H d = none := nd2
  have f1 : Fr K [] H (L2.upd H d (.dT [])) := Fr.new tb hd
  have Dd : D ≠ d := ne_of_none hD hd
  refine ⟨_, rfl, D, rfl, ⟨_, SqL.of (by rw [upd_ne Dd]; exact hD)⟩, ?_⟩
  refine for_list (xs := as.map V.ref) (fun i σ H' => (∃ z, σ = [some (V.ref D), some (.ref d), z]) ∧ Fr K [] H H' ∧ DX (((rs.take i).flatMap fun r => r.1.fk).foldl addK []) H' d) ⟨⟨_, rfl⟩, f1, ⟨[], upd_same, rfl⟩⟩
    (fun i σ H' _ ⟨_, f, _⟩ => SqL.of (f.at hD)) (fun i y σ H' hy ⟨⟨z, es⟩, f, hd2⟩ => ?_) (fun σ H' ⟨⟨z, es⟩, f, hd2⟩ => ?_)
  · subst es
    obtain ⟨a, ha, rfl⟩ := at_ref hy
    obtain ⟨r, hr2⟩ : ∃ r, rs[i]? = some r := by
      have : i < rs.length := by rw [← hR.1]; exact (List.getElem?_eq_some_iff.mp ha).1
      exact ⟨_, List.getElem?_eq_getElem this⟩
    have hi : i < 20 := by have := (List.getElem?_eq_some_iff.mp hr2).1; omega
    obtain ⟨dx, wl, v, dl, e, a1, a2⟩ := (hR.2 i a r ha hr2).fr f
    obtain ⟨w1, w2, w3, w4, _⟩ := hW r (List.mem_of_getElem? hr2)
    refine ⟨_, rfl, a, _, dx, _, _, rfl, e, T.c_Rule, T.n_Rule_condition, rfl, _, rfl, v, d, r.1, W, 2, _, rfl, a1, w1, w3, hd2, ?_, f.2, fun H2 f2 hd3 => ?_⟩
    · have b1 := addKs_len ((rs.take i).flatMap fun r => r.1.fk) []
      have b2 := fk_sum (W := W) (rs.take i) fun q m => hW q (List.mem_of_mem_take m)
      rw [List.length_take] at b2
      simp only [List.length_nil] at b1
      omega
    · refine ⟨⟨_, rfl⟩, Fr.drop1 (E := []) ((f.mono (by simp)).trans f2) hd, ?_⟩
      rw [List.take_add_one, hr2, List.flatMap_append, List.foldl_append]
      simpa using hd3
  · subst es
    obtain ⟨kvs, e1, e2⟩ := hd2
    rw [List.length_map, hR.1, List.take_length] at e2
    refine ⟨_, rfl, d, kvs, rfl, .inl e1, fun p bs np ik => ?_⟩
    exact k _ p kvs bs (f.trans (Fr.new f.2 np)) upd_same (Paired.mapP ik fun q b e => by rw [upd_ne (ne_of_none e np)]; exact e) e2
/-- the names that a fact speaks of as words -/
def namesK : List Key → List Key
  | [.inr a, .inr n] => if a ∈ kindsW then [.inr n] else []
  | [.inr "pair", .inr a, .inr b] => [.inr a, .inr b]
  | _ => []
/-- the names that rules speak of -/
def namesR (rs : List RuleD) : List Key := ((factsR rs).flatMap namesK).foldl addK []
theorem namesK_fact (a n : Str) : namesK [.inr a, .inr n] = if a ∈ kindsW then [.inr n] else [] := rfl
theorem namesK_pair (a b : Str) : namesK [.inr "pair", .inr a, .inr b] = [.inr a, .inr b] := by
  unfold namesK
  rfl
theorem namesK_ok {W : List Str} {x : List Key} (h : KeyOk W x) : ∀ k ∈ namesK x, ∃ n ∈ W, k = .inr n := by
  rcases h with ⟨a, n, rfl, _, h⟩ | ⟨a, b, rfl, h1, h2⟩ | ⟨n, rfl⟩
  · rw [namesK_fact]
    split
    · rename_i q; intro k m; rw [List.mem_singleton.mp m]; exact ⟨n, h q, rfl⟩
    · intro k m; cases m
  · rw [namesK_pair]
    intro k m
    simp only [List.mem_cons, List.not_mem_nil, or_false] at m
    rcases m with rfl | rfl
    · exact ⟨_, h1, rfl⟩
    · exact ⟨_, h2, rfl⟩
  · intro k m; exact absurd m (by unfold namesK; simp)
theorem namesK_len (x : List Key) : (namesK x).length ≤ 2 := by
  unfold namesK
  split
  · split <;> simp
  · simp
  · simp
theorem namesK_sum (l : List (List Key)) : (l.flatMap namesK).length ≤ 2 * l.length := by
  induction l with
  | nil => exact Nat.le_refl _
  | cons x l ih =>
    have := namesK_len x
    rw [List.flatMap_cons, List.length_append, List.length_cons]
    omega
theorem namesR_le {W : List Str} {rs : List RuleD} (h : ∀ r ∈ rs, RWf W r) : (namesR rs).length ≤ W.length := by
  refine nodup_le W _ (addKs_nd _ _ List.nodup_nil) (addKs_all _ _ (fun _ m => nomatch m) fun k m => ?_)
  obtain ⟨x, hx, hk⟩ := List.mem_flatMap.mp m
  exact namesK_ok (factsR_ok h x hx) k hk
def NK (ks : List Key) (H : Hp) (d : Addr) : Prop := ∃ kvs : List (Key × V), H d = some (.dK kvs) ∧ kvs.map (·.1) = ks
theorem nodup_putK {κ : Type} [DecidableEq κ] {kvs : List (κ × V)} {k : κ} {v : V} (h : (kvs.map (·.1)).Nodup) : ((putK kvs k v).map (·.1)).Nodup := by
  rw [keys_putK]
  split
  · exact h
  · rename_i e
    exact nd_snoc h e
def spWordNames (K : PySem.W.Frag) : Sp := fun vs H Q _ => ∃ (D : Addr) (as : List Addr) (rs : List RuleD) (W : List Str), vs = [.ref D] ∧ H D = some (.lst (as.map V.ref)) ∧ RulesAt K H as rs ∧ (∀ r ∈ rs, RWf W r) ∧ rs.length ≤ 20 ∧ Tb K H ∧
  ∀ H' p (xs : List V), Fr K [] H H' → H' p = some (.lst xs) → xs.length = (namesR rs).length → Q (.ref p) H'
theorem R_word_names (T : Txt w K mg base) : FnR P w K mg base CX0 12 (a_word_names K) (spWordNames K) := by
  refine mkR T.f_word_names sc_word_names bd_word_names ?_ ?_
  · rintro vs H Q E ⟨D, as, rs, W, rfl, _⟩; rfl
  rintro cdv A outer s H vs Q E hr ⟨D, as, rs, W, rfl, hD, hR, hW, hl, tb, k⟩
  have nd := sc_word_names.nd
  obtain ⟨_, FA⟩ := T.f_facts_of
  refine ⟨_, PSs.nox <| pss_cons (ps_set (i := 1) nd rfl (.inl rfl) pe_dnewK)
    (pss_cons (ps_for PassesOwn.never rfl (pi_list (pe_cF (R_facts_of T) (hr.mono (by decide)) (by rfl) T.g_facts_of FA.kp (pa_cons (pv 0) pa_nil))) (pg_name (i := 2) nd rfl (.inl rfl))
      (pss_one (ps_if (pt_cmpR op_in_seq (pe_ix ix_tup (pv 2) pe_int (fun _ _ => rfl)) (pe_glob (by rfl) T.g_WORD_FACTS (v := .ref (He.ga K "WORD_FACTS")) rfl) (by rfl))
        (pss_one (ps_for PassesOwn.never rfl (pi_tup (pe_slice sl_tup (pv 2) (po_some pe_int) po_none)) (pg_name (i := 3) nd rfl (.inl rfl))
          (pss_one (ps_dput (hu_of hr) (pv 1) (pv 3) pe_bl rfl)))) pss_nil)))
    (pss_one (ps_ret (pe_callTy (call_list_dK rfl) (by rfl) T.z_list (by decide +kernel) (pa_cons (pv 1) pa_nil))))), ?_⟩
  refine fun d hd => ?_
  have hd : H d = none := hd
  have f1 : Fr K [] H (L2.upd H d (.dK [])) := Fr.new tb hd
  have Dd : D ≠ d := ne_of_none hD hd
  refine ⟨_, rfl, D, as, rs, W, rfl, by rw [upd_ne Dd]; exact hD, hR.fr f1, hW, hl, f1.2, fun H2 p kvs bs f2 hp ik ek => ?_⟩
  have ok : ∀ x ∈ kvs.map (·.1), KeyOk W x := by rw [ek]; exact factsR_ok hW
  have hk : kvs.length ≤ 400 := by rw [← List.length_map (f := (·.1)), ek]; have := factsR_len hW; omega
  have hd2 : H2 d = some (.dK []) := f2.at upd_same
  have F2 := f1.trans f2
  have pd : p ≠ d := ne_of hp hd2 (by intro z; cases z)
  refine ⟨p, rfl, ⟨_, SqL.of hp⟩, ?_⟩
  refine for_list (xs := bs.map V.ref) (fun i σ H' => (∃ y z, σ = [some (V.ref D), some (.ref d), y, z]) ∧ Fr K [d] H2 H' ∧ NK ((((kvs.map (·.1)).take i).flatMap namesK).foldl addK []) H' d) ⟨⟨_, _, rfl⟩, Fr.refl f2.2, ⟨[], hd2, rfl⟩⟩
    (fun i σ H' _ ⟨_, f, _⟩ => SqL.of (f.at hp (by intro _ z; cases z) (fun m => pd (List.mem_singleton.mp m)))) (fun i y σ H' hy ⟨⟨z1, z2, es⟩, f, hn⟩ => ?_) (fun σ H' ⟨⟨z1, z2, es⟩, f, hn⟩ => ?_)
  · subst es
    obtain ⟨b, hb, rfl⟩ := at_ref hy
    obtain ⟨q, hq⟩ : ∃ q, kvs[i]? = some q := by
      have e := Paired.length ik
      have : i < kvs.length := by rw [e]; exact (List.getElem?_eq_some_iff.mp hb).1
      exact ⟨_, List.getElem?_eq_getElem this⟩
    have hb2 : H2 b = some (.tup (q.1.map kV)) := paired_at ik hq hb
    have stp : ∀ ks : List Key, namesK q.1 = ks → (((kvs.map (·.1)).take (i + 1)).flatMap namesK).foldl addK [] = ks.foldl addK ((((kvs.map (·.1)).take i).flatMap namesK).foldl addK []) := fun ks e => by
      rw [List.take_add_one, List.getElem?_map, hq, List.flatMap_append, List.foldl_append]
      simp [e]
    have len0 : ((((kvs.map (·.1)).take i).flatMap namesK).foldl addK []).length ≤ 800 := by
      have b1 := addKs_len (((kvs.map (·.1)).take i).flatMap namesK) []
      have b2 := namesK_sum ((kvs.map (·.1)).take i)
      rw [List.length_take, List.length_map] at b2
      simp only [List.length_nil] at b1
      omega
    generalize (((kvs.map (·.1)).take i).flatMap namesK).foldl addK [] = k0 at hn stp len0
    have bd : b ∉ [d] := fun m => (ne_of hb2 hd2 (by intro z; cases z)) (List.mem_singleton.mp m)
    have hb3 : H' b = some (.tup (q.1.map kV)) := f.at hb2 (by intro _ z; cases z) bd
    have inner : ∀ (x : Str) (ns : List Str) (De : Ends), ns ≠ [] → H' b = some (.tup (.str x :: ns.map V.str)) → ns.length ≤ 2 → (∀ z H'', Fr K [d] H2 H'' → NK ((ns.map Sum.inr).foldl addK k0) H'' d → De.nx [some (V.ref D), some (.ref d), some (.ref b), z] H'') →
        tFor (iTup K (tSl (rSlT K) (tVar 2) (tPart (tC (.int 1))) tNoPart)) (gName 3) (sDPut (tVar 1) (tVar 3) (tC (.bl true))) De [some (V.ref D), some (.ref d), some (.ref b), z2] H' := by
      intro x ns De hne hx hns kk
      have hcut : cutV (V.str x :: ns.map V.str) (some 1) none = ns.map V.str := by
        have e : (V.str x :: ns.map V.str).length = ns.length + 1 := by simp
        unfold cutV
        rw [show (some (1 : Int)) = some ((1 : Nat) : Int) from rfl, HT.sIx_none, HT.sIx_nat, e, Nat.min_eq_left (by omega)]
        show (ns.map V.str).take _ = _
        exact List.take_of_length_le (by rw [List.length_map]; omega)
      refine ⟨_, rfl, 1, rfl, b, _, rfl, .inl (.inl hx), fun z => ?_, fun t nt => ?_⟩
      · have e : (V.str x :: ns.map V.str).length = ns.length + 1 := by simp
        have z1 := z.1
        rw [show (some (1 : Int)) = some ((1 : Nat) : Int) from rfl, HT.sIx_nat, e] at z1
        omega
      rw [hcut]
      have td : d ≠ t := by
        obtain ⟨kvs', e1, _⟩ := hn
        exact ne_of_none e1 nt
      refine ⟨t, rfl, ⟨_, .inl (.inl upd_same)⟩, ?_⟩
      have hn' : NK k0 (L2.upd H' t (.tup (ns.map V.str))) d := by
        obtain ⟨kvs', e1, e2⟩ := hn
        exact ⟨kvs', by rw [upd_ne td]; exact e1, e2⟩
      refine for_tup (xs := ns.map V.str) (fun i σ H'' => (∃ z, σ = [some (V.ref D), some (.ref d), some (.ref b), z]) ∧ Fr K [d] H2 H'' ∧ NK (((ns.take i).map Sum.inr).foldl addK k0) H'' d ∧ H'' t = some (.tup (ns.map V.str))) ⟨⟨_, rfl⟩, f.trans (Fr.new f.2 nt), hn', upd_same⟩
        (fun i σ H'' _ ⟨_, _, _, h⟩ => .inl (.inl h)) (fun i y σ H'' hy ⟨⟨z3, es⟩, f3, hn3, h3⟩ => ?_) (fun σ H'' ⟨⟨z3, es⟩, f3, hn3, h3⟩ => by subst es; rw [List.length_map, List.take_length] at hn3; exact kk _ _ f3 hn3)
      subst es
      obtain ⟨n, hn4, rfl⟩ := at_map hy
      obtain ⟨kvs', e1, e2⟩ := hn3
      have hlen : kvs'.length ≤ 802 := by
        rw [← List.length_map (f := (·.1)), e2]
        have b1 := addKs_len ((ns.take i).map (Sum.inr : Str → Key)) k0
        rw [List.length_map, List.length_take] at b1
        omega
      refine ⟨_, rfl, _, rfl, d, _, rfl, DPut.k (k := Sum.inr n) e1 (Nat.lt_of_le_of_lt hlen (by decide)), ?_⟩
      refine ⟨⟨_, rfl⟩, f3.trans (Fr.put f3.2 e1 (by intro _ z; cases z) (List.mem_singleton.mpr rfl)), ⟨_, upd_same, ?_⟩, by rw [upd_ne td.symm]; exact h3⟩
      rw [keys_putK, e2, List.take_add_one, hn4, List.map_append, List.foldl_append]
      rfl
    have fin : ∀ ks : List Key, namesK q.1 = ks → ∀ z H'', Fr K [d] H2 H'' → NK (ks.foldl addK k0) H'' d → (∃ y z', ([some (V.ref D), some (.ref d), some (.ref b), z] : L2.St) = [some (V.ref D), some (.ref d), y, z']) ∧ Fr K [d] H2 H'' ∧ NK ((((kvs.map (·.1)).take (i + 1)).flatMap namesK).foldl addK []) H'' d := fun ks e z H'' a1 a2 => ⟨⟨_, _, rfl⟩, a1, by rw [stp ks e]; exact a2⟩
    rcases ok q.1 (List.mem_map.mpr ⟨q, List.mem_of_getElem? hq, rfl⟩) with ⟨x, n, e1, e2, e3⟩ | ⟨x, y, e1, e2, e3⟩ | ⟨n, e1⟩
    · rw [e1] at hb3
      refine ⟨_, rfl, b, _, _, .str x, rfl, rfl, .inl (.inl hb3), rfl, _, _, rfl, .inr (T.t_WORD_FACTS _), rfl, rfl, _, rfl, ?_⟩
      show (if inV (V.str x) [.str "has", .str "first", .str "last", .str "pair"] = true then _ else _)
      by_cases hx : x ∈ kindsW
      · refine iteB ?_ ?_
        · simp only [kindsW, List.mem_cons, List.not_mem_nil, or_false] at hx
          rcases hx with rfl | rfl | rfl <;> decide +kernel
        · exact inner x [n] _ (by simp) hb3 (by simp) (fin _ (by rw [e1, namesK_fact, if_pos hx]; rfl))
      · refine iteNB ?_ (fin [] (by rw [e1, namesK_fact, if_neg hx]) _ _ f hn)
        simp only [kinds1, List.mem_cons, List.not_mem_nil, or_false] at e2
        rcases e2 with rfl | rfl | rfl | rfl | rfl <;> first | decide +kernel | exact absurd (by decide +kernel) hx
    · rw [e1] at hb3
      refine ⟨_, rfl, b, _, _, .str "pair", rfl, rfl, .inl (.inl hb3), rfl, _, _, rfl, .inr (T.t_WORD_FACTS _), rfl, rfl, _, rfl, ?_⟩
      show (if inV (V.str "pair") [.str "has", .str "first", .str "last", .str "pair"] = true then _ else _)
      exact iteB (by decide +kernel) (inner "pair" [x, y] _ (by simp) hb3 (by simp) (fin _ (by rw [e1, namesK_pair]; rfl)))
    · rw [e1] at hb3
      refine ⟨_, rfl, b, _, _, .str "over", rfl, rfl, .inl (.inl hb3), rfl, _, _, rfl, .inr (T.t_WORD_FACTS _), rfl, rfl, _, rfl, ?_⟩
      show (if inV (V.str "over") [.str "has", .str "first", .str "last", .str "pair"] = true then _ else _)
      exact iteNB (by decide +kernel) (fin [] (by rw [e1]; unfold namesK; simp) _ _ f hn)
  · subst es
    obtain ⟨kvs', e1, e2⟩ := hn
    rw [List.length_map, ← Paired.length ik, ← List.length_map (f := (·.1)), List.take_length, ek] at e2
    refine ⟨_, rfl, d, kvs', rfl, e1, fun r nr => ?_⟩
    have fb := Fr.drop1 (E := []) ((F2.mono (E' := [] ++ [d]) (by simp)).trans f) hd
    refine k _ r _ (fb.trans (Fr.new fb.2 nr)) upd_same ?_
    rw [List.length_map, ← List.length_map (f := (·.1)), e2]
    rfl
def spCheckNames (K : PySem.W.Frag) : Sp := fun vs H Q _ => ∃ (D : Addr) (as : List Addr) (rs : List RuleD) (W : List Str), vs = [.ref D] ∧ H D = some (.lst (as.map V.ref)) ∧ RulesAt K H as rs ∧ (∀ r ∈ rs, RWf W r) ∧ rs.length ≤ 20 ∧ (namesR rs).length ≤ 4 ∧ Tb K H ∧
  ∀ H', Fr K [] H H' → Q .non H'
theorem R_check_names (T : Txt w K mg base) : FnR P w K mg base CX0 14 (a_check_names K) (spCheckNames K) := by
  refine mkR T.f_check_names sc_check_names bd_check_names ?_ ?_
  · rintro vs H Q E ⟨D, as, rs, W, rfl, _⟩; rfl
  rintro cdv A outer s H vs Q E hr ⟨D, as, rs, W, rfl, hD, hR, hW, hl, hw4, tb, k⟩
  obtain ⟨_, FA⟩ := T.f_word_names
  obtain ⟨tM, hM⟩ := T.i_MOST_NAMES
  refine ⟨_, pss_one (ps_if (pt_cmpR op_gt (pe_callB call_len_seq (by rfl) T.z_len PySem.boot_len (pa_cons (pe_cF (R_word_names T) (hr.mono (by decide)) (by rfl) T.g_word_names FA.kp (pa_cons (pv 0) pa_nil)) pa_nil)) (pe_glob (by rfl) hM (v := .int 4) ⟨_, rfl⟩) (nomark _))
    (pss_one ps_never) pss_nil), ?_⟩
  refine ⟨_, rfl, D, as, rs, W, rfl, hD, hR, hW, hl, tb, fun H' p xs f hp hx => ?_⟩
  exact ⟨p, xs, rfl, .inl (SqL.of hp), _, _, rfl, rfl, _, rfl, iteN (by omega) (k _ f)⟩
end
end So
end

section
set_option Elab.async false
set_option linter.all false
set_option maxRecDepth 100000
set_option maxHeartbeats 4000000
namespace So
open PySem PySem.Spec PyProof.Rows L2 GxA TL
open GxR (TabB TabG Tabbed)
theorem for_enum {K : PySem.W.Frag} {a : Addr} {xs : List V} {g : TG} {tb : TS} {D : Ends} {σ : L2.St} {H : Hp} (Pv : Nat → L2.St → Hp → Prop) (h0 : Pv 0 σ H) (hl : ∀ i σ H, i ≤ xs.length → Pv i σ H → SqL K H a xs)
    (hs : ∀ i x T σ H, xs[i]? = some x → Pv i σ H → H T = none → g (.ref T) σ (upd H T (.tup [.int (i : Nat), x])) fun σ2 H2 => tb { D with nx := Pv (i + 1), ct := Pv (i + 1), bk := D.nx } σ2 H2) (hd : ∀ σ H, Pv xs.length σ H → D.nx σ H) :
    ∃ W : Nat → Nat → L2.St → Hp → Prop, (∃ m, W 0 m σ H) ∧ ∀ i m σ H, W i m σ H →
      ((Ite K a).stop i H ∧ D.nx σ H) ∨ ((Ite K a).go i H ∧ ∃ N : L2.St → Hp → Prop, (∀ σ' H', N σ' H' → ∃ m', m' < m ∧ W (i + 1) m' σ' H') ∧ ∀ x H', (Ite K a).yld i H x H' → g x σ H' fun σ2 H2 => tb { D with nx := N, ct := N, bk := D.nx } σ2 H2) := by
  refine ⟨fun i m σ H => m = xs.length - i ∧ i ≤ xs.length ∧ Pv i σ H, ⟨xs.length, by simp, Nat.zero_le _, h0⟩, ?_⟩
  rintro i m σ H ⟨rfl, hi, p⟩
  have q := hl i σ H hi p
  by_cases e : i = xs.length
  · subst e
    exact .inl ⟨⟨xs, q, Nat.le_refl _⟩, hd σ H p⟩
  · have lt : i < xs.length := by omega
    refine .inr ⟨⟨xs, xs[i], q, List.getElem?_eq_getElem lt⟩, Pv (i + 1), fun σ' H' q => ⟨_, ?_, rfl, by omega, q⟩, ?_⟩
    · omega
    · rintro v H' ⟨T, x, rfl, hT, rfl, hx⟩
      exact hs i x T σ H (hx xs q) p hT
/-- a row of a text: none: it says nothing; else its rule -/
def RowOk (W : List Str) (row : Str) : Option RuleD → Prop
  | none => wordsOf row = [] ∨ Txt.startswith row "#" = true
  | some r => wordsOf row = ruleT r.1 r.2 ∧ Txt.startswith row "#" = false ∧ RWf W r
section
variable {P : Program} {w : World} {K : PySem.W.Frag} {mg : Str → Option Value} {base : Heap}
theorem RuleN.step {H0 H H' : Hp} {E F : List Addr} {a : Addr} {c : Cnd} {ds : List Deed} (h : RuleN K H0 E H a c ds) (f : Fr K F H H') (i : ∀ e ∈ F, e ∈ E ∨ H0 e ≠ none) (n : a ∉ F) : RuleN K H0 E H' a c ds := by
  obtain ⟨n0, dx, wl, v, dl, e, a1, a2⟩ := h
  exact ⟨n0, dx, wl, v, dl, f.at e (by intro _ z; cases z) n, Tr.same (nu_fr f i) a1, Tr.same (nu_fr f i) a2⟩
theorem RuleN.upd {H0 H : Hp} {E : List Addr} {D a : Addr} {c : Cnd} {ds : List Deed} {o : HO} (h : RuleN K H0 E H a c ds) (i : D ∈ E) (n : a ≠ D) : RuleN K H0 E (L2.upd H D o) a c ds := by
  obtain ⟨n0, dx, wl, v, dl, e, a1, a2⟩ := h
  exact ⟨n0, dx, wl, v, dl, by rw [upd_ne n]; exact e, Tr.same (nu_upd (.inl i)) a1, Tr.same (nu_upd (.inl i)) a2⟩
theorem RuleN.at {H0 H : Hp} {E : List Addr} {a : Addr} {c : Cnd} {ds : List Deed} (h : RuleN K H0 E H a c ds) : RuleAt K H a c ds := by
  obtain ⟨n0, dx, wl, v, dl, e, a1, a2⟩ := h
  exact ⟨dx, wl, v, dl, e, ND.tr a1, ND.tr a2⟩
/-- the rules so far -/
def RulesN (K : PySem.W.Frag) (H0 : Hp) (E : List Addr) (H : Hp) (as : List Addr) (rs : List RuleD) : Prop := as.length = rs.length ∧ ∀ (i : Nat) (a : Addr) (r : RuleD), as[i]? = some a → rs[i]? = some r → RuleN K H0 E H a r.1 r.2
theorem at_snoc {α : Type} {l : List α} {x y : α} {i : Nat} (h : (l ++ [x])[i]? = some y) : l[i]? = some y ∨ (i = l.length ∧ y = x) := by
  rcases Nat.lt_trichotomy i l.length with q | q | q
  · rw [List.getElem?_append_left q] at h; exact .inl h
  · subst q
    rw [List.getElem?_append_right (Nat.le_refl _), Nat.sub_self] at h
    exact .inr ⟨rfl, (Option.some.inj h).symm⟩
  · rw [List.getElem?_eq_none (by simp; omega)] at h; cases h
theorem RulesN.snoc {H0 H : Hp} {E : List Addr} {as : List Addr} {rs : List RuleD} {a : Addr} {r : RuleD} (h : RulesN K H0 E H as rs) (n : RuleN K H0 E H a r.1 r.2) : RulesN K H0 E H (as ++ [a]) (rs ++ [r]) := by
  refine ⟨by simp [h.1], fun i b q e1 e2 => ?_⟩
  rcases at_snoc e1 with e1 | ⟨hi, rfl⟩
  · rcases at_snoc e2 with e2 | ⟨hi, rfl⟩
    · exact h.2 i b q e1 e2
    · have := (List.getElem?_eq_some_iff.mp e1).1
      rw [h.1] at this
      omega
  · rcases at_snoc e2 with e2 | ⟨_, rfl⟩
    · have := (List.getElem?_eq_some_iff.mp e2).1
      rw [← h.1] at this
      omega
    · exact n
def spRead (K : PySem.W.Frag) : Sp := fun vs H Q _ => ∃ (x : Str) (rows : List Str) (os : List (Option RuleD)) (W : List Str), vs = [.str x] ∧ x.length + 2 ≤ sizeLine ∧ Txt.split x "\n" = rows ∧ Paired (RowOk W) rows os ∧ (∀ r ∈ rows, r.length ≤ 1000) ∧ rows.length ≤ 20 ∧ W.length ≤ 4 ∧ Tb K H ∧
  ∀ H' D as, Fr K [] H H' → H D = none → H' D = some (.lst (as.map V.ref)) → RulesN K H [D] H' as (os.filterMap id) → Q (.ref D) H'
theorem R_read (T : Txt w K mg base) : FnR P w K mg base CX0 48 (a_read K) (spRead K) := by
  refine mkR T.f_read sc_read bd_read ?_ ?_
  · rintro vs H Q E ⟨x, rows, os, W, rfl, _⟩; rfl
  rintro cdv A outer s H vs Q E hr ⟨x, rows, os, W, rfl, hx, hsp, hrow, hlen, hrl, hw4, tb, k⟩
  have nd := sc_read.nd
  obtain ⟨_, F1⟩ := T.f_words_of
  obtain ⟨_, F2⟩ := T.f_rule_of
  obtain ⟨_, F3⟩ := T.f_check_names
  refine ⟨_, PSs.nox <| pss_cons (ps_if (pt_not (pt_val (pe_callB call_isi (by rfl) T.z_isinstance (by decide +kernel) (pa_cons (pv 0) (pa_cons (pe_bltn (by rfl) T.z_str (by decide +kernel) (v := .ty "str") rfl) pa_nil))))) (pss_one ps_never) pss_nil)
    (pss_cons (ps_set (i := 1) nd rfl (.inl rfl) (pe_lst pa_nil))
    (pss_cons (ps_for PassesOwn.never rfl (pi_enum (by rfl) T.z_enumerate (pa_cons (pe_split (pv 0) pe_str) pa_nil)) (pg_tup rfl (pgs_cons (pg_name (i := 2) nd rfl (.inl rfl)) (pgs_cons (pg_name (i := 3) nd rfl (.inl rfl)) pgs_nil)))
      (pss_cons (ps_set (i := 4) nd rfl (.inl rfl) (pe_cF (R_words_of T) (hr.mono (by decide)) (by rfl) T.g_words_of F1.kp (pa_cons (pv 3) pa_nil)))
      (pss_one (ps_if (PW.pt (pw_and (pt_truth (pv 4) (by intro _; rfl)) (pw_and1 (pt_not (pt_val (pe_m1 PySem.F.slot_str_startswith PySem.F.type_str_startswith mt_startswith (pv 3) pe_str))))))
        (pss_one (ps_expr (pe_bm PySem.F.plainAttrs_list PySem.F.slot_list_append PySem.F.type_list_append mt_append (pv 1) (pa_cons (pe_cF (R_rule_of T) (hr.mono (by decide)) (by rfl) T.g_rule_of F2.kp (pa_cons (pv 4) (pa_cons (pv 2) pa_nil))) pa_nil)))) pss_nil))))
    (pss_cons (ps_expr (pe_cF (R_check_names T) (hr.mono (by decide)) (by rfl) T.g_check_names F3.kp (pa_cons (pv 1) pa_nil)))
    (pss_one (ps_ret (pv 1)))))), ?_⟩
  refine ⟨_, rfl, _, _, _, _, true, rfl, .ty _, .base (.str x), kit_ty (by decide +kernel), true, rfl, iteF ?_⟩
  refine ⟨by show 0 ≤ sizeLine; decide, fun D nD => ?_⟩
  have hD : H D = none := nD
  have f1 : Fr K [] H (L2.upd H D (.lst [])) := Fr.new tb hD
  refine ⟨_, rfl, ⟨_, rfl⟩, _, _, rfl, rfl, by decide, hx, fun S nS => ?_⟩
  rw [hsp]
  have DS : D ≠ S := ne_of_none upd_same nS
  have f2 := f1.trans (Fr.new (E := []) (o := .lst (rows.map V.str)) f1.2 nS)
  have hol := Paired.length hrow
  refine ⟨S, _, rfl, SqL.of upd_same, ?_⟩
  refine for_enum (xs := rows.map V.str) (fun i σ H' => (∃ y1 y2 y3, σ = [some (V.str x), some (.ref D), y1, y2, y3]) ∧ Fr K [] H H' ∧ H' S = some (.lst (rows.map V.str)) ∧ ∃ as : List Addr, H' D = some (.lst (as.map V.ref)) ∧ RulesN K H [D] H' as ((os.take i).filterMap id))
    ⟨⟨_, _, _, rfl⟩, f2, upd_same, [], by rw [upd_ne DS]; exact upd_same, rfl, fun i a r e => by simp at e⟩ (fun i σ H' _ ⟨_, _, h, _⟩ => SqL.of h) (fun i y Tp σ H' hy ⟨⟨y1, y2, y3, es⟩, f, hS, as, hDl, hR⟩ nT => ?_) (fun σ H' ⟨⟨y1, y2, y3, es⟩, f, hS, as, hDl, hR⟩ => ?_)
  · subst es
    obtain ⟨row, hrw, rfl⟩ := at_map hy
    obtain ⟨o, ho⟩ : ∃ o, os[i]? = some o := by
      have : i < os.length := by rw [← hol]; exact (List.getElem?_eq_some_iff.mp hrw).1
      exact ⟨_, List.getElem?_eq_getElem this⟩
    have ok := paired_at hrow hrw ho
    have hi : i < 20 := by have := (List.getElem?_eq_some_iff.mp hrw).1; omega
    have tk : (os.take (i + 1)).filterMap id = (os.take i).filterMap id ++ o.toList := by
      rw [List.take_add_one, ho, List.filterMap_append]
      cases o <;> rfl
    have g1 : Fr K [] H' (L2.upd H' Tp (.tup [.int (i : Nat), .str row])) := Fr.new f.2 nT
    refine ⟨Tp, _, rfl, .inl (.inl upd_same), rfl, _, _, rfl, _, _, rfl, rfl, ?_⟩
    refine ⟨_, rfl, row, rfl, hlen row (List.mem_of_getElem? hrw), g1.2, fun H2 wl g2 nwl hwl => ?_⟩
    have g := g1.trans g2
    have hD2 := g.at hDl
    have hS2 := g.at hS
    have aD : ∀ a, ∀ j, as[j]? = some a → a ≠ D := fun a j e => by
      obtain ⟨r, hr'⟩ : ∃ r, ((os.take i).filterMap id)[j]? = some r := by
        have : j < ((os.take i).filterMap id).length := by rw [← hR.1]; exact (List.getElem?_eq_some_iff.mp e).1
        exact ⟨_, List.getElem?_eq_getElem this⟩
      obtain ⟨_, _, _, _, _, e1, _⟩ := hR.2 j a r e hr'
      exact ne_of e1 hDl (by intro z; cases z)
    have hR2 : RulesN K H [D] H2 as ((os.take i).filterMap id) := ⟨hR.1, fun j a r e1 e2 => (hR.2 j a r e1 e2).step g (by simp) (by simp)⟩
    have keep : o.toList = [] → (∃ y1 y2 y3, ([some (V.str x), some (.ref D), some (.int (i : Nat)), some (.str row), some (.ref wl)] : L2.St) = [some (V.str x), some (.ref D), y1, y2, y3]) ∧ Fr K [] H H2 ∧ H2 S = some (.lst (rows.map V.str)) ∧ ∃ as : List Addr, H2 D = some (.lst (as.map V.ref)) ∧ RulesN K H [D] H2 as ((os.take (i + 1)).filterMap id) := fun e => by
      rw [tk, e, List.append_nil]
      exact ⟨⟨_, _, _, rfl⟩, f.trans g, hS2, as, hD2, hR2⟩
    refine ⟨_, rfl, !(wordsOf row).isEmpty, .inl ⟨_, SqL.of hwl, by cases wordsOf row <;> rfl⟩, ?_⟩
    cases o with
    | none =>
      rcases ok with ok | ok
      · exact iteNB (by rw [ok]; rfl) (iteF (keep rfl))
      · by_cases e : (wordsOf row).isEmpty = true
        · exact iteNB (by rw [e]; rfl) (iteF (keep rfl))
        · refine iteB (by simpa using e) ?_
          refine ⟨_, rfl, ⟨_, rfl⟩, _, _, rfl, rfl, true, ?_, iteF (keep rfl)⟩
          exact congrArg V.bl ok
    | some r =>
      obtain ⟨ok1, ok2, ok3⟩ := ok
      obtain ⟨c, ds⟩ := r
      obtain ⟨w1, w2, w3, w4, w5, w6, w7, w8⟩ := ok3
      cases ds with
      | nil => exact absurd rfl w5
      | cons d0 ds =>
      refine iteB (by rw [ok1]; rfl) ?_
      refine ⟨_, rfl, ⟨_, rfl⟩, _, _, rfl, rfl, false, congrArg V.bl ok2, iteT ?_⟩
      refine ⟨_, rfl, .inl ⟨rfl, _, SqL.of hD2⟩, _, rfl, _, rfl, wl, _, c, d0, ds, W, rfl, by rw [hwl, ok1], w8, g2.2, w1, w2, w6, by simp only [List.length_cons] at w7; omega, fun H3 a f3 r3 => ?_⟩
      have hD3 := f3.at hD2
      have hlt : (as.map V.ref).length < sizeLine := by
        rw [List.length_map, hR.1]
        have := List.length_filterMap_le id (os.take i)
        have h2 : (os.take i).length ≤ 20 := by rw [List.length_take]; omega
        exact Nat.lt_of_le_of_lt (by omega : _ ≤ 20) (by decide)
      have aD3 : a ≠ D := by
        obtain ⟨_, _, _, _, _, e1, _⟩ := r3
        exact ne_of e1 hD3 (by intro z; cases z)
      refine ⟨D, _, .ref a, rfl, rfl, hD3, hlt, ⟨_, _, _, rfl⟩, ((f.trans g).trans f3).upNew tb hD, by rw [upd_ne DS.symm]; exact f3.at hS2, as ++ [a], by rw [upd_same, List.map_append]; rfl, ?_⟩
      rw [tk]
      refine RulesN.snoc ⟨hR.1, fun j b q e1 e2 => ((hR2.2 j b q e1 e2).step f3 (by simp) (by simp)).upd (List.mem_singleton.mpr rfl) (aD b j e1)⟩ ?_
      exact (r3.back (E := [D]) (fun p z => (f.trans g).3 p z) (fun e m => .inr (by rw [List.mem_singleton.mp m, hD2]; intro z; cases z))).upd (List.mem_singleton.mpr rfl) aD3
  · subst es
    rw [List.length_map, hol, List.take_length] at hR
    have hA : RulesAt K H' as (os.filterMap id) := ⟨hR.1, fun i a r e1 e2 => (hR.2 i a r e1 e2).at⟩
    have hwf : ∀ r ∈ os.filterMap id, RWf W r := fun r m => by
      obtain ⟨o, ho, e⟩ := List.mem_filterMap.mp m
      have e : o = some r := e
      subst e
      obtain ⟨j, hj⟩ := List.mem_iff_getElem?.mp ho
      obtain ⟨row, hrw⟩ : ∃ row, rows[j]? = some row := by
        have : j < rows.length := by rw [hol]; exact (List.getElem?_eq_some_iff.mp hj).1
        exact ⟨_, List.getElem?_eq_getElem this⟩
      exact (paired_at hrow hrw hj).2.2
    have hl20 : (os.filterMap id).length ≤ 20 := by
      have := List.length_filterMap_le id os
      omega
    refine ⟨_, rfl, D, as, _, W, rfl, hDl, hA, hwf, hl20, Nat.le_trans (namesR_le hwf) hw4, f.2, fun H2 f2 => ?_⟩
    exact ⟨_, rfl, k _ D as (f.trans f2) hD (f2.at hDl) ⟨hR.1, fun j b q e1 e2 => (hR.2 j b q e1 e2).step f2 (by simp) (by simp)⟩⟩
end
end So
end

section
set_option Elab.async false
set_option linter.all false
set_option maxRecDepth 100000
set_option maxHeartbeats 4000000
namespace So
open PySem PySem.Spec PyProof.Rows L2 GxA TL
open GxR (TabB TabG Tabbed)
section
variable {X : Cx} {o : Expr} {f : Str} {pos : Pos} {ta : TE}
/-- o.f as a target -/
def gFld (K : PySem.W.Frag) (ta : TE) (f : Str) : TG := fun v σ H Q => ta σ H fun x H2 => ∃ a C dx fs, x = .ref a ∧ H2 a = some (.ins C dx fs) ∧ Cls K C ∧ NoAttr K C f ∧ fs.length < 1000 ∧ Q σ (upd H2 a (.ins C dx (putF f v fs)))
theorem pg_fld (ha : PE X o ta) : PG X (.Attribute o f pos) (gFld X.K ta f) := by
  refine ⟨fun pins s σ H v u Q I r hw => ?_⟩
  have key := thn (ha.run pins s σ H _ I hw) fun ov s2 ⟨x, H2, I2, rx, a, C, dx, fs, ex, ea, c, n, l, q2⟩ => (by
    subst ex
    obtain rfl : ov = Value.ref a := rx
    exact setattr_ok (A := X.A) (E := X.xe) (u := u) (Q := fun _ s' => ∃ σ' H', Inv X pins σ' H' s' ∧ Q σ' H') I2 ea c n l r fun s3 I3 => ⟨σ, _, I3, q2⟩ : wpAny (model X.prog X.w) X.A (setAttr ov f u) (fun _ s' => ∃ σ' H', Inv X pins σ' H' s' ∧ Q σ' H') X.xe s2)
  rw [assign_Attribute]
  intro Γ p hΓ
  simp only [Sem.wp_bind', Sem.wp_holding, Sem.wp_cmd_standAt, Sem.wp_release, Sem.wp_pure']
  exact Sem.wp_mono _ Γ _ (fun ov _ s₂ h₂ => h₂ Γ _ hΓ) (fun _ _ _ h' => h') _ _ (key Γ p hΓ)
end
/-! ### a letter's way -/
structure WA where
  wl : Addr
  md : Addr
  fd : Addr
  rd : Addr
  al : Addr
def wfs (L : Ltr) (W : WA) (st : Bool) : List (Str × V) := [("sender", .str L.snd), ("size", .int L.sz), ("words", .ref W.wl), ("marks", .ref W.md), ("folders", .ref W.fd), ("receivers", .ref W.rd), ("acts", .ref W.al), ("stopped", .bl st)]
structure LWf (L : Ltr) : Prop where
  snd : Nm L.snd
  ws : ∀ x ∈ L.ws, Nm x
  sz : L.sz ≤ 99999
  len : L.ws.length ≤ 100
/-- what has become of a letter so far -/
structure WS where
  ms : List Str
  fs : List Str
  rs : List Str
  acts : List Nat
  st : Bool
def KS (H : Hp) (d : Addr) (ns : List Str) : Prop := ∃ kvs : List (Key × V), H d = some (.dK kvs) ∧ kvs.map (·.1) = ns.map Sum.inr
structure WayAt (K : PySem.W.Frag) (H : Hp) (a : Addr) (W : WA) (L : Ltr) (S : WS) : Prop where
  ob : ∃ dx, H a = some (.ins (C_Way K) dx (wfs L W S.st))
  wl : H W.wl = some (.lst (L.ws.map V.str))
  md : KS H W.md S.ms
  fd : KS H W.fd S.fs
  rd : KS H W.rd S.rs
  al : H W.al = some (.lst (S.acts.map fun (n : Nat) => V.int (n : Int)))
  n1 : W.md ≠ W.fd
  n2 : W.md ≠ W.rd
  n3 : W.fd ≠ W.rd
  n4 : W.wl ≠ W.al
def WA.ex (W : WA) (a : Addr) : List Addr := [a, W.md, W.fd, W.rd, W.al]
section
variable {P : Program} {w : World} {K : PySem.W.Frag} {mg : Str → Option Value} {base : Heap}
theorem KS.fr {H H' : Hp} {d : Addr} {ns : List Str} (h : KS H d ns) (f : Fr K [] H H') : KS H' d ns := by
  obtain ⟨kvs, e, q⟩ := h
  exact ⟨kvs, f.at e, q⟩
theorem WayAt.fr {H H' : Hp} {a : Addr} {W : WA} {L : Ltr} {S : WS} (h : WayAt K H a W L S) (f : Fr K [] H H') : WayAt K H' a W L S := by
  obtain ⟨dx, e⟩ := h.ob
  exact ⟨⟨dx, f.at e⟩, f.at h.wl, h.md.fr f, h.fd.fr f, h.rd.fr f, f.at h.al, h.n1, h.n2, h.n3, h.n4⟩
def spWInit (K : PySem.W.Frag) : Sp := fun vs H Q _ => ∃ (a dx lt l : Addr) (L : Ltr), vs = [.ref a, .ref lt] ∧ H a = some (.ins (C_Way K) dx []) ∧ H lt = some (.tup [.str L.snd, .ref l, .int L.sz]) ∧ H l = some (.lst (L.ws.map V.str)) ∧ Tb K H ∧
  ∀ H' W, Fr K [a] H H' → WayAt K H' a W L ⟨[], [], [], [], false⟩ → (∀ x ∈ [W.wl, W.md, W.fd, W.rd, W.al], H x = none) → Q .non H'
theorem R_Way_init (T : Txt w K mg base) : FnR P w K mg base CX0 1 (a_Way_init K) (spWInit K) := by
  refine mkR T.f_Way_init sc_Way_init bd_Way_init ?_ ?_
  · rintro vs H Q E ⟨a, dx, lt, l, L, rfl, _⟩; rfl
  rintro cdv A outer s H vs Q E hr ⟨a, dx, lt, l, L, rfl, ha, hlt, hl, tb, k⟩
  have nd := sc_Way_init.nd
  refine ⟨_, pss_cons (ps_asg (pv 1) (pg_tup (by rfl) (pgs_cons (pg_fld (pv 0)) (pgs_cons (pg_name (i := 2) nd rfl (.inl rfl)) (pgs_cons (pg_fld (pv 0)) pgs_nil)))))
    (pss_cons (ps_fld (pv 0) (pe_callTy call_list_of (by rfl) T.z_list (by decide +kernel) (pa_cons (pv 2) pa_nil)) rfl)
    (pss_cons (ps_fld (pv 0) pe_dnewK rfl) (pss_cons (ps_fld (pv 0) pe_dnewK rfl) (pss_cons (ps_fld (pv 0) pe_dnewK rfl) (pss_cons (ps_fld (pv 0) (pe_lst pa_nil) rfl) (pss_one (ps_fld (pv 0) pe_bl rfl))))))), ?_⟩
  have al : a ≠ l := ne_of ha hl (by intro z; cases z)
  have st : ∀ {Hc : Hp} {d : Addr} {o : HO} {fs fs' : List (Str × V)}, Tb K Hc → Hc d = none → Hc a = some (.ins (C_Way K) dx fs) → Fr K [a] Hc (L2.upd (L2.upd Hc d o) a (.ins (C_Way K) dx fs')) := fun {Hc d o fs fs'} t n e =>
    (Fr.new t n).trans (Fr.put (t.upd (t.ne0 n)) (by rw [upd_ne (ne_of_none e n)]; exact e) (by intro _ z; cases z) (List.mem_singleton.mpr rfl))
  have na : ∀ {Hc : Hp} {d : Addr} {fs : List (Str × V)}, Hc d = none → Hc a = some (.ins (C_Way K) dx fs) → d ∉ [a] := fun n e m => by
    rw [List.mem_singleton.mp m, e] at n; cases n
  refine ⟨_, rfl, lt, _, rfl, .inl (.inl hlt), rfl, _, _, rfl, _, rfl, a, _, dx, [], rfl, ha, T.c_Way, T.n_Way_sender, by decide, ?_⟩
  refine ⟨_, _, rfl, _, _, rfl, _, rfl, a, _, dx, _, rfl, upd_same, T.c_Way, T.n_Way_size, (by show 1 < 1000; decide), rfl, ?_⟩
  rw [upd_upd]
  have g0 : Fr K [a] H (L2.upd H a (.ins (C_Way K) dx (putF "size" (.int L.sz) (putF "sender" (.str L.snd) [])))) := Fr.put tb ha (by intro _ z; cases z) (List.mem_singleton.mpr rfl)
  refine ⟨_, rfl, l, _, rfl, .inl (SqL.of (by rw [upd_ne al.symm]; exact hl)), fun wl nwl => ?_⟩
  have awl : a ≠ wl := ne_of_none upd_same nwl
  refine ⟨_, rfl, a, _, dx, _, rfl, by rw [upd_ne awl]; exact upd_same, T.c_Way, T.n_Way_words, (by show 2 < 1000; decide), fun md nmd => ?_⟩
  have g1 := st (o := .lst (L.ws.map V.str)) (fs' := putF "words" (.ref wl) (putF "size" (.int L.sz) (putF "sender" (.str L.snd) []))) g0.2 nwl upd_same
  have amd : a ≠ md := ne_of_none upd_same nmd
  refine ⟨_, rfl, a, _, dx, _, rfl, by rw [upd_ne amd]; exact upd_same, T.c_Way, T.n_Way_marks, (by show 3 < 1000; decide), fun fd nfd => ?_⟩
  have g2 := st (o := .dK []) (fs' := putF "marks" (.ref md) (putF "words" (.ref wl) (putF "size" (.int L.sz) (putF "sender" (.str L.snd) [])))) g1.2 nmd upd_same
  have afd : a ≠ fd := ne_of_none upd_same nfd
  refine ⟨_, rfl, a, _, dx, _, rfl, by rw [upd_ne afd]; exact upd_same, T.c_Way, T.n_Way_folders, (by show 4 < 1000; decide), fun rd nrd => ?_⟩
  have g3 := st (o := .dK []) (fs' := putF "folders" (.ref fd) (putF "marks" (.ref md) (putF "words" (.ref wl) (putF "size" (.int L.sz) (putF "sender" (.str L.snd) []))))) g2.2 nfd upd_same
  have ard : a ≠ rd := ne_of_none upd_same nrd
  refine ⟨_, rfl, a, _, dx, _, rfl, by rw [upd_ne ard]; exact upd_same, T.c_Way, T.n_Way_receivers, (by show 5 < 1000; decide), by show 0 ≤ sizeLine; decide, fun ac nac => ?_⟩
  have g4 := st (o := .dK []) (fs' := putF "receivers" (.ref rd) (putF "folders" (.ref fd) (putF "marks" (.ref md) (putF "words" (.ref wl) (putF "size" (.int L.sz) (putF "sender" (.str L.snd) [])))))) g3.2 nrd upd_same
  have aac : a ≠ ac := ne_of_none upd_same nac
  refine ⟨_, rfl, a, _, dx, _, rfl, by rw [upd_ne aac]; exact upd_same, T.c_Way, T.n_Way_acts, (by show 6 < 1000; decide), ?_⟩
  have g5 := st (o := .lst []) (fs' := putF "acts" (.ref ac) (putF "receivers" (.ref rd) (putF "folders" (.ref fd) (putF "marks" (.ref md) (putF "words" (.ref wl) (putF "size" (.int L.sz) (putF "sender" (.str L.snd) []))))))) g4.2 nac upd_same
  refine ⟨_, rfl, a, _, dx, _, rfl, upd_same, T.c_Way, T.n_Way_stopped, (by show 7 < 1000; decide), ?_⟩
  rw [upd_upd]
  have g6 : Fr K [a] _ (L2.upd (L2.upd _ ac (.lst [])) a (.ins (C_Way K) dx (putF "stopped" (.bl false) (putF "acts" (.ref ac) (putF "receivers" (.ref rd) (putF "folders" (.ref fd) (putF "marks" (.ref md) (putF "words" (.ref wl) (putF "size" (.int L.sz) (putF "sender" (.str L.snd) [])))))))))) := st (o := .lst []) g4.2 nac upd_same
  have f1 := g0.trans g1
  have f2 := f1.trans g2
  have f3 := f2.trans g3
  have f4 := f3.trans g4
  have nE : ∀ {d : Addr}, a ≠ d → d ∉ [a] := fun h m => h (List.mem_singleton.mp m).symm
  -- what was made stands at the end
  have w1 : ∀ {Hc : Hp} {d : Addr} {o : HO} {u : HO}, a ≠ d → (L2.upd (L2.upd Hc d o) a u) d = some o := fun h => by rw [upd_ne h.symm]; exact upd_same
  have e1 := ((g2.trans g3).trans g4).trans g6
  refine k _ ⟨wl, md, fd, rd, ac⟩ (f4.trans g6) ⟨⟨dx, upd_same⟩, e1.at (w1 awl) (by intro _ z; cases z) (nE awl), ⟨[], ((g3.trans g4).trans g6).at (w1 amd) (by intro _ z; cases z) (nE amd), rfl⟩, ⟨[], (g4.trans g6).at (w1 afd) (by intro _ z; cases z) (nE afd), rfl⟩, ⟨[], g6.at (w1 ard) (by intro _ z; cases z) (nE ard), rfl⟩, w1 aac, ?_, ?_, ?_, ?_⟩ ?_
  · exact ne_of_none (w1 amd) nfd
  · exact ne_of_none (g3.at (w1 amd) (by intro _ z; cases z) (nE amd)) nrd
  · exact ne_of_none (w1 afd) nrd
  · exact ne_of_none (((g2.trans g3).trans g4).at (w1 awl) (by intro _ z; cases z) (nE awl)) nac
  · intro x hx
    simp only [List.mem_cons, List.not_mem_nil, or_false] at hx
    rcases hx with rfl | rfl | rfl | rfl | rfl
    · exact g0.3 _ nwl
    · exact f1.3 _ nmd
    · exact f2.3 _ nfd
    · exact f3.3 _ nrd
    · exact f4.3 _ nac
end
end So
end

section
set_option Elab.async false
set_option linter.all false
set_option maxRecDepth 100000
set_option maxHeartbeats 4000000
namespace So
open PySem PySem.Spec PyProof.Rows L2 GxA TL
open GxR (TabB TabG Tabbed)
theorem hasPair_at {ws : List Str} {a b : Str} {i : Nat} (h1 : ws[i]? = some a) (h2 : ws[i + 1]? = some b) : hasPair ws a b = true := by
  unfold hasPair
  rw [List.contains_iff_mem]
  refine List.mem_of_getElem? (i := i) ?_
  rw [List.getElem?_zip_eq_some]
  exact ⟨h1, by rw [List.getElem?_tail]; exact h2⟩
theorem hasPair_no {ws : List Str} {a b : Str} (h : ∀ i, ¬ (ws[i]? = some a ∧ ws[i + 1]? = some b)) : hasPair ws a b = false := by
  unfold hasPair
  rw [Bool.eq_false_iff]
  intro z
  rw [List.contains_iff_mem] at z
  obtain ⟨i, hi⟩ := List.mem_iff_getElem?.mp z
  rw [List.getElem?_zip_eq_some, List.getElem?_tail] at hi
  exact h i hi
section
variable {P : Program} {w : World} {K : PySem.W.Frag} {mg : Str → Option Value} {base : Heap}
def spHasPair (K : PySem.W.Frag) : Sp := fun vs H Q _ => ∃ (a : Addr) (x y : Str) (W : WA) (L : Ltr) (S : WS), vs = [.ref a, .str x, .str y] ∧ WayAt K H a W L S ∧ LWf L ∧ Q (.bl (hasPair L.ws x y)) H
theorem R_has_pair (T : Txt w K mg base) : FnR P w K mg base CX0 1 (a_Way_has_pair K) (spHasPair K) := by
  refine mkR T.f_Way_has_pair sc_Way_has_pair bd_Way_has_pair ?_ ?_
  · rintro vs H Q E ⟨a, x, y, W, L, S, rfl, _⟩; rfl
  rintro cdv A outer s H vs Q E hr ⟨a, x, y, W, L, S, rfl, hw, hl, k⟩
  have nd := sc_Way_has_pair.nd
  refine ⟨_, PSs.nox <| pss_cons (ps_for PassesOwn.never rfl (pi_range2 (by rfl) T.z_range (pa_cons pe_int (pa_cons (pe_callB call_len_seq (by rfl) T.z_len PySem.boot_len (pa_cons (pe_fld (pv 0) rfl) pa_nil)) pa_nil))) (pg_name (i := 3) nd rfl (.inl rfl))
      (pss_one (ps_if (PW.pt (pw_and (pt_cmpR op_eq (pe_ix ix_list (pe_fld (pv 0) rfl) (pe_op op_sub (pv 3) pe_int) (fun _ _ => rfl)) (pv 1) (nomark _)) (pw_and1 (pt_cmpR op_eq (pe_ix ix_list (pe_fld (pv 0) rfl) (pv 3) (fun _ _ => rfl)) (pv 2) (nomark _)))))
        (pss_one (ps_ret pe_bl)) pss_nil)))
    (pss_one (ps_ret pe_bl)), ?_⟩
  obtain ⟨dx, e⟩ := hw.ob
  have ll := hl.len
  refine ⟨_, rfl, a, _, dx, _, _, rfl, e, T.c_Way, T.n_Way_words, rfl, W.wl, _, rfl, .inl (SqL.of hw.wl), 1, _, rfl, ⟨by decide, by decide, by rw [List.length_map]; omega, by rw [List.length_map]; omega⟩, ?_⟩
  refine for_range (lo := 1) (n := ((((L.ws.map V.str).length : Nat) : Int) - 1).toNat) (fun i σ H' => H' = H ∧ (∃ z, σ = [some (V.ref a), some (.str x), some (.str y), z]) ∧ ∀ j, j < i → ¬ (L.ws[j]? = some x ∧ L.ws[j + 1]? = some y)) ⟨rfl, ⟨_, rfl⟩, fun j h => by omega⟩ (fun i σ H' hi ⟨eH, ⟨z, es⟩, hj⟩ => ?_) (fun σ H' ⟨eH, ⟨z, es⟩, hj⟩ => ?_)
  · subst eH
    subst es
    rw [List.length_map] at hi
    have h1 : i < L.ws.length := by omega
    have h2 : i + 1 < L.ws.length := by omega
    have g1 := List.getElem?_eq_getElem h1
    have g2 := List.getElem?_eq_getElem h2
    have m1 : (L.ws.map V.str)[i]? = some (V.str L.ws[i]) := by rw [List.getElem?_map, g1]; rfl
    have m2 : (L.ws.map V.str)[i + 1]? = some (V.str L.ws[i + 1]) := by rw [List.getElem?_map, g2]; rfl
    refine ⟨_, rfl, a, _, dx, _, _, rfl, e, T.c_Way, T.n_Way_words, rfl, _, rfl, 1 + (i : Int), 1, rfl, rfl, W.wl, _, _, V.str L.ws[i], rfl, rfl, SqL.of hw.wl, ?_, ?_⟩
    · rw [show (1 + (i : Int) - 1) = ((i : Nat) : Int) by omega]
      exact atI_nat m1
    refine ⟨_, rfl, rfl, _, rfl, ?_⟩
    by_cases c1 : L.ws[i] = x
    · refine iteD (by rw [c1]) ?_
      refine ⟨_, rfl, a, _, dx, _, _, rfl, e, T.c_Way, T.n_Way_words, rfl, _, rfl, W.wl, _, _, V.str L.ws[i + 1], rfl, rfl, SqL.of hw.wl, ?_, _, rfl, rfl, _, rfl, ?_⟩
      · rw [show (1 + (i : Int)) = ((i + 1 : Nat) : Int) by omega]
        exact atI_nat m2
      by_cases c2 : L.ws[i + 1] = y
      · refine iteD (by rw [c2]) ?_
        rw [hasPair_at (i := i) (by rw [g1, c1]) (by rw [g2, c2])] at k
        exact k
      · refine iteN (fun z => c2 (by injection z)) ⟨rfl, ⟨_, rfl⟩, fun j hj2 => ?_⟩
        by_cases q : j = i
        · subst q
          rw [g2]
          exact fun z => c2 (Option.some.inj z.2)
        · exact hj j (by omega)
    · refine iteN (fun z => c1 (by injection z)) (iteF ⟨rfl, ⟨_, rfl⟩, fun j hj2 => ?_⟩)
      by_cases q : j = i
      · subst q
        rw [g1]
        exact fun z => c1 (Option.some.inj z.1)
      · exact hj j (by omega)
  · subst eH
    rw [hasPair_no fun i z => ?_] at k
    · exact k
    · by_cases q : i < ((((L.ws.map V.str).length : Nat) : Int) - 1).toNat
      · exact hj i q z
      · have := (List.getElem?_eq_some_iff.mp z.2).1
        rw [List.length_map] at q
        omega
end
end So
end

section
set_option Elab.async false
set_option linter.all false
set_option maxRecDepth 100000
set_option maxHeartbeats 4000000
namespace So
open PySem PySem.Spec PyProof.Rows L2 GxA TL
open GxR (TabB TabG Tabbed)
theorem Nm.ok {x : Str} (h : Nm x) : PyData.strOk x = true := by
  unfold PyData.strOk
  rw [← Array.all_toList, List.all_eq_true]
  intro c hc
  have := h.2.2 c hc
  have z : ∀ d ∈ ("abcdefghijklmnopqrstuvwxyz" : Str).cps.toList, decide (d < 0x110000) = true := by decide +kernel
  exact z c this
theorem shapedS {xs : List Str} (h : ∀ x ∈ xs, Nm x) : PyData.canLay0 (.list (xs.map PyData.str)) = true ∧ PyData.depth (.list (xs.map PyData.str)) ≤ 1 := by
  constructor
  · show PyData.canLayAll0 (xs.map PyData.str) = true
    induction xs with
    | nil => rfl
    | cons x xs ih =>
      show (PyData.strOk x && PyData.canLayAll0 (xs.map PyData.str)) = true
      rw [(h x List.mem_cons_self).ok, ih fun y m => h y (List.mem_cons_of_mem _ m)]
      rfl
  · have z : PyData.depthAll (xs.map PyData.str) = 0 := by
      clear h
      induction xs with
      | nil => rfl
      | cons x xs ih =>
        show max (PyData.depth (.str x)) (PyData.depthAll (xs.map PyData.str)) = 0
        rw [ih]; rfl
    show PyData.depthAll (xs.map PyData.str) + 1 ≤ 1
    rw [z]
    exact Nat.le_refl _
theorem shaped_strs {xs : List Str} (h : ∀ x ∈ xs, Nm x) : SeqAt.shaped (.list (xs.map PyData.str)) = true := by
  obtain ⟨h1, h2⟩ := shapedS h
  unfold SeqAt.shaped
  rw [Bool.and_eq_true]
  exact ⟨h1, decide_eq_true (by omega)⟩
theorem cut_first (xs : List V) : cutV xs none (some 1) = xs.take 1 := by
  have e : HT.sIx xs.length xs.length (some ((1 : Nat) : Int)) = min 1 xs.length := HT.sIx_nat xs.length xs.length 1
  have e : HT.sIx xs.length xs.length (some 1) = min 1 xs.length := e
  unfold cutV
  rw [HT.sIx_none, e, List.drop_zero, Nat.sub_zero]
  cases xs with
  | nil => rfl
  | cons x xs => rw [Nat.min_eq_left (by simp : 1 ≤ (x :: xs).length)]
theorem cut_last (xs : List V) : cutV xs (some (-1)) none = xs.drop (xs.length - 1) := by
  unfold cutV
  rw [HT.sIx_none]
  have e : HT.sIx xs.length 0 (some (-1)) = xs.length - 1 := by
    show (if (-1 : Int) < 0 then ((-1 : Int) + (xs.length : Int)).toNat else min (-1 : Int).toNat xs.length) = _
    rw [if_pos (by decide)]
    omega
  rw [e]
  exact List.take_of_length_le (by rw [List.length_drop]; omega)
theorem eqv_one (ys : List Str) (n : Str) (h : ys.length ≤ 1) : PyData.eqv (.list (ys.map PyData.str)) (.list [.str n]) = (ys.head? == some n) := by
  match ys, h with
  | [], _ => rfl
  | [y], _ =>
    show ((y == n) && true) = (some y == some n)
    rw [Bool.and_true]
    rfl
theorem last_drop (ws : List Str) : (ws.drop (ws.length - 1)).head? = ws.getLast? := by
  rw [List.head?_drop, List.getLast?_eq_getElem?]
/-- a fact's kind, its worth -/
def factKd : Cnd → Str
  | .fact k _ => k
  | .pair _ _ => "pair"
  | .over _ => "over"
  | _ => ""
def factW : Cnd → V
  | .fact _ n => .str n
  | .pair a _ => .str a
  | .over n => .int n
  | _ => .non
def Cnd.isFact : Cnd → Bool
  | .fact _ _ => true
  | .pair _ _ => true
  | .over _ => true
  | _ => false
section
variable {P : Program} {w : World} {K : PySem.W.Frag} {mg : Str → Option Value} {base : Heap}
theorem isSome_valV {kvs : List (Key × V)} {ns : List Str} {n : Str} (h : kvs.map (·.1) = ns.map Sum.inr) : (valV kvs (Sum.inr n)).isSome = ns.contains n := by
  rw [← valV_any, Bool.eq_iff_iff, List.any_eq_true, List.contains_iff_mem]
  constructor
  · rintro ⟨p, hp, e⟩
    have e : p.1 = Sum.inr n := of_decide_eq_true e
    have m : Sum.inr n ∈ kvs.map (·.1) := List.mem_map.mpr ⟨p, hp, e⟩
    rw [h] at m
    obtain ⟨x, hx, e⟩ := List.mem_map.mp m
    injection e with e
    rw [← e]; exact hx
  · intro m
    have m : Sum.inr n ∈ kvs.map (·.1) := by rw [h]; exact List.mem_map.mpr ⟨n, m, rfl⟩
    obtain ⟨p, hp, e⟩ := List.mem_map.mp m
    exact ⟨p, hp, decide_eq_true e⟩
theorem inV_strs (ws : List Str) (n : Str) : inV (.str n) (ws.map V.str) = ws.contains n := by
  unfold inV
  rw [Bool.eq_iff_iff, List.any_eq_true, List.contains_iff_mem]
  constructor
  · rintro ⟨y, hy, e⟩
    obtain ⟨x, hx, rfl⟩ := List.mem_map.mp hy
    have e : (x == n) = true := e
    rw [← beq_iff_eq.mp e]; exact hx
  · intro m
    exact ⟨_, List.mem_map.mpr ⟨n, m, rfl⟩, (beq_self_eq_true n : (n == n) = true)⟩
theorem iteX {x y : Str} {A B : Prop} (h : x ≠ y) (b : B) : if decide (V.str x = V.str y) = true then A else B := iteN (fun z => h (by injection z)) b
def spFactHolds (K : PySem.W.Frag) : Sp := fun vs H Q _ => ∃ (a : Addr) (v : V) (c : Cnd) (W : WA) (L : Ltr) (S : WS) (Ws : List Str) (l : Nat), vs = [.ref a, .str (factKd c), factW c, v] ∧ WayAt K H a W L S ∧ LWf L ∧ Tr H v c.p ∧ c.isFact = true ∧ c.wf Ws l ∧ Tb K H ∧
  ∀ H', Fr K [] H H' → Q (.bl (c.ev L S.ms)) H'
theorem R_fact_holds (T : Txt w K mg base) : FnR P w K mg base CX0 3 (a_Way_fact_holds K) (spFactHolds K) := by
  refine mkR T.f_Way_fact_holds sc_Way_fact_holds bd_Way_fact_holds ?_ ?_
  · rintro vs H Q E ⟨a, v, c, W, L, S, Ws, l, rfl, _⟩; rfl
  rintro cdv A outer s H vs Q E hr ⟨a, v, c, W, L, S, Ws, l, rfl, hw, hl, hv, hf, hc, tb, k⟩
  refine ⟨_, pss_cons (ps_if (pt_cmpR op_eq (pv 1) pe_str (nomark _)) (pss_one (ps_ret (pe_cmpR op_eq (pe_fld (pv 0) rfl) (pv 2) (nomark _)))) pss_nil)
    (pss_cons (ps_if (pt_cmpR op_eq (pv 1) pe_str (nomark _)) (pss_one (ps_ret (pe_cmpR op_gt (pe_fld (pv 0) rfl) (pv 2) (nomark _)))) pss_nil)
    (pss_cons (ps_if (pt_cmpR op_eq (pv 1) pe_str (nomark _)) (pss_one (ps_ret (pe_cmp (pc_din (hu_of hr) (pv 2) (pe_fld (pv 0) rfl)) rfl))) pss_nil)
    (pss_cons (ps_if (pt_cmpR op_eq (pv 1) pe_str (nomark _)) (pss_one (ps_ret (pe_cmpR op_in_seq (pv 2) (pe_fld (pv 0) rfl) (by rfl)))) pss_nil)
    (pss_cons (ps_if (pt_cmpR op_eq (pv 1) pe_str (nomark _)) (pss_one (ps_ret (pe_cmpR (op_eqD hr.units) (pe_slice sl_list (pe_fld (pv 0) rfl) po_none (po_some pe_int)) (pe_lst (pa_cons (pv 2) pa_nil)) (nomark _)))) pss_nil)
    (pss_cons (ps_if (pt_cmpR op_eq (pv 1) pe_str (nomark _)) (pss_one (ps_ret (pe_cmpR (op_eqD hr.units) (pe_slice sl_list (pe_fld (pv 0) rfl) (po_some (pe_un un_neg pe_int)) po_none) (pe_lst (pa_cons (pv 2) pa_nil)) (nomark _)))) pss_nil)
    (pss_one (ps_ret (pe_methR (pv 0) T.c_Way T.m_Way_has_pair (R_has_pair T) (hr.mono (by decide)) pass0 (pa_cons (pv 2) (pa_cons (pe_ix ix_tup (pv 3) pe_int (fun _ _ => rfl)) pa_nil)))))))))), ?_⟩
  obtain ⟨dx, e⟩ := hw.ob
  cases c with
  | over n =>
    refine ⟨_, rfl, rfl, _, rfl, iteX (x := "over") (by decide +kernel) ?_⟩
    refine ⟨_, rfl, rfl, _, rfl, iteD rfl ?_⟩
    refine ⟨_, rfl, a, _, dx, _, _, rfl, e, T.c_Way, T.n_Way_size, rfl, _, rfl, _, _, rfl, rfl, ?_⟩
    have := k H (Fr.refl tb)
    have e2 : decide ((n : Int) < (L.sz : Int)) = decide (n < L.sz) := by
      rw [Bool.eq_iff_iff, decide_eq_true_iff, decide_eq_true_iff]; omega
    show Q (.bl (decide ((n : Int) < (L.sz : Int)))) H
    rw [e2]
    exact this
  | pair x y =>
    refine ⟨_, rfl, rfl, _, rfl, iteX (x := "pair") (by decide +kernel) ?_⟩
    refine ⟨_, rfl, rfl, _, rfl, iteX (x := "pair") (by decide +kernel) ?_⟩
    refine ⟨_, rfl, rfl, _, rfl, iteX (x := "pair") (by decide +kernel) ?_⟩
    refine ⟨_, rfl, rfl, _, rfl, iteX (x := "pair") (by decide +kernel) ?_⟩
    refine ⟨_, rfl, rfl, _, rfl, iteX (x := "pair") (by decide +kernel) ?_⟩
    refine ⟨_, rfl, rfl, _, rfl, iteX (x := "pair") (by decide +kernel) ?_⟩
    obtain ⟨b, xs, rfl, hb, hx⟩ := tr_tup hv
    have hx := trAll_strs (xs := ["pair", x, y]) hx
    subst hx
    refine ⟨_, rfl, a, dx, _, rfl, e, rfl, _, rfl, _, rfl, b, _, _, .str y, rfl, rfl, .inl (.inl hb), rfl, a, x, y, W, L, S, rfl, hw, hl, k H (Fr.refl tb)⟩
  | fact kd n =>
    have hk : kd ∈ kinds1 := hc.1
    have hn : Nm n := hc.2.1
    simp only [kinds1, List.mem_cons, List.not_mem_nil, or_false] at hk
    have slice : ∀ (p : Addr) (ys : List Str) (H1 : Hp), ys.length ≤ 1 → (∀ y ∈ ys, Nm y) → H1 p = none → Fr K [] H H1 → (∀ H', Fr K [] H H' → Q (.bl (ys.head? == some n)) H') →
        ∀ q, (L2.upd H1 p (.lst (ys.map V.str))) q = none → rEqD K (.ref p) (.ref q) (L2.upd (L2.upd H1 p (.lst (ys.map V.str))) q (.lst [.str n])) Q := by
      intro p ys H1 h1 h2 h3 h4 h5 q h6
      have pq : p ≠ q := ne_of_none upd_same h6
      refine ⟨_, _, Dp.lst (SqL.of (by rw [upd_ne pq]; exact upd_same)) strs_dpAll, Dp.lst (SqL.of upd_same) (strs_dpAll (xs := [n])), shaped_strs h2, shaped_strs (xs := [n]) (fun y m => by rw [List.mem_singleton.mp m]; exact hn), ?_⟩
      rw [show ([n].map PyData.str) = [PyData.str n] from rfl, eqv_one ys n h1]
      have g := h4.trans (Fr.new (E := []) (o := .lst (ys.map V.str)) h4.2 h3)
      exact h5 _ (g.trans (Fr.new g.2 h6))
    rcases hk with rfl | rfl | rfl | rfl | rfl
    · refine ⟨_, rfl, rfl, _, rfl, iteD rfl ?_⟩
      refine ⟨_, rfl, a, _, dx, _, _, rfl, e, T.c_Way, T.n_Way_sender, rfl, _, rfl, rfl, ?_⟩
      have := k H (Fr.refl tb)
      have e2 : decide (V.str L.snd = V.str n) = (L.snd == n) := by
        rw [Bool.eq_iff_iff, decide_eq_true_iff, beq_iff_eq]
        exact ⟨fun z => by injection z, fun z => by rw [z]⟩
      show Q (.bl (decide (V.str L.snd = V.str n))) H
      rw [e2]
      exact this
    · refine ⟨_, rfl, rfl, _, rfl, iteX (x := "has") (by decide +kernel) ?_⟩
      refine ⟨_, rfl, rfl, _, rfl, iteX (x := "has") (by decide +kernel) ?_⟩
      refine ⟨_, rfl, rfl, _, rfl, iteX (x := "has") (by decide +kernel) ?_⟩
      refine ⟨_, rfl, rfl, _, rfl, iteD rfl ?_⟩
      refine ⟨_, rfl, _, rfl, a, _, dx, _, _, rfl, e, T.c_Way, T.n_Way_words, rfl, W.wl, _, rfl, .inl (SqL.of hw.wl), rfl, by rw [List.all_map]; exact List.all_eq_true.mpr fun _ _ => rfl, ?_⟩
      show Q (.bl (inV (V.str n) (L.ws.map V.str))) H
      rw [inV_strs]
      exact k H (Fr.refl tb)
    · refine ⟨_, rfl, rfl, _, rfl, iteX (x := "first") (by decide +kernel) ?_⟩
      refine ⟨_, rfl, rfl, _, rfl, iteX (x := "first") (by decide +kernel) ?_⟩
      refine ⟨_, rfl, rfl, _, rfl, iteX (x := "first") (by decide +kernel) ?_⟩
      refine ⟨_, rfl, rfl, _, rfl, iteX (x := "first") (by decide +kernel) ?_⟩
      refine ⟨_, rfl, rfl, _, rfl, iteD rfl ?_⟩
      refine ⟨_, rfl, a, _, dx, _, _, rfl, e, T.c_Way, T.n_Way_words, rfl, 1, rfl, W.wl, _, rfl, SqL.of hw.wl, fun p np => ?_⟩
      rw [cut_first, ← List.map_take]
      refine ⟨_, rfl, by show 1 ≤ sizeLine; decide, slice p (L.ws.take 1) H (by rw [List.length_take]; omega) (fun y m => hl.ws y (List.mem_of_mem_take m)) np (Fr.refl tb) fun H' f => ?_⟩
      rw [List.head?_take, if_neg (by decide)]
      exact k H' f
    · refine ⟨_, rfl, rfl, _, rfl, iteX (x := "last") (by decide +kernel) ?_⟩
      refine ⟨_, rfl, rfl, _, rfl, iteX (x := "last") (by decide +kernel) ?_⟩
      refine ⟨_, rfl, rfl, _, rfl, iteX (x := "last") (by decide +kernel) ?_⟩
      refine ⟨_, rfl, rfl, _, rfl, iteX (x := "last") (by decide +kernel) ?_⟩
      refine ⟨_, rfl, rfl, _, rfl, iteX (x := "last") (by decide +kernel) ?_⟩
      refine ⟨_, rfl, rfl, _, rfl, iteD rfl ?_⟩
      refine ⟨_, rfl, a, _, dx, _, _, rfl, e, T.c_Way, T.n_Way_words, rfl, 1, rfl, -1, rfl, W.wl, _, rfl, SqL.of hw.wl, fun p np => ?_⟩
      rw [cut_last, ← List.map_drop, List.length_map]
      refine ⟨_, rfl, by show 1 ≤ sizeLine; decide, slice p (L.ws.drop (L.ws.length - 1)) H (by rw [List.length_drop]; omega) (fun y m => hl.ws y (List.mem_of_mem_drop m)) np (Fr.refl tb) fun H' f => ?_⟩
      rw [last_drop]
      exact k H' f
    · refine ⟨_, rfl, rfl, _, rfl, iteX (x := "marked") (by decide +kernel) ?_⟩
      refine ⟨_, rfl, rfl, _, rfl, iteX (x := "marked") (by decide +kernel) ?_⟩
      refine ⟨_, rfl, rfl, _, rfl, iteD rfl ?_⟩
      obtain ⟨kvs, hk1, hk2⟩ := hw.md
      refine ⟨_, rfl, _, rfl, a, _, dx, _, _, rfl, e, T.c_Way, T.n_Way_marks, rfl, W.md, _, rfl, DGet.k (k := Sum.inr n) hk1, ?_⟩
      rw [isSome_valV hk2]
      exact k H (Fr.refl tb)
  | _ => cases hf
end
end So
end

section
set_option Elab.async false
set_option linter.all false
set_option maxRecDepth 100000
set_option maxHeartbeats 4000000
namespace So
open PySem PySem.Spec PyProof.Rows L2 GxA TL
open GxR (TabB TabG Tabbed)
section
variable {P : Program} {w : World} {K : PySem.W.Frag} {mg : Str → Option Value} {base : Heap}
def spHolds (m : Nat) (K : PySem.W.Frag) : Sp := fun vs H Q _ => ∃ (a : Addr) (v : V) (c : Cnd) (W : WA) (L : Ltr) (S : WS) (Ws : List Str) (l : Nat), vs = [.ref a, v] ∧ WayAt K H a W L S ∧ LWf L ∧ Tr H v c.p ∧ c.wf Ws l ∧ c.hgt < m ∧ Tb K H ∧
  ∀ H', Fr K [] H H' → Q (.bl (c.ev L S.ms)) H'
theorem tr_fr {H H' : Hp} (f : Fr K [] H H') {v : V} {d : PyData} (h : Tr H v d) : Tr H' v d := f.tr (fun _ m => nomatch m) h
theorem holds_step (T : Txt w K mg base) {m n : Nat} (hH : FnR P w K mg base CX0 n (a_Way_holds K) (spHolds m K)) : FnR P w K mg base CX0 (n + 9) (a_Way_holds K) (spHolds (m + 1) K) := by
  refine mkRC (p := ("Way", some "holds")) rfl T.f_Way_holds sc_Way_holds bd_Way_holds ?_ ?_
  · rintro vs H Q E ⟨a, v, c, W, L, S, Ws, l, rfl, _⟩; rfl
  rintro A outer s H vs Q E hr ⟨a, v, c, W, L, S, Ws, l, rfl, hw, hl, hv, hc, hh, tb, k⟩
  obtain ⟨c', l', p1, p2, p3, hc, np, ⟨p4, _⟩⟩ := unpar Ws c l hc
  rw [← p1] at hv
  rw [← p3] at hh
  rw [← p4] at k
  clear p1 p2 p3 p4
  generalize c' = c at *
  have nd := sc_Way_holds.nd
  refine ⟨_, pss_cons (ps_set (i := 2) nd rfl (.inl rfl) (pe_ix ix_tup (pv 1) pe_int (fun _ _ => rfl)))
    (pss_cons (ps_if (pt_cmpR op_eq (pv 2) pe_str (nomark _)) (pss_one (ps_ret (pe_not (pe_methR (pv 0) T.c_Way T.m_Way_holds hH (hr.mono (by omega)) pass0 (pa_cons (pe_ix ix_tup (pv 1) pe_int (fun _ _ => rfl)) pa_nil))))) pss_nil)
    (pss_cons (ps_if (pt_cmpR op_eq (pv 2) pe_str (nomark _)) (pss_one (ps_ret (pe_allG (own := [("part", 3)]) (g := gName 3) (hr : Room ((n + 7) + 1) _) (by rfl) T.z_all T.t_Way_holds rfl nd (pi_list (pe_ix ix_tup (pv 1) pe_int (fun _ _ => rfl))) (blkOk_by (own := [("part", 3)]) (N := N_Way_holds) (sc := defScope s_Way_holds) (by decide +kernel)) (by decide +kernel) rfl rfl
      (fun _ _ _ _ _ _ => pg_name (i := 3) nd rfl (Or.inl rfl)) (fun _ _ _ _ _ _ => pe_methR (pv 0) T.c_Way T.m_Way_holds hH ((hr.in1.in1.deeper _).mono (by omega)) pass0 (pa_cons (pv 3) pa_nil))))) pss_nil)
    (pss_cons (ps_if (pt_cmpR op_eq (pv 2) pe_str (nomark _)) (pss_one (ps_ret (pe_anyG (own := [("part", 3)]) (g := gName 3) (hr : Room ((n + 7) + 1) _) (by rfl) T.z_any T.t_Way_holds rfl nd (pi_list (pe_ix ix_tup (pv 1) pe_int (fun _ _ => rfl))) (blkOk_by (own := [("part", 3)]) (N := N_Way_holds) (sc := defScope s_Way_holds) (by decide +kernel)) (by decide +kernel) rfl rfl
      (fun _ _ _ _ _ _ => pg_name (i := 3) nd rfl (Or.inl rfl)) (fun _ _ _ _ _ _ => pe_methR (pv 0) T.c_Way T.m_Way_holds hH ((hr.in1.in1.deeper _).mono (by omega)) pass0 (pa_cons (pv 3) pa_nil))))) pss_nil)
    (pss_cons (ps_if (pt_cmpR op_eq (pv 2) pe_str (nomark _)) (pss_one (ps_ret pe_bl)) pss_nil)
    (pss_one (ps_ret (pe_methR (pv 0) T.c_Way T.m_Way_fact_holds (R_fact_holds T) (hr.mono (by omega)) pass0 (pa_cons (pv 2) (pa_cons (pe_ix ix_tup (pv 1) pe_int (fun _ _ => rfl)) (pa_cons (pv 1) pa_nil)))))))))), ?_⟩
  obtain ⟨dx, e⟩ := hw.ob
  have gen : ∀ (b : Bool) (t lst : Addr) (x : Str) (ps : List Cnd) (xs : List V), v = .ref t → H t = some (.tup [.str x, .ref lst]) → H lst = some (.lst xs) → TrAll H xs (ps.map Cnd.p) → (∀ p ∈ ps, (∃ l, p.wf Ws l) ∧ p.hgt < m) →
      ((∀ p ∈ ps, p.ev L S.ms = b) → c.ev L S.ms = b) → ((∃ p ∈ ps, p.ev L S.ms = !b) → c.ev L S.ms = !b) →
      tGenC b (tb_Way_holds K) (iList K (tOp (rIxT K) (tVar 1) (tC (.int 1)))) (gName 3) (tMethR (C_Way K) "holds" (spHolds m K) E0 (tVar 0) (tCons (tVar 3) tNil)) [3] [some (V.ref a), some v, some (.str x), none] H Q := by
    intro b t lst x ps xs e1 e2 e3 e4 e5 e6 e7
    subst e1
    have hlen : xs.length = ps.length := by rw [e4.len, List.length_map]
    refine ⟨_, rfl, t, _, _, .ref lst, rfl, rfl, .inl (.inl e2), rfl, lst, rfl, ⟨_, SqL.of e3⟩, tb _ mtW, fun H2 t2 => ?_⟩
    have f2 : Fr K [] H H2 := Fr.tab tb t2 mtW
    refine g_list (xs := xs) (fun i H' => Fr K [] H2 H' ∧ ∀ j, j < i → ∀ p, ps[j]? = some p → p.ev L S.ms = b) ⟨Fr.refl f2.2, fun j h => by omega⟩ (fun i H' _ ⟨f, _⟩ => SqL.of (f.at (f2.at e3))) (fun i y H' hy ⟨f, hj⟩ => ?_) (fun H' ⟨f, hj⟩ => ?_)
    · obtain ⟨p, hp⟩ : ∃ p, ps[i]? = some p := by
        have : i < ps.length := by rw [← hlen]; exact (List.getElem?_eq_some_iff.mp hy).1
        exact ⟨_, List.getElem?_eq_getElem this⟩
      have hm := List.mem_of_getElem? hp
      obtain ⟨⟨l2, hl2⟩, hh2⟩ := e5 p hm
      have ht : Tr H y p.p := e4.at i y p.p hy (by rw [List.getElem?_map, hp]; rfl)
      have F := f2.trans f
      refine ⟨rfl, _, rfl, a, dx, _, rfl, F.at e, rfl, _, rfl, a, y, p, W, L, S, Ws, l2, rfl, hw.fr F, hl, tr_fr F ht, hl2, hh2, F.2, fun H3 f3 => ?_⟩
      refine ⟨p.ev L S.ms, rfl, ?_⟩
      by_cases q : p.ev L S.ms = b
      · rw [if_pos q]
        refine ⟨f.trans f3, fun j hj2 p' hp' => ?_⟩
        by_cases z : j = i
        · subst z
          rw [hp] at hp'
          cases hp'
          exact q
        · exact hj j (by omega) p' hp'
      · rw [if_neg q]
        have := k H3 (F.trans f3)
        rw [e7 ⟨p, hm, bne_not q⟩] at this
        exact this
    · have := k H' (f2.trans f)
      rw [e6 fun p hp => ?_] at this
      · exact this
      · obtain ⟨j, hj2⟩ := List.mem_iff_getElem?.mp hp
        have : j < ps.length := (List.getElem?_eq_some_iff.mp hj2).1
        exact hj j (by omega) p hj2
  cases c with
  | any =>
    obtain ⟨b, xs, rfl, hb, hx⟩ := tr_tup hv
    cases hx with
    | cons a1 a2 =>
      cases a2
      rw [tr_str a1] at hb
      refine ⟨_, rfl, b, _, _, _, rfl, rfl, .inl (.inl hb), rfl, ?_⟩
      refine ⟨_, rfl, rfl, _, rfl, iteX (x := "any") (by decide +kernel) ?_⟩
      refine ⟨_, rfl, rfl, _, rfl, iteX (x := "any") (by decide +kernel) ?_⟩
      refine ⟨_, rfl, rfl, _, rfl, iteX (x := "any") (by decide +kernel) ?_⟩
      refine ⟨_, rfl, rfl, _, rfl, iteD rfl ?_⟩
      exact k H (Fr.refl tb)
  | over nn =>
    have hv0 := hv
    obtain ⟨b, xs, rfl, hb, hx⟩ := tr_tup hv
    cases hx with
    | cons a1 a2 =>
      cases a2 with
      | cons a2 a3 =>
      cases a3
      rw [tr_str a1, tr_int a2] at hb
      refine ⟨_, rfl, b, _, _, .str "over", rfl, rfl, .inl (.inl hb), rfl, ?_⟩
      refine ⟨_, rfl, rfl, _, rfl, iteX (x := "over") (by decide +kernel) ?_⟩
      refine ⟨_, rfl, rfl, _, rfl, iteX (x := "over") (by decide +kernel) ?_⟩
      refine ⟨_, rfl, rfl, _, rfl, iteX (x := "over") (by decide +kernel) ?_⟩
      refine ⟨_, rfl, rfl, _, rfl, iteX (x := "over") (by decide +kernel) ?_⟩
      exact ⟨_, rfl, a, dx, _, rfl, e, rfl, _, rfl, _, rfl, b, _, _, .int nn, rfl, rfl, .inl (.inl hb), rfl, _, rfl, a, .ref b, .over nn, W, L, S, Ws, l', rfl, hw, hl, hv0, rfl, hc, tb, k⟩
  | pair x y =>
    have hv0 := hv
    obtain ⟨b, xs, rfl, hb, hx⟩ := tr_tup hv
    have hx := trAll_strs (xs := ["pair", x, y]) hx
    subst hx
    refine ⟨_, rfl, b, _, _, .str "pair", rfl, rfl, .inl (.inl hb), rfl, ?_⟩
    refine ⟨_, rfl, rfl, _, rfl, iteX (x := "pair") (by decide +kernel) ?_⟩
    refine ⟨_, rfl, rfl, _, rfl, iteX (x := "pair") (by decide +kernel) ?_⟩
    refine ⟨_, rfl, rfl, _, rfl, iteX (x := "pair") (by decide +kernel) ?_⟩
    refine ⟨_, rfl, rfl, _, rfl, iteX (x := "pair") (by decide +kernel) ?_⟩
    exact ⟨_, rfl, a, dx, _, rfl, e, rfl, _, rfl, _, rfl, b, _, _, .str x, rfl, rfl, .inl (.inl hb), rfl, _, rfl, a, .ref b, .pair x y, W, L, S, Ws, l', rfl, hw, hl, hv0, rfl, hc, tb, k⟩
  | fact x y =>
    have hv0 := hv
    obtain ⟨b, xs, rfl, hb, hx⟩ := tr_tup hv
    have hx := trAll_strs (xs := [x, y]) hx
    subst hx
    obtain ⟨h1, h2, h3, h4⟩ := ne_kind2 hc.1
    refine ⟨_, rfl, b, _, _, .str x, rfl, rfl, .inl (.inl hb), rfl, ?_⟩
    refine ⟨_, rfl, rfl, _, rfl, iteX (x := x) h1 ?_⟩
    refine ⟨_, rfl, rfl, _, rfl, iteX (x := x) h2 ?_⟩
    refine ⟨_, rfl, rfl, _, rfl, iteX (x := x) h3 ?_⟩
    refine ⟨_, rfl, rfl, _, rfl, iteX (x := x) h4 ?_⟩
    exact ⟨_, rfl, a, dx, _, rfl, e, rfl, _, rfl, _, rfl, b, _, _, .str y, rfl, rfl, .inl (.inl hb), rfl, _, rfl, a, .ref b, .fact x y, W, L, S, Ws, l', rfl, hw, hl, hv0, rfl, hc, tb, k⟩
  | neg c =>
    obtain ⟨b, xs, rfl, hb, hx⟩ := tr_tup hv
    cases hx with
    | cons a1 a2 =>
      cases a2 with
      | cons a2 a3 =>
      cases a3
      rw [tr_str a1] at hb
      refine ⟨_, rfl, b, _, _, _, rfl, rfl, .inl (.inl hb), rfl, ?_⟩
      refine ⟨_, rfl, rfl, _, rfl, iteD rfl ?_⟩
      refine ⟨_, rfl, a, dx, _, rfl, e, rfl, _, rfl, b, _, _, _, rfl, rfl, .inl (.inl hb), rfl, a, _, c, W, L, S, Ws, 0, rfl, hw, hl, a2, hc, Nat.lt_of_succ_lt_succ hh, tb, fun H' f => ⟨_, rfl, k H' f⟩⟩
  | par c => cases np
  | and2 x y =>
    obtain ⟨b, xs, rfl, hb, hx⟩ := tr_tup hv
    cases hx with
    | cons a1 a2 =>
      cases a2 with
      | cons a2 a3 =>
      cases a3
      rw [tr_str a1] at hb
      obtain ⟨lst, ys, rfl, hls, ht⟩ := tr_lst a2
      refine ⟨_, rfl, b, _, _, _, rfl, rfl, .inl (.inl hb), rfl, ?_⟩
      refine ⟨_, rfl, rfl, _, rfl, iteX (x := "and") (by decide +kernel) ?_⟩
      refine ⟨_, rfl, rfl, _, rfl, iteD rfl ?_⟩
      refine gen true b lst "and" [x, y] ys rfl hb hls ht ?_ ?_ ?_
      · intro p hp
        simp only [List.mem_cons, List.not_mem_nil, or_false] at hp
        simp only [Cnd.hgt] at hh
        rcases hp with rfl | rfl
        · exact ⟨⟨_, hc.2.1⟩, by omega⟩
        · exact ⟨⟨_, hc.2.2⟩, by omega⟩
      · intro h
        simp only [List.mem_cons, List.not_mem_nil, or_false, forall_eq_or_imp, forall_eq] at h
        simp [Cnd.ev, h]
      · rintro ⟨p, hp, e2⟩
        simp only [List.mem_cons, List.not_mem_nil, or_false] at hp
        rcases hp with rfl | rfl <;> simp only [Bool.not_true, Bool.not_false] at e2 ⊢ <;> simp [Cnd.ev, e2]
  | and3 x y z =>
    obtain ⟨b, xs, rfl, hb, hx⟩ := tr_tup hv
    cases hx with
    | cons a1 a2 =>
      cases a2 with
      | cons a2 a3 =>
      cases a3
      rw [tr_str a1] at hb
      obtain ⟨lst, ys, rfl, hls, ht⟩ := tr_lst a2
      refine ⟨_, rfl, b, _, _, _, rfl, rfl, .inl (.inl hb), rfl, ?_⟩
      refine ⟨_, rfl, rfl, _, rfl, iteX (x := "and") (by decide +kernel) ?_⟩
      refine ⟨_, rfl, rfl, _, rfl, iteD rfl ?_⟩
      refine gen true b lst "and" [x, y, z] ys rfl hb hls ht ?_ ?_ ?_
      · intro p hp
        simp only [List.mem_cons, List.not_mem_nil, or_false] at hp
        simp only [Cnd.hgt] at hh
        rcases hp with rfl | rfl | rfl
        · exact ⟨⟨_, hc.2.1⟩, by omega⟩
        · exact ⟨⟨_, hc.2.2.1⟩, by omega⟩
        · exact ⟨⟨_, hc.2.2.2⟩, by omega⟩
      · intro h
        simp only [List.mem_cons, List.not_mem_nil, or_false, forall_eq_or_imp, forall_eq] at h
        simp [Cnd.ev, h]
      · rintro ⟨p, hp, e2⟩
        simp only [List.mem_cons, List.not_mem_nil, or_false] at hp
        rcases hp with rfl | rfl | rfl <;> simp only [Bool.not_true, Bool.not_false] at e2 ⊢ <;> simp [Cnd.ev, e2]
  | and4 x y z u =>
    obtain ⟨b, xs, rfl, hb, hx⟩ := tr_tup hv
    cases hx with
    | cons a1 a2 =>
      cases a2 with
      | cons a2 a3 =>
      cases a3
      rw [tr_str a1] at hb
      obtain ⟨lst, ys, rfl, hls, ht⟩ := tr_lst a2
      refine ⟨_, rfl, b, _, _, _, rfl, rfl, .inl (.inl hb), rfl, ?_⟩
      refine ⟨_, rfl, rfl, _, rfl, iteX (x := "and") (by decide +kernel) ?_⟩
      refine ⟨_, rfl, rfl, _, rfl, iteD rfl ?_⟩
      refine gen true b lst "and" [x, y, z, u] ys rfl hb hls ht ?_ ?_ ?_
      · intro p hp
        simp only [List.mem_cons, List.not_mem_nil, or_false] at hp
        simp only [Cnd.hgt] at hh
        rcases hp with rfl | rfl | rfl | rfl
        · exact ⟨⟨_, hc.2.1⟩, by omega⟩
        · exact ⟨⟨_, hc.2.2.1⟩, by omega⟩
        · exact ⟨⟨_, hc.2.2.2.1⟩, by omega⟩
        · exact ⟨⟨_, hc.2.2.2.2⟩, by omega⟩
      · intro h
        simp only [List.mem_cons, List.not_mem_nil, or_false, forall_eq_or_imp, forall_eq] at h
        simp [Cnd.ev, h]
      · rintro ⟨p, hp, e2⟩
        simp only [List.mem_cons, List.not_mem_nil, or_false] at hp
        rcases hp with rfl | rfl | rfl | rfl <;> simp only [Bool.not_true, Bool.not_false] at e2 ⊢ <;> simp [Cnd.ev, e2]
  | or2 x y =>
    obtain ⟨b, xs, rfl, hb, hx⟩ := tr_tup hv
    cases hx with
    | cons a1 a2 =>
      cases a2 with
      | cons a2 a3 =>
      cases a3
      rw [tr_str a1] at hb
      obtain ⟨lst, ys, rfl, hls, ht⟩ := tr_lst a2
      refine ⟨_, rfl, b, _, _, _, rfl, rfl, .inl (.inl hb), rfl, ?_⟩
      refine ⟨_, rfl, rfl, _, rfl, iteX (x := "or") (by decide +kernel) ?_⟩
      refine ⟨_, rfl, rfl, _, rfl, iteX (x := "or") (by decide +kernel) ?_⟩
      refine ⟨_, rfl, rfl, _, rfl, iteD rfl ?_⟩
      refine gen false b lst "or" [x, y] ys rfl hb hls ht ?_ ?_ ?_
      · intro p hp
        simp only [List.mem_cons, List.not_mem_nil, or_false] at hp
        simp only [Cnd.hgt] at hh
        rcases hp with rfl | rfl
        · exact ⟨⟨_, hc.2.1⟩, by omega⟩
        · exact ⟨⟨_, hc.2.2⟩, by omega⟩
      · intro h
        simp only [List.mem_cons, List.not_mem_nil, or_false, forall_eq_or_imp, forall_eq] at h
        simp [Cnd.ev, h]
      · rintro ⟨p, hp, e2⟩
        simp only [List.mem_cons, List.not_mem_nil, or_false] at hp
        rcases hp with rfl | rfl <;> simp only [Bool.not_true, Bool.not_false] at e2 ⊢ <;> simp [Cnd.ev, e2]
theorem R_holds (T : Txt w K mg base) : ∀ m : Nat, FnR P w K mg base CX0 (9 * m) (a_Way_holds K) (spHolds m K)
  | 0 => fnr_false fun vs H Q E ⟨_, _, _, _, _, _, _, _, _, _, _, _, _, h, _⟩ => absurd h (Nat.not_lt_zero _)
  | m + 1 => holds_step T (R_holds T m)
end
end So
end

section
set_option Elab.async false
set_option linter.all false
set_option maxRecDepth 100000
set_option maxHeartbeats 4000000
namespace So
open PySem PySem.Spec PyProof.Rows L2 GxA TL
open GxR (TabB TabG Tabbed)
/-! ### deeds done -/
def addN (ns : List Str) (n : Str) : List Str := if n ∈ ns then ns else ns ++ [n]
def stepD (S : WS) (d : Deed) : WS :=
  if d.1 = "mark" then { S with ms := addN S.ms d.2 } else if d.1 = "unmark" then { S with ms := S.ms.filter fun x => decide (x ≠ d.2) } else if d.1 = "file" then { S with fs := addN S.fs d.2 } else { S with rs := addN S.rs d.2 }
def runD : List Deed → WS → WS
  | [], S => S
  | d :: ds, S => if d.1 = "stop" then { S with st := true } else runD ds (stepD S d)
structure SzOk (S : WS) (n : Nat) : Prop where
  ms : S.ms.length ≤ n
  fs : S.fs.length ≤ n
  rs : S.rs.length ≤ n
  acts : S.acts.length ≤ n
theorem addN_len (ns : List Str) (n : Str) : (addN ns n).length ≤ ns.length + 1 := by
  unfold addN
  split
  · omega
  · simp
theorem SzOk.step {S : WS} {n : Nat} (h : SzOk S n) (d : Deed) : SzOk (stepD S d) (n + 1) := by
  have h1 := h.ms; have h2 := h.fs; have h3 := h.rs; have h4 := h.acts
  unfold stepD
  split
  · exact ⟨Nat.le_trans (addN_len _ _) (by omega), by show S.fs.length ≤ _; omega, by show S.rs.length ≤ _; omega, by show S.acts.length ≤ _; omega⟩
  split
  · exact ⟨Nat.le_trans (List.length_filter_le _ _) (by omega), by show S.fs.length ≤ _; omega, by show S.rs.length ≤ _; omega, by show S.acts.length ≤ _; omega⟩
  split
  · exact ⟨by show S.ms.length ≤ _; omega, Nat.le_trans (addN_len _ _) (by omega), by show S.rs.length ≤ _; omega, by show S.acts.length ≤ _; omega⟩
  · exact ⟨by show S.ms.length ≤ _; omega, by show S.fs.length ≤ _; omega, Nat.le_trans (addN_len _ _) (by omega), by show S.acts.length ≤ _; omega⟩
/-- the lists and tuples of a heap -/
def Sq (H : Hp) : Hp := fun p => match H p with
  | some o => if seqO o = true then some o else none
  | none => none
theorem Sq.iff {H : Hp} {p : Addr} {o : HO} : Sq H p = some o ↔ H p = some o ∧ seqO o = true := by
  unfold Sq
  constructor
  · intro h
    split at h
    · rename_i u e
      split at h
      · rename_i z
        cases h
        exact ⟨e, z⟩
      · cases h
    · cases h
  · rintro ⟨h1, h2⟩
    rw [h1]
    show (if seqO o = true then some o else none) = some o
    rw [if_pos h2]
theorem Tr.sq {H : Hp} {v : V} {d : PyData} (h : Tr H v d) : Tr (Sq H) v d := by
  induction h with
  | non => exact .non
  | bl b => exact .bl b
  | int i => exact .int i
  | str x => exact .str x
  | lst e hl _ ih => exact .lst (Sq.iff.mpr ⟨e, rfl⟩) hl ih
  | tup e hl _ ih => exact .tup (Sq.iff.mpr ⟨e, rfl⟩) hl ih
section
variable {P : Program} {w : World} {K : PySem.W.Frag} {mg : Str → Option Value} {base : Heap}
theorem keys_add {kvs : List (Key × V)} {ns : List Str} {n : Str} {v : V} (h : kvs.map (·.1) = ns.map Sum.inr) : (putK kvs (Sum.inr n) v).map (·.1) = (addN ns n).map Sum.inr := by
  rw [keys_putK, h]
  have e : (Sum.inr n : Key) ∈ ns.map Sum.inr ↔ n ∈ ns := by
    constructor
    · intro m
      obtain ⟨x, hx, e⟩ := List.mem_map.mp m
      injection e with e
      rw [← e]; exact hx
    · intro m; exact List.mem_map.mpr ⟨n, m, rfl⟩
  unfold addN
  by_cases h : n ∈ ns
  · rw [if_pos h, if_pos (e.mpr h)]
  · rw [if_neg h, if_neg (fun z => h (e.mp z)), List.map_append]; rfl
theorem keys_drop {kvs : List (Key × V)} {ns : List Str} {n : Str} (h : kvs.map (·.1) = ns.map Sum.inr) : (dropK kvs (Sum.inr n)).map (·.1) = (ns.filter fun x => decide (x ≠ n)).map Sum.inr := by
  unfold dropK
  induction kvs generalizing ns with
  | nil =>
    cases ns with
    | nil => rfl
    | cons x ns => cases h
  | cons p kvs ih =>
    cases ns with
    | nil => cases h
    | cons x ns =>
      injection h with h1 h2
      have h1 : p.1 = Sum.inr x := h1
      have e : decide (p.1 ≠ Sum.inr n) = decide (x ≠ n) := by
        rw [h1, Bool.eq_iff_iff, decide_eq_true_iff, decide_eq_true_iff]
        exact ⟨fun z q => z (by rw [q]), fun z q => z (by injection q)⟩
      rw [List.filter_cons, List.filter_cons, e]
      split
      · rw [List.map_cons, List.map_cons, ih h2]
        exact congrArg (· :: _) h1
      · exact ih h2
def spAct (K : PySem.W.Frag) : Sp := fun vs H Q _ => ∃ (a : Addr) (i : Nat) (dl : V) (ds : List Deed) (W : WA) (L : Ltr) (S : WS) (G : Hp) (n : Nat), vs = [.ref a, .int i, dl] ∧ WayAt K H a W L S ∧ Tr G dl (.list (ds.map dP)) ∧ Same G H ∧ (∀ p o, G p = some o → seqO o = true) ∧ G W.al = none ∧ (∀ d ∈ ds, dWf d) ∧
  SzOk S n ∧ n + ds.length ≤ 1000 ∧ Tb K H ∧ ∀ H', Fr K (W.ex a) H H' → WayAt K H' a W L (runD ds { S with acts := S.acts ++ [i] }) → Q .non H'
theorem WayAt.mem {H : Hp} {a : Addr} {W : WA} {L : Ltr} {S : WS} (h : WayAt K H a W L S) : (∀ x ∈ [a, W.md, W.fd, W.rd], ∀ o, H x = some o → seqO o = false) ∧ H W.wl ≠ none := by
  obtain ⟨dx, e⟩ := h.ob
  obtain ⟨k1, m1, _⟩ := h.md
  obtain ⟨k2, m2, _⟩ := h.fd
  obtain ⟨k3, m3, _⟩ := h.rd
  refine ⟨fun x m o ho => ?_, by rw [h.wl]; intro z; cases z⟩
  simp only [List.mem_cons, List.not_mem_nil, or_false] at m
  rcases m with rfl | rfl | rfl | rfl
  · rw [e] at ho; cases ho; rfl
  · rw [m1] at ho; cases ho; rfl
  · rw [m2] at ho; cases ho; rfl
  · rw [m3] at ho; cases ho; rfl
theorem same_upd {G H : Hp} {x : Addr} {o : HO} (s : Same G H) (n : G x = none) : Same G (L2.upd H x o) := fun p u e => by
  rw [upd_ne (fun z => by rw [z, n] at e; cases e)]
  exact s p u e
theorem g_none {G H : Hp} {x : Addr} (s : Same G H) (g : ∀ p o, G p = some o → seqO o = true) (h : ∀ o, H x = some o → seqO o = false) : G x = none := by
  cases e : G x with
  | none => rfl
  | some o =>
    have h1 := g x o e
    rw [h o (s x o e)] at h1
    cases h1
theorem WayAt.putM {H : Hp} {a : Addr} {W : WA} {L : Ltr} {S : WS} (h : WayAt K H a W L S) (kvs : List (Key × V)) (ns : List Str) (e : kvs.map (·.1) = ns.map Sum.inr) : WayAt K (L2.upd H W.md (.dK kvs)) a W L { S with ms := ns } := by
  obtain ⟨dx, e0⟩ := h.ob
  obtain ⟨k1, m1, _⟩ := h.md
  obtain ⟨k2, m2, q2⟩ := h.fd
  obtain ⟨k3, m3, q3⟩ := h.rd
  exact ⟨⟨dx, by rw [upd_ne (ne_of e0 m1 (by intro z; cases z))]; exact e0⟩, by rw [upd_ne (ne_of h.wl m1 (by intro z; cases z))]; exact h.wl, ⟨kvs, upd_same, e⟩, ⟨k2, by rw [upd_ne h.n1.symm]; exact m2, q2⟩, ⟨k3, by rw [upd_ne h.n2.symm]; exact m3, q3⟩, by rw [upd_ne (ne_of h.al m1 (by intro z; cases z))]; exact h.al, h.n1, h.n2, h.n3, h.n4⟩
theorem WayAt.putF {H : Hp} {a : Addr} {W : WA} {L : Ltr} {S : WS} (h : WayAt K H a W L S) (kvs : List (Key × V)) (ns : List Str) (e : kvs.map (·.1) = ns.map Sum.inr) : WayAt K (L2.upd H W.fd (.dK kvs)) a W L { S with fs := ns } := by
  obtain ⟨dx, e0⟩ := h.ob
  obtain ⟨k1, m1, q1⟩ := h.md
  obtain ⟨k2, m2, q2⟩ := h.fd
  obtain ⟨k3, m3, q3⟩ := h.rd
  exact ⟨⟨dx, by rw [upd_ne (ne_of e0 m2 (by intro z; cases z))]; exact e0⟩, by rw [upd_ne (ne_of h.wl m2 (by intro z; cases z))]; exact h.wl, ⟨k1, by rw [upd_ne h.n1]; exact m1, q1⟩, ⟨kvs, upd_same, e⟩, ⟨k3, by rw [upd_ne h.n3.symm]; exact m3, q3⟩, by rw [upd_ne (ne_of h.al m2 (by intro z; cases z))]; exact h.al, h.n1, h.n2, h.n3, h.n4⟩
theorem WayAt.putR {H : Hp} {a : Addr} {W : WA} {L : Ltr} {S : WS} (h : WayAt K H a W L S) (kvs : List (Key × V)) (ns : List Str) (e : kvs.map (·.1) = ns.map Sum.inr) : WayAt K (L2.upd H W.rd (.dK kvs)) a W L { S with rs := ns } := by
  obtain ⟨dx, e0⟩ := h.ob
  obtain ⟨k1, m1, q1⟩ := h.md
  obtain ⟨k2, m2, q2⟩ := h.fd
  obtain ⟨k3, m3, q3⟩ := h.rd
  exact ⟨⟨dx, by rw [upd_ne (ne_of e0 m3 (by intro z; cases z))]; exact e0⟩, by rw [upd_ne (ne_of h.wl m3 (by intro z; cases z))]; exact h.wl, ⟨k1, by rw [upd_ne h.n2]; exact m1, q1⟩, ⟨k2, by rw [upd_ne h.n3]; exact m2, q2⟩, ⟨kvs, upd_same, e⟩, by rw [upd_ne (ne_of h.al m3 (by intro z; cases z))]; exact h.al, h.n1, h.n2, h.n3, h.n4⟩
theorem WayAt.putA {H : Hp} {a : Addr} {W : WA} {L : Ltr} {S : WS} (h : WayAt K H a W L S) (i : Nat) : WayAt K (L2.upd H W.al (.lst ((S.acts.map fun (n : Nat) => V.int (n : Int)) ++ [.int i]))) a W L { S with acts := S.acts ++ [i] } := by
  obtain ⟨dx, e0⟩ := h.ob
  obtain ⟨k1, m1, q1⟩ := h.md
  obtain ⟨k2, m2, q2⟩ := h.fd
  obtain ⟨k3, m3, q3⟩ := h.rd
  have al := h.al
  exact ⟨⟨dx, by rw [upd_ne (ne_of e0 al (by intro z; cases z))]; exact e0⟩, by rw [upd_ne h.n4]; exact h.wl, ⟨k1, by rw [upd_ne (ne_of m1 al (by intro z; cases z))]; exact m1, q1⟩, ⟨k2, by rw [upd_ne (ne_of m2 al (by intro z; cases z))]; exact m2, q2⟩, ⟨k3, by rw [upd_ne (ne_of m3 al (by intro z; cases z))]; exact m3, q3⟩, by rw [upd_same, List.map_append]; rfl, h.n1, h.n2, h.n3, h.n4⟩
theorem WayAt.putS {H : Hp} {a : Addr} {W : WA} {L : Ltr} {S : WS} (h : WayAt K H a W L S) {dx : Addr} (e0 : H a = some (.ins (C_Way K) dx (wfs L W S.st))) : WayAt K (L2.upd H a (.ins (C_Way K) dx (wfs L W true))) a W L { S with st := true } := by
  obtain ⟨k1, m1, q1⟩ := h.md
  obtain ⟨k2, m2, q2⟩ := h.fd
  obtain ⟨k3, m3, q3⟩ := h.rd
  have al := h.al
  exact ⟨⟨dx, upd_same⟩, by rw [upd_ne (ne_of h.wl e0 (by intro z; cases z))]; exact h.wl, ⟨k1, by rw [upd_ne (ne_of m1 e0 (by intro z; cases z))]; exact m1, q1⟩, ⟨k2, by rw [upd_ne (ne_of m2 e0 (by intro z; cases z))]; exact m2, q2⟩, ⟨k3, by rw [upd_ne (ne_of m3 e0 (by intro z; cases z))]; exact m3, q3⟩, by rw [upd_ne (ne_of al e0 (by intro z; cases z))]; exact al, h.n1, h.n2, h.n3, h.n4⟩
end
end So
end

section
set_option Elab.async false
set_option linter.all false
set_option maxRecDepth 100000
set_option maxHeartbeats 4000000
namespace So
open PySem PySem.Spec PyProof.Rows L2 GxA TL
open GxR (TabB TabG Tabbed)
section
variable {P : Program} {w : World} {K : PySem.W.Frag} {mg : Str → Option Value} {base : Heap}
theorem step_mark {S : WS} {n : Str} : stepD S ("mark", n) = { S with ms := addN S.ms n } := by unfold stepD; exact if_pos rfl
theorem step_unmark {S : WS} {n : Str} : stepD S ("unmark", n) = { S with ms := S.ms.filter fun x => decide (x ≠ n) } := by
  unfold stepD
  rw [if_neg (by decide +kernel : ¬ (("unmark" : Str) = "mark")), if_pos rfl]
theorem step_file {S : WS} {n : Str} : stepD S ("file", n) = { S with fs := addN S.fs n } := by
  unfold stepD
  rw [if_neg (by decide +kernel : ¬ (("file" : Str) = "mark")), if_neg (by decide +kernel : ¬ (("file" : Str) = "unmark")), if_pos rfl]
theorem step_pass {S : WS} {n : Str} : stepD S ("pass", n) = { S with rs := addN S.rs n } := by
  unfold stepD
  rw [if_neg (by decide +kernel : ¬ (("pass" : Str) = "mark")), if_neg (by decide +kernel : ¬ (("pass" : Str) = "unmark")), if_neg (by decide +kernel : ¬ (("pass" : Str) = "file"))]
theorem R_act (T : Txt w K mg base) : FnR P w K mg base CX0 2 (a_Way_act K) (spAct K) := by
  refine mkR T.f_Way_act sc_Way_act bd_Way_act ?_ ?_
  · rintro vs H Q E ⟨a, i, dl, ds, W, L, S, G, n, rfl, _⟩; rfl
  rintro cdv A outer s H vs Q E hr ⟨a, i, dl, ds, W, L, S, G, n, rfl, hw, hd, sG, gq, gal, hdw, sz, hn, tb, k⟩
  have nd := sc_Way_act.nd
  refine ⟨_, PSs.nox <| pss_cons (ps_expr (pe_bm PySem.F.plainAttrs_list PySem.F.slot_list_append PySem.F.type_list_append mt_append (pe_fld (pv 0) rfl) (pa_cons (pv 1) pa_nil)))
    (pss_one (ps_for PassesOwn.never rfl (pi_list (pv 2)) (pg_tup rfl (pgs_cons (pg_name (i := 3) nd rfl (.inl rfl)) (pgs_cons (pg_name (i := 4) nd rfl (.inl rfl)) pgs_nil)))
      (pss_one (ps_if (pt_cmpR op_eq (pv 3) pe_str (nomark _)) (pss_one (ps_dput (hu_of hr) (pe_fld (pv 0) rfl) (pv 4) pe_bl rfl))
        (pss_one (ps_if (pt_cmpR op_eq (pv 3) pe_str (nomark _)) (pss_one (ps_expr (pe_dpop2 (pe_fld (pv 0) rfl) (pv 4) pe_non ⟨by rfl, by rfl, by rfl, by rfl⟩)))
          (pss_one (ps_if (pt_cmpR op_eq (pv 3) pe_str (nomark _)) (pss_one (ps_dput (hu_of hr) (pe_fld (pv 0) rfl) (pv 4) pe_bl rfl))
            (pss_one (ps_if (pt_cmpR op_eq (pv 3) pe_str (nomark _)) (pss_one (ps_dput (hu_of hr) (pe_fld (pv 0) rfl) (pv 4) pe_bl rfl))
              (pss_cons (ps_fld (pv 0) pe_bl rfl) (pss_one ps_retN)))))))))))), ?_⟩
  obtain ⟨dx, e⟩ := hw.ob
  obtain ⟨lst, xs, rfl, hG, hx⟩ := tr_lst hd
  obtain ⟨hm, _⟩ := hw.mem
  have gE : ∀ x ∈ W.ex a, G x = none := fun x m => by
    have m : x = a ∨ x = W.md ∨ x = W.fd ∨ x = W.rd ∨ x = W.al := by simpa [WA.ex] using m
    rcases m with h | h | h | h | h
    · exact g_none sG gq (hm x (by rw [h]; simp))
    · exact g_none sG gq (hm x (by rw [h]; simp))
    · exact g_none sG gq (hm x (by rw [h]; simp))
    · exact g_none sG gq (hm x (by rw [h]; simp))
    · rw [h]; exact gal
  have sFr : ∀ {H1 : Hp}, Fr K (W.ex a) H H1 → Same G H1 := fun f p o e => f.1 p o (fun m => by rw [gE p m] at e; cases e) (sG p o e) (seq_nt (gq p o e))
  have s4 := sz.acts
  refine ⟨_, rfl, a, _, dx, _, _, rfl, e, T.c_Way, T.n_Way_acts, rfl, .inl ⟨rfl, _, SqL.of hw.al⟩, _, rfl, W.al, _, .int i, rfl, rfl, hw.al, by rw [List.length_map]; exact Nat.lt_of_le_of_lt (by omega : _ ≤ 1000) (by decide), ?_⟩
  have hw1 := hw.putA i
  have f1 : Fr K (W.ex a) H (L2.upd H W.al (.lst ((S.acts.map fun (n : Nat) => V.int (n : Int)) ++ [.int i]))) := Fr.put tb hw.al (by intro _ z; cases z) (by simp [WA.ex])
  have hlen : xs.length = ds.length := by rw [hx.len, List.length_map]
  refine ⟨_, rfl, lst, rfl, ⟨_, SqL.of (sFr f1 _ _ hG)⟩, ?_⟩
  refine for_list (xs := xs) (fun j σ H' => (∃ y1 y2, σ = [some (V.ref a), some (.int i), some (.ref lst), y1, y2]) ∧ Fr K (W.ex a) H H' ∧ ∃ Sc, WayAt K H' a W L Sc ∧ runD ds { S with acts := S.acts ++ [i] } = runD (ds.drop j) Sc ∧ SzOk Sc (n + 1 + j))
    ⟨⟨_, _, rfl⟩, f1, _, hw1, rfl, ⟨Nat.le_trans sz.ms (by omega), Nat.le_trans sz.fs (by omega), Nat.le_trans sz.rs (by omega), by show (S.acts ++ [i]).length ≤ _; rw [List.length_append]; simp; omega⟩⟩
    (fun j σ H' _ ⟨_, f, _⟩ => SqL.of (sFr f _ _ hG)) (fun j y σ H' hy ⟨⟨y1, y2, es⟩, f, Sc, hwc, hrun, hsz⟩ => ?_) (fun σ H' ⟨_, f, Sc, hwc, hrun, _⟩ => ?_)
  · subst es
    obtain ⟨d, hdj⟩ : ∃ d, ds[j]? = some d := by
      have : j < ds.length := by rw [← hlen]; exact (List.getElem?_eq_some_iff.mp hy).1
      exact ⟨_, List.getElem?_eq_getElem this⟩
    have hj : j < ds.length := (List.getElem?_eq_some_iff.mp hdj).1
    have hdr : ds.drop j = d :: ds.drop (j + 1) := by
      rw [List.drop_eq_getElem_cons hj]
      rw [List.getElem?_eq_getElem hj] at hdj
      rw [Option.some.inj hdj]
    have ht : Tr G y (dP d) := hx.at j y (dP d) hy (by rw [List.getElem?_map, hdj]; rfl)
    obtain ⟨b, zs, rfl, hb, hz⟩ := tr_tup ht
    have hz := trAll_strs (xs := [d.1, d.2]) hz
    subst hz
    have hb' := sFr f _ _ hb
    obtain ⟨dc, ec⟩ := hwc.ob
    have z1 := hsz.ms; have z2 := hsz.fs; have z3 := hsz.rs
    have lt : ∀ {kvs : List (Key × V)} {ns : List Str}, kvs.map (·.1) = ns.map Sum.inr → ns.length ≤ n + 1 + j → kvs.length < sizeLine := fun {kvs ns} h1 h2 => by
      have := congrArg List.length h1
      rw [List.length_map, List.length_map] at this
      exact Nat.lt_of_le_of_lt (by omega : _ ≤ 1001) (by decide)
    refine ⟨b, _, rfl, .inl (.inl hb'), rfl, _, _, rfl, _, _, rfl, rfl, ?_⟩
    have fin : d.1 ≠ "stop" → ∀ H'', Fr K (W.ex a) H H'' → WayAt K H'' a W L (stepD Sc d) → (∃ y1 y2, ([some (V.ref a), some (.int i), some (.ref lst), some (.str d.1), some (.str d.2)] : L2.St) = [some (V.ref a), some (.int i), some (.ref lst), y1, y2]) ∧ Fr K (W.ex a) H H'' ∧
        ∃ Sc, WayAt K H'' a W L Sc ∧ runD ds { S with acts := S.acts ++ [i] } = runD (ds.drop (j + 1)) Sc ∧ SzOk Sc (n + 1 + (j + 1)) := fun h1 H'' g1 g2 => by
      refine ⟨⟨_, _, rfl⟩, g1, _, g2, ?_, hsz.step d⟩
      rw [hrun, hdr]
      show (if d.1 = "stop" then _ else _) = _
      rw [if_neg h1]
    obtain ⟨dk, dn⟩ := d
    rcases hdw _ (List.mem_of_getElem? hdj) with hs | ⟨hk, hnm⟩
    · cases hs
      refine ⟨_, rfl, rfl, _, rfl, iteX (x := "stop") (by decide +kernel) ?_⟩
      refine ⟨_, rfl, rfl, _, rfl, iteX (x := "stop") (by decide +kernel) ?_⟩
      refine ⟨_, rfl, rfl, _, rfl, iteX (x := "stop") (by decide +kernel) ?_⟩
      refine ⟨_, rfl, rfl, _, rfl, iteX (x := "stop") (by decide +kernel) ?_⟩
      refine ⟨_, rfl, a, _, dc, _, rfl, ec, T.c_Way, T.n_Way_stopped, (by show 8 < 1000; decide), ?_⟩
      refine k _ (f.trans (Fr.put f.2 ec (by intro _ z; cases z) (by simp [WA.ex]))) ?_
      rw [hrun, hdr]
      show WayAt K _ a W L (if ("stop" : Str) = "stop" then { Sc with st := true } else _)
      rw [if_pos rfl]
      exact hwc.putS ec
    · simp only [kindsD, List.mem_cons, List.not_mem_nil, or_false] at hk
      rcases hk with hk | hk | hk | hk <;> (have hk : dk = _ := hk; subst hk)
      · refine ⟨_, rfl, rfl, _, rfl, iteD rfl ?_⟩
        obtain ⟨kvs, m1, m2⟩ := hwc.md
        refine ⟨_, rfl, a, _, dc, _, _, rfl, ec, T.c_Way, T.n_Way_marks, rfl, _, rfl, W.md, _, rfl, DPut.k (k := Sum.inr dn) m1 (lt m2 z1), ?_⟩
        refine fin (by decide +kernel : ("mark" : Str) ≠ "stop") _ (f.trans (Fr.put f.2 m1 (by intro _ z; cases z) (by simp [WA.ex]))) ?_
        rw [step_mark]
        exact hwc.putM _ _ (keys_add m2)
      · refine ⟨_, rfl, rfl, _, rfl, iteX (x := "unmark") (by decide +kernel) ?_⟩
        refine ⟨_, rfl, rfl, _, rfl, iteD rfl ?_⟩
        obtain ⟨kvs, m1, m2⟩ := hwc.md
        refine ⟨_, rfl, a, _, dc, _, _, rfl, ec, T.c_Way, T.n_Way_marks, rfl, W.md, rfl, .inl ⟨kvs, .inl m1⟩, _, rfl, kvs, Sum.inr dn, m1, rfl, fun v hv => ?_, fun hv => ?_⟩
        · refine fin (by decide +kernel : ("unmark" : Str) ≠ "stop") _ (f.trans (Fr.put f.2 m1 (by intro _ z; cases z) (by simp [WA.ex]))) ?_
          rw [step_unmark]
          exact hwc.putM _ _ (keys_drop m2)
        · refine fin (by decide +kernel : ("unmark" : Str) ≠ "stop") _ f ?_
          rw [step_unmark]
          have hni : dn ∉ Sc.ms := fun m => by
            have := isSome_valV (n := dn) m2
            rw [hv, List.contains_iff_mem.mpr m] at this
            cases this
          have e0 : Sc.ms.filter (fun x => decide (x ≠ dn)) = Sc.ms := List.filter_eq_self.mpr fun x m => decide_eq_true fun z => hni (by rw [← z]; exact m)
          rw [e0]
          exact hwc
      · refine ⟨_, rfl, rfl, _, rfl, iteX (x := "file") (by decide +kernel) ?_⟩
        refine ⟨_, rfl, rfl, _, rfl, iteX (x := "file") (by decide +kernel) ?_⟩
        refine ⟨_, rfl, rfl, _, rfl, iteD rfl ?_⟩
        obtain ⟨kvs, m1, m2⟩ := hwc.fd
        refine ⟨_, rfl, a, _, dc, _, _, rfl, ec, T.c_Way, T.n_Way_folders, rfl, _, rfl, W.fd, _, rfl, DPut.k (k := Sum.inr dn) m1 (lt m2 z2), ?_⟩
        refine fin (by decide +kernel : ("file" : Str) ≠ "stop") _ (f.trans (Fr.put f.2 m1 (by intro _ z; cases z) (by simp [WA.ex]))) ?_
        rw [step_file]
        exact hwc.putF _ _ (keys_add m2)
      · refine ⟨_, rfl, rfl, _, rfl, iteX (x := "pass") (by decide +kernel) ?_⟩
        refine ⟨_, rfl, rfl, _, rfl, iteX (x := "pass") (by decide +kernel) ?_⟩
        refine ⟨_, rfl, rfl, _, rfl, iteX (x := "pass") (by decide +kernel) ?_⟩
        refine ⟨_, rfl, rfl, _, rfl, iteD rfl ?_⟩
        obtain ⟨kvs, m1, m2⟩ := hwc.rd
        refine ⟨_, rfl, a, _, dc, _, _, rfl, ec, T.c_Way, T.n_Way_receivers, rfl, _, rfl, W.rd, _, rfl, DPut.k (k := Sum.inr dn) m1 (lt m2 z3), ?_⟩
        refine fin (by decide +kernel : ("pass" : Str) ≠ "stop") _ (f.trans (Fr.put f.2 m1 (by intro _ z; cases z) (by simp [WA.ex]))) ?_
        rw [step_pass]
        exact hwc.putR _ _ (keys_add m2)
  · rw [hlen, List.drop_length] at hrun
    refine k H' f ?_
    rw [hrun]
    exact hwc
end
end So
end

section
set_option Elab.async false
set_option linter.all false
set_option maxRecDepth 100000
set_option maxHeartbeats 4000000
namespace So
open PySem PySem.Spec PyProof.Rows L2 GxA TL
open GxR (TabB TabG Tabbed)
def S0 : WS := ⟨[], [], [], [], false⟩
/-- a letter's way through rules -/
def thru (L : Ltr) : Nat → List RuleD → WS → WS
  | _, [], S => S
  | i, r :: rs, S => if S.st = true then S else if r.1.ev L S.ms = true then thru L (i + 1) rs (runD r.2 { S with acts := S.acts ++ [i] }) else thru L (i + 1) rs S
structure SNm (S : WS) : Prop where
  ms : ∀ x ∈ S.ms, Nm x
  fs : ∀ x ∈ S.fs, Nm x
  rs : ∀ x ∈ S.rs, Nm x
theorem addN_nm {ns : List Str} {n : Str} (h : ∀ x ∈ ns, Nm x) (hn : Nm n) : ∀ x ∈ addN ns n, Nm x := by
  unfold addN
  split
  · exact h
  · intro x m
    rcases List.mem_append.mp m with m | m
    · exact h x m
    · rw [List.mem_singleton.mp m]; exact hn
theorem SNm.step {S : WS} (h : SNm S) {d : Deed} (hn : Nm d.2) : SNm (stepD S d) := by
  unfold stepD
  split
  · exact ⟨addN_nm h.ms hn, h.fs, h.rs⟩
  split
  · exact ⟨fun x m => h.ms x (List.mem_filter.mp m).1, h.fs, h.rs⟩
  split
  · exact ⟨h.ms, addN_nm h.fs hn, h.rs⟩
  · exact ⟨h.ms, h.fs, addN_nm h.rs hn⟩
theorem SNm.run : ∀ {ds : List Deed} {S : WS}, SNm S → (∀ d ∈ ds, dWf d) → SNm (runD ds S)
  | [], S, h, _ => h
  | d :: ds, S, h, hd => by
    show SNm (if d.1 = "stop" then _ else _)
    split
    · exact ⟨h.ms, h.fs, h.rs⟩
    · rename_i e
      refine SNm.run (h.step ?_) fun x m => hd x (List.mem_cons_of_mem _ m)
      rcases hd d List.mem_cons_self with z | z
      · rw [z] at e; exact absurd rfl e
      · exact z.2
theorem SzOk.run : ∀ {ds : List Deed} {S : WS} {n : Nat}, SzOk S n → SzOk (runD ds S) (n + ds.length)
  | [], S, n, h => h
  | d :: ds, S, n, h => by
    show SzOk (if d.1 = "stop" then _ else _) _
    split
    · exact ⟨Nat.le_trans h.ms (by omega), Nat.le_trans h.fs (by omega), Nat.le_trans h.rs (by omega), Nat.le_trans h.acts (by omega)⟩
    · have := SzOk.run (ds := ds) (h.step d)
      rw [List.length_cons, show n + (ds.length + 1) = n + 1 + ds.length by omega]
      exact this
theorem SNm.thru {L : Ltr} {W : List Str} : ∀ {rs : List RuleD} {S : WS} {i : Nat}, SNm S → (∀ r ∈ rs, RWf W r) → SNm (thru L i rs S)
  | [], S, i, h, _ => h
  | r :: rs, S, i, h, hr => by
    show SNm (if S.st = true then S else if r.1.ev L S.ms = true then _ else _)
    split
    · exact h
    split
    · exact SNm.thru (SNm.run ⟨h.ms, h.fs, h.rs⟩ (hr r List.mem_cons_self).2.2.2.2.2.1) fun x m => hr x (List.mem_cons_of_mem _ m)
    · exact SNm.thru h fun x m => hr x (List.mem_cons_of_mem _ m)
theorem SzOk.mono {S : WS} {n m : Nat} (h : SzOk S n) (e : n ≤ m) : SzOk S m := ⟨Nat.le_trans h.ms e, Nat.le_trans h.fs e, Nat.le_trans h.rs e, Nat.le_trans h.acts e⟩
theorem SzOk.acts1 {S : WS} {n i : Nat} (h : SzOk S n) : SzOk { S with acts := S.acts ++ [i] } (n + 1) :=
  ⟨Nat.le_trans h.ms (by omega), Nat.le_trans h.fs (by omega), Nat.le_trans h.rs (by omega), by have := h.acts; show (S.acts ++ [i]).length ≤ _; rw [List.length_append]; simp; omega⟩
section
variable {P : Program} {w : World} {K : PySem.W.Frag} {mg : Str → Option Value} {base : Heap}
theorem kv_strs {kvs : List (Key × V)} {ns : List Str} (h : kvs.map (·.1) = ns.map Sum.inr) : (kvs.map fun kv => kV kv.1) = ns.map V.str := by
  have := congrArg (List.map kV) h
  rw [List.map_map, List.map_map] at this
  exact this
def spOutcome (K : PySem.W.Frag) : Sp := fun vs H Q _ => ∃ (a : Addr) (W : WA) (L : Ltr) (S : WS), vs = [.ref a] ∧ WayAt K H a W L S ∧ SNm S ∧ SzOk S 1000 ∧ Tb K H ∧
  ∀ (H' : Hp) (v : V) (ms : List Str), Fr K [] H H' → ms.Perm S.ms → ms.Pairwise SkX.NLe → ND K H [] H' v (.tuple [.list (S.fs.map PyData.str), .list (ms.map PyData.str), .list (S.rs.map PyData.str)]) → Q v H'
theorem R_outcome (T : Txt w K mg base) : FnR P w K mg base CX0 8 (a_Way_outcome K) (spOutcome K) := by
  refine mkR T.f_Way_outcome sc_Way_outcome bd_Way_outcome ?_ ?_
  · rintro vs H Q E ⟨a, W, L, S, rfl, _⟩; rfl
  rintro cdv A outer s H vs Q E hr ⟨a, W, L, S, rfl, hw, hn, sz, tb, k⟩
  obtain ⟨_, F1⟩ := T.f_in_order
  refine ⟨_, pss_one (ps_ret (pe_tup (pa_cons (pe_callTy (call_list_dK rfl) (by rfl) T.z_list (by decide +kernel) (pa_cons (pe_fld (pv 0) rfl) pa_nil))
    (pa_cons (pe_cF (R_in_order T) (hr.mono (by decide)) (by rfl) T.g_in_order F1.kp (pa_cons (pe_callTy (call_list_dK rfl) (by rfl) T.z_list (by decide +kernel) (pa_cons (pe_fld (pv 0) rfl) pa_nil)) pa_nil))
    (pa_cons (pe_callTy (call_list_dK rfl) (by rfl) T.z_list (by decide +kernel) (pa_cons (pe_fld (pv 0) rfl) pa_nil)) pa_nil))))), ?_⟩
  obtain ⟨dx, e⟩ := hw.ob
  obtain ⟨k2, m2, q2⟩ := hw.fd
  refine ⟨_, rfl, a, _, dx, _, _, rfl, e, T.c_Way, T.n_Way_folders, rfl, W.fd, k2, rfl, m2, fun q nq => ?_⟩
  rw [kv_strs q2]
  have f1 : Fr K [] H (L2.upd H q (.lst (S.fs.map V.str))) := Fr.new tb nq
  obtain ⟨k1, m1, q1⟩ := hw.md.fr f1
  refine ⟨_, rfl, a, _, dx, _, _, rfl, f1.at e, T.c_Way, T.n_Way_marks, rfl, W.md, k1, rfl, m1, fun p np => ?_⟩
  rw [kv_strs q1]
  have f2 := f1.trans (Fr.new (E := []) (o := .lst (S.ms.map V.str)) f1.2 np)
  refine ⟨p, S.ms, rfl, SqL.of upd_same, sz.ms, fun x m => Nat.le_trans (hn.ms x m).2.1 (by decide), f2.2, fun H3 b ms f3 nb pm so => ?_⟩
  have f4 := (f2.trans f3).trans (Fr.new (E := []) (o := .lst (ms.map V.str)) f3.2 nb)
  obtain ⟨k3, m3, q3⟩ := hw.rd.fr f4
  refine ⟨_, rfl, a, _, dx, _, _, rfl, f4.at e, T.c_Way, T.n_Way_receivers, rfl, W.rd, k3, rfl, m3, fun c nc => ?_⟩
  rw [kv_strs q3]
  have f5 := f4.trans (Fr.new (E := []) (o := .lst (S.rs.map V.str)) f4.2 nc)
  refine ⟨by show 3 ≤ sizeLine; decide, fun t nt => ?_⟩
  have f6 := f5.trans (Fr.new (E := []) (o := .tup [.ref q, .ref b, .ref c]) f5.2 nt)
  have hb : H3 b = none := nb
  refine k _ _ ms f6 pm so (ND.tup (.cons (ND.lst strs_trAll (a := q) ?_ nq (by simp)) (.cons (ND.lst strs_trAll (a := b) ?_ ((f2.trans f3).3 _ nb) (by simp)) (.cons (ND.lst strs_trAll (a := c) ?_ (f4.3 _ nc) (by simp)) .nil))) upd_same (f5.3 _ nt) (by simp))
  · have g : Fr K [] (L2.upd H q (.lst (S.fs.map V.str))) _ := (((Fr.new (E := []) (o := .lst (S.ms.map V.str)) f1.2 np).trans f3).trans (Fr.new (E := []) (o := .lst (ms.map V.str)) f3.2 nb)).trans ((Fr.new (E := []) (o := .lst (S.rs.map V.str)) f4.2 nc).trans (Fr.new (E := []) (o := .tup [.ref q, .ref b, .ref c]) f5.2 nt))
    exact g.at upd_same
  · exact ((Fr.new (E := []) (o := .lst (S.rs.map V.str)) f4.2 nc).trans (Fr.new (E := []) (o := .tup [.ref q, .ref b, .ref c]) f5.2 nt)).at upd_same
  · exact (Fr.new (E := []) (o := .tup [.ref q, .ref b, .ref c]) f5.2 nt).at upd_same
/-- a letter as it is handed in -/
structure LtAt (H : Hp) (lt : Addr) (L : Ltr) : Prop where
  ob : ∃ l, H lt = some (.tup [.str L.snd, .ref l, .int L.sz]) ∧ H l = some (.lst (L.ws.map V.str))
theorem LtAt.fr {H H' : Hp} {lt : Addr} {L : Ltr} (h : LtAt H lt L) (f : Fr K [] H H') : LtAt H' lt L := by
  obtain ⟨l, h1, h2⟩ := h.ob
  exact ⟨l, f.at h1, f.at h2⟩
def spCheckLetter (K : PySem.W.Frag) : Sp := fun vs H Q _ => ∃ (lt : Addr) (L : Ltr), vs = [.ref lt] ∧ LtAt H lt L ∧ LWf L ∧ Tb K H ∧ ∀ H', Fr K [] H H' → Q .non H'
theorem R_check_letter (T : Txt w K mg base) : FnR P w K mg base CX0 14 (a_check_letter K) (spCheckLetter K) := by
  refine mkR T.f_check_letter sc_check_letter bd_check_letter ?_ ?_
  · rintro vs H Q E ⟨a, L, rfl, _⟩; rfl
  rintro cdv A outer s H vs Q E hr ⟨lt, L, rfl, hL, hl, tb, k⟩
  obtain ⟨_, F1⟩ := T.f_is_letter
  refine ⟨_, pss_one (ps_if (pt_not (pt_val (pe_cF (R_is_letter T) (hr.mono (by decide)) (by rfl) T.g_is_letter F1.kp (pa_cons (pv 0) pa_nil)))) (pss_one ps_never) pss_nil), ?_⟩
  obtain ⟨l, h1, h2⟩ := hL.ob
  exact ⟨_, rfl, lt, l, L, rfl, h1, h2, hl.snd, hl.ws, hl.sz, tb, fun H' f => ⟨true, rfl, iteF (k H' f)⟩⟩
def spThru (K : PySem.W.Frag) : Sp := fun vs H Q _ => ∃ (D lt : Addr) (as : List Addr) (rs : List RuleD) (L : Ltr) (Ws : List Str), vs = [.ref D, .ref lt] ∧ H D = some (.lst (as.map V.ref)) ∧ RulesAt K H as rs ∧ (∀ r ∈ rs, RWf Ws r) ∧ rs.length ≤ 20 ∧ LtAt H lt L ∧ LWf L ∧ Tb K H ∧
  ∀ H' a W, Fr K [] H H' → WayAt K H' a W L (thru L 0 rs S0) → (∀ x ∈ W.ex a, H x = none) → SzOk (thru L 0 rs S0) 1000 → Q (.ref a) H'
theorem R_way_through (T : Txt w K mg base) : FnR P w K mg base CX0 80 (a_way_through K) (spThru K) := by
  refine mkR T.f_way_through sc_way_through bd_way_through ?_ ?_
  · rintro vs H Q E ⟨D, lt, as, rs, L, Ws, rfl, _⟩; rfl
  rintro cdv A outer s H vs Q E hr ⟨D, lt, as, rs, L, Ws, rfl, hD, hR, hrw, hrl, hL, hl, tb, k⟩
  have nd := sc_way_through.nd
  refine ⟨_, PSs.nox <| pss_cons (ps_set (i := 2) nd rfl (.inl rfl) (StX.pe_makeR T.mk_Way (R_Way_init T) (hr.mono (by decide)) (by rfl) T.g_Way pass0 (pa_cons (pv 1) pa_nil)))
    (pss_cons (ps_for PassesOwn.never rfl (pi_enum (by rfl) T.z_enumerate (pa_cons (pv 0) pa_nil)) (pg_tup rfl (pgs_cons (pg_name (i := 3) nd rfl (.inl rfl)) (pgs_cons (pg_name (i := 4) nd rfl (.inl rfl)) pgs_nil)))
      (pss_cons (ps_if (pt_val (pe_fld (pv 2) rfl)) (pss_one (ps_ret (pv 2))) pss_nil)
      (pss_one (ps_if (pt_val (pe_methR (pv 2) T.c_Way T.m_Way_holds (R_holds T 8) (hr.mono (by decide)) pass0 (pa_cons (pe_fld (pv 4) rfl) pa_nil)))
        (pss_one (ps_expr (pe_methR (pv 2) T.c_Way T.m_Way_act (R_act T) (hr.mono (by decide)) pass0 (pa_cons (pv 3) (pa_cons (pe_fld (pv 4) rfl) pa_nil))))) pss_nil))))
    (pss_one (ps_ret (pv 2)))), ?_⟩
  obtain ⟨l, l1, l2⟩ := hL.ob
  refine ⟨_, rfl, fun a dx na ndx ne => ?_⟩
  have na' : (L2.upd H dx (.own a)) a = none := by rw [upd_ne ne.symm]; exact na
  have f1 : Fr K [] H (L2.upd (L2.upd H dx (.own a)) a (.ins (C_Way K) dx [])) := (Fr.new (o := .own a) tb ndx).trans (Fr.new (o := .ins (C_Way K) dx []) (Fr.new (E := []) (o := .own a) tb ndx).2 na')
  refine ⟨a, dx, lt, l, L, rfl, upd_same, f1.at l1, f1.at l2, f1.2, fun H2 W f2 hw hnew => ⟨rfl, ?_⟩⟩
  have F2 : Fr K [] H H2 := Fr.drop1 (E := []) ((f1.mono (E' := [] ++ [a]) (by simp)).trans f2) na
  have hex : ∀ x ∈ W.ex a, H x = none := fun x m => by
    have m : x = a ∨ x = W.md ∨ x = W.fd ∨ x = W.rd ∨ x = W.al := by simpa [WA.ex] using m
    rcases m with h | h
    · rw [h]; exact na
    · exact f1.3 _ (hnew x (by rcases h with h | h | h | h <;> simp [h]))
  have rl : as.length = rs.length := hR.1
  refine ⟨_, rfl, D, _, rfl, SqL.of (F2.at hD), ?_⟩
  refine for_enum (xs := as.map V.ref) (fun j σ H' => (∃ y z, σ = [some (V.ref D), some (.ref lt), some (.ref a), y, z]) ∧ Fr K [] H H' ∧ ∃ Sc, WayAt K H' a W L Sc ∧ thru L 0 rs S0 = thru L j (rs.drop j) Sc ∧ SzOk Sc (6 * j))
    ⟨⟨_, _, rfl⟩, F2, S0, hw, rfl, ⟨Nat.le_refl _, Nat.le_refl _, Nat.le_refl _, Nat.le_refl _⟩⟩ (fun j σ H' _ ⟨_, f, _⟩ => SqL.of (f.at hD)) (fun j y Tp σ H' hy ⟨⟨y1, y2, es⟩, f, Sc, hwc, hth, hsz⟩ nT => ?_) (fun σ H' ⟨⟨y1, y2, es⟩, f, Sc, hwc, hth, hsz⟩ => ?_)
  · subst es
    obtain ⟨b, hb, rfl⟩ := at_ref hy
    obtain ⟨r, hrj⟩ : ∃ r, rs[j]? = some r := by
      have : j < rs.length := by rw [← rl]; exact (List.getElem?_eq_some_iff.mp hb).1
      exact ⟨_, List.getElem?_eq_getElem this⟩
    have hj : j < rs.length := (List.getElem?_eq_some_iff.mp hrj).1
    have hdr : rs.drop j = r :: rs.drop (j + 1) := by
      rw [List.drop_eq_getElem_cons hj]
      rw [List.getElem?_eq_getElem hj] at hrj
      rw [Option.some.inj hrj]
    have hth2 : thru L 0 rs S0 = if Sc.st = true then Sc else if r.1.ev L Sc.ms = true then thru L (j + 1) (rs.drop (j + 1)) (runD r.2 { Sc with acts := Sc.acts ++ [j] }) else thru L (j + 1) (rs.drop (j + 1)) Sc := by
      rw [hth, hdr]; rfl
    obtain ⟨w1, w2, w3, w4, w5, w6, w7, w8⟩ := hrw r (List.mem_of_getElem? hrj)
    have g1 : Fr K [] H' (L2.upd H' Tp (.tup [.int (j : Nat), .ref b])) := Fr.new f.2 nT
    refine ⟨Tp, _, rfl, .inl (.inl upd_same), rfl, _, _, rfl, _, _, rfl, rfl, ?_⟩
    have hwg := hwc.fr g1
    obtain ⟨dc, ec⟩ := hwg.ob
    have F3 := f.trans g1
    refine ⟨_, rfl, a, _, dc, _, _, rfl, ec, T.c_Way, T.n_Way_stopped, rfl, _, rfl, ?_⟩
    by_cases st : Sc.st = true
    · refine iteB st ?_
      rw [if_pos st] at hth2
      refine ⟨_, rfl, k _ a W F3 (by rw [hth2]; exact hwg) hex (by rw [hth2]; exact hsz.mono (by omega))⟩
    · refine iteNB (by simpa using st) ?_
      rw [if_neg st] at hth2
      obtain ⟨dr, wl, cv, dl, er, tc, td⟩ := (hR.2 j b r hb hrj).fr F3
      refine ⟨_, rfl, a, dc, _, rfl, ec, rfl, _, rfl, b, _, dr, _, _, rfl, er, T.c_Rule, T.n_Rule_condition, rfl, a, cv, r.1, W, L, Sc, Ws, 2, rfl, hwg, hl, tc, w1, w3, F3.2, fun H4 f4 => ?_⟩
      refine ⟨_, rfl, ?_⟩
      have F4 := F3.trans f4
      have hw4 := hwg.fr f4
      by_cases ev : r.1.ev L Sc.ms = true
      · refine iteB ev ?_
        rw [if_pos ev] at hth2
        obtain ⟨d4, e4⟩ := hw4.ob
        obtain ⟨dr4, wl4, cv4, dl4, er4, tc4, td4⟩ := (hR.2 j b r hb hrj)
        have er5 := F4.at er4
        have sq : Same (Sq H) H4 := fun p o e => F4.1 p o (by simp) (Sq.iff.mp e).1 (seq_nt (Sq.iff.mp e).2)
        refine ⟨_, rfl, a, d4, _, rfl, e4, rfl, _, rfl, _, rfl, b, _, dr4, _, _, rfl, er5, T.c_Rule, T.n_Rule_deeds, rfl, a, j, dl4, r.2, W, L, Sc, Sq H, 6 * j, rfl, hw4, td4.sq, sq, fun p o e => (Sq.iff.mp e).2, ?_, w6, hsz, by omega, F4.2, fun H5 f5 hw5 => ?_⟩
        · cases z : Sq H W.al with
          | none => rfl
          | some o =>
            have := (Sq.iff.mp z).1
            rw [hex _ (by simp [WA.ex])] at this
            cases this
        · refine ⟨⟨_, _, rfl⟩, Fr.drop (F4.nil.trans f5) hex, _, hw5, hth2, ?_⟩
          exact (SzOk.run hsz.acts1).mono (by omega)
      · refine iteNB (by simpa using ev) ?_
        rw [if_neg ev] at hth2
        exact ⟨⟨_, _, rfl⟩, F4, Sc, hw4, hth2, hsz.mono (by omega)⟩
  · subst es
    rw [List.length_map, rl, List.drop_length] at hth
    have hth : thru L 0 rs S0 = Sc := hth
    rw [List.length_map, rl] at hsz
    exact ⟨_, rfl, k H' a W f (by rw [hth]; exact hwc) hex (by rw [hth]; exact hsz.mono (by omega))⟩
end
end So
end

section
set_option Elab.async false
set_option linter.all false
set_option maxRecDepth 100000
set_option maxHeartbeats 4000000
namespace So
open PySem PySem.Spec PyProof.Rows L2 GxA TL
open GxR (TabB TabG Tabbed)
section
variable {P : Program} {w : World} {K : PySem.W.Frag} {mg : Str → Option Value} {base : Heap}
/-- a text whose rows are these rules -/
structure TxtOk (x : Str) (os : List (Option RuleD)) (W : List Str) : Prop where
  ex : ∃ rows, Txt.split x "\n" = rows ∧ Paired (RowOk W) rows os ∧ (∀ r ∈ rows, r.length ≤ 1000) ∧ rows.length ≤ 20
  len : x.length + 2 ≤ sizeLine
  four : W.length ≤ 4
theorem TxtOk.wf {x : Str} {os : List (Option RuleD)} {W : List Str} (t : TxtOk x os W) : (∀ r ∈ os.filterMap id, RWf W r) ∧ (os.filterMap id).length ≤ 20 := by
  obtain ⟨rows, _, hrow, _, hl⟩ := t.ex
  have hol := Paired.length hrow
  refine ⟨fun r m => ?_, ?_⟩
  · obtain ⟨o, ho, e⟩ := List.mem_filterMap.mp m
    have e : o = some r := e
    subst e
    obtain ⟨j, hj⟩ := List.mem_iff_getElem?.mp ho
    obtain ⟨row, hrw⟩ : ∃ row, rows[j]? = some row := by
      have : j < rows.length := by rw [hol]; exact (List.getElem?_eq_some_iff.mp hj).1
      exact ⟨_, List.getElem?_eq_getElem this⟩
    exact (paired_at hrow hrw hj).2.2
  · have := List.length_filterMap_le id os
    omega
theorem S0_nm : SNm S0 := ⟨fun _ m => (nomatch m), fun _ m => (nomatch m), fun _ m => (nomatch m)⟩
def wayOf (L : Ltr) (os : List (Option RuleD)) : WS := thru L 0 (os.filterMap id) S0
def spSort (K : PySem.W.Frag) : Sp := fun vs H Q _ => ∃ (x : Str) (lt : Addr) (os : List (Option RuleD)) (W : List Str) (L : Ltr), vs = [.str x, .ref lt] ∧ TxtOk x os W ∧ LtAt H lt L ∧ LWf L ∧ Tb K H ∧
  ∀ (H' : Hp) (v : V) (ms : List Str), Fr K [] H H' → ms.Perm (wayOf L os).ms → ms.Pairwise SkX.NLe → ND K H [] H' v (.tuple [.list ((wayOf L os).fs.map PyData.str), .list (ms.map PyData.str), .list ((wayOf L os).rs.map PyData.str)]) → Q v H'
theorem R_sort (T : Txt w K mg base) : FnR P w K mg base CX0 84 (a_sort K) (spSort K) := by
  refine mkR T.f_sort sc_sort bd_sort ?_ ?_
  · rintro vs H Q E ⟨x, lt, os, W, L, rfl, _⟩; rfl
  rintro cdv A outer s H vs Q E hr ⟨x, lt, os, W, L, rfl, ht, hL, hl, tb, k⟩
  have nd := sc_sort.nd
  obtain ⟨_, F1⟩ := T.f_read
  obtain ⟨_, F2⟩ := T.f_check_letter
  obtain ⟨_, F3⟩ := T.f_way_through
  refine ⟨_, pss_cons (ps_set (i := 2) nd rfl (.inl rfl) (pe_cF (R_read T) (hr.mono (by decide)) (by rfl) T.g_read F1.kp (pa_cons (pv 0) pa_nil)))
    (pss_cons (ps_expr (pe_cF (R_check_letter T) (hr.mono (by decide)) (by rfl) T.g_check_letter F2.kp (pa_cons (pv 1) pa_nil)))
    (pss_one (ps_ret (pe_m0F (pe_cF (R_way_through T) (hr.mono (by decide)) (by rfl) T.g_way_through F3.kp (pa_cons (pv 2) (pa_cons (pv 1) pa_nil))) T.c_Way T.m_Way_outcome (R_outcome T) (hr.mono (by decide)))))), ?_⟩
  obtain ⟨wf, wl⟩ := ht.wf
  obtain ⟨rows, t1, t2, t3, t4⟩ := ht.ex
  refine ⟨_, rfl, x, rows, os, W, rfl, ht.len, t1, t2, t3, t4, ht.four, tb, fun H1 D as f1 _ hD hRN => ?_⟩
  have hR : RulesAt K H1 as _ := ⟨hRN.1, fun j b q e1 e2 => (hRN.2 j b q e1 e2).at⟩
  refine ⟨_, rfl, lt, L, rfl, hL.fr f1, hl, f1.2, fun H2 f2 => ?_⟩
  have g2 := f1.trans f2
  refine ⟨_, rfl, _, rfl, D, lt, as, _, L, W, rfl, f2.at hD, hR.fr f2, wf, wl, hL.fr g2, hl, g2.2, fun H3 a Wa f3 hw _ sz => ?_⟩
  have g3 := g2.trans f3
  obtain ⟨dx, e⟩ := hw.ob
  exact ⟨a, dx, _, rfl, e, rfl, a, Wa, L, _, rfl, hw, SNm.thru S0_nm wf, sz, g3.2, fun H4 v ms f4 pm so nd4 => k H4 v ms (g3.trans f4) pm so (Tr.same (nu_back g3.3 (by simp)) nd4)⟩
def spActing (K : PySem.W.Frag) : Sp := fun vs H Q _ => ∃ (x : Str) (lt : Addr) (os : List (Option RuleD)) (W : List Str) (L : Ltr), vs = [.str x, .ref lt] ∧ TxtOk x os W ∧ LtAt H lt L ∧ LWf L ∧ Tb K H ∧
  ∀ (H' : Hp) (v : V), Fr K [] H H' → ND K H [] H' v (.list ((wayOf L os).acts.map fun (n : Nat) => PyData.int (n : Int))) → Q v H'
theorem ints_tr {H : Hp} : ∀ {xs : List Nat}, TrAll H (xs.map fun (n : Nat) => V.int (n : Int)) (xs.map fun (n : Nat) => PyData.int (n : Int))
  | [] => .nil
  | x :: xs => .cons (.int _) ints_tr
theorem R_acting (T : Txt w K mg base) : FnR P w K mg base CX0 84 (a_acting K) (spActing K) := by
  refine mkR T.f_acting sc_acting bd_acting ?_ ?_
  · rintro vs H Q E ⟨x, lt, os, W, L, rfl, _⟩; rfl
  rintro cdv A outer s H vs Q E hr ⟨x, lt, os, W, L, rfl, ht, hL, hl, tb, k⟩
  have nd := sc_acting.nd
  obtain ⟨_, F1⟩ := T.f_read
  obtain ⟨_, F2⟩ := T.f_check_letter
  obtain ⟨_, F3⟩ := T.f_way_through
  refine ⟨_, pss_cons (ps_set (i := 2) nd rfl (.inl rfl) (pe_cF (R_read T) (hr.mono (by decide)) (by rfl) T.g_read F1.kp (pa_cons (pv 0) pa_nil)))
    (pss_cons (ps_expr (pe_cF (R_check_letter T) (hr.mono (by decide)) (by rfl) T.g_check_letter F2.kp (pa_cons (pv 1) pa_nil)))
    (pss_one (ps_ret (pe_fld (pe_cF (R_way_through T) (hr.mono (by decide)) (by rfl) T.g_way_through F3.kp (pa_cons (pv 2) (pa_cons (pv 1) pa_nil))) rfl)))), ?_⟩
  obtain ⟨wf, wl⟩ := ht.wf
  obtain ⟨rows, t1, t2, t3, t4⟩ := ht.ex
  refine ⟨_, rfl, x, rows, os, W, rfl, ht.len, t1, t2, t3, t4, ht.four, tb, fun H1 D as f1 _ hD hRN => ?_⟩
  have hR : RulesAt K H1 as _ := ⟨hRN.1, fun j b q e1 e2 => (hRN.2 j b q e1 e2).at⟩
  refine ⟨_, rfl, lt, L, rfl, hL.fr f1, hl, f1.2, fun H2 f2 => ?_⟩
  have g2 := f1.trans f2
  refine ⟨_, rfl, _, rfl, D, lt, as, _, L, W, rfl, f2.at hD, hR.fr f2, wf, wl, hL.fr g2, hl, g2.2, fun H3 a Wa f3 hw hal0 sz => ?_⟩
  have hal := hal0 Wa.al (by simp [WA.ex])
  have g3 := g2.trans f3
  obtain ⟨dx, e⟩ := hw.ob
  exact ⟨a, _, dx, _, _, rfl, e, T.c_Way, T.n_Way_acts, rfl, k H3 _ g3 (ND.lst ints_tr hw.al (g2.3 _ hal) (by simp))⟩
end
end So
end

section
set_option Elab.async false
set_option linter.all false
set_option maxRecDepth 100000
set_option maxHeartbeats 4000000
namespace So
open PySem PySem.Spec PyProof.Rows L2 GxA TL
open GxR (TabB TabG Tabbed)
/-! ## the law's own defs: draws -/
def primes16 : List Int := [1000003, 1000033, 1000037, 1000039, 1000081, 1000099, 1000117, 1000121, 1000133, 1000151, 1000159, 1000171, 1000183, 1000187, 1000193, 1000199]
theorem primes_at : ∀ i, i < 16 → ∃ p, (primes16.map V.int)[i]? = some (V.int p) ∧ 0 < p := fun i h => by
  have all : ∀ p ∈ primes16, 0 < p := by decide
  have hl : i < primes16.length := h
  refine ⟨primes16[i], ?_, all _ (List.getElem_mem hl)⟩
  rw [List.getElem?_map, List.getElem?_eq_getElem hl]; rfl
section
variable {P : Program} {w : World} {K : PySem.W.Frag} {mg : Str → Option Value} {base : Heap}
def spDraw (K : PySem.W.Frag) : Sp := fun vs H Q _ => ∃ (c k m : Int), vs = [.int c, .int k, .int m] ∧ 0 < m ∧ Tb K H ∧ ∀ H' (x : Int), Fr K [] H H' → 0 ≤ x → x < m → Q (.int x) H'
theorem R_draw (T : Txt w K mg base) : FnR P w K mg base CX0 1 (a_law_draw K) (spDraw K) := by
  refine mkR T.f_law_draw sc_law_draw bd_law_draw ?_ ?_
  · rintro vs H Q E ⟨c, k, m, rfl, _⟩; rfl
  rintro cdv A outer s H vs Q E hr ⟨c, k, m, rfl, hm, tb, kk⟩
  have nd := sc_law_draw.nd
  refine ⟨_, pss_cons (ps_set (i := 3) nd rfl (.inl rfl) (pe_tup (pa_cons pe_int (pa_cons pe_int (pa_cons pe_int (pa_cons pe_int (pa_cons pe_int (pa_cons pe_int (pa_cons pe_int (pa_cons pe_int (pa_cons pe_int (pa_cons pe_int (pa_cons pe_int (pa_cons pe_int (pa_cons pe_int (pa_cons pe_int (pa_cons pe_int (pa_cons pe_int pa_nil))))))))))))))))))
    (pss_one (ps_ret (pe_op op_mod (pe_op op_mod (pe_op op_add (pe_op op_mul (pv 0) pe_int) (pe_op op_mul (pv 1) pe_int)) (pe_ix ix_tup (pv 3) (pe_op op_mod (pv 1) pe_int) (fun _ _ => rfl))) (pv 2)))), ?_⟩
  refine ⟨by show 16 ≤ sizeLine; decide, fun t nt => ?_⟩
  have f := Fr.new (E := []) (o := .tup (primes16.map V.int)) tb nt
  refine ⟨_, rfl, c, 48271, rfl, rfl, .inr (by decide), _, rfl, k, 69621, rfl, rfl, .inr (by decide), _, _, rfl, rfl, ?_⟩
  obtain ⟨p, hp, hp0⟩ := primes_at (k % 16).toNat (by omega)
  refine ⟨_, rfl, _, rfl, k, 16, rfl, rfl, (by show (0 : Int) < 16; decide), t, primes16.map V.int, _, V.int p, rfl, rfl, .inl (.inl upd_same), ?_, ?_⟩
  · rw [show k % 16 = (((k % 16).toNat : Nat) : Int) by omega]
    exact atI_nat hp
  refine ⟨_, p, rfl, rfl, hp0, _, rfl, _, m, rfl, rfl, hm, ?_⟩
  exact kk _ _ f (Int.emod_nonneg _ (by omega)) (Int.emod_lt_of_pos _ hm)
def spCellAt (K : PySem.W.Frag) : Sp := fun vs H Q _ => ∃ (a : Addr) (ns : List Int) (k : Nat), vs = [.ref a, .int k] ∧ SqL K H a (ns.map V.int) ∧ Tb K H ∧ ∀ H' (x : Int), Fr K [] H H' → 0 ≤ x → Q (.int x) H'
theorem R_cell_at (T : Txt w K mg base) : FnR P w K mg base CX0 2 (a_law_cell_at K) (spCellAt K) := by
  refine mkR T.f_law_cell_at sc_law_cell_at bd_law_cell_at ?_ ?_
  · rintro vs H Q E ⟨a, ns, k, rfl, _⟩; rfl
  rintro cdv A outer s H vs Q E hr ⟨a, ns, k, rfl, ha, tb, kk⟩
  obtain ⟨_, F1⟩ := T.f_law_draw
  refine ⟨_, pss_cons (ps_if (pt_cmpR op_lt (pv 1) (pe_callB call_len_seq (by rfl) T.z_len PySem.boot_len (pa_cons (pv 0) pa_nil)) (nomark _))
      (pss_one (ps_ret (pe_callB call_abs (by rfl) T.z_abs (by decide +kernel) (pa_cons (pe_ix ix_list (pv 0) (pv 1) (fun _ _ => rfl)) pa_nil)))) pss_nil)
    (pss_one (ps_ret (pe_cF (R_draw T) hr (by rfl) T.g_law_draw F1.kp (pa_cons (pe_op op_add (pe_callB call_abs (by rfl) T.z_abs (by decide +kernel) (pa_cons (pe_callB (cr_sum rfl) (by rfl) T.z_sum (by decide +kernel) (pa_cons (pv 0) pa_nil)) pa_nil)) (pe_op op_mul pe_int (pv 1))) (pa_cons (pv 1) (pa_cons pe_int pa_nil)))))), ?_⟩
  refine ⟨_, rfl, _, rfl, a, _, rfl, .inl ha, _, _, rfl, rfl, _, rfl, ?_⟩
  by_cases h : k < ns.length
  · refine iteD (by rw [List.length_map]; omega) ?_
    refine ⟨_, rfl, _, rfl, a, _, _, V.int ns[k], rfl, rfl, ha, atI_nat ?_, ns[k], rfl, ?_⟩
    · rw [List.getElem?_map, List.getElem?_eq_getElem h]; rfl
    · exact kk H _ (Fr.refl tb) (by split <;> omega)
  · refine iteN (by rw [List.length_map]; omega) ?_
    refine ⟨_, rfl, a, ns, rfl, ha, _, rfl, _, rfl, 7919, _, rfl, rfl, .inl (by decide), _, _, rfl, rfl, _, rfl, _, _, _, rfl, by decide, tb, fun H' x f h1 h2 => kk H' x f h1⟩
theorem ints_len {H : Hp} {D : Addr} {xs : List Int} (h : H D = some (.lst (xs.map V.int))) (hl : xs.length ≤ 100) : (xs.map V.int).length < sizeLine := by
  rw [List.length_map]
  exact Nat.lt_of_le_of_lt hl (by decide)
/-- draws: n of them, below b -/
def Drw (xs : List Int) (n : Nat) (b : Int) : Prop := xs.length = n ∧ ∀ x ∈ xs, 0 ≤ x ∧ x < b
def spDigits (K : PySem.W.Frag) : Sp := fun vs H Q _ => ∃ (a : Addr) (ns : List Int) (k n : Nat) (b : Int), vs = [.ref a, .int k, .int n, .int b] ∧ SqL K H a (ns.map V.int) ∧ n ≤ 50 ∧ 0 < b ∧ b < 1073741824 ∧ Tb K H ∧
  ∀ H' D xs, Fr K [] H H' → H D = none → H' D = some (.lst (xs.map V.int)) → Drw xs n b → Q (.ref D) H'
theorem R_digits (T : Txt w K mg base) : FnR P w K mg base CX0 4 (a_law_digits K) (spDigits K) := by
  refine mkR T.f_law_digits sc_law_digits bd_law_digits ?_ ?_
  · rintro vs H Q E ⟨a, ns, k, n, b, rfl, _⟩; rfl
  rintro cdv A outer s H vs Q E hr ⟨a, ns, k, n, b, rfl, ha, hn, hb, hb2, tb, kk⟩
  have nd := sc_law_digits.nd
  obtain ⟨_, F1⟩ := T.f_law_draw
  obtain ⟨_, F2⟩ := T.f_law_cell_at
  refine ⟨_, PSs.nox <| pss_cons (ps_par (i := 4) (j := 5) (by rfl) nd rfl rfl (by decide) rfl rfl (pa_cons (pe_cF (R_cell_at T) (hr.mono (by decide)) (by rfl) T.g_law_cell_at F2.kp (pa_cons (pv 0) (pa_cons (pv 1) pa_nil))) (pa_cons (pe_lst pa_nil) pa_nil)) (by rfl))
    (pss_cons (ps_set (i := 6) nd rfl (.inl rfl) (pe_op op_sub (pv 4) (pe_op op_pow pe_int pe_int)))
    (pss_cons (ps_for PassesOwn.never rfl (pi_range1 (by rfl) T.z_range (pa_cons (pv 2) pa_nil)) (pg_name (i := 7) nd rfl (.inl rfl))
      (pss_one (ps_if (pt_cmpR op_ge (pv 4) (pe_op op_pow pe_int pe_int) (nomark _))
        (pss_cons (ps_expr (pe_bm PySem.F.plainAttrs_list PySem.F.slot_list_append PySem.F.type_list_append mt_append (pv 5) (pa_cons (pe_op op_mod (pv 6) (pv 3)) pa_nil)))
          (pss_one (ps_set (i := 6) nd rfl (.inl rfl) (pe_op op_fdiv (pv 6) (pv 3)))))
        (pss_cons (ps_set (i := 8) nd rfl (.inl rfl) (pe_cF (R_draw T) (hr.mono (by decide)) (by rfl) T.g_law_draw F1.kp (pa_cons (pe_op op_mul (pe_op op_add (pv 4) (pe_op op_mul pe_int (pv 7))) (pe_op op_add (pe_op op_add (pv 4) (pe_op op_mul pe_int (pv 7))) pe_int)) (pa_cons (pe_op op_add (pe_op op_mod (pv 7) pe_int) pe_int) (pa_cons pe_int pa_nil)))))
        (pss_cons (ps_set (i := 9) nd rfl (.inl rfl) (pe_cF (R_draw T) (hr.mono (by decide)) (by rfl) T.g_law_draw F1.kp (pa_cons (pe_op op_add (pe_op op_mul (pe_op op_add (pv 4) (pe_op op_mul pe_int (pv 7))) (pe_op op_add (pv 4) pe_int)) (pe_op op_mul pe_int (pv 7))) (pa_cons (pe_op op_add (pe_op op_mod (pv 7) pe_int) pe_int) (pa_cons pe_int pa_nil)))))
        (pss_one (ps_expr (pe_bm PySem.F.plainAttrs_list PySem.F.slot_list_append PySem.F.type_list_append mt_append (pv 5) (pa_cons (pe_op op_mod (pe_op op_add (pe_op op_mul (pv 8) pe_int) (pv 9)) (pv 3)) pa_nil))))))))
    )
    (pss_one (ps_ret (pv 5))))), ?_⟩
  refine ⟨_, rfl, _, rfl, a, ns, k, rfl, ha, tb, fun H1 c f1 hc => ?_⟩
  refine ⟨by show 0 ≤ sizeLine; decide, fun D nD => ?_⟩
  have hD : H D = none := f1.3 _ nD
  have f2 := f1.trans (Fr.new (E := []) (o := .lst []) f1.2 nD)
  refine ⟨_, _, rfl, _, rfl, 10, 18, rfl, rfl, ⟨by decide, by decide, by decide⟩, _, _, rfl, rfl, ?_⟩
  refine ⟨_, rfl, n, rfl, by omega, by omega, ?_⟩
  refine for_range (lo := 0) (n := ((n : Nat) : Int).toNat) (fun i σ H' => (∃ (l : Int) (y z u : Option V), σ = [some (V.ref a), some (.int k), some (.int n), some (.int b), some (.int c), some (.ref D), some (.int l), y, z, u]) ∧ Fr K [] H H' ∧ ∃ xs : List Int, H' D = some (.lst (xs.map V.int)) ∧ Drw xs i b)
    ⟨⟨_, _, _, _, rfl⟩, f2, [], upd_same, rfl, fun _ m => (nomatch m)⟩ (fun i σ H' hi ⟨⟨l, y, z, u, es⟩, f, xs, hx, hl, hr2⟩ => ?_) (fun σ H' ⟨⟨l, y, z, u, es⟩, f, xs, hx, hd⟩ => ?_)
  · subst es
    have hi : i < n := by omega
    have app : ∀ (v : Int) (H2 : Hp), Fr K [] H' H2 → 0 ≤ v → v < b → Fr K [] H (L2.upd H2 D (.lst (xs.map V.int ++ [.int v]))) ∧ ∃ ys : List Int, (L2.upd H2 D (.lst (xs.map V.int ++ [.int v]))) D = some (.lst (ys.map V.int)) ∧ Drw ys (i + 1) b := fun v H2 g h1 h2 => by
      have hx2 := g.at hx
      refine ⟨(f.trans g).upNew tb hD, xs ++ [v], by rw [upd_same, List.map_append]; rfl, by rw [List.length_append, hl]; rfl, fun x m => ?_⟩
      rcases List.mem_append.mp m with m | m
      · exact hr2 x m
      · rw [List.mem_singleton.mp m]; exact ⟨h1, h2⟩
    have hlt := ints_len hx (by omega)
    refine ⟨_, rfl, 10, 18, rfl, rfl, ⟨by decide, by decide, by decide⟩, _, _, rfl, rfl, _, rfl, ?_⟩
    by_cases hc18 : (10 : Int) ^ (18 : Int).toNat ≤ c
    · refine iteD hc18 ?_
      refine ⟨_, rfl, .inl ⟨rfl, _, SqL.of hx⟩, _, rfl, _, rfl, l, b, rfl, rfl, hb, D, _, _, rfl, rfl, hx, hlt, ?_⟩
      obtain ⟨g1, g2⟩ := app (l % b) H' (Fr.refl f.2) (Int.emod_nonneg _ (by omega)) (Int.emod_lt_of_pos _ hb)
      exact ⟨_, rfl, _, rfl, l, b, rfl, rfl, ⟨hb, hb2⟩, ⟨_, _, _, _, rfl⟩, g1, g2⟩
    · refine iteN hc18 ?_
      have hcs : c < 1000000000000000000 := by
        have e : (10 : Int) ^ (18 : Int).toNat = 1000000000000000000 := by decide
        rw [e] at hc18; omega
      refine ⟨_, rfl, _, rfl, 977, _, rfl, rfl, .inl (by decide), _, _, rfl, rfl, _, rfl, _, rfl, 31, _, rfl, rfl, .inl (by decide), _, _, rfl, rfl, _, _, rfl, rfl, _, _, rfl, rfl, .inl ⟨by omega, by omega⟩, ?_⟩
      refine ⟨_, rfl, _, 9, rfl, rfl, (by show (0 : Int) < 9; decide), _, _, rfl, rfl, _, _, _, rfl, by decide, f.2, fun H2 x2 g2 hx1 hx2 => ?_⟩
      refine ⟨_, rfl, _, rfl, 31, _, rfl, rfl, .inl (by decide), _, _, rfl, rfl, _, rfl, _, _, rfl, rfl, _, _, rfl, rfl, .inl ⟨by omega, by omega⟩, _, rfl, 977, _, rfl, rfl, .inl (by decide), _, _, rfl, rfl, ?_⟩
      refine ⟨_, rfl, _, 7, rfl, rfl, (by show (0 : Int) < 7; decide), _, _, rfl, rfl, _, _, _, rfl, by decide, g2.2, fun H3 x3 g3 hx3 hx4 => ?_⟩
      have g := g2.trans g3
      refine ⟨_, rfl, .inl ⟨rfl, _, SqL.of (g.at hx)⟩, _, rfl, x2, 1000003, rfl, rfl, .inl ⟨by omega, by omega⟩, _, rfl, _, _, rfl, rfl, _, rfl, _, b, rfl, rfl, hb, D, _, _, rfl, rfl, g.at hx, hlt, ?_⟩
      obtain ⟨g1, g2⟩ := app ((x2 * 1000003 + x3) % b) H3 g (Int.emod_nonneg _ (by omega)) (Int.emod_lt_of_pos _ hb)
      exact ⟨⟨_, _, _, _, rfl⟩, g1, g2⟩
  · subst es
    have e : ((n : Nat) : Int).toNat = n := by omega
    rw [e] at hd
    exact ⟨_, rfl, kk H' D xs f hD hx hd⟩
end
end So
end

section
set_option Elab.async false
set_option linter.all false
set_option maxRecDepth 100000
set_option maxHeartbeats 4000000
/-! defs that may raise -/
namespace So
open PySem PySem.Spec PyProof.Rows L2 GxA TL
open GxR (TabB TabG Tabbed)
section
variable {P : Program} {w : World} {K : PySem.W.Frag} {mg : Str → Option Value} {base : Heap}
abbrev FnE (P : Program) (w : World) (K : PySem.W.Frag) (mg : Str → Option Value) (base : Heap) (k : Nat) (f : Addr) (sp : Sp) : Prop := FnR P w K mg base (L2.CX P w) k f sp
theorem mkE {x qual : Str} {st : Stmt} {N ps : List Str} {k : Nat} {sp : Sp} {f : Addr} (F : FD K x qual st f) (S : FnScope N ps (defScope st))
    (hb : ∀ (kV doc pm : Value) (an : Option Addr) (cdv ct : Value) (us : List Value), us.length = ps.length → bindArgs (PySem.W.fnOf x qual (defArgs st) (defBody st) (defScope st) .none kV doc pm an cdv ct) ⟨us, []⟩ = pure (ps.zip us))
    (len : ∀ vs H Q E, sp vs H Q E → vs.length = ps.length)
    (hbody : ∀ (cdv : Value) (A : Around) (outer : List Env) (s : Shared) (H : Hp) (vs : List V) (Q : VK) (E : XK), Room k (A.deeper (envOfC qual (defScope st) s.heap.objs.size f cdv)) → sp vs H Q E →
      ∃ t, PSs (cxOf (L2.CX P w) P w K mg base N qual (defScope st) f cdv A outer s H E) (defBody st) t ∧ t { nx := fun _ H' => Q .non H', rt := Q } (start N vs) H) : FnE P w K mg base (k + 1) f sp := by
  obtain ⟨fd, F⟩ := F
  have b : Binds K fd ps [] := F.bindsN hb
  have ok : FnOk P w K mg base (L2.CX P w) (k + 1) f fd ps sp := by
    obtain ⟨oc, od, dV, kV, doc, pm, an, cdv, ct, osl, rfl, lk, hcd, _, _⟩ := F.ex
    exact fn_of lk hcd S len (hbody cdv)
  exact (ok.raw b .nil).imp fun vs H Q E h => by rw [List.append_nil]; exact h
end
section
variable {X : Cx} {k : Nat} {f C : Addr} {sp : Sp} {x m : Str} {e o : Expr} {es : List Expr} {ta : TE} {t : TA} {p pos apos : Pos} {W : WX}
/-- what a callee lets out, as wished -/
theorem passX (tk : Takes X W) {E : XK} (h : ∀ cls d σ H, E cls d H → W cls d σ H) : Passes (L2.CX X.prog X.w) X E := passes_call tk h
def tCX (sp : Sp) (E : XK) (t : TA) : TE := fun σ H Q => t σ H fun vs H1 => sp vs H1 Q E
theorem pe_cX {E : XK} (F : FnE X.prog X.w X.K X.mg X.base k f sp) (hr : Room k X.A) (hx : Passes (L2.CX X.prog X.w) X E) (hg : Gl X x) (hm : X.mg x = some (.ref f)) (hk : PySem.W.keepIn X.K (.ref f) = true)
    (ha : PA X (e :: es) t) (hdb : (x == ("__debug__" : Str)) = false := by decide) (he : starEach (e :: es) X.env = (false, eval e X.env) :: starEach es X.env := by rfl) (hpl : (backTo pos (starEach es X.env)).any (·.1) = false := by rfl) :
    PE X (.Call (.Name x p) (e :: es) [] pos) (tCX sp E t) := by
  refine ⟨fun pins s σ H Q I h => ?_⟩
  refine wpAny_Call_Name_kw (ld_glob I hg hm ?_ hdb)
  refine PySem.W.callWith_K (h₀ := X.base) I.ok.mod.kin hk (thn (ha.run pos pins s σ H _ I h) fun us s1 ⟨vs, H1, I1, r, q⟩ => ⟨I1.kIn, ?_⟩) he hpl
  exact wpAny_call (run_fnR (us := us) F hr hx I1 r q)
def tM0X (C : Addr) (m : Str) (sp : Sp) (E : XK) (ta : TE) : TE := fun σ H Q => ta σ H fun x H1 => ∃ a dx fs, x = .ref a ∧ H1 a = some (.ins C dx fs) ∧ fs.lookup m = none ∧ sp [x] H1 Q E
theorem pe_m0X {E : XK} {pl : Sem Bool} (he : PE X o ta) (c : Cls X.K C) (hm : Meth X.K C m f) (F : FnE X.prog X.w X.K X.mg X.base k f sp) (hr : Room k X.A) (hx : Passes (L2.CX X.prog X.w) X E)
    (ht : eval (.Call (.Attribute o m apos) [] [] pos) X.env = (do
      let ov ← eval o X.env
      standAt apos.atName
      let (f, first) ← holding [ov] (getMethod ov m pl)
      callWith pos f first (backTo pos (starEach [] X.env)) (backToKw pos (keywordEach [] X.env))) := by rfl) :
    PE X (.Call (.Attribute o m apos) [] [] pos) (tM0X C m sp E ta) := by
  refine ⟨fun pins s σ H Q I h => ?_⟩
  refine PySem.W.methodCall_KW (pl := pl) (thn (he.run pins s σ H _ I h) fun u s1 ⟨x, H1, I1, rx, a, dx, fs, ex, ea, l, q⟩ => ?_) ht
  subst ex
  obtain rfl : u = Value.ref a := rx
  refine getmeth_ok I1 ea c hm l ?_
  exact PySem.W.callWith_K0 (first := [.ref a]) I1.kIn hm.kp (wpAny_call (run_fnR (us := [.ref a]) (vs := [.ref a]) F hr hx I1 (.cons rfl .nil) q))
end
/-- a row is no rule: BadRule, with row and word -/
def BadAt (K : PySem.W.Frag) (E : XK) (H : Hp) (i j : Int) : Prop := ∀ H' d, Fr K [] H H' → H d = none → H' d = some (.xd (brFs (.int i) (.int j))) → E (.ref (C_BadRule K)) (some d) H'
theorem BadAt.of {K : PySem.W.Frag} {E : XK} {H H1 : Hp} {i j : Int} (h : BadAt K E H i j) (f : Fr K [] H H1) : BadAt K E H1 i j := fun H' d g n e => h H' d (f.trans g) (f.3 _ n) e
end So
end

section
set_option Elab.async false
set_option linter.all false
set_option maxRecDepth 100000
set_option maxHeartbeats 4000000
/-! rows that are no rules: what goes wrong at their end -/
namespace So
open PySem PySem.Spec PyProof.Rows L2 GxA TL
open GxR (TabB TabG Tabbed)
section
variable {P : Program} {w : World} {K : PySem.W.Frag} {mg : Str → Option Value} {base : Heap}
theorem small_log {i : Nat} (h : i ≤ 100000) : (i : Int).natAbs.log2 < 1920 := by
  rw [Int.natAbs_natCast]
  rcases Nat.eq_zero_or_pos i with rfl | q
  · decide
  · exact Nat.lt_trans ((Nat.log2_lt (by omega)).mpr (Nat.lt_of_le_of_lt h (by decide : 100000 < 2 ^ 17))) (by decide)
def spFail (K : PySem.W.Frag) : Sp := fun vs H _ E => ∃ (r dx wl : Addr) (row i : Nat), vs = [.ref r] ∧ H r = some (.ins (C_Reader K) dx (rfs wl (.int row) i)) ∧ row ≤ 100000 ∧ Tb K H ∧ BadAt K E H (row : Int) ((min i 60 : Nat) : Int)
theorem R_fail (pk : BrX.POk P) (T : Txt w K mg base) : FnE P w K mg base 3 (a_Reader_fail K) (spFail K) := by
  refine mkE T.f_Reader_fail sc_Reader_fail bd_Reader_fail ?_ ?_
  · rintro vs H Q E ⟨r, dx, wl, row, i, rfl, _⟩; rfl
  rintro cdv A outer s H vs Q E hr ⟨r, dx, wl, row, i, rfl, e, hrow, tb, k⟩
  obtain ⟨tM, hM⟩ := T.i_MOST_WORDS
  refine ⟨_, pss_one (ps_raise rfl (takes_of rfl rfl rfl rfl) (pmk_bad pk T.bad T.exc.k_BadRule (raises_own T.exc.s_BadRule T.exc.y_BadRule) T.g_BadRule T.z_super hr
    (pa_cons (pe_fld (pv 0) rfl) (pa_cons (pe_callB (call_min2 rfl) (by rfl) T.z_min (by decide +kernel) (pa_cons (pe_fld (pv 0) rfl) (pa_cons (pe_glob (by rfl) hM (v := .int 60) ⟨_, rfl⟩) pa_nil))) pa_nil)))), ?_⟩
  refine ⟨_, rfl, r, _, dx, _, _, rfl, e, T.c_Reader, T.n_Reader_row, rfl, ?_⟩
  refine ⟨_, rfl, r, _, dx, _, _, rfl, e, T.c_Reader, T.n_Reader_at, rfs_at .., _, _, rfl, ?_⟩
  have em : (if (60 : Int) < (i : Int) then (60 : Int) else (i : Int)) = ((min i 60 : Nat) : Int) := by
    split <;> omega
  rw [em]
  refine ⟨(row : Int), ((min i 60 : Nat) : Int), rfl, small_log hrow, small_log (by omega), fun d nd => ?_⟩
  exact k _ d (Fr.new tb nd) nd upd_same
section
variable [RowV]
/-- the deed that is missing -/
def spDeedBad (K : PySem.W.Frag) : Sp := fun vs H _ E => ∃ (r wl : Addr) (ws : List Str) (row i : Nat), vs = [.ref r] ∧ RdAt K H r wl ws i ∧ RowV.v = .int row ∧ nxt ws i ≠ "stop" ∧ nxt ws i ∉ kindsD ∧ row ≤ 100000 ∧ Tb K H ∧ BadAt K E H (row : Int) ((min i 60 : Nat) : Int)
theorem inV_no {x : Str} (h : x ∉ kindsD) : inV (V.str x) [.str "mark", .str "unmark", .str "file", .str "pass"] = false := by
  have e : ∀ y : Str, y ∈ kindsD → eqV (V.str y) (V.str x) = false := fun y hy => by
    show (y == x) = false
    rw [beq_eq_false_iff_ne]
    exact fun z => h (by rw [← z]; exact hy)
  show ([V.str "mark", .str "unmark", .str "file", .str "pass"].any fun y => eqV y (V.str x)) = false
  simp only [List.any_cons, List.any_nil, Bool.or_false]
  rw [e "mark" (by simp [kindsD]), e "unmark" (by simp [kindsD]), e "file" (by simp [kindsD]), e "pass" (by simp [kindsD])]
  rfl
theorem R_deed_bad (pk : BrX.POk P) (T : Txt w K mg base) : FnE P w K mg base 10 (a_Reader_read_deed K) (spDeedBad K) := by
  refine mkE T.f_Reader_read_deed sc_Reader_read_deed bd_Reader_read_deed ?_ ?_
  · rintro vs H Q E ⟨r, wl, ws, row, i, rfl, _⟩; rfl
  rintro cdv A outer s H vs Q E hr ⟨r, wl, ws, row, i, rfl, R, hv, ns, nk, hrow, tb, k⟩
  have nd := sc_Reader_read_deed.nd
  refine ⟨_, pss_cons (ps_if (pt_val (pe_methR (pv 0) T.c_Reader T.m_Reader_skip (R_skip T) (hr.mono (by decide)) pass0 (pa_cons pe_str pa_nil))) (pss_one (ps_ret (pe_tup (pa_cons pe_str (pa_cons pe_str pa_nil))))) pss_nil)
    (pss_cons (ps_set (i := 1) nd rfl (.inl rfl) (pe_m0F (pv 0) T.c_Reader T.m_Reader_peek (R_peek T) (hr.mono (by decide))))
    (pss_cons (ps_if (pt_cmpR op_notIn_seq (pv 1) (pe_glob (by rfl) T.g_DEEDS (v := .ref (He.ga K "DEEDS")) rfl) (by rfl)) (pss_one (ps_expr (pe_m0X (pv 0) T.c_Reader T.m_Reader_fail (R_fail pk T) (hr.mono (by decide)) (passX (takes_of rfl rfl rfl rfl) fun _ _ _ _ h => h)))) pss_nil)
    (pss_cons ps_never (pss_one ps_never)))), ?_⟩
  obtain ⟨dx, e⟩ := R.obv
  rw [hv] at e
  refine ⟨_, rfl, r, dx, _, rfl, e, rfl, r, wl, ws, i, "stop", rfl, R, tb, fun hx => absurd hx ns, fun _ => ⟨false, rfl, iteF ?_⟩⟩
  refine ⟨_, rfl, r, dx, _, rfl, e, rfl, r, wl, ws, i, rfl, R, ?_⟩
  refine ⟨_, rfl, _, _, rfl, .inr (T.t_DEEDS _), rfl, rfl, _, rfl, ?_⟩
  show (if (if true = true then !inV (V.str (nxt ws i)) [.str "mark", .str "unmark", .str "file", .str "pass"] else inV (V.str (nxt ws i)) [.str "mark", .str "unmark", .str "file", .str "pass"]) = true then _ else _)
  rw [inV_no nk]
  refine iteT ?_
  exact ⟨_, rfl, r, dx, _, rfl, e, rfl, r, dx, wl, row, i, rfl, e, hrow, tb, k⟩
/-- if any then: no deed behind it -/
def noDeed : List Str := ["if", "any", "then"]
def spRuleBad (K : PySem.W.Frag) : Sp := fun vs H _ E => ∃ (r wl : Addr) (row : Nat), vs = [.ref r] ∧ RdAt K H r wl noDeed 0 ∧ RowV.v = .int row ∧ row ≤ 100000 ∧ Tb K H ∧ (∀ H', Fr K [r] H H' → BadAt K E H' (row : Int) 3)
theorem R_rule_bad (pk : BrX.POk P) (T : Txt w K mg base) : FnE P w K mg base 40 (a_Reader_read_rule K) (spRuleBad K) := by
  refine mkE T.f_Reader_read_rule sc_Reader_read_rule bd_Reader_read_rule ?_ ?_
  · rintro vs H Q E ⟨r, wl, row, rfl, _⟩; rfl
  rintro cdv A outer s H vs Q E hr ⟨r, wl, row, rfl, R, hv, hrow, tb, k⟩
  have nd := sc_Reader_read_rule.nd
  refine ⟨_, pss_cons (ps_expr (pe_methR (pv 0) T.c_Reader T.m_Reader_take (R_take T) (hr.mono (by decide)) pass0 (pa_cons pe_str pa_nil)))
    (pss_cons (ps_set (i := 1) nd rfl (.inl rfl) (pe_m0F (pv 0) T.c_Reader T.m_Reader_read_condition (R_all T 4).2 (hr.mono (by decide))))
    (pss_cons (ps_expr (pe_methR (pv 0) T.c_Reader T.m_Reader_take (R_take T) (hr.mono (by decide)) pass0 (pa_cons pe_str pa_nil)))
    (pss_cons (ps_set (i := 2) nd rfl (.inl rfl) (pe_lst (pa_cons (pe_m0X (pv 0) T.c_Reader T.m_Reader_read_deed (R_deed_bad pk T) (hr.mono (by decide)) (passX (takes_of rfl rfl rfl rfl) fun _ _ _ _ h => h)) pa_nil)))
    (pss_cons ps_never (pss_cons ps_never (pss_one ps_never)))))), ?_⟩
  have hd : noDeed.drop 0 = ("if" : Str) :: (Cnd.any.told ++ (("then" : Str) :: [])) := rfl
  generalize hws : noDeed = ws at R hd
  have q1 := drop_nxt hd
  have q2 := drop_nxt (drop_app q1.2)
  obtain ⟨dx, row0, e⟩ := R.ob
  refine ⟨_, rfl, r, dx, _, rfl, e, rfl, r, wl, ws, 0, "if", rfl, R, tb, q1.1, fun H1 f1 R1 => ?_⟩
  obtain ⟨dx1, row1, e1⟩ := R1.ob
  refine ⟨_, rfl, r, dx1, _, rfl, e1, rfl, r, wl, ws, 0 + 1, .any, _, [], rfl, R1, f1.2, trivial, by decide, q1.2, ⟨fun _ => (by decide +kernel : ("then" : Str) ≠ "and"), fun _ => (by decide +kernel : ("then" : Str) ≠ "or")⟩, fun H2 v f2 R2 d2 => ?_⟩
  obtain ⟨dx2, row2, e2⟩ := R2.ob
  refine ⟨_, rfl, r, dx2, _, rfl, e2, rfl, r, wl, ws, _, "then", rfl, R2, f2.2, q2.1, fun H3 f3 R3 => ?_⟩
  obtain ⟨dx3, row3, e3⟩ := R3.ob
  refine ⟨_, rfl, r, dx3, _, rfl, e3, rfl, r, wl, ws, row, _, rfl, R3, hv, ?_, ?_, hrow, f3.2, k _ ((f1.trans f2).trans f3)⟩
  · subst hws; decide +kernel
  · subst hws; decide +kernel
end
def spRuleOfBad (K : PySem.W.Frag) : Sp := fun vs H _ E => ∃ (wl : Addr) (row : Nat), vs = [.ref wl, .int row] ∧ H wl = some (.lst (noDeed.map V.str)) ∧ row ≤ 100000 ∧ Tb K H ∧ BadAt K E H (row : Int) 3
theorem R_rule_of_bad (pk : BrX.POk P) (T : Txt w K mg base) : FnE P w K mg base 44 (a_rule_of K) (spRuleOfBad K) := by
  refine mkE T.f_rule_of sc_rule_of bd_rule_of ?_ ?_
  · rintro vs H Q E ⟨wl, row, rfl, _⟩; rfl
  rintro cdv A outer s H vs Q E hr ⟨wl, row, rfl, hw, hrow, tb, k⟩
  have nd := sc_rule_of.nd
  letI : RowV := ⟨.int row⟩
  obtain ⟨tM, hM⟩ := T.i_MOST_WORDS
  refine ⟨_, pss_cons (ps_set (i := 2) nd rfl (.inl rfl) (pe_m0X (StX.pe_makeR T.mk_Reader (R_Reader_init T) (hr.mono (by decide)) (by rfl) T.g_Reader pass0
      (pa_cons (pe_slice sl_list (pv 0) po_none (po_some (pe_op op_add (pe_glob (by rfl) hM (v := .int 60) ⟨_, rfl⟩) pe_int))) (pa_cons (pv 1) pa_nil))) T.c_Reader T.m_Reader_read_rule (R_rule_bad pk T) (hr.mono (by decide)) (passX (takes_of rfl rfl rfl rfl) fun _ _ _ _ h => h)))
    (pss_cons ps_never (pss_one ps_never)), ?_⟩
  refine ⟨_, rfl, ?_⟩
  refine ⟨60, 1, rfl, rfl, _, rfl, wl, noDeed.map V.str, rfl, SqL.of hw, fun cl ncl => ?_⟩
  rw [show ((60 : Int) + 1) = ((61 : Nat) : Int) from rfl, cut_take (by decide)]
  refine ⟨_, rfl, fun x dx nx ndx ne => ?_⟩
  have f1 : Fr K [] H (L2.upd H cl (.lst (noDeed.map V.str))) := Fr.new tb ncl
  have nx' : (L2.upd (L2.upd H cl (.lst (noDeed.map V.str))) dx (.own x)) x = none := by rw [upd_ne ne.symm]; exact nx
  have f2 := f1.trans (Fr.new (E := []) (o := .own x) f1.2 ndx)
  have f3 := f2.trans (Fr.new (E := []) (o := .ins (C_Reader K) dx []) f2.2 nx')
  refine ⟨x, dx, cl, _, noDeed, rfl, rfl, upd_same, ?_, f3.2, fun H2 g2 R2 => ⟨rfl, ?_⟩⟩
  · rw [upd_ne (ne_of_none upd_same nx).symm.symm, upd_ne (ne_of_none upd_same ndx)]
    exact upd_same
  obtain ⟨dx2, row2, e2⟩ := R2.ob
  have hx : H x = none := upd_live _ nx
  refine ⟨x, dx2, _, rfl, e2, rfl, x, cl, row, rfl, R2, rfl, hrow, g2.2, fun H3 g3 => ?_⟩
  exact k.of (Fr.drop1 (E := []) (((f3.mono (E' := [x]) (by simp)).trans g2).trans g3) hx)
end
end So
end

section
set_option Elab.async false
set_option linter.all false
set_option maxRecDepth 100000
set_option maxHeartbeats 4000000
/-! d.setdefault(k, x), k a tuple -/
namespace So
open PySem PySem.Spec PyProof.Rows L2 GxA TL
section
variable {X : Cx} {pins : List (Addr × Obj)} {σ : L2.St} {H : Hp} {s : Shared} {a b : Addr} {r : Value} {d : V} {k : List Key} {A : Around} {E : Value → Shared → Prop}
theorem dT_setd {kvs : List (List Key × V)} {Q : Value → Shared → Prop} (hu : A.units + 1 < cLine) (I : Inv X pins σ H s) (e : H a = some (.dT kvs)) (eb : H b = some (.tup (k.map kV))) (rd : RelV d r) (hl : kvs.length < sizeLine)
    (h1 : ∀ v, valV kvs k = some v → ∀ (w' : Value) (s' : Shared), Inv X pins σ H s' → RelV v w' → Q w' s') (h2 : valV kvs k = none → ∀ (w' : Value) (s' : Shared), Inv X pins σ (L2.upd H a (.dT (putK kvs k d))) s' → RelV d w' → Q w' s') :
    wpAny (model X.prog X.w) A (call (.builtin "dict.setdefault") [.ref a, .ref b, r]) Q E s := by
  obtain ⟨z, hd, xs, rel, dd⟩ := dt_of I.hok e
  have hz : xs.length ≤ sizeLine := by rw [← Paired.length rel]; exact z
  have q := rel.val k
  refine call_setdefault_heap (hsz := hz) (tupleKind_room_in1 hu) (key_of I.hok eb) hd dd (fun p hp => ?_) fun hn h' dd' hs => ?_
  · rw [hp] at q
    cases q0 : valV kvs k with
    | none => rw [q0] at q; exact (show False from q).elim
    | some v0 => rw [q0] at q; exact h1 v0 q0 _ _ (I.tok _) q
  · rw [hn] at q
    cases q0 : valV kvs k with
    | some v0 => rw [q0] at q; exact (show False from q).elim
    | none =>
      have hl2 : (putK kvs k d).length ≤ sizeLine := by have := length_putK kvs k d; omega
      obtain ⟨o, es, ep, hq, g2, g3, g4, _, g5⟩ := dd'
      refine h2 q0 _ _ (d_write (t' := s.toks + _) I (by rw [e]; exact True.intro) hs ⟨o, hq⟩ ⟨hl2, hd, _, (rel.put k eb rd).keeps fun c ys ec => ?_, o, es, ep, hq, g2, g3, g4, g5⟩) rd
      rw [upd_ne (ne_of ec e (fun z => nomatch z))]
      exact ec
end
/-- d.setdefault(y, z), y a tuple -/
def tDSetT (td ty tx : TE) : TE := fun σ H Q => td σ H fun x H1 => ∃ a, x = .ref a ∧ IsD H1 a ∧ ty σ H1 fun y H2 => tx σ H2 fun z H3 => ∃ (kvs : List (List Key × V)) (k : List Key) (b : Addr), H3 a = some (.dT kvs) ∧ y = .ref b ∧ H3 b = some (.tup (k.map kV)) ∧ kvs.length < sizeLine ∧
  (∀ v, valV kvs k = some v → Q v H3) ∧ (valV kvs k = none → Q z (L2.upd H3 a (.dT (putK kvs k z))))
section
variable {X : Cx} {o e f : Expr} {td ty tx : TE} {apos cpos : Pos}
theorem pe_dsetT (hu : X.A.units + 1 < cLine) (ho : PE X o td) (he : PE X e ty) (hf : PE X f tx) (m : M2 X o "setdefault" apos e f cpos) : PE X (.Call (.Attribute o "setdefault" apos) [e, f] [] cpos) (tDSetT td ty tx) := by
  refine ⟨fun pins s σ H Q I h => wpAny_Call_method m.base m.few m.line PySem.F.plainAttrs_dict PySem.F.slot_dict_setdefault PySem.F.type_dict_setdefault (thn (ho.run pins s σ H _ I h) fun u s1 ⟨x, H1, I1, rx, a, ex, d, q1⟩ => ?_)⟩
  subst ex
  cases (show u = Value.ref a from rx)
  obtain ⟨t1, t2, _⟩ := isD_at I1 d
  refine ⟨t1, t2, ?_⟩
  rw [m.trees]
  refine Calls.callWith_builtin rfl (Calls.evalArgs_plain (Calls.spliced_cons (thn (he.run pins s1 σ H1 _ I1 q1) fun w1 s2 ⟨y, H2, I2, ry, q2⟩ =>
    Calls.spliced_cons (thn (hf.run pins s2 σ H2 _ I2 q2) fun w2 s3 ⟨z, H3, I3, rz, kvs, k, b, ea, ey, eb, hl, q3, q4⟩ => Calls.spliced_nil ?_))))
  subst ey
  cases (show w1 = Value.ref b from ry)
  exact dT_setd hu I3 ea eb rz hl (fun v hv w' s4 I4 rw' => ⟨v, _, I4, rw', q3 v hv⟩) fun hn w' s4 I4 rw' => ⟨z, _, I4, rw', q4 hn⟩
end
end So
end

section
set_option Elab.async false
set_option linter.all false
set_option maxRecDepth 100000
set_option maxHeartbeats 4000000
/-! texts that are refused -/
namespace So
open PySem PySem.Spec PyProof.Rows L2 GxA TL
open GxR (TabB TabG Tabbed)
section
variable {P : Program} {w : World} {K : PySem.W.Frag} {mg : Str → Option Value} {base : Heap}
def spNamesMany (K : PySem.W.Frag) : Sp := fun vs H _ E => ∃ (D : Addr) (as : List Addr) (rs : List RuleD) (W : List Str), vs = [.ref D] ∧ H D = some (.lst (as.map V.ref)) ∧ RulesAt K H as rs ∧ (∀ r ∈ rs, RWf W r) ∧ rs.length ≤ 20 ∧ 4 < (namesR rs).length ∧ Tb K H ∧
  ∀ H', Fr K [] H H' → E (.ref (C_TooMany K)) none H'
theorem R_names_many (T : Txt w K mg base) : FnE P w K mg base 14 (a_check_names K) (spNamesMany K) := by
  refine mkE T.f_check_names sc_check_names bd_check_names ?_ ?_
  · rintro vs H Q E ⟨D, as, rs, W, rfl, _⟩; rfl
  rintro cdv A outer s H vs Q E hr ⟨D, as, rs, W, rfl, hD, hR, hW, hl, hmany, tb, k⟩
  obtain ⟨_, FA⟩ := T.f_word_names
  obtain ⟨tM, hM⟩ := T.i_MOST_NAMES
  refine ⟨_, pss_one (ps_if (pt_cmpR op_gt (pe_callB call_len_seq (by rfl) T.z_len PySem.boot_len (pa_cons (pe_cF (R_word_names T) (hr.mono (by decide)) (by rfl) T.g_word_names FA.kp (pa_cons (pv 0) pa_nil)) pa_nil)) (pe_glob (by rfl) hM (v := .int 4) ⟨_, rfl⟩) (nomark _))
    (pss_one (ps_raise rfl (takes_of rfl rfl rfl rfl) (pmk_own PySem.F.excBase_ValueError T.exc.x_TooMany T.g_TooMany T.exc.k_TooMany (raises_own T.exc.s_TooMany T.exc.y_TooMany) rfl))) pss_nil), ?_⟩
  refine ⟨_, rfl, D, as, rs, W, rfl, hD, hR, hW, hl, tb, fun H' p xs f hp hx => ?_⟩
  exact ⟨p, xs, rfl, .inl (SqL.of hp), _, _, rfl, rfl, _, rfl, iteD (by omega) (k _ f)⟩
def spReadMany (K : PySem.W.Frag) : Sp := fun vs H _ E => ∃ (x : Str) (rows : List Str) (os : List (Option RuleD)) (W : List Str), vs = [.str x] ∧ x.length + 2 ≤ sizeLine ∧ Txt.split x "\n" = rows ∧ Paired (RowOk W) rows os ∧ (∀ r ∈ rows, r.length ≤ 1000) ∧ rows.length ≤ 20 ∧ 4 < (namesR (os.filterMap id)).length ∧ Tb K H ∧
  ∀ H', Fr K [] H H' → E (.ref (C_TooMany K)) none H'
theorem R_read_many (T : Txt w K mg base) : FnE P w K mg base 48 (a_read K) (spReadMany K) := by
  refine mkE T.f_read sc_read bd_read ?_ ?_
  · rintro vs H Q E ⟨x, rows, os, W, rfl, _⟩; rfl
  rintro cdv A outer s H vs Q E hr ⟨x, rows, os, W, rfl, hx, hsp, hrow, hlen, hrl, hmany, tb, k⟩
  have nd := sc_read.nd
  obtain ⟨_, F1⟩ := T.f_words_of
  obtain ⟨_, F2⟩ := T.f_rule_of
  obtain ⟨_, F3⟩ := T.f_check_names
  refine ⟨_, pss_cons (ps_if (pt_not (pt_val (pe_callB call_isi (by rfl) T.z_isinstance (by decide +kernel) (pa_cons (pv 0) (pa_cons (pe_bltn (by rfl) T.z_str (by decide +kernel) (v := .ty "str") rfl) pa_nil))))) (pss_one ps_never) pss_nil)
    (pss_cons (ps_set (i := 1) nd rfl (.inl rfl) (pe_lst pa_nil))
    (pss_cons (ps_for (passes_of rfl) rfl (pi_enum (by rfl) T.z_enumerate (pa_cons (pe_split (pv 0) pe_str) pa_nil)) (pg_tup rfl (pgs_cons (pg_name (i := 2) nd rfl (.inl rfl)) (pgs_cons (pg_name (i := 3) nd rfl (.inl rfl)) pgs_nil)))
      (pss_cons (ps_set (i := 4) nd rfl (.inl rfl) (pe_cF (R_words_of T) (hr.mono (by decide)) (by rfl) T.g_words_of F1.kp (pa_cons (pv 3) pa_nil)))
      (pss_one (ps_if (PW.pt (pw_and (pt_truth (pv 4) (by intro _; rfl)) (pw_and1 (pt_not (pt_val (pe_m1 PySem.F.slot_str_startswith PySem.F.type_str_startswith mt_startswith (pv 3) pe_str))))))
        (pss_one (ps_expr (pe_bm PySem.F.plainAttrs_list PySem.F.slot_list_append PySem.F.type_list_append mt_append (pv 1) (pa_cons (pe_cF (R_rule_of T) (hr.mono (by decide)) (by rfl) T.g_rule_of F2.kp (pa_cons (pv 4) (pa_cons (pv 2) pa_nil))) pa_nil)))) pss_nil))))
    (pss_cons (ps_expr (pe_cX (R_names_many T) (hr.mono (by decide)) (passX (takes_of rfl rfl rfl rfl) fun _ _ _ _ h => h) (by rfl) T.g_check_names F3.kp (pa_cons (pv 1) pa_nil)))
    (pss_one ps_never)))), ?_⟩
  refine ⟨_, rfl, _, _, _, _, true, rfl, .ty _, .base (.str x), kit_ty (by decide +kernel), true, rfl, iteF ?_⟩
  refine ⟨by show 0 ≤ sizeLine; decide, fun D nD => ?_⟩
  have hD : H D = none := nD
  have f1 : Fr K [] H (L2.upd H D (.lst [])) := Fr.new tb hD
  refine ⟨_, rfl, ⟨_, rfl⟩, _, _, rfl, rfl, by decide, hx, fun S nS => ?_⟩
  rw [hsp]
  have DS : D ≠ S := ne_of_none upd_same nS
  have f2 := f1.trans (Fr.new (E := []) (o := .lst (rows.map V.str)) f1.2 nS)
  have hol := Paired.length hrow
  refine ⟨S, _, rfl, SqL.of upd_same, ?_⟩
  refine for_enum (xs := rows.map V.str) (fun i σ H' => (∃ y1 y2 y3, σ = [some (V.str x), some (.ref D), y1, y2, y3]) ∧ Fr K [] H H' ∧ H' S = some (.lst (rows.map V.str)) ∧ ∃ as : List Addr, H' D = some (.lst (as.map V.ref)) ∧ RulesN K H [D] H' as ((os.take i).filterMap id))
    ⟨⟨_, _, _, rfl⟩, f2, upd_same, [], by rw [upd_ne DS]; exact upd_same, rfl, fun i a r e => by simp at e⟩ (fun i σ H' _ ⟨_, _, h, _⟩ => SqL.of h) (fun i y Tp σ H' hy ⟨⟨y1, y2, y3, es⟩, f, hS, as, hDl, hR⟩ nT => ?_) (fun σ H' ⟨⟨y1, y2, y3, es⟩, f, hS, as, hDl, hR⟩ => ?_)
  · subst es
    obtain ⟨row, hrw, rfl⟩ := at_map hy
    obtain ⟨o, ho⟩ : ∃ o, os[i]? = some o := by
      have : i < os.length := by rw [← hol]; exact (List.getElem?_eq_some_iff.mp hrw).1
      exact ⟨_, List.getElem?_eq_getElem this⟩
    have ok := paired_at hrow hrw ho
    have hi : i < 20 := by have := (List.getElem?_eq_some_iff.mp hrw).1; omega
    have tk : (os.take (i + 1)).filterMap id = (os.take i).filterMap id ++ o.toList := by
      rw [List.take_add_one, ho, List.filterMap_append]
      cases o <;> rfl
    have g1 : Fr K [] H' (L2.upd H' Tp (.tup [.int (i : Nat), .str row])) := Fr.new f.2 nT
    refine ⟨Tp, _, rfl, .inl (.inl upd_same), rfl, _, _, rfl, _, _, rfl, rfl, ?_⟩
    refine ⟨_, rfl, row, rfl, hlen row (List.mem_of_getElem? hrw), g1.2, fun H2 wl g2 nwl hwl => ?_⟩
    have g := g1.trans g2
    have hD2 := g.at hDl
    have hS2 := g.at hS
    have aD : ∀ a, ∀ j, as[j]? = some a → a ≠ D := fun a j e => by
      obtain ⟨r, hr'⟩ : ∃ r, ((os.take i).filterMap id)[j]? = some r := by
        have : j < ((os.take i).filterMap id).length := by rw [← hR.1]; exact (List.getElem?_eq_some_iff.mp e).1
        exact ⟨_, List.getElem?_eq_getElem this⟩
      obtain ⟨_, _, _, _, _, e1, _⟩ := hR.2 j a r e hr'
      exact ne_of e1 hDl (by intro z; cases z)
    have hR2 : RulesN K H [D] H2 as ((os.take i).filterMap id) := ⟨hR.1, fun j a r e1 e2 => (hR.2 j a r e1 e2).step g (by simp) (by simp)⟩
    have keep : o.toList = [] → (∃ y1 y2 y3, ([some (V.str x), some (.ref D), some (.int (i : Nat)), some (.str row), some (.ref wl)] : L2.St) = [some (V.str x), some (.ref D), y1, y2, y3]) ∧ Fr K [] H H2 ∧ H2 S = some (.lst (rows.map V.str)) ∧ ∃ as : List Addr, H2 D = some (.lst (as.map V.ref)) ∧ RulesN K H [D] H2 as ((os.take (i + 1)).filterMap id) := fun e => by
      rw [tk, e, List.append_nil]
      exact ⟨⟨_, _, _, rfl⟩, f.trans g, hS2, as, hD2, hR2⟩
    refine ⟨_, rfl, !(wordsOf row).isEmpty, .inl ⟨_, SqL.of hwl, by cases wordsOf row <;> rfl⟩, ?_⟩
    cases o with
    | none =>
      rcases ok with ok | ok
      · exact iteNB (by rw [ok]; rfl) (iteF (keep rfl))
      · by_cases e : (wordsOf row).isEmpty = true
        · exact iteNB (by rw [e]; rfl) (iteF (keep rfl))
        · refine iteB (by simpa using e) ?_
          refine ⟨_, rfl, ⟨_, rfl⟩, _, _, rfl, rfl, true, ?_, iteF (keep rfl)⟩
          exact congrArg V.bl ok
    | some r =>
      obtain ⟨ok1, ok2, ok3⟩ := ok
      obtain ⟨c, ds⟩ := r
      obtain ⟨w1, w2, w3, w4, w5, w6, w7, w8⟩ := ok3
      cases ds with
      | nil => exact absurd rfl w5
      | cons d0 ds =>
      refine iteB (by rw [ok1]; rfl) ?_
      refine ⟨_, rfl, ⟨_, rfl⟩, _, _, rfl, rfl, false, congrArg V.bl ok2, iteT ?_⟩
      refine ⟨_, rfl, .inl ⟨rfl, _, SqL.of hD2⟩, _, rfl, _, rfl, wl, _, c, d0, ds, W, rfl, by rw [hwl, ok1], w8, g2.2, w1, w2, w6, by simp only [List.length_cons] at w7; omega, fun H3 a f3 r3 => ?_⟩
      have hD3 := f3.at hD2
      have hlt : (as.map V.ref).length < sizeLine := by
        rw [List.length_map, hR.1]
        have := List.length_filterMap_le id (os.take i)
        have h2 : (os.take i).length ≤ 20 := by rw [List.length_take]; omega
        exact Nat.lt_of_le_of_lt (by omega : _ ≤ 20) (by decide)
      have aD3 : a ≠ D := by
        obtain ⟨_, _, _, _, _, e1, _⟩ := r3
        exact ne_of e1 hD3 (by intro z; cases z)
      refine ⟨D, _, .ref a, rfl, rfl, hD3, hlt, ⟨_, _, _, rfl⟩, ((f.trans g).trans f3).upNew tb hD, by rw [upd_ne DS.symm]; exact f3.at hS2, as ++ [a], by rw [upd_same, List.map_append]; rfl, ?_⟩
      rw [tk]
      refine RulesN.snoc ⟨hR.1, fun j b q e1 e2 => ((hR2.2 j b q e1 e2).step f3 (by simp) (by simp)).upd (List.mem_singleton.mpr rfl) (aD b j e1)⟩ ?_
      exact (r3.back (E := [D]) (fun p z => (f.trans g).3 p z) (fun e m => .inr (by rw [List.mem_singleton.mp m, hD2]; intro z; cases z))).upd (List.mem_singleton.mpr rfl) aD3
  · subst es
    rw [List.length_map, hol, List.take_length] at hR
    have hA : RulesAt K H' as (os.filterMap id) := ⟨hR.1, fun i a r e1 e2 => (hR.2 i a r e1 e2).at⟩
    have hwf : ∀ r ∈ os.filterMap id, RWf W r := fun r m => by
      obtain ⟨o, ho, e⟩ := List.mem_filterMap.mp m
      have e : o = some r := e
      subst e
      obtain ⟨j, hj⟩ := List.mem_iff_getElem?.mp ho
      obtain ⟨row, hrw⟩ : ∃ row, rows[j]? = some row := by
        have : j < rows.length := by rw [hol]; exact (List.getElem?_eq_some_iff.mp hj).1
        exact ⟨_, List.getElem?_eq_getElem this⟩
      exact (paired_at hrow hrw hj).2.2
    have hl20 : (os.filterMap id).length ≤ 20 := by
      have := List.length_filterMap_le id os
      omega
    exact ⟨_, rfl, D, as, _, W, rfl, hDl, hA, hwf, hl20, hmany, f.2, fun H2 f2 => k H2 (f.trans f2)⟩
/-- a text of one row that is no rule -/
def badText : Str := "if any then"
def spReadBad (K : PySem.W.Frag) : Sp := fun vs H _ E => vs = [.str badText] ∧ Tb K H ∧ BadAt K E H 0 3
theorem R_read_bad (pk : BrX.POk P) (T : Txt w K mg base) : FnE P w K mg base 48 (a_read K) (spReadBad K) := by
  refine mkE T.f_read sc_read bd_read ?_ ?_
  · rintro vs H Q E ⟨rfl, _⟩; rfl
  rintro cdv A outer s H vs Q E hr ⟨rfl, tb, k⟩
  have nd := sc_read.nd
  obtain ⟨_, F1⟩ := T.f_words_of
  obtain ⟨_, F2⟩ := T.f_rule_of
  refine ⟨_, pss_cons (ps_if (pt_not (pt_val (pe_callB call_isi (by rfl) T.z_isinstance (by decide +kernel) (pa_cons (pv 0) (pa_cons (pe_bltn (by rfl) T.z_str (by decide +kernel) (v := .ty "str") rfl) pa_nil))))) (pss_one ps_never) pss_nil)
    (pss_cons (ps_set (i := 1) nd rfl (.inl rfl) (pe_lst pa_nil))
    (pss_cons (ps_for (passes_of rfl) rfl (pi_enum (by rfl) T.z_enumerate (pa_cons (pe_split (pv 0) pe_str) pa_nil)) (pg_tup rfl (pgs_cons (pg_name (i := 2) nd rfl (.inl rfl)) (pgs_cons (pg_name (i := 3) nd rfl (.inl rfl)) pgs_nil)))
      (pss_cons (ps_set (i := 4) nd rfl (.inl rfl) (pe_cF (R_words_of T) (hr.mono (by decide)) (by rfl) T.g_words_of F1.kp (pa_cons (pv 3) pa_nil)))
      (pss_one (ps_if (PW.pt (pw_and (pt_truth (pv 4) (by intro _; rfl)) (pw_and1 (pt_not (pt_val (pe_m1 PySem.F.slot_str_startswith PySem.F.type_str_startswith mt_startswith (pv 3) pe_str))))))
        (pss_one (ps_expr (pe_bm PySem.F.plainAttrs_list PySem.F.slot_list_append PySem.F.type_list_append mt_append (pv 1) (pa_cons (pe_cX (R_rule_of_bad pk T) (hr.mono (by decide)) (passX (takes_of rfl rfl rfl rfl) fun _ _ _ _ h => h) (by rfl) T.g_rule_of F2.kp (pa_cons (pv 4) (pa_cons (pv 2) pa_nil))) pa_nil)))) pss_nil))))
    (pss_cons ps_never
    (pss_one ps_never)))), ?_⟩
  refine ⟨_, rfl, _, _, _, _, true, rfl, .ty _, .base (.str badText), kit_ty (by decide +kernel), true, rfl, iteF ?_⟩
  refine ⟨by show 0 ≤ sizeLine; decide, fun D nD => ?_⟩
  have hD : H D = none := nD
  have f1 : Fr K [] H (L2.upd H D (.lst [])) := Fr.new tb hD
  refine ⟨_, rfl, ⟨_, rfl⟩, _, _, rfl, rfl, by decide, by decide +kernel, fun S nS => ?_⟩
  have esp : Txt.split badText "\n" = [badText] := by decide +kernel
  rw [esp]
  have DS : D ≠ S := ne_of_none upd_same nS
  have f2 := f1.trans (Fr.new (E := []) (o := .lst ([badText].map V.str)) f1.2 nS)
  refine ⟨S, _, rfl, SqL.of upd_same, ?_⟩
  refine for_enum (xs := [badText].map V.str) (fun i σ H' => i = 0 ∧ (∃ y1 y2 y3, σ = [some (V.str badText), some (.ref D), y1, y2, y3]) ∧ Fr K [] H H' ∧ H' S = some (.lst ([badText].map V.str)) ∧ H' D = some (.lst []))
    ⟨rfl, ⟨_, _, _, rfl⟩, f2, upd_same, by rw [upd_ne DS]; exact upd_same⟩ (fun i σ H' _ ⟨_, _, _, h, _⟩ => SqL.of h) (fun i y Tp σ H' hy ⟨ei, ⟨y1, y2, y3, es⟩, f, hS, hDl⟩ nT => ?_) (fun σ H' ⟨ei, _⟩ => by cases ei)
  subst es
  subst ei
  cases (Option.some.inj hy : V.str badText = y)
  have g1 : Fr K [] H' (L2.upd H' Tp (.tup [.int ((0 : Nat) : Int), .str badText])) := Fr.new f.2 nT
  refine ⟨Tp, _, rfl, .inl (.inl upd_same), rfl, _, _, rfl, _, _, rfl, rfl, ?_⟩
  refine ⟨_, rfl, badText, rfl, by decide +kernel, g1.2, fun H2 wl g2 nwl hwl => ?_⟩
  have ew : wordsOf badText = noDeed := by decide +kernel
  rw [ew] at hwl
  have hD2 := (g1.trans g2).at hDl
  refine ⟨_, rfl, true, .inl ⟨_, SqL.of hwl, rfl⟩, iteT ?_⟩
  refine ⟨_, rfl, ⟨_, rfl⟩, _, _, rfl, rfl, false, ?_, iteT ?_⟩
  · exact congrArg V.bl (by decide +kernel)
  exact ⟨_, rfl, .inl ⟨rfl, _, SqL.of hD2⟩, _, rfl, _, rfl, wl, 0, rfl, hwl, by decide, g2.2, k.of ((f.trans g1).trans g2)⟩
end
end So
end

section
set_option Elab.async false
set_option linter.all false
set_option maxRecDepth 100000
set_option maxHeartbeats 4000000
/-! what is no name, no letter -/
namespace So
open PySem PySem.Spec PyProof.Rows L2 GxA TL
open GxR (TabB TabG Tabbed)
section
variable {P : Program} {w : World} {K : PySem.W.Frag} {mg : Str → Option Value} {base : Heap}
theorem iteTN {c A B : Prop} [Decidable c] (hc : c) (h : B) : if (!decide c) = true then A else B := by
  rw [decide_eq_true hc]
  exact iteF h
/-- a text that is no name -/
def spNoName (K : PySem.W.Frag) : Sp := fun vs H Q _ => ∃ x : Str, vs = [.str x] ∧ ¬ Nm x ∧ x.length ≤ sizeLine ∧ Tb K H ∧ ∀ H', Fr K [] H H' → Q (.bl false) H'
theorem R_no_name (T : Txt w K mg base) : FnR P w K mg base CX0 6 (a_is_name K) (spNoName K) := by
  refine mkRC (p := ("is_name", none)) rfl T.f_is_name sc_is_name bd_is_name ?_ ?_
  · rintro vs H Q E ⟨x, rfl, _⟩; rfl
  rintro A outer s H vs Q E hr ⟨x, rfl, hn, hl, tb, k⟩
  obtain ⟨tS, hS⟩ := T.i_SIGNS
  obtain ⟨tL, hL⟩ := T.i_LONGEST_NAME
  have nd := sc_is_name.nd
  refine ⟨_, pss_cons (ps_if (PW.pt (pw_or (pt_not (pt_val (pe_callB call_isi (by rfl) T.z_isinstance (by decide +kernel) (pa_cons (pv 0) (pa_cons (pe_bltn (by rfl) T.z_str (by decide +kernel) (v := .ty "str") rfl) pa_nil)))))
      (pw_or1 (pt_not (pt_chain op_le op_le pe_int (pe_callB call_len_str (by rfl) T.z_len PySem.boot_len (pa_cons (pv 0) pa_nil)) (pe_glob (by rfl) hL (v := .int 10) ⟨_, rfl⟩))))))
      (pss_one (ps_ret pe_bl)) pss_nil)
    (pss_one (ps_ret (pe_allG (own := [("sign", 1)]) (g := gName 1) hr (by rfl) T.z_all T.t_is_name rfl nd (pi_str (pv 0)) (blkOk_by (own := [("sign", 1)]) (N := N_is_name) (sc := defScope s_is_name) (by decide +kernel)) (by decide +kernel) rfl rfl
      (fun _ _ _ _ _ _ => pg_name (i := 1) nd rfl (Or.inl rfl)) (fun _ _ _ _ _ _ => pe_cmpR op_in_sign (pv 1) (pe_glob (by rfl) hS (v := .str "abcdefghijklmnopqrstuvwxyz") ⟨_, rfl⟩) rfl)))), ?_⟩
  refine ⟨_, rfl, _, _, _, _, true, rfl, .ty _, .base (.str x), kit_ty (by decide +kernel), ?_⟩
  refine ⟨true, rfl, ?_⟩
  refine iteF ?_
  refine ⟨_, rfl, x, rfl, hl, ?_⟩
  refine ⟨_, _, rfl, rfl, _, rfl, ?_⟩
  by_cases h1 : 1 ≤ x.length
  · refine iteD (Int.ofNat_le.mpr h1) ?_
    refine ⟨_, _, rfl, rfl, _, rfl, ?_⟩
    by_cases h2 : x.length ≤ 10
    · rw [decide_eq_true (show ((x.length : Int) ≤ 10) by omega)]
      refine iteF ?_
      refine ⟨_, rfl, x, rfl, tb _ mtN, fun H2 t2 => ?_⟩
      refine g_str (fun i H => Fr K [] H2 H ∧ ∀ j c, j < i → x.cps[j]? = some c → c ∈ ("abcdefghijklmnopqrstuvwxyz" : Str).cps.toList) ⟨Fr.refl (Fr.tab (E := []) tb t2 mtN).2, fun _ _ h => absurd h (Nat.not_lt_zero _)⟩ (fun i a H ha ⟨f, hp⟩ => ?_) (fun H ⟨f, hp⟩ => ?_)
      · refine ⟨rfl, _, rfl, _, _, rfl, rfl, _, rfl, ?_⟩
        by_cases hm : a ∈ ("abcdefghijklmnopqrstuvwxyz" : Str).cps.toList
        · rw [decide_eq_true hm]
          refine iteT ⟨f, fun j c hj hc => ?_⟩
          rcases Nat.lt_or_ge j i with q | q
          · exact hp j c q hc
          · have : j = i := by omega
            subst this
            rw [ha] at hc
            rw [← Option.some.inj hc]; exact hm
        · rw [decide_eq_false hm]
          exact iteF (k H ((Fr.tab tb t2 mtN).trans f))
      · refine absurd ⟨h1, h2, fun c hc => ?_⟩ hn
        obtain ⟨j, hj⟩ := Array.mem_iff_getElem?.mp (Array.mem_toList_iff.mp hc)
        exact hp j c (by
          have := (Array.getElem?_eq_some_iff.mp hj).1
          exact this) hj
    · rw [decide_eq_false (show ¬ ((x.length : Int) ≤ 10) by omega)]
      exact iteT (k H (Fr.refl tb))
  · exact iteN (fun z => h1 (by omega)) ⟨false, rfl, iteT (k H (Fr.refl tb))⟩
/-- whether a text is a name -/
def nmB (x : Str) : Bool := decide (1 ≤ x.length) && (decide (x.length ≤ 10) && x.cps.toList.all fun c => decide (c ∈ ("abcdefghijklmnopqrstuvwxyz" : Str).cps.toList))
theorem nmB_iff {x : Str} : nmB x = true ↔ Nm x := by
  unfold nmB Nm
  simp only [Bool.and_eq_true, decide_eq_true_eq, List.all_eq_true]
theorem nmB_t {x : Str} (h : Nm x) : nmB x = true := nmB_iff.mpr h
theorem nmB_f {x : Str} (h : ¬ Nm x) : nmB x = false := by
  cases e : nmB x with
  | false => rfl
  | true => exact absurd (nmB_iff.mp e) h
def spNameB (K : PySem.W.Frag) : Sp := fun vs H Q _ => ∃ x : Str, vs = [.str x] ∧ x.length ≤ sizeLine ∧ Tb K H ∧ ∀ H', Fr K [] H H' → Q (.bl (nmB x)) H'
theorem R_nameB (T : Txt w K mg base) : FnR P w K mg base CX0 6 (a_is_name K) (spNameB K) := by
  intro A outer s H us vs Q E hr e0 r ⟨x, e, hl, tb, k⟩
  by_cases h : Nm x
  · exact R_is_name T A outer s H us vs Q E hr e0 r ⟨x, e, h, tb, fun H' f => by have := k H' f; rw [nmB_t h] at this; exact this⟩
  · exact R_no_name T A outer s H us vs Q E hr e0 r ⟨x, e, h, hl, tb, fun H' f => by have := k H' f; rw [nmB_f h] at this; exact this⟩
/-- a letter whose words are texts, all names or not -/
def spLetterB (K : PySem.W.Frag) : Sp := fun vs H Q _ => ∃ (a l : Addr) (L : Ltr), vs = [.ref a] ∧ H a = some (.tup [.str L.snd, .ref l, .int L.sz]) ∧ H l = some (.lst (L.ws.map V.str)) ∧ Nm L.snd ∧ (∀ x ∈ L.ws, x.length ≤ sizeLine) ∧ L.sz ≤ 99999 ∧ Tb K H ∧ ∀ H', Fr K [] H H' → Q (.bl (L.ws.all nmB)) H'
theorem R_letterB (T : Txt w K mg base) : FnR P w K mg base CX0 12 (a_is_letter K) (spLetterB K) := by
  refine mkRC (p := ("is_letter", none)) rfl T.f_is_letter sc_is_letter bd_is_letter ?_ ?_
  · rintro vs H Q E ⟨a, l, L, rfl, _⟩; rfl
  rintro A outer s H vs Q E hr ⟨a, l, L, rfl, ha, hl, n1, n2, n3, tb, k⟩
  obtain ⟨_, F1⟩ := T.f_is_name
  obtain ⟨_, F2⟩ := T.f_is_size
  have nd := sc_is_letter.nd
  refine ⟨_, pss_cons (ps_if (PW.pt (pw_or (pt_not (pt_val (pe_callB call_isi (by rfl) T.z_isinstance (by decide +kernel) (pa_cons (pv 0) (pa_cons (pe_bltn (by rfl) T.z_tuple (by decide +kernel) (v := .ty "tuple") rfl) pa_nil)))))
      (pw_or1 (pt_cmpR op_ne (pe_callB call_len_seq (by rfl) T.z_len PySem.boot_len (pa_cons (pv 0) pa_nil)) pe_int (nomark _)))))
      (pss_one (ps_ret pe_bl)) pss_nil)
    (pss_cons (ps_asg (pv 0) (pg_tup (by rfl) (pgs_cons (pg_name (i := 1) nd rfl (.inl rfl)) (pgs_cons (pg_name (i := 2) nd rfl (.inl rfl)) (pgs_cons (pg_name (i := 3) nd rfl (.inl rfl)) pgs_nil)))))
    (pss_cons (ps_if (PW.pt (pw_or (pt_not (pt_val (pe_cF (R_is_name T) (hr.mono (by decide)) (by rfl) T.g_is_name F1.kp (pa_cons (pv 1) pa_nil))))
      (pw_or (pt_not (pt_val (pe_callB call_isi (by rfl) T.z_isinstance (by decide +kernel) (pa_cons (pv 2) (pa_cons (pe_bltn (by rfl) T.z_list (by decide +kernel) (v := .ty "list") rfl) pa_nil)))))
      (pw_or1 (pt_not (pt_val (pe_cF (R_is_size T) (hr.mono (by decide)) (by rfl) T.g_is_size F2.kp (pa_cons (pv 3) pa_nil))))))))
      (pss_one (ps_ret pe_bl)) pss_nil)
    (pss_one (ps_ret (pe_allG (own := [("word", 4)]) (g := gName 4) (hr.mono (by decide) : Room (10 + 1) _) (by rfl) T.z_all T.t_is_letter rfl nd (pi_list (pv 2)) (blkOk_by (own := [("word", 4)]) (N := N_is_letter) (sc := defScope s_is_letter) (by decide +kernel)) (by decide +kernel) rfl rfl
      (fun _ _ _ _ _ _ => pg_name (i := 4) nd rfl (Or.inl rfl)) (fun _ _ _ _ _ _ => pe_cF (R_nameB T) ((hr.in1.in1.deeper _).mono (by decide)) (by rfl) T.g_is_name F1.kp (pa_cons (pv 4) pa_nil))))))), ?_⟩
  refine ⟨_, rfl, _, _, _, _, true, rfl, .ty _, .base (.tup ha), kit_ty (by decide +kernel), ?_⟩
  refine ⟨true, rfl, ?_⟩
  refine iteF ?_
  refine ⟨_, rfl, a, _, rfl, .inr (.inl (.inl ha)), ?_⟩
  refine ⟨rfl, _, rfl, ?_⟩
  refine iteF ?_
  refine ⟨_, rfl, a, _, rfl, .inl (.inl ha), rfl, _, _, rfl, _, _, rfl, _, _, rfl, rfl, ?_⟩
  refine ⟨_, rfl, L.snd, rfl, n1, tb, fun H1 f1 => ?_⟩
  refine ⟨true, rfl, iteF ?_⟩
  have hl1 : H1 l = some (.lst (L.ws.map V.str)) := f1.at hl
  refine ⟨_, rfl, _, _, _, _, true, rfl, .ty _, .base (.lst hl1), kit_ty (by decide +kernel), ?_⟩
  refine ⟨true, rfl, iteF ?_⟩
  refine ⟨_, rfl, L.sz, rfl, n3, true, rfl, iteF ?_⟩
  refine ⟨_, rfl, l, rfl, ⟨_, SqL.of hl1⟩, f1.2 _ mtL, fun H2 t2 => ?_⟩
  have f2 : Fr K [] H1 H2 := Fr.tab f1.2 t2 mtL
  have hl2 : H2 l = some (.lst (L.ws.map V.str)) := f2.at hl1
  refine g_list (xs := L.ws.map V.str) (fun i H => Fr K [] H2 H ∧ ∀ x ∈ L.ws.take i, nmB x = true) ⟨Fr.refl f2.2, fun _ m => by simp at m⟩ (fun i H _ ⟨f, _⟩ => SqL.of (f.at hl2)) (fun i a H ha ⟨f, hp⟩ => ?_) (fun H ⟨f, hp⟩ => ?_)
  · obtain ⟨x, hx, rfl⟩ := at_map ha
    refine ⟨rfl, _, rfl, x, rfl, n2 x (List.mem_of_getElem? hx), f.2, fun H3 f3 => ⟨nmB x, rfl, ?_⟩⟩
    cases e : nmB x with
    | true =>
      refine iteT ⟨f.trans f3, fun y m => ?_⟩
      rw [List.take_add_one, hx] at m
      rcases List.mem_append.mp m with m | m
      · exact hp y m
      · rw [List.mem_singleton.mp m]; exact e
    | false =>
      refine iteF ?_
      have := k H3 (f1.trans (f2.trans (f.trans f3)))
      rw [show L.ws.all nmB = false from by
        rw [Bool.eq_false_iff]
        intro z
        have := List.all_eq_true.mp z x (List.mem_of_getElem? hx)
        rw [e] at this
        cases this] at this
      exact this
  · rw [List.length_map, List.take_length] at hp
    have := k H (f1.trans (f2.trans f))
    rw [show L.ws.all nmB = true from List.all_eq_true.mpr hp] at this
    exact this
/-- check_letter, of a letter with words that are no names -/
def spNoLetter (K : PySem.W.Frag) : Sp := fun vs H _ E => ∃ (a l : Addr) (L : Ltr), vs = [.ref a] ∧ H a = some (.tup [.str L.snd, .ref l, .int L.sz]) ∧ H l = some (.lst (L.ws.map V.str)) ∧ Nm L.snd ∧ (∀ x ∈ L.ws, x.length ≤ sizeLine) ∧ L.sz ≤ 99999 ∧ L.ws.all nmB = false ∧ Tb K H ∧ ∀ H', Fr K [] H H' → E (.ref (C_BadLetter K)) none H'
theorem R_no_letter (T : Txt w K mg base) : FnE P w K mg base 14 (a_check_letter K) (spNoLetter K) := by
  refine mkE T.f_check_letter sc_check_letter bd_check_letter ?_ ?_
  · rintro vs H Q E ⟨a, l, L, rfl, _⟩; rfl
  rintro cdv A outer s H vs Q E hr ⟨a, l, L, rfl, ha, hl, n1, n2, n3, n4, tb, k⟩
  obtain ⟨_, F1⟩ := T.f_is_letter
  refine ⟨_, pss_one (ps_if (pt_not (pt_val (pe_cF (R_letterB T) (hr.mono (by decide)) (by rfl) T.g_is_letter F1.kp (pa_cons (pv 0) pa_nil))))
    (pss_one (ps_raise rfl (takes_of rfl rfl rfl rfl) (pmk_own PySem.F.excBase_ValueError T.exc.x_BadLetter T.g_BadLetter T.exc.k_BadLetter (raises_own T.exc.s_BadLetter T.exc.y_BadLetter) rfl))) pss_nil), ?_⟩
  refine ⟨_, rfl, a, l, L, rfl, ha, hl, n1, n2, n3, tb, fun H' f => ⟨_, rfl, ?_⟩⟩
  rw [n4]
  exact iteT (k H' f)
end
end So
end

section
set_option Elab.async false
set_option linter.all false
set_option maxRecDepth 100000
set_option maxHeartbeats 4000000
/-! walks of dicts; houses as they are handed in -/
namespace So
open PySem PySem.Spec PyProof.Rows L2 GxA TL
open GxR (TabB TabG Tabbed)
section
variable {K : PySem.W.Frag} {E : List Addr} {H H' : Hp} {d : Addr} {u : HO} {od : Obj}
theorem Tb.lock (t : Tb K H) (h : H d = some u) (n : NT u) : Tb K (L2.upd H d (.frz od u)) := t.upd (t.ne h n)
/-- what is locked meanwhile stands behind -/
theorem Fr.unlock (t : Tb K H) (h : H d = some u) (n : NT u) (f : Fr K E (L2.upd H d (.frz od u)) H') (e : H' d = some (.frz od u)) : Fr K E H (L2.upd H' d u) := by
  refine ⟨fun p o m q z => ?_, f.2.upd (f.2.ne e (by intro _ z; cases z)), fun p q => ?_, fun p φ q => ?_⟩
  · by_cases x : p = d
    · subst x
      rw [h] at q
      rw [upd_same]; exact q
    · rw [upd_ne x]
      exact f.1 p o m (by rw [upd_ne x]; exact q) z
  · by_cases x : p = d
    · subst x
      rw [upd_same] at q; cases q
    · rw [upd_ne x] at q
      have := f.3 p q
      rw [upd_ne x] at this
      exact this
  · have x : p ≠ d := fun z => n () (by subst z; rw [h] at q; cases q; exact .ext φ)
    rw [upd_ne x]
    exact f.4 p φ (by rw [upd_ne x]; exact q)
theorem Fr.lockd (t : Tb K H) (h : H d = some u) (n : NT u) : Fr K [d] H (L2.upd H d (.frz od u)) := Fr.put t h n (List.mem_singleton.mpr rfl)
end
/-- a generator's turns over any walk -/
theorem g_it {J : It} {n : Nat} {G : Hp → Prop} {Y : Nat → Hp → V → Hp → Prop} (w : Walk J n G Y) {g : TG} {te : TE} {vs : List Nat} {σw : L2.St} {c : Bool} {H1 : Hp} {Qe Qf : Hp → Prop} (Pv : Nat → Hp → Prop) (h0 : Pv 0 H1) (hG : ∀ i H, i ≤ n → Pv i H → G H)
    (hs : ∀ i x H H', i < n → Pv i H → Y i H x H' → g x σw H' fun σ2 H2 => wipe σ2 vs = σw ∧ te σ2 H2 fun y H3 => ∃ b : Bool, y = .bl b ∧ if b = c then Pv (i + 1) H3 else Qf H3) (hd : ∀ H, Pv n H → Qe H) :
    ∃ W : Nat → Nat → Hp → Prop, (∃ m, W 0 m H1) ∧ GTurn J g te vs σw c Qe Qf W := by
  refine ⟨fun i m H => m = n - i ∧ i ≤ n ∧ Pv i H, ⟨n, by simp, Nat.zero_le _, h0⟩, ?_⟩
  rintro i m H ⟨rfl, hi, p⟩
  have q := hG i H hi p
  by_cases e : i = n
  · subst e
    exact .inl ⟨w.stops H q, hd H p⟩
  · have lt : i < n := by omega
    refine .inr ⟨w.goes i H lt q, Pv (i + 1), fun H' q => ⟨_, ?_, rfl, lt, q⟩, fun v H' y => hs i v H H' lt p (w.yields i H v H' lt q y)⟩
    omega
/-- a dict comprehension's turns over any walk -/
theorem dc_it {J : It} {n : Nat} {G : Hp → Prop} {Y : Nat → Hp → V → Hp → Prop} (w : Walk J n G Y) {g : TG} {tt : TT} {tk tv : TE} {vs : List Nat} {σ : L2.St} {H1 : Hp} {D : Addr} {Qd : Hp → Prop} (Pv : Nat → Hp → Prop) (h0 : Pv 0 (L2.upd H1 D (.dK []))) (hG : ∀ i H, i ≤ n → Pv i H → G H)
    (hs : ∀ i x H H', i < n → Pv i H → Y i H x H' → g x (wipe σ vs) H' fun σ2 H2 => wipe σ2 vs = wipe σ vs ∧ tt σ2 H2 fun b H3 =>
      if b = true then tk σ2 H3 fun y H4 => tv σ2 H4 fun z H5 => ∃ kvs k, y = kV k ∧ H5 D = some (.dK kvs) ∧ kvs.length < sizeLine ∧ Pv (i + 1) (L2.upd H5 D (.dK (putK kvs k z))) else Pv (i + 1) H3) (hd : ∀ H, Pv n H → Qd H) :
    ∃ W : Nat → Nat → Hp → Prop, (∃ m, W 0 m (L2.upd H1 D (.dK []))) ∧ ∀ i m H, W i m H →
      (J.stop i H ∧ Qd H) ∨ (J.go i H ∧ ∃ Nx : Hp → Prop, (∀ H', Nx H' → ∃ m', m' < m ∧ W (i + 1) m' H') ∧ ∀ x H', J.yld i H x H' → g x (wipe σ vs) H' fun σ2 H2 => wipe σ2 vs = wipe σ vs ∧ tt σ2 H2 fun b H3 =>
        if b = true then tk σ2 H3 fun y H4 => tv σ2 H4 fun z H5 => ∃ kvs k, y = kV k ∧ H5 D = some (.dK kvs) ∧ kvs.length < sizeLine ∧ Nx (L2.upd H5 D (.dK (putK kvs k z))) else Nx H3) := by
  refine ⟨fun i m H => m = n - i ∧ i ≤ n ∧ Pv i H, ⟨n, by simp, Nat.zero_le _, h0⟩, ?_⟩
  rintro i m H ⟨rfl, hi, p⟩
  have q := hG i H hi p
  by_cases e : i = n
  · subst e
    exact .inl ⟨w.stops H q, hd H p⟩
  · have lt : i < n := by omega
    refine .inr ⟨w.goes i H lt q, Pv (i + 1), fun H' q => ⟨_, ?_, rfl, lt, q⟩, fun v H' y => hs i v H H' lt p (w.yields i H v H' lt q y)⟩
    omega
/-- texts by names -/
abbrev txK (ts : List (Str × Str)) : List (Key × V) := ts.map fun q => (Sum.inr q.1, V.str q.2)
section
variable {P : Program} {w : World} {K : PySem.W.Frag} {mg : Str → Option Value} {base : Heap}
theorem mtH {K : PySem.W.Frag} : tb_is_house K ∈ tabs K := by simp
def spIsHouse (K : PySem.W.Frag) : Sp := fun vs H Q _ => ∃ (d : Addr) (ts : List (Str × Str)), vs = [.ref d] ∧ H d = some (.dK (txK ts)) ∧ 1 ≤ ts.length ∧ ts.length ≤ 5 ∧ (∀ q ∈ ts, Nm q.1) ∧ Tb K H ∧ ∀ H', Fr K [] H H' → Q (.bl true) H'
theorem R_is_house (T : Txt w K mg base) : FnR P w K mg base CX0 12 (a_is_house K) (spIsHouse K) := by
  refine mkRC (p := ("is_house", none)) rfl T.f_is_house sc_is_house bd_is_house ?_ ?_
  · rintro vs H Q E ⟨d, ts, rfl, _⟩; rfl
  rintro A outer s H vs Q E hr ⟨d, ts, rfl, hd, h1, h5, hn, tb, k⟩
  obtain ⟨_, F1⟩ := T.f_is_name
  obtain ⟨tM, hM⟩ := T.i_MOST_PEOPLE
  have nd := sc_is_house.nd
  refine ⟨_, pss_cons (ps_if (PW.pt (pw_or (pt_not (pt_val (pe_callB call_isi (by rfl) T.z_isinstance (by decide +kernel) (pa_cons (pv 0) (pa_cons (pe_bltn (by rfl) T.z_dict (by decide +kernel) (v := .ty "dict") rfl) pa_nil)))))
      (pw_or1 (pt_not (pt_chain op_le op_le pe_int (pe_callB call_lenD (by rfl) T.z_len PySem.boot_len (pa_cons (pv 0) pa_nil)) (pe_glob (by rfl) hM (v := .int 5) ⟨_, rfl⟩))))))
      (pss_one (ps_ret pe_bl)) pss_nil)
    (pss_one (ps_ret (pe_lock (pe_allG (te := tAndV (tCF (spIsName K) (tCons (tVar 1) tNil)) (tCB (rIsi K) (tCons (tVar 2) (tCons (tC (.ty "str")) tNil)))) (own := [("name", 1), ("text", 2)]) (g := gTup K 2 (gCons (gName 1) (gCons (gName 2) gNil))) (hr.mono (by decide) : Room (10 + 1) _) (by rfl) T.z_all T.t_is_house rfl nd (pi_items (pv 0)) (blkOk_by (own := [("name", 1), ("text", 2)]) (N := N_is_house) (sc := defScope s_is_house) (by decide +kernel)) (by decide +kernel) rfl rfl
      (fun _ _ _ _ _ _ => pg_tup rfl (pgs_cons (pg_name (i := 1) nd rfl (Or.inl rfl)) (pgs_cons (pg_name (i := 2) nd rfl (Or.inl rfl)) pgs_nil)))
      (fun _ _ _ _ _ _ => pe_and (pe_cF (R_is_name T) ((hr.in1.in1.deeper _).mono (by decide)) (by rfl) T.g_is_name F1.kp (pa_cons (pv 1) pa_nil)) (pe_one (pe_callB (id := "isinstance") call_isi (by rfl) T.z_isinstance (by decide +kernel) (pa_cons (pv 2) (pa_cons (pe_bltn (by rfl) T.z_str (by decide +kernel) (v := .ty "str") rfl) pa_nil))))))))), ?_⟩
  refine ⟨_, rfl, _, _, _, _, true, rfl, .ty _, .base (.dK hd), kit_ty (by decide +kernel), true, rfl, iteF ?_⟩
  refine ⟨_, rfl, d, _, rfl, hd, ?_⟩
  rw [List.length_map]
  refine ⟨_, _, rfl, rfl, _, rfl, iteD (by omega) ?_⟩
  refine ⟨_, _, rfl, rfl, _, rfl, ?_⟩
  rw [decide_eq_true (show ((ts.length : Int) ≤ 5) by omega)]
  refine iteF ?_
  refine ⟨d, _, hd, trivial, fun od => ?_⟩
  have ntD : NT (.dK (txK ts)) := by intro _ z; cases z
  have t0 := tb.lock (od := od) hd ntD
  refine ⟨_, rfl, d, od, txK ts, rfl, upd_same, t0 _ mtH, fun H2 t2 => ?_⟩
  have f2 : Fr K [] (L2.upd H d (.frz od (.dK (txK ts)))) H2 := Fr.tab t0 t2 mtH
  have hd2 := f2.at upd_same
  refine g_it (walk_items (d := d) (o := od) (kvs := txK ts)) (fun i H => Fr K [] H2 H) (Fr.refl f2.2) (fun i H _ f => f.at hd2) (fun i x H3 H4 hi f hy => ?_) (fun H3 f => ?_)
  · obtain ⟨Tp, x, y, rfl, nT, rfl, ex, ey⟩ := hy
    have hi' : i < ts.length := by simpa using hi
    have e1 : (txK ts)[i]? = some (Sum.inr ts[i].1, V.str ts[i].2) := by rw [List.getElem?_map, List.getElem?_eq_getElem hi']; rfl
    dsimp only at ex ey
    rw [e1] at ex ey
    cases ex
    cases ey
    have f3 := Fr.new (E := []) (o := .tup [kV (Sum.inr ts[i].1), V.str ts[i].2]) f.2 nT
    refine ⟨Tp, _, rfl, .inl (.inl upd_same), rfl, _, _, rfl, _, _, rfl, rfl, rfl, ?_⟩
    refine ⟨_, rfl, _, rfl, hn _ (List.getElem_mem hi'), f3.2, fun H5 f5 => ⟨true, rfl, iteT ?_⟩⟩
    refine ⟨_, rfl, _, _, _, _, true, rfl, .ty _, .base (.str _), kit_ty (by decide +kernel), true, rfl, iteT ?_⟩
    exact (f.trans f3).trans f5
  · exact ⟨f.at hd2, k _ (Fr.unlock tb hd ntD (f2.trans f) (f.at hd2))⟩
end
end So
end

section
set_option Elab.async false
set_option linter.all false
set_option maxRecDepth 100000
set_option maxHeartbeats 4000000
/-! people: their rules, read -/
namespace So
open PySem PySem.Spec PyProof.Rows L2 GxA TL
open GxR (TabB TabG Tabbed)
section
variable {X : Cx}
/-- y = {k: v for ..}, y a local -/
theorem ps_setDc {i : Nat} {y : Str} {py : Pos} {kx vx tg iter : Expr} {ifs : List Expr} {sc : Scope} {own : List (Str × Nat)} {pos spos : Pos} {wi : TI} {g : TG} {tt : TT} {tk tv : TE} (hc : X.calm = true) (hN : X.N.Nodup) (hy : X.N[i]? = some y) (hyl : X.env.scope.names.lookup y = some .local)
    (hsw : swapsWith (.DictComp kx vx [⟨tg, iter, ifs, 0⟩] sc pos) (some (.Name y py)) spos.line X.env = pure true) (hi : PI X tg iter wi) (ok : BlkOk X.N X.env.scope sc own)
    (hg : ∀ (s : Shared) (H : Hp) (C : Addr) (cl : List (Str × Addr)) (fp : List Addr), PG (X.blk s H sc (compEnvC sc cl C X.env) fp) tg g) (ht : ∀ (s : Shared) (H : Hp) (C : Addr) (cl : List (Str × Addr)) (fp : List Addr), PTs (X.blk s H sc (compEnvC sc cl C X.env) fp) ifs tt)
    (hk : ∀ (s : Shared) (H : Hp) (C : Addr) (cl : List (Str × Addr)) (fp : List Addr), PE (X.blk s H sc (compEnvC sc cl C X.env) fp) kx tk)
    (he : ∀ (s : Shared) (H : Hp) (C : Addr) (cl : List (Str × Addr)) (fp : List Addr), PE (X.blk s H sc (compEnvC sc cl C X.env) fp) vx tv) (hs : ∀ x, foldedSetIterable iter X.env x = pure x := by intro _; rfl) :
    PS X (.Assign [.Name y py] (.DictComp kx vx [⟨tg, iter, ifs, 0⟩] sc pos) spos) (tAsg (tDc wi g tt tk tv (own.map (·.2))) (gName i)) := by
  refine ⟨fun pins s σ H D I h => ?_⟩
  rw [exec_Assign_Name_used _ _ _ _ hsw]
  refine wpAny_bind (wpAny_standAt (wpAny_bind ?_))
  show wpAny _ X.A (do let _ ← comprehension (.DictComp kx vx [⟨tg, iter, ifs, 0⟩] sc pos) sc X.env (firstIterPos [⟨tg, iter, ifs, 0⟩] pos) newDict false (eval iter X.env) (some (assign (.Name y py) X.env))) _ _ s
  have h2 : tDc wi g tt tk tv (own.map (·.2)) σ H (fun x H1 => gName i x σ H1 D.nx) := h
  refine wpAny_bind (thn (dc_core (Qf := fun _ s' => SP X pins D .next s') hc hN I hi ok hg ht hk he hs h2 fun L C s' m H' I' q hn fp => ?_) fun _ s' hq => wpAny_pure (wpAny_pure hq))
  show wpAny _ _ (assign (.Name y py) X.env (.ref L)) _ _ _
  refine wpAny_assign_Name (store_ok2 (v := V.ref L) I' hN hy (.inl hyl) rfl (fun s2 I2 ⟨a, sb, ha⟩ => ?_) (.inr hyl))
  obtain ⟨p0, p1, p2, p3, p4, p5⟩ := fp
  have ne : C ≠ a := ha.elim (fun z => by rw [z]; exact p1) fun z e => p4 y a z e.symm
  exact ⟨m, hn.sameBut sb ne, fun h3 sb3 => ⟨_, H', I2.turned (t' := s2.toks) (fun b o hb e => (sb3.2 b hb).trans e) p0 p1 p3 p4 p5, q⟩⟩
theorem sw_trueD {kx vx : Expr} {gs : List Comprehension} {sc : Scope} {pos py : Pos} {y : Str} {l : Nat} {env : Env} (hk : env.scope.kind = .function) (hy : env.scope.names.lookup y = some .local) (hl : (py.line == pos.line) = true)
    (ha : (sc.names.any fun (n, k) => n == y && (k == .local || k == .cell)) = false) : swapsWith (.DictComp kx vx gs sc pos) (some (.Name y py)) l env = pure true := by
  have k1 : env.kindOf y = some .local := hy
  have k2 : env.blockKind = .function := by unfold Env.blockKind; rw [hk]; rfl
  unfold swapsWith
  simp only [k2, k1, ha, Expr.pos, hl]
  rfl
end
def E0h : Hp := fun _ => none
/-- somebody's rules, a list of them, none of it among O -/
def PerAt (K : PySem.W.Frag) (O : List Addr) (H : Hp) (v : V) (rs : List RuleD) : Prop := ∃ (D : Addr) (as : List Addr), v = .ref D ∧ D ∉ O ∧ H D = some (.lst (as.map V.ref)) ∧ RulesN K E0h O H as rs
/-- people by names -/
def PplAt (K : PySem.W.Frag) (O : List Addr) (H : Hp) (p : Addr) (ps : List (Str × List RuleD)) : Prop := p ∉ O ∧ ∃ kvs : List (Key × V), H p = some (.dK kvs) ∧ kvs.map (·.1) = ps.map (fun q => Sum.inr q.1) ∧ ∀ (i : Nat) (kv : Key × V) (q : Str × List RuleD), kvs[i]? = some kv → ps[i]? = some q → PerAt K O H kv.2 q.2
section
variable {K : PySem.W.Frag} {O F N : List Addr} {H H' : Hp} {v : V} {rs : List RuleD} {p : Addr} {ps : List (Str × List RuleD)}
theorem RuleN.go {a : Addr} {c : Cnd} {ds : List Deed} (h : RuleN K E0h O H a c ds) (hN : ∀ x ∈ N, H x = none) (f : Fr K F H H') (i : ∀ e ∈ F, e ∈ O) : RuleN K E0h (N ++ O) H' a c ds := by
  obtain ⟨n, dx, wl, v, dl, e, a1, a2⟩ := h
  have n2 : a ∉ N ++ O := fun m => (List.mem_append.mp m).elim (fun z => by rw [hN a z] at e; cases e) n.2
  have s : Same (Nu E0h O H) (Nu E0h (N ++ O) H') := Nu.le fun p o _ b c z => ⟨rfl, fun m => (List.mem_append.mp m).elim (fun z => by rw [hN p z] at c; cases c) b, f.1 p o (fun m => b (i p m)) c (seq_nt z)⟩
  exact ⟨⟨rfl, n2⟩, dx, wl, v, dl, f.at e (by intro _ z; cases z) (fun m => n.2 (i a m)), Tr.same s a1, Tr.same s a2⟩
theorem RulesN.go {as : List Addr} (h : RulesN K E0h O H as rs) (hN : ∀ x ∈ N, H x = none) (f : Fr K F H H') (i : ∀ e ∈ F, e ∈ O) : RulesN K E0h (N ++ O) H' as rs := ⟨h.1, fun j a r e1 e2 => (h.2 j a r e1 e2).go hN f i⟩
theorem PerAt.go (h : PerAt K O H v rs) (hN : ∀ x ∈ N, H x = none) (f : Fr K F H H') (i : ∀ e ∈ F, e ∈ O) : PerAt K (N ++ O) H' v rs := by
  obtain ⟨D, as, e1, e2, e3, e4⟩ := h
  exact ⟨D, as, e1, fun m => (List.mem_append.mp m).elim (fun z => by rw [hN D z] at e3; cases e3) e2, f.at e3 (by intro _ z; cases z) (fun m => e2 (i D m)), e4.go hN f i⟩
theorem PplAt.go (h : PplAt K O H p ps) (hN : ∀ x ∈ N, H x = none) (f : Fr K F H H') (i : ∀ e ∈ F, e ∈ O) : PplAt K (N ++ O) H' p ps := by
  obtain ⟨n, kvs, e1, e2, e3⟩ := h
  exact ⟨fun m => (List.mem_append.mp m).elim (fun z => by rw [hN p z] at e1; cases e1) n, kvs, f.at e1 (by intro _ z; cases z) (fun m => n (i p m)), e2, fun j kv q a b => (e3 j kv q a b).go hN f i⟩
theorem PplAt.fr (h : PplAt K O H p ps) (f : Fr K F H H') (i : ∀ e ∈ F, e ∈ O) : PplAt K O H' p ps := by simpa using h.go (N := []) (fun _ m => nomatch m) f i
theorem PerAt.fr (h : PerAt K O H v rs) (f : Fr K F H H') (i : ∀ e ∈ F, e ∈ O) : PerAt K O H' v rs := by simpa using h.go (N := []) (fun _ m => nomatch m) f i
theorem PerAt.sub {O' : List Addr} (h : PerAt K O H v rs) (s : ∀ x ∈ O', x ∈ O) : PerAt K O' H v rs := by
  obtain ⟨D, as, e1, e2, e3, e4⟩ := h
  refine ⟨D, as, e1, fun m => e2 (s D m), e3, e4.1, fun j a r q1 q2 => ?_⟩
  obtain ⟨n, dx, wl, v, dl, e, a1, a2⟩ := e4.2 j a r q1 q2
  have ss : Same (Nu E0h O H) (Nu E0h O' H) := Nu.le fun p o _ b c _ => ⟨rfl, fun m => b (s p m), c⟩
  exact ⟨⟨rfl, fun m => n.2 (s a m)⟩, dx, wl, v, dl, e, Tr.same ss a1, Tr.same ss a2⟩
theorem PplAt.sub {O' : List Addr} (h : PplAt K O H p ps) (s : ∀ x ∈ O', x ∈ O) : PplAt K O' H p ps := by
  obtain ⟨n, kvs, e1, e2, e3⟩ := h
  exact ⟨fun m => n (s p m), kvs, e1, e2, fun j kv q a b => (e3 j kv q a b).sub s⟩
theorem PerAt.rules (h : PerAt K O H v rs) : ∃ (D : Addr) (as : List Addr), v = .ref D ∧ H D = some (.lst (as.map V.ref)) ∧ RulesAt K H as rs := by
  obtain ⟨D, as, e1, _, e3, e4⟩ := h
  exact ⟨D, as, e1, e3, e4.1, fun j a r q1 q2 => (e4.2 j a r q1 q2).at⟩
end
section
variable {P : Program} {w : World} {K : PySem.W.Frag} {mg : Str → Option Value} {base : Heap}
def spAllRules (K : PySem.W.Frag) : Sp := fun vs H Q _ => ∃ (p : Addr) (ps : List (Str × List RuleD)), vs = [.ref p] ∧ PplAt K [] H p ps ∧ (ps.flatMap (·.2)).length ≤ 1000 ∧ Tb K H ∧
  ∀ H' D as, Fr K [] H H' → H D = none → H' D = some (.lst (as.map V.ref)) → RulesAt K H' as (ps.flatMap (·.2)) → Q (.ref D) H'
theorem R_all_rules (T : Txt w K mg base) : FnR P w K mg base CX0 1 (a_all_rules K) (spAllRules K) := by
  refine mkR T.f_all_rules sc_all_rules bd_all_rules ?_ ?_
  · rintro vs H Q E ⟨p, ps, rfl, _⟩; rfl
  rintro cdv A outer s H vs Q E hr ⟨p, ps, rfl, hp, hl, tb, k⟩
  have nd := sc_all_rules.nd
  obtain ⟨_, kvs, e1, e2, e3⟩ := hp
  refine ⟨_, PSs.nox <| pss_cons (ps_set (i := 1) nd rfl (.inl rfl) (pe_lst pa_nil))
    (pss_cons (ps_lock (ps_for PassesOwn.never rfl (pi_values (pv 0)) (pg_name (i := 2) nd rfl (.inl rfl))
      (pss_one (ps_expr (pe_bm PySem.F.plainAttrs_list PySem.F.slot_list_extend PySem.F.type_list_extend mt_extend (pv 1) (pa_cons (pv 2) pa_nil))))))
    (pss_one (ps_ret (pv 1)))), ?_⟩
  refine ⟨by show 0 ≤ sizeLine; decide, fun D nD => ?_⟩
  have hD : H D = none := nD
  have f1 : Fr K [] H (L2.upd H D (.lst [])) := Fr.new tb hD
  have ntK : NT (.dK kvs) := by intro _ z; cases z
  have pD : p ≠ D := ne_of_none e1 hD
  have lenk : kvs.length = ps.length := by have := congrArg List.length e2; simpa using this
  refine ⟨p, _, f1.at e1, trivial, fun od => ?_⟩
  have t1 := f1.2.lock (od := od) (f1.at e1) ntK
  refine ⟨_, rfl, p, od, kvs, rfl, upd_same, ?_⟩
  refine for_it (walk_values (d := p) (o := od) (kvs := kvs)) (fun i σ H' => (∃ z, σ = [some (V.ref p), some (.ref D), z]) ∧ Fr K [D] (L2.upd (L2.upd H D (.lst [])) p (.frz od (.dK kvs))) H' ∧ ∃ as : List Addr, H' D = some (.lst (as.map V.ref)) ∧ RulesAt K H as ((ps.take i).flatMap (·.2)))
    ⟨⟨_, rfl⟩, Fr.refl t1, [], by rw [upd_ne pD.symm]; exact upd_same, rfl, fun j a r q => by simp at q⟩ (fun i σ H' _ ⟨_, f, _⟩ => f.at upd_same (by intro _ z; cases z) (fun m => pD (List.mem_singleton.mp m))) (fun i x σ H' H2 hi ⟨⟨z, es⟩, f, as, ha, hR⟩ hy => ?_) (fun σ H' ⟨⟨z, es⟩, f, as, ha, hR⟩ => ?_)
  · subst es
    obtain ⟨rfl, kk, hx⟩ := hy
    obtain ⟨q, hq⟩ : ∃ q, ps[i]? = some q := ⟨_, List.getElem?_eq_getElem (by omega)⟩
    obtain ⟨D2, bs, ev, hD2, hR2⟩ := (e3 i _ q hx hq).rules
    cases (show x = V.ref D2 from ev)
    have d1 : D2 ≠ D := ne_of_none hD2 hD
    have d2 : D2 ≠ p := ne_of hD2 e1 (by intro z; cases z)
    have hD3 : H2 D2 = some (.lst (bs.map V.ref)) := f.at (by rw [upd_ne d2, upd_ne d1]; exact hD2) (by intro _ z; cases z) (fun m => d1 (List.mem_singleton.mp m))
    have ek : (ps.take (i + 1)).flatMap (·.2) = (ps.take i).flatMap (·.2) ++ q.2 := by
      rw [List.take_add_one, hq, List.flatMap_append]; simp
    have hsz : as.length + bs.length ≤ 1000 := by
      have h1 := hR.1
      have h2 := hR2.1
      have h3 : (ps.flatMap (·.2)).length = ((ps.take (i + 1)).flatMap (·.2)).length + ((ps.drop (i + 1)).flatMap (·.2)).length := by
        rw [← List.length_append, ← List.flatMap_append, List.take_append_drop]
      rw [ek, List.length_append] at h3
      omega
    refine ⟨_, rfl, .inl ⟨rfl, _, SqL.of ha⟩, _, rfl, D, D2, _, _, rfl, rfl, ha, hD3, Nat.le_trans (by rw [List.length_map, List.length_map]; exact hsz) (by decide), ?_⟩
    refine ⟨⟨_, rfl⟩, f.trans (Fr.put f.2 ha (by intro _ z; cases z) (List.mem_singleton.mpr rfl)), as ++ bs, by rw [upd_same, List.map_append], ?_⟩
    rw [ek]
    refine ⟨by rw [List.length_append, List.length_append, hR.1, hR2.1], fun j a r q1 q2 => ?_⟩
    rcases Nat.lt_or_ge j as.length with c | c
    · rw [List.getElem?_append_left c] at q1
      rw [List.getElem?_append_left (by rw [← hR.1]; exact c)] at q2
      exact hR.2 j a r q1 q2
    · rw [List.getElem?_append_right c] at q1
      rw [List.getElem?_append_right (by rw [← hR.1]; exact c), ← hR.1] at q2
      exact hR2.2 _ a r q1 q2
  · subst es
    rw [lenk, List.take_length] at hR
    have hp' : H' p = some (.frz od (.dK kvs)) := f.at upd_same (by intro _ z; cases z) (fun m => pD (List.mem_singleton.mp m))
    have g := Fr.unlock f1.2 (f1.at e1) ntK f hp'
    have F := Fr.drop1 (E := []) ((f1.mono (E' := [] ++ [D]) (by simp)).trans g) hD
    exact ⟨hp', _, rfl, k _ D as F hD (by rw [upd_ne pD.symm]; exact ha) (hR.fr F)⟩
end
end So
end

section
set_option Elab.async false
set_option linter.all false
set_option maxRecDepth 100000
set_option maxHeartbeats 4000000
/-! read_house -/
namespace So
open PySem PySem.Spec PyProof.Rows L2 GxA TL
open GxR (TabB TabG Tabbed)
/-- a house as it is handed in: its texts read, the rules of each -/
structure HsOk (ts : List (Str × Str)) (ro : Str → List RuleD) (W : List Str) : Prop where
  one : 1 ≤ ts.length
  five : ts.length ≤ 5
  nm : ∀ q ∈ ts, Nm q.1
  nd : (ts.map (·.1)).Nodup
  ok : ∀ q ∈ ts, ∃ os, TxtOk q.2 os W ∧ os.filterMap id = ro q.1
  few : (ts.flatMap fun q => ro q.1).length ≤ 20
theorem putK_new {κ : Type} [DecidableEq κ] {kvs : List (κ × V)} {k : κ} {v : V} (h : k ∉ kvs.map (·.1)) : putK kvs k v = kvs ++ [(k, v)] := by
  unfold putK
  rw [if_neg]
  intro z
  obtain ⟨p, hp, e⟩ := List.any_eq_true.mp z
  exact h (List.mem_map.mpr ⟨p, hp, of_decide_eq_true e⟩)
theorem valV_tx {ts : List (Str × Str)} (nd : (ts.map (·.1)).Nodup) {n x : Str} (h : (n, x) ∈ ts) : valV (txK ts) (Sum.inr n) = some (V.str x) := by
  induction ts with
  | nil => cases h
  | cons q ts ih =>
    obtain ⟨m, y⟩ := q
    have hnd := List.nodup_cons.mp (show (m :: ts.map (·.1)).Nodup from nd)
    unfold valV
    show ((txK ((m, y) :: ts)).find? _).map _ = _
    rw [show txK ((m, y) :: ts) = (Sum.inr m, V.str y) :: txK ts from rfl, List.find?_cons]
    by_cases e : m = n
    · subst e
      rcases List.mem_cons.mp h with z | z
      · cases z
        simp
      · exact absurd (List.mem_map.mpr ⟨_, z, rfl⟩) hnd.1
    · have e2 : decide ((Sum.inr m : Key) = Sum.inr n) = false := decide_eq_false (fun z => e (by injection z))
      rw [e2]
      rcases List.mem_cons.mp h with z | z
      · cases z; exact absurd rfl e
      · exact ih hnd.2 z
section
variable {P : Program} {w : World} {K : PySem.W.Frag} {mg : Str → Option Value} {base : Heap}
def spReadHouse (K : PySem.W.Frag) : Sp := fun vs H Q _ => ∃ (d : Addr) (ts : List (Str × Str)) (ro : Str → List RuleD) (W : List Str), vs = [.ref d] ∧ H d = some (.dK (txK ts)) ∧ HsOk ts ro W ∧ Tb K H ∧
  ∀ H' p (ns : List Str), Fr K [] H H' → H p = none → ns.Perm (ts.map (·.1)) → (∀ O, (∀ e ∈ O, H e ≠ none) → PplAt K O H' p (ns.map fun n => (n, ro n))) → Q (.ref p) H'
theorem R_read_house (T : Txt w K mg base) : FnR P w K mg base CX0 50 (a_read_house K) (spReadHouse K) := by
  refine mkR T.f_read_house sc_read_house bd_read_house ?_ ?_
  · rintro vs H Q E ⟨d, ts, ro, W, rfl, _⟩; rfl
  rintro cdv A outer s H vs Q E hr ⟨d, ts, ro, W, rfl, hd, hs, tb, k⟩
  have nd := sc_read_house.nd
  obtain ⟨_, F1⟩ := T.f_is_house
  obtain ⟨_, F2⟩ := T.f_in_order
  obtain ⟨_, F3⟩ := T.f_read
  obtain ⟨_, F4⟩ := T.f_all_rules
  obtain ⟨_, F5⟩ := T.f_check_names
  refine ⟨_, PSs.nox <| pss_cons (ps_if (pt_not (pt_val (pe_cF (R_is_house T) (hr.mono (by decide)) (by rfl) T.g_is_house F1.kp (pa_cons (pv 0) pa_nil)))) (pss_one ps_never) pss_nil)
    (pss_cons (ps_setDc (i := 1) (own := [("name", 2)]) (g := gName 2) (tt := tYes) (tk := tVar 2) (tv := tCF (spRead K) (tCons (tDGet (tVar 0) (tVar 2)) tNil)) rfl nd rfl rfl (sw_trueD rfl rfl rfl (by decide +kernel))
      (pi_list (pe_cF (R_in_order T) (hr.mono (by decide)) (by rfl) T.g_in_order F2.kp (pa_cons (pe_callTy (call_list_dK rfl) (by rfl) T.z_list (by decide +kernel) (pa_cons (pv 0) pa_nil)) pa_nil)))
      (blkOk_by (own := [("name", 2)]) (N := N_read_house) (sc := defScope s_read_house) (by decide +kernel)) (fun _ _ _ _ _ => pg_name (i := 2) nd rfl (Or.inl rfl)) (fun _ _ _ _ _ => pts_nil) (fun _ _ _ _ _ => pv 2)
      (fun _ _ _ _ _ => pe_cF (R_read T) (hr.mono (by decide)) (by rfl) T.g_read F3.kp (pa_cons (pe_dget (hu_of hr) (pv 0) (pv 2) (fun _ _ => rfl)) pa_nil)))
    (pss_cons (ps_expr (pe_cF (R_check_names T) (hr.mono (by decide)) (by rfl) T.g_check_names F5.kp (pa_cons (pe_cF (R_all_rules T) (hr.mono (by decide)) (by rfl) T.g_all_rules F4.kp (pa_cons (pv 1) pa_nil)) pa_nil)))
    (pss_one (ps_ret (pv 1))))), ?_⟩
  refine ⟨_, rfl, d, ts, rfl, hd, hs.one, hs.five, hs.nm, tb, fun H1 f1 => ⟨true, rfl, iteF ?_⟩⟩
  refine ⟨_, rfl, d, _, rfl, f1.at hd, fun l nl => ?_⟩
  have e0 : (txK ts).map (fun kv => kV kv.1) = (ts.map (·.1)).map V.str := by simp [kV]
  rw [e0]
  have f2 := f1.trans (Fr.new (E := []) (o := .lst ((ts.map (·.1)).map V.str)) f1.2 nl)
  refine ⟨l, ts.map (·.1), rfl, SqL.of upd_same, by rw [List.length_map]; have := hs.five; omega, fun x m => ?_, f2.2, fun H3 a ns f3 na pm _ => ?_⟩
  · obtain ⟨q, hq, rfl⟩ := List.mem_map.mp m
    have := (hs.nm q hq).2.1
    omega
  have f4 := (f2.trans f3).trans (Fr.new (E := []) (o := .lst (ns.map V.str)) f3.2 na)
  have ha4 : (L2.upd H3 a (.lst (ns.map V.str))) a = some (.lst (ns.map V.str)) := upd_same
  generalize L2.upd H3 a (.lst (ns.map V.str)) = H4 at f4 ha4 ⊢
  have ndn : ns.Nodup := pm.nodup_iff.mpr hs.nd
  have lenn : ns.length = ts.length := by rw [pm.length_eq, List.length_map]
  have mem : ∀ n ∈ ns, ∃ x, (n, x) ∈ ts := fun n m => by
    obtain ⟨q, hq, e⟩ := List.mem_map.mp (pm.mem_iff.mp m)
    exact ⟨q.2, by rw [← e]; exact hq⟩
  refine ⟨a, rfl, ⟨_, SqL.of ha4⟩, fun D nD => ?_⟩
  have hD : H D = none := f4.3 _ nD
  have Da : a ≠ D := ne_of_none ha4 nD
  have f5 := f4.trans (Fr.new (E := []) (o := .dK []) f4.2 nD)
  have dD : d ≠ D := ne_of_none (f4.at hd) nD
  refine dc_it (walk_list (K := K) (a := a) (xs := ns.map V.str)) (fun i H' => Fr K [D] (L2.upd H4 D (.dK [])) H' ∧ ∃ kvs : List (Key × V), H' D = some (.dK kvs) ∧ kvs.map (·.1) = (ns.take i).map Sum.inr ∧ ∀ O, (∀ e ∈ O, H e ≠ none) → ∀ (j : Nat) (kv : Key × V) (n : Str), kvs[j]? = some kv → ns[j]? = some n → PerAt K (D :: O) H' kv.2 (ro n))
    ⟨Fr.refl f5.2, [], upd_same, rfl, fun _ _ j kv n q => by simp at q⟩ (fun i H' _ ⟨f, _⟩ => SqL.of (f.at (by rw [upd_ne Da]; exact ha4) (by intro _ z; cases z) (fun m => Da (List.mem_singleton.mp m)))) (fun i x H' H2 hi ⟨f, kvs, hk, ek, hp⟩ hy => ?_) (fun H' ⟨f, kvs, hk, ek, hp⟩ => ?_)
  · obtain ⟨rfl, hx⟩ := hy
    obtain ⟨n, hn, rfl⟩ := at_map hx
    obtain ⟨x, hmx⟩ := mem n (List.mem_of_getElem? hn)
    obtain ⟨os, hos, ero⟩ := hs.ok _ hmx
    have hdd : H2 d = some (.dK (txK ts)) := f.at (by rw [upd_ne dD]; exact f4.at hd) (by intro _ z; cases z) (fun m => dD (List.mem_singleton.mp m))
    obtain ⟨rows, r1, r2, r3, r4⟩ := hos.ex
    have hlt : kvs.length = (ns.take i).length := by have := congrArg List.length ek; simpa using this
    have hi5 : kvs.length ≤ 5 := by rw [hlt, List.length_take]; have := hs.five; omega
    have knew : (Sum.inr n : Key) ∉ kvs.map (·.1) := by
      rw [ek]
      intro m
      obtain ⟨m', hm', e⟩ := List.mem_map.mp m
      obtain ⟨j, hj⟩ := List.mem_iff_getElem?.mp hm'
      have hji : j < i := by
        have := (List.getElem?_eq_some_iff.mp hj).1
        rw [List.length_take] at this; omega
      rw [List.getElem?_take, if_pos hji] at hj
      have e' : m' = n := by injection e
      subst e'
      have := (List.getElem?_inj (List.getElem?_eq_some_iff.mp hj).1 ndn).mp (hj.trans hn.symm)
      omega
    refine ⟨rfl, ?_⟩
    refine ⟨_, rfl, _, rfl, _, rfl, d, _, rfl, by rw [← valV_tx hs.nd hmx]; exact DGet.k (k := Sum.inr n) hdd, x, rows, os, W, rfl, hos.len, r1, r2, r3, r4, hos.four, f.2, fun H6 Dl as f6 nDl hDl hR => ?_⟩
    have hk6 := f6.at hk
    refine ⟨kvs, Sum.inr n, rfl, hk6, Nat.lt_of_le_of_lt hi5 (by decide), ?_⟩
    have g6 : Fr K [D] H2 (L2.upd H6 D (.dK (putK kvs (Sum.inr n) (.ref Dl)))) := f6.nil.trans (Fr.put f6.2 hk6 (by intro _ z; cases z) (List.mem_singleton.mpr rfl))
    refine ⟨f.trans g6, putK kvs (Sum.inr n) (.ref Dl), upd_same, ?_, fun O hO j kv m e1 e2 => ?_⟩
    · rw [putK_new knew, List.map_append, ek, List.take_add_one, hn, List.map_append]; rfl
    rw [putK_new knew] at e1
    rcases at_snoc e1 with e1 | ⟨ej, rfl⟩
    · exact (hp O hO j kv m e1 e2).fr g6 (fun e m => by rw [List.mem_singleton.mp m]; exact List.mem_cons_self)
    · have hji : j = i := by
        rw [ej, hlt, List.length_take]
        have := (List.getElem?_eq_some_iff.mp hn).1
        omega
      rw [hji, hn] at e2
      cases e2
      have live : ∀ e ∈ D :: O, H2 e ≠ none := fun e m => by
        rcases List.mem_cons.mp m with rfl | m
        · rw [hk]; intro z; cases z
        · intro z
          refine hO e m ?_
          have := f.3 e z
          have := upd_live _ this
          exact f4.3 _ this
      have per : PerAt K (D :: O) H6 (.ref Dl) (ro n) := by
        refine ⟨Dl, as, rfl, fun q => live Dl q nDl, hDl, ?_⟩
        rw [← ero]
        exact ⟨hR.1, fun j b r q1 q2 => (hR.2 j b r q1 q2).back (fun _ _ => rfl) (fun e m => .inr (live e m))⟩
      exact per.fr (Fr.put (E := [D]) f6.2 hk6 (by intro _ z; cases z) (List.mem_singleton.mpr rfl)) (fun e m => by rw [List.mem_singleton.mp m]; exact List.mem_cons_self)
  · have tkl : ns.take ((ns.map V.str).length) = ns := by rw [List.length_map, List.take_length]
    rw [tkl] at ek
    have F := Fr.drop1 (E := []) ((f5.mono (E' := [] ++ [D]) (by simp)).trans f) hD
    have ppl : ∀ O, (∀ e ∈ O, H e ≠ none) → PplAt K O H' D (ns.map fun n => (n, ro n)) := fun O hO => by
      refine ⟨fun m => hO D m hD, kvs, hk, by rw [ek, List.map_map]; rfl, fun j kv q e1 e2 => ?_⟩
      rw [List.getElem?_map] at e2
      obtain ⟨n, e3, rfl⟩ := Option.map_eq_some_iff.mp e2
      exact (hp O hO j kv n e1 e3).sub fun x m => List.mem_cons_of_mem _ m
    have efl : (ns.map fun n => (n, ro n)).flatMap (·.2) = ns.flatMap ro := by rw [List.flatMap_map]
    have perm : (ns.flatMap ro).Perm (ts.flatMap fun q => ro q.1) := by
      have := pm.flatMap_right ro
      rw [List.flatMap_map] at this
      exact this
    have few : (ns.flatMap ro).length ≤ 20 := by rw [perm.length_eq]; exact hs.few
    have wfs : ∀ r ∈ ns.flatMap ro, RWf W r := fun r m => by
      obtain ⟨n, hn, hr2⟩ := List.mem_flatMap.mp m
      obtain ⟨x, hx⟩ := mem n hn
      obtain ⟨os, hos, ero⟩ := hs.ok _ hx
      rw [← ero] at hr2
      exact hos.wf.1 r hr2
    have four : W.length ≤ 4 := by
      cases hts : ts with
      | nil => have := hs.one; rw [hts] at this; simp at this
      | cons q ts' =>
        obtain ⟨os, hos, _⟩ := hs.ok q (by rw [hts]; exact List.mem_cons_self)
        exact hos.four
    refine ⟨_, rfl, D, _, rfl, ppl [] (fun _ m => nomatch m), by rw [efl]; omega, F.2, fun H6 Dr as f6 nDr hDr hRr => ?_⟩
    rw [efl] at hRr
    refine ⟨Dr, as, _, W, rfl, hDr, hRr, wfs, few, Nat.le_trans (namesR_le wfs) four, f6.2, fun H7 f7 => ?_⟩
    exact ⟨_, rfl, k H7 D ns (F.trans (f6.trans f7)) hD pm fun O hO => (ppl O hO).fr (f6.trans f7) (fun _ m => nomatch m)⟩
end
end So
end

section
set_option Elab.async false
set_option linter.all false
set_option maxRecDepth 100000
set_option maxHeartbeats 4000000
/-! dicts of own lists; a house in the heap -/
namespace So
open PySem PySem.Spec PyProof.Rows L2 GxA TL
section
variable {κ : Type} [DecidableEq κ]
theorem valV_none {kvs : List (κ × V)} {k : κ} (h : k ∉ kvs.map (·.1)) : valV kvs k = none := by
  unfold valV
  rw [List.find?_eq_none.mpr fun kv m z => h (List.mem_map.mpr ⟨kv, m, of_decide_eq_true z⟩)]
  rfl
theorem valV_some {kvs : List (κ × V)} {k : κ} {v : V} (nd : (kvs.map (·.1)).Nodup) (h : (k, v) ∈ kvs) : valV kvs k = some v := by
  induction kvs with
  | nil => cases h
  | cons q kvs ih =>
    have hnd := List.nodup_cons.mp (show (q.1 :: kvs.map (·.1)).Nodup from nd)
    unfold valV
    rw [List.find?_cons]
    by_cases e : q.1 = k
    · rw [decide_eq_true e]
      rcases List.mem_cons.mp h with z | z
      · rw [← z]; rfl
      · exact absurd (List.mem_map.mpr ⟨_, z, by rw [e]⟩) hnd.1
    · rw [decide_eq_false e]
      rcases List.mem_cons.mp h with z | z
      · rw [← z] at e; exact absurd rfl e
      · exact ih hnd.2 z
theorem valV_mem {kvs : List (κ × V)} {k : κ} {v : V} (h : valV kvs k = some v) : (k, v) ∈ kvs := by
  unfold valV at h
  obtain ⟨q, hq, e⟩ := Option.map_eq_some_iff.mp h
  have := List.find?_some hq
  have e2 : q.1 = k := of_decide_eq_true this
  have : q = (k, v) := by rw [← e, ← e2]
  rw [← this]
  exact List.mem_of_find?_eq_some hq
theorem valV_no {kvs : List (κ × V)} {k : κ} (h : valV kvs k = none) : k ∉ kvs.map (·.1) := fun m => by
  obtain ⟨q, hq, e⟩ := List.mem_map.mp m
  unfold valV at h
  have := List.find?_eq_none.mp (Option.map_eq_none_iff.mp h) q hq
  exact this (decide_eq_true e)
/-- a dict of things that are its own -/
def OwnD (mk : List (κ × V) → HO) (H : Hp) (d : Addr) (as : List Addr) (P : κ → Option HO → Prop) (b : Nat) : Prop :=
  ∃ kvs : List (κ × V), H d = some (mk kvs) ∧ kvs.map (·.2) = as.map V.ref ∧ (kvs.map (·.1)).Nodup ∧ kvs.length ≤ b ∧ (∀ k a, (k, V.ref a) ∈ kvs → ∃ o, H a = some o ∧ NT o ∧ P k (some o)) ∧ ∀ k, k ∉ kvs.map (·.1) → P k none
variable {mk : List (κ × V) → HO} {H H' : Hp} {d : Addr} {as : List Addr} {P P' : κ → Option HO → Prop} {b : Nat}
theorem OwnD.frame (h : OwnD mk H d as P b) (nt : ∀ kvs, NT (mk kvs)) (e : ∀ a o, (a = d ∨ a ∈ as) → H a = some o → NT o → H' a = some o) : OwnD mk H' d as P b := by
  obtain ⟨kvs, h1, h2, h3, h4, h5, h6⟩ := h
  refine ⟨kvs, e _ _ (.inl rfl) h1 (nt _), h2, h3, h4, fun k a m => ?_, h6⟩
  obtain ⟨o, q1, q2, q3⟩ := h5 k a m
  refine ⟨o, e a o (.inr ?_) q1 q2, q2, q3⟩
  have : V.ref a ∈ as.map V.ref := by rw [← h2]; exact List.mem_map.mpr ⟨_, m, rfl⟩
  obtain ⟨x, hx, ex⟩ := List.mem_map.mp this
  cases ex; exact hx
theorem OwnD.mem (h : OwnD mk H d as P b) {kvs : List (κ × V)} (e : H d = some (mk kvs)) (inj : ∀ k1 k2, mk k1 = mk k2 → k1 = k2) : kvs.map (·.2) = as.map V.ref ∧ (kvs.map (·.1)).Nodup ∧ kvs.length ≤ b ∧ (∀ k a, (k, V.ref a) ∈ kvs → ∃ o, H a = some o ∧ NT o ∧ P k (some o)) ∧ ∀ k, k ∉ kvs.map (·.1) → P k none := by
  obtain ⟨kvs2, h1, q⟩ := h
  rw [e] at h1
  cases inj _ _ (Option.some.inj h1)
  exact q
theorem OwnD.weak (h : OwnD mk H d as P b) {b' : Nat} (hb : b ≤ b') (hP : ∀ k o, P k o → P' k o) : OwnD mk H d as P' b' := by
  obtain ⟨kvs, h1, h2, h3, h4, h5, h6⟩ := h
  exact ⟨kvs, h1, h2, h3, Nat.le_trans h4 hb, fun k a m => let ⟨o, q1, q2, q3⟩ := h5 k a m; ⟨o, q1, q2, hP _ _ q3⟩, fun k m => hP _ _ (h6 k m)⟩
/-- what a key has -/
theorem OwnD.get (h : OwnD mk H d as P b) (k : κ) : ∃ kvs, H d = some (mk kvs) ∧ kvs.length ≤ b ∧ ((valV kvs k = none ∧ P k none) ∨ ∃ a o, valV kvs k = some (.ref a) ∧ a ∈ as ∧ H a = some o ∧ NT o ∧ P k (some o)) := by
  obtain ⟨kvs, h1, h2, h3, h4, h5, h6⟩ := h
  refine ⟨kvs, h1, h4, ?_⟩
  cases e : valV kvs k with
  | none => exact .inl ⟨rfl, h6 k (valV_no e)⟩
  | some v =>
    have m := valV_mem e
    have : v ∈ as.map V.ref := by rw [← h2]; exact List.mem_map.mpr ⟨_, m, rfl⟩
    obtain ⟨a, ha, rfl⟩ := List.mem_map.mp this
    obtain ⟨o, q⟩ := h5 k a m
    exact .inr ⟨a, o, rfl, ha, q⟩
theorem OwnD.new (h : OwnD mk H d as P b) (nt : ∀ kvs, NT (mk kvs)) (inj : ∀ k1 k2, mk k1 = mk k2 → k1 = k2) {k : κ} {D : Addr} {o : HO} {kvs : List (κ × V)} (e : H d = some (mk kvs)) (hn : valV kvs k = none) (hD : H D = some o) (no : NT o) (nd : D ≠ d) (hk : P k (some o)) :
    OwnD mk (L2.upd H d (mk (putK kvs k (.ref D)))) d (as ++ [D]) P (b + 1) ∨ d ∈ as := by
  by_cases da : d ∈ as
  · exact .inr da
  obtain ⟨h2, h3, h4, h5, h6⟩ := h.mem e inj
  have kn := valV_no hn
  rw [putK_new kn]
  refine .inl ⟨_, upd_same, by rw [List.map_append, h2, List.map_append]; rfl, ?_, by rw [List.length_append]; exact Nat.add_le_add_right h4 1, fun k' a m => ?_, fun k' m => h6 k' fun z => m (by rw [List.map_append]; exact List.mem_append_left _ z)⟩
  · rw [List.map_append]
    exact nd_snoc h3 kn
  · rcases List.mem_append.mp m with m | m
    · obtain ⟨o', q1, q2⟩ := h5 k' a m
      have am : a ∈ as := by
        have : V.ref a ∈ as.map V.ref := by rw [← h2]; exact List.mem_map.mpr ⟨_, m, rfl⟩
        obtain ⟨x, hx, ex⟩ := List.mem_map.mp this
        cases ex; exact hx
      exact ⟨o', by rw [upd_ne (fun z => da (by rw [← z]; exact am))]; exact q1, q2⟩
    · cases List.mem_singleton.mp m
      exact ⟨o, by rw [upd_ne nd]; exact hD, no, hk⟩
theorem mem_ref {kvs : List (κ × V)} (h : kvs.map (·.2) = as.map V.ref) (nd : as.Nodup) {k k' : κ} {a : Addr} (m : (k, V.ref a) ∈ kvs) (m' : (k', V.ref a) ∈ kvs) : k = k' := by
  obtain ⟨i, hi⟩ := List.mem_iff_getElem?.mp m
  obtain ⟨j, hj⟩ := List.mem_iff_getElem?.mp m'
  have ri : as[i]? = some a := by
    have : (kvs.map (·.2))[i]? = some (V.ref a) := by rw [List.getElem?_map, hi]; rfl
    rw [h, List.getElem?_map] at this
    obtain ⟨x, hx, ex⟩ := Option.map_eq_some_iff.mp this
    cases ex; exact hx
  have rj : as[j]? = some a := by
    have : (kvs.map (·.2))[j]? = some (V.ref a) := by rw [List.getElem?_map, hj]; rfl
    rw [h, List.getElem?_map] at this
    obtain ⟨x, hx, ex⟩ := Option.map_eq_some_iff.mp this
    cases ex; exact hx
  have : i = j := (List.getElem?_inj (List.getElem?_eq_some_iff.mp ri).1 nd).mp (ri.trans rj.symm)
  subst this
  rw [hi] at hj
  cases hj; rfl
/-- a key's own thing is another -/
theorem OwnD.set (h : OwnD mk H d as P b) (inj : ∀ k1 k2, mk k1 = mk k2 → k1 = k2) (nd : as.Nodup) (da : d ∉ as) {k : κ} {a : Addr} {o : HO} {kvs : List (κ × V)} (e : H d = some (mk kvs)) (hv : valV kvs k = some (.ref a)) (no : NT o) (hk : P' k (some o)) (hP : ∀ k' x, k' ≠ k → P k' x → P' k' x) :
    OwnD mk (L2.upd H a o) d as P' b := by
  obtain ⟨h2, h3, h4, h5, h6⟩ := h.mem e inj
  have m := valV_mem hv
  have am : a ∈ as := by
    have : V.ref a ∈ as.map V.ref := by rw [← h2]; exact List.mem_map.mpr ⟨_, m, rfl⟩
    obtain ⟨x, hx, ex⟩ := List.mem_map.mp this
    cases ex; exact hx
  refine ⟨kvs, by rw [upd_ne (fun z => da (by rw [z]; exact am))]; exact e, h2, h3, h4, fun k' a' m' => ?_, fun k' m' => hP k' none (fun z => ?_) (h6 k' m')⟩
  · by_cases ea : a' = a
    · subst ea
      cases mem_ref h2 nd m m'
      exact ⟨o, upd_same, no, hk⟩
    · obtain ⟨o', q1, q2, q3⟩ := h5 k' a' m'
      refine ⟨o', by rw [upd_ne ea]; exact q1, q2, hP k' _ (fun z => ?_) q3⟩
      subst z
      have := valV_some h3 m'
      rw [hv] at this
      cases this
      exact ea rfl
  · subst z
    exact m' (List.mem_map.mpr ⟨_, m, rfl⟩)
end
abbrev nVs (ns : List Nat) : List V := ns.map fun (n : Nat) => V.int (n : Int)
abbrev trues (ns : List Nat) : List (Key × V) := ns.map fun (n : Nat) => (Sum.inl (n : Int), V.bl true)
def PFil (fil : Str → Str → List Nat) (b : Nat) : List Key → Option HO → Prop
  | k, some o => ∃ n g, k = [Sum.inr n, Sum.inr g] ∧ o = .lst (nVs (fil n g)) ∧ (fil n g).length ≤ b
  | k, none => ∀ n g, k = [Sum.inr n, Sum.inr g] → fil n g = []
def POut (out : Str → List Nat) (b : Nat) : Key → Option HO → Prop
  | k, some o => ∃ n, k = Sum.inr n ∧ o = .dK (trues (out n)) ∧ (out n).length ≤ b
  | k, none => ∀ n, k = Sum.inr n → out n = []
/-- where a house lies -/
structure HR where
  r : Addr
  dx : Addr
  p : Addr
  t : Addr
  w : Addr
  f : Addr
  s : Addr
  fl : List Addr
  sl : List Addr
def HR.own (R : HR) : List Addr := R.r :: R.t :: R.w :: R.f :: R.s :: (R.fl ++ R.sl)
def hfs (R : HR) : List (Str × V) := [("people", .ref R.p), ("texts", .ref R.t), ("ways", .ref R.w), ("filings", .ref R.f), ("sent", .ref R.s)]
/-- what a house knows -/
structure HM where
  ps : List (Str × List RuleD)
  ts : List (Str × Str)
  ws : List (List Str)
  fil : Str → Str → List Nat
  out : Str → List Nat
def WayL (H : Hp) (O : List Addr) (v : V) (w : List Str) : Prop := ∃ D, v = .ref D ∧ D ∉ O ∧ H D = some (.lst (w.map V.str))
structure HAt (K : PySem.W.Frag) (O : List Addr) (H : Hp) (R : HR) (M : HM) (b : Nat) : Prop where
  ob : H R.r = some (.ins (C_House K) R.dx (hfs R))
  ppl : PplAt K (R.own ++ O) H R.p M.ps
  txt : H R.t = some (.dK (txK M.ts))
  ways : ∃ vs, H R.w = some (.lst vs) ∧ Paired (WayL H (R.own ++ O)) vs M.ws
  fil : OwnD HO.dT H R.f R.fl (PFil M.fil b) b
  out : OwnD HO.dK H R.s R.sl (POut M.out b) b
  nd : R.own.Nodup
  av : ∀ a ∈ R.own, a ∉ O
section
variable {K : PySem.W.Frag} {O F N : List Addr} {H H' : Hp} {R : HR} {M : HM} {b : Nat}
theorem paired_imp {α β : Type} {P Q : α → β → Prop} {xs : List α} {ys : List β} (h : Paired P xs ys) (i : ∀ x y, P x y → Q x y) : Paired Q xs ys := by
  induction h with
  | nil => exact .nil
  | cons a _ ih => exact .cons (i _ _ a) ih
theorem ntT (kvs : List (List Key × V)) : NT (HO.dT kvs) := by intro _ z; cases z
theorem ntK (kvs : List (Key × V)) : NT (HO.dK kvs) := by intro _ z; cases z
theorem injT (a b : List (List Key × V)) (h : HO.dT a = HO.dT b) : a = b := by cases h; rfl
theorem injK (a b : List (Key × V)) (h : HO.dK a = HO.dK b) : a = b := by cases h; rfl
theorem HR.mr (R : HR) : R.r ∈ R.own := by simp [HR.own]
theorem HR.mt (R : HR) : R.t ∈ R.own := by simp [HR.own]
theorem HR.mw (R : HR) : R.w ∈ R.own := by simp [HR.own]
theorem HR.mf (R : HR) : R.f ∈ R.own := by simp [HR.own]
theorem HR.ms (R : HR) : R.s ∈ R.own := by simp [HR.own]
theorem HR.mfl (R : HR) {a : Addr} (h : a ∈ R.fl) : a ∈ R.own := by simp [HR.own, h]
theorem HR.msl (R : HR) {a : Addr} (h : a ∈ R.sl) : a ∈ R.own := by simp [HR.own, h]
/-- what is done elsewhere -/
theorem HAt.go (h : HAt K O H R M b) (hN : ∀ x ∈ N, H x = none) (f : Fr K F H H') (i : ∀ e ∈ F, e ∈ O) : HAt K (N ++ O) H' R M b := by
  have nf : ∀ {a}, a ∈ R.own → a ∉ F := fun m z => h.av _ m (i _ z)
  have live : ∀ a ∈ R.own, H a ≠ none := fun a m => by
    simp only [HR.own, List.mem_cons, List.mem_append] at m
    have own : ∀ {κ : Type} {mk : List (κ × V) → HO} {d as} {P : κ → Option HO → Prop} [DecidableEq κ], OwnD mk H d as P b → ∀ x ∈ as, H x ≠ none := fun {κ mk d as P _} q x m z => by
      obtain ⟨kvs, _, h2, _, _, h5, _⟩ := q
      have : V.ref x ∈ kvs.map (·.2) := by rw [h2]; exact List.mem_map.mpr ⟨_, m, rfl⟩
      obtain ⟨kv, hkv, ekv⟩ := List.mem_map.mp this
      obtain ⟨o, q1, _⟩ := h5 kv.1 x (by rw [← ekv]; exact hkv)
      rw [z] at q1; cases q1
    rcases m with rfl | rfl | rfl | rfl | rfl | m | m
    · rw [h.ob]; intro z; cases z
    · rw [h.txt]; intro z; cases z
    · obtain ⟨vs, e, _⟩ := h.ways
      rw [e]; intro z; cases z
    · obtain ⟨kvs, e, _⟩ := h.fil
      rw [e]; intro z; cases z
    · obtain ⟨kvs, e, _⟩ := h.out
      rw [e]; intro z; cases z
    · exact own h.fil a m
    · exact own h.out a m
  refine ⟨f.at h.ob (by intro _ z; cases z) (nf R.mr), ?_, f.at h.txt (by intro _ z; cases z) (nf R.mt), ?_, h.fil.frame ntT fun a o m e n => f.1 a o ?_ e n, h.out.frame ntK fun a o m e n => f.1 a o ?_ e n, h.nd, fun a m z => ?_⟩
  · refine (h.ppl.go hN f fun e m => List.mem_append_right _ (i e m)).sub fun x m => ?_
    rcases List.mem_append.mp m with m | m
    · exact List.mem_append_right _ (List.mem_append_left _ m)
    · rcases List.mem_append.mp m with m | m
      · exact List.mem_append_left _ m
      · exact List.mem_append_right _ (List.mem_append_right _ m)
  · obtain ⟨vs, e, p⟩ := h.ways
    refine ⟨vs, f.at e (by intro _ z; cases z) (nf R.mw), paired_imp p fun v w ⟨D, e1, e2, e3⟩ => ⟨D, e1, fun m => ?_, f.at e3 (by intro _ z; cases z) fun m => e2 (List.mem_append_right _ (i _ m))⟩⟩
    rcases List.mem_append.mp m with m | m
    · exact e2 (List.mem_append_left _ m)
    · rcases List.mem_append.mp m with m | m
      · rw [hN D m] at e3; cases e3
      · exact e2 (List.mem_append_right _ m)
  · rcases m with rfl | m
    · exact nf R.mf
    · exact nf (R.mfl m)
  · rcases m with rfl | m
    · exact nf R.ms
    · exact nf (R.msl m)
  · rcases List.mem_append.mp z with z | z
    · exact live a m (hN a z)
    · exact h.av a m z
theorem HAt.fr (h : HAt K O H R M b) (f : Fr K F H H') (i : ∀ e ∈ F, e ∈ O) : HAt K O H' R M b := by simpa using h.go (N := []) (fun _ m => nomatch m) f i
theorem HAt.fr0 (h : HAt K O H R M b) (f : Fr K [] H H') : HAt K O H' R M b := h.fr f fun _ m => nomatch m
theorem HAt.sub {O' : List Addr} (h : HAt K O H R M b) (s : ∀ x ∈ O', x ∈ O) : HAt K O' H R M b := by
  have ss : ∀ x ∈ R.own ++ O', x ∈ R.own ++ O := fun x m => (List.mem_append.mp m).elim (fun z => List.mem_append_left _ z) fun z => List.mem_append_right _ (s x z)
  obtain ⟨vs, e, p⟩ := h.ways
  exact ⟨h.ob, h.ppl.sub ss, h.txt, ⟨vs, e, paired_imp p fun v w ⟨D, e1, e2, e3⟩ => ⟨D, e1, fun m => e2 (ss D m), e3⟩⟩, h.fil, h.out, h.nd, fun a m z => h.av a m (s a z)⟩
theorem HAt.weak {b' : Nat} (h : HAt K O H R M b) (hb : b ≤ b') : HAt K O H R M b' := by
  refine ⟨h.ob, h.ppl, h.txt, h.ways, h.fil.weak hb fun k o q => ?_, h.out.weak hb fun k o q => ?_, h.nd, h.av⟩
  · cases o with
    | none => exact q
    | some o => obtain ⟨n, g, e1, e2, e3⟩ := q; exact ⟨n, g, e1, e2, Nat.le_trans e3 hb⟩
  · cases o with
    | none => exact q
    | some o => obtain ⟨n, e1, e2, e3⟩ := q; exact ⟨n, e1, e2, Nat.le_trans e3 hb⟩
end
end So
end

section
set_option Elab.async false
set_option linter.all false
set_option maxRecDepth 100000
set_option maxHeartbeats 4000000
/-! what a house tells -/
namespace So
open PySem PySem.Spec PyProof.Rows L2 GxA TL
open GxR (TabB TabG Tabbed)
section
variable {P : Program} {w : World} {K : PySem.W.Frag} {mg : Str → Option Value} {base : Heap}
theorem hfs_people (R : HR) : (hfs R).lookup ("people" : Str) = some (V.ref R.p) := rfl
theorem hfs_texts (R : HR) : (hfs R).lookup ("texts" : Str) = some (V.ref R.t) := rfl
theorem hfs_ways (R : HR) : (hfs R).lookup ("ways" : Str) = some (V.ref R.w) := rfl
theorem hfs_filings (R : HR) : (hfs R).lookup ("filings" : Str) = some (V.ref R.f) := rfl
theorem hfs_sent (R : HR) : (hfs R).lookup ("sent" : Str) = some (V.ref R.s) := rfl
/-- somebody's key among the people -/
theorem PplAt.key {O : List Addr} {H : Hp} {p : Addr} {ps : List (Str × List RuleD)} (h : PplAt K O H p ps) (n : Str) : ∃ kvs : List (Key × V), H p = some (.dK kvs) ∧ kvs.length = ps.length ∧ (valV kvs (Sum.inr n)).isSome = decide (n ∈ ps.map (·.1)) := by
  obtain ⟨_, kvs, e1, e2, e3⟩ := h
  have l : kvs.length = ps.length := by have := congrArg List.length e2; simpa using this
  refine ⟨kvs, e1, l, ?_⟩
  have e4 : ((Sum.inr n : Key) ∈ kvs.map (·.1)) ↔ n ∈ ps.map (·.1) := by
    rw [e2]
    constructor
    · intro m
      obtain ⟨q, hq, e⟩ := List.mem_map.mp m
      exact List.mem_map.mpr ⟨q, hq, by injection e⟩
    · intro m
      obtain ⟨q, hq, e⟩ := List.mem_map.mp m
      exact List.mem_map.mpr ⟨q, hq, by rw [e]⟩
  by_cases h : n ∈ ps.map (·.1)
  · rw [decide_eq_true h]
    cases e : valV kvs (Sum.inr n) with
    | some v => rfl
    | none => exact absurd (e4.mpr h) (valV_no e)
  · rw [decide_eq_false h, valV_none fun z => h (e4.mp z)]; rfl
/-- a name is somebody's -/
def spCheck (K : PySem.W.Frag) : Sp := fun vs H Q _ => ∃ (O : List Addr) (R : HR) (M : HM) (b : Nat) (n : Str), vs = [.ref R.r, .str n] ∧ HAt K O H R M b ∧ Nm n ∧ n ∈ M.ps.map (·.1) ∧ Tb K H ∧ ∀ H', Fr K [] H H' → Q .non H'
theorem R_check (T : Txt w K mg base) : FnR P w K mg base CX0 8 (a_House_check_person K) (spCheck K) := by
  refine mkR T.f_House_check_person sc_House_check_person bd_House_check_person ?_ ?_
  · rintro vs H Q E ⟨O, R, M, b, n, rfl, _⟩; rfl
  rintro cdv A outer s H vs Q E hr ⟨O, R, M, b, n, rfl, hA, hn, hm, tb, k⟩
  obtain ⟨_, F1⟩ := T.f_is_name
  refine ⟨_, pss_one (ps_if (PW.pt (pw_or (pt_not (pt_val (pe_cF (R_is_name T) (hr.mono (by decide)) (by rfl) T.g_is_name F1.kp (pa_cons (pv 1) pa_nil)))) (pw_or1 (pt_cmp (pc_dnotin (hu_of hr) (pv 1) (pe_fld (pv 0) rfl)) rfl))))
    (pss_one ps_never) pss_nil), ?_⟩
  refine ⟨_, rfl, n, rfl, hn, tb, fun H1 f1 => ⟨true, rfl, iteF ?_⟩⟩
  obtain ⟨kvs, e1, _, e3⟩ := (hA.fr0 f1).ppl.key n
  refine ⟨_, rfl, _, rfl, R.r, _, R.dx, _, _, rfl, f1.at hA.ob, T.c_House, T.n_House_people, hfs_people R, ?_⟩
  refine ⟨R.p, _, rfl, DGet.k (k := Sum.inr n) e1, _, rfl, ?_⟩
  rw [e3, decide_eq_true hm]
  exact iteF (k H1 f1)
/-- a name that is nobody's -/
def spCheckBad (K : PySem.W.Frag) : Sp := fun vs H _ E => ∃ (O : List Addr) (R : HR) (M : HM) (b : Nat) (n : Str), vs = [.ref R.r, .str n] ∧ HAt K O H R M b ∧ Nm n ∧ n ∉ M.ps.map (·.1) ∧ Tb K H ∧ ∀ H', Fr K [] H H' → E (.ref (C_BadName K)) none H'
theorem R_check_bad (T : Txt w K mg base) : FnE P w K mg base 8 (a_House_check_person K) (spCheckBad K) := by
  refine mkE T.f_House_check_person sc_House_check_person bd_House_check_person ?_ ?_
  · rintro vs H Q E ⟨O, R, M, b, n, rfl, _⟩; rfl
  rintro cdv A outer s H vs Q E hr ⟨O, R, M, b, n, rfl, hA, hn, hm, tb, k⟩
  obtain ⟨_, F1⟩ := T.f_is_name
  refine ⟨_, pss_one (ps_if (PW.pt (pw_or (pt_not (pt_val (pe_cF (R_is_name T) (hr.mono (by decide)) (by rfl) T.g_is_name F1.kp (pa_cons (pv 1) pa_nil)))) (pw_or1 (pt_cmp (pc_dnotin (hu_of hr) (pv 1) (pe_fld (pv 0) rfl)) rfl))))
    (pss_one (ps_raise rfl (takes_of rfl rfl rfl rfl) (pmk_own PySem.F.excBase_ValueError T.exc.x_BadName T.g_BadName T.exc.k_BadName (raises_own T.exc.s_BadName T.exc.y_BadName) rfl))) pss_nil), ?_⟩
  refine ⟨_, rfl, n, rfl, hn, tb, fun H1 f1 => ⟨true, rfl, iteF ?_⟩⟩
  obtain ⟨kvs, e1, _, e3⟩ := (hA.fr0 f1).ppl.key n
  refine ⟨_, rfl, _, rfl, R.r, _, R.dx, _, _, rfl, f1.at hA.ob, T.c_House, T.n_House_people, hfs_people R, ?_⟩
  refine ⟨R.p, _, rfl, DGet.k (k := Sum.inr n) e1, _, rfl, ?_⟩
  rw [e3, decide_eq_false hm]
  exact iteT (k H1 f1)
/-- somebody's text -/
def spTextOf (K : PySem.W.Frag) : Sp := fun vs H Q _ => ∃ (O : List Addr) (R : HR) (M : HM) (b : Nat) (n x : Str), vs = [.ref R.r, .str n] ∧ HAt K O H R M b ∧ Nm n ∧ n ∈ M.ps.map (·.1) ∧ (M.ts.map (·.1)).Nodup ∧ (n, x) ∈ M.ts ∧ Tb K H ∧ ∀ H', Fr K [] H H' → Q (.str x) H'
theorem R_textOf (T : Txt w K mg base) : FnR P w K mg base CX0 9 (a_House_rules K) (spTextOf K) := by
  refine mkR T.f_House_rules sc_House_rules bd_House_rules ?_ ?_
  · rintro vs H Q E ⟨O, R, M, b, n, x, rfl, _⟩; rfl
  rintro cdv A outer s H vs Q E hr ⟨O, R, M, b, n, x, rfl, hA, hn, hm, nd, ht, tb, k⟩
  refine ⟨_, pss_cons (ps_expr (pe_methR (pv 0) T.c_House T.m_House_check_person (R_check T) (hr.mono (by decide)) pass0 (pa_cons (pv 1) pa_nil)))
    (pss_one (ps_ret (pe_dget (hu_of hr) (pe_fld (pv 0) rfl) (pv 1) (fun _ _ => rfl)))), ?_⟩
  refine ⟨_, rfl, R.r, R.dx, _, rfl, hA.ob, rfl, _, rfl, O, R, M, b, n, rfl, hA, hn, hm, tb, fun H1 f1 => ?_⟩
  refine ⟨_, rfl, R.r, _, R.dx, _, _, rfl, f1.at hA.ob, T.c_House, T.n_House_texts, hfs_texts R, ?_⟩
  exact ⟨_, rfl, R.t, _, rfl, by rw [← valV_tx nd ht]; exact DGet.k (k := Sum.inr n) (f1.at hA.txt), k H1 f1⟩
/-- a letter's way -/
def spWayOf (K : PySem.W.Frag) : Sp := fun vs H Q _ => ∃ (O : List Addr) (R : HR) (M : HM) (b i : Nat) (l : List Str), vs = [.ref R.r, .int i] ∧ HAt K O H R M b ∧ M.ws[i]? = some l ∧ Tb K H ∧ ∀ H' D, Fr K [] H H' → H D = none → H' D = some (.lst (l.map V.str)) → Q (.ref D) H'
theorem R_way (T : Txt w K mg base) : FnR P w K mg base CX0 1 (a_House_way K) (spWayOf K) := by
  refine mkR T.f_House_way sc_House_way bd_House_way ?_ ?_
  · rintro vs H Q E ⟨O, R, M, b, i, l, rfl, _⟩; rfl
  rintro cdv A outer s H vs Q E hr ⟨O, R, M, b, i, l, rfl, hA, hl, tb, k⟩
  obtain ⟨vs, e1, e2⟩ := hA.ways
  have len := Paired.length e2
  have hi : i < M.ws.length := (List.getElem?_eq_some_iff.mp hl).1
  obtain ⟨v, hv⟩ : ∃ v, vs[i]? = some v := ⟨_, List.getElem?_eq_getElem (by omega)⟩
  obtain ⟨D0, rfl, _, hD0⟩ := paired_at e2 hv hl
  refine ⟨_, pss_cons (ps_if (PW.pt (pw_or (pt_not (pt_val (pe_callB call_isi (by rfl) T.z_isinstance (by decide +kernel) (pa_cons (pv 1) (pa_cons (pe_bltn (by rfl) T.z_int (by decide +kernel) (v := .ty "int") rfl) pa_nil)))))
      (pw_or (pt_val (pe_callB call_isi (by rfl) T.z_isinstance (by decide +kernel) (pa_cons (pv 1) (pa_cons (pe_bltn (by rfl) T.z_bool (by decide +kernel) (v := .ty "bool") rfl) pa_nil))))
      (pw_or1 (pt_not (pt_chain op_le op_lt pe_int (pv 1) (pe_callB call_len_seq (by rfl) T.z_len PySem.boot_len (pa_cons (pe_fld (pv 0) rfl) pa_nil))))))))
      (pss_one ps_never) pss_nil)
    (pss_one (ps_ret (pe_callTy call_list_of (by rfl) T.z_list (by decide +kernel) (pa_cons (pe_ix ix_list (pe_fld (pv 0) rfl) (pv 1) (fun _ _ => rfl)) pa_nil)))), ?_⟩
  refine ⟨_, rfl, _, _, _, _, true, rfl, .ty _, .base (.int _), kit_ty (by decide +kernel), true, rfl, iteF ?_⟩
  refine ⟨_, rfl, _, _, _, _, false, rfl, .ty _, .base (.int _), kit_ty (by decide +kernel), false, rfl, iteF ?_⟩
  refine ⟨_, rfl, _, _, rfl, rfl, _, rfl, iteD (by omega) ?_⟩
  refine ⟨_, rfl, R.r, _, R.dx, _, _, rfl, hA.ob, T.c_House, T.n_House_ways, hfs_ways R, ?_⟩
  refine ⟨R.w, _, rfl, .inl (SqL.of e1), _, _, rfl, rfl, _, rfl, ?_⟩
  rw [decide_eq_true (show ((i : Int) < (vs.length : Int)) by omega)]
  refine iteF ?_
  refine ⟨_, rfl, R.r, _, R.dx, _, _, rfl, hA.ob, T.c_House, T.n_House_ways, hfs_ways R, ?_⟩
  refine ⟨_, rfl, R.w, vs, i, _, rfl, rfl, SqL.of e1, atI_nat hv, ?_⟩
  refine ⟨D0, _, rfl, .inl (SqL.of hD0), fun D nD => ?_⟩
  exact k _ D (Fr.new tb nD) nD upd_same
end
end So
end

section
set_option Elab.async false
set_option linter.all false
set_option maxRecDepth 100000
set_option maxHeartbeats 4000000
/-! what a house tells; a house made -/
namespace So
open PySem PySem.Spec PyProof.Rows L2 GxA TL
open GxR (TabB TabG Tabbed)
section
variable {P : Program} {w : World} {K : PySem.W.Frag} {mg : Str → Option Value} {base : Heap}
/-- what is filed -/
def spFiled (K : PySem.W.Frag) : Sp := fun vs H Q _ => ∃ (O : List Addr) (R : HR) (M : HM) (b : Nat) (n g : Str), vs = [.ref R.r, .str n, .str g] ∧ HAt K O H R M b ∧ Nm n ∧ Nm g ∧ n ∈ M.ps.map (·.1) ∧ Tb K H ∧ ∀ H' D, Fr K [] H H' → H D = none → H' D = some (.lst (nVs (M.fil n g))) → Q (.ref D) H'
theorem R_filed (T : Txt w K mg base) : FnR P w K mg base CX0 9 (a_House_filed K) (spFiled K) := by
  refine mkR T.f_House_filed sc_House_filed bd_House_filed ?_ ?_
  · rintro vs H Q E ⟨O, R, M, b, n, g, rfl, _⟩; rfl
  rintro cdv A outer s H vs Q E hr ⟨O, R, M, b, n, g, rfl, hA, hn, hg, hm, tb, k⟩
  obtain ⟨_, F1⟩ := T.f_is_name
  refine ⟨_, pss_cons (ps_expr (pe_methR (pv 0) T.c_House T.m_House_check_person (R_check T) (hr.mono (by decide)) pass0 (pa_cons (pv 1) pa_nil)))
    (pss_cons (ps_if (pt_not (pt_val (pe_cF (R_is_name T) (hr.mono (by decide)) (by rfl) T.g_is_name F1.kp (pa_cons (pv 2) pa_nil)))) (pss_one ps_never) pss_nil)
    (pss_one (ps_ret (pe_callTy call_list_of (by rfl) T.z_list (by decide +kernel) (pa_cons (pe_dget2 (hu_of hr) (pe_fld (pv 0) rfl) (pe_tup (pa_cons (pv 1) (pa_cons (pv 2) pa_nil))) (pe_lst pa_nil) ⟨rfl, rfl, rfl, rfl⟩) pa_nil))))), ?_⟩
  refine ⟨_, rfl, R.r, R.dx, _, rfl, hA.ob, rfl, _, rfl, O, R, M, b, n, rfl, hA, hn, hm, tb, fun H1 f1 => ?_⟩
  refine ⟨_, rfl, g, rfl, hg, f1.2, fun H2 f2 => ⟨true, rfl, iteF ?_⟩⟩
  have F2 := f1.trans f2
  have A2 := hA.fr0 F2
  obtain ⟨kvs, e1, _, e3⟩ := A2.fil.get [Sum.inr n, Sum.inr g]
  refine ⟨_, rfl, R.r, _, R.dx, _, _, rfl, A2.ob, T.c_House, T.n_House_filings, hfs_filings R, ?_⟩
  refine ⟨R.f, rfl, .inr ⟨_, .inl e1⟩, _, rfl, _, rfl, by show 2 ≤ sizeLine; decide, fun tp ntp => ?_⟩
  have f3 : Fr K [] H2 (L2.upd H2 tp (.tup [V.str n, V.str g])) := Fr.new F2.2 ntp
  refine ⟨by show 0 ≤ sizeLine; decide, fun el nel => ?_⟩
  have f4 := f3.trans (Fr.new (E := []) (o := .lst []) f3.2 nel)
  have etp : (L2.upd (L2.upd H2 tp (.tup [V.str n, V.str g])) el (.lst [])) tp = some (.tup ([Sum.inr n, Sum.inr g].map kV)) := by rw [upd_ne (ne_of_none upd_same nel)]; exact upd_same
  refine ⟨_, DGet.t (f4.at e1 (ntT _)) etp, ?_⟩
  rcases e3 with ⟨ev, pn⟩ | ⟨a, o, ev, _, ha, no, n', g', ek, rfl, _⟩
  · rw [ev]
    refine ⟨el, [], rfl, .inl (SqL.of upd_same), fun D nD => ?_⟩
    refine k _ D ((F2.trans f4).trans (Fr.new f4.2 nD)) ((F2.trans f4).3 _ nD) ?_
    rw [upd_same, (show M.fil n g = [] from pn n g rfl)]; rfl
  · rw [ev]
    injection ek with k1 k2
    injection k2 with k2 _
    cases k1
    cases k2
    refine ⟨a, _, rfl, .inl (SqL.of (f4.at ha)), fun D nD => ?_⟩
    exact k _ D ((F2.trans f4).trans (Fr.new f4.2 nD)) ((F2.trans f4).3 _ nD) upd_same
/-- who is outside -/
def spOutside (K : PySem.W.Frag) : Sp := fun vs H Q _ => ∃ (O : List Addr) (R : HR) (M : HM) (b : Nat) (n : Str), vs = [.ref R.r, .str n] ∧ HAt K O H R M b ∧ Nm n ∧ n ∉ M.ps.map (·.1) ∧ Tb K H ∧ ∀ H' D, Fr K [] H H' → H D = none → H' D = some (.lst (nVs (M.out n))) → Q (.ref D) H'
theorem R_outside (T : Txt w K mg base) : FnR P w K mg base CX0 9 (a_House_outside K) (spOutside K) := by
  refine mkR T.f_House_outside sc_House_outside bd_House_outside ?_ ?_
  · rintro vs H Q E ⟨O, R, M, b, n, rfl, _⟩; rfl
  rintro cdv A outer s H vs Q E hr ⟨O, R, M, b, n, rfl, hA, hn, hm, tb, k⟩
  obtain ⟨_, F1⟩ := T.f_is_name
  refine ⟨_, pss_cons (ps_if (PW.pt (pw_or (pt_not (pt_val (pe_cF (R_is_name T) (hr.mono (by decide)) (by rfl) T.g_is_name F1.kp (pa_cons (pv 1) pa_nil)))) (pw_or1 (pt_cmp (pc_din (hu_of hr) (pv 1) (pe_fld (pv 0) rfl)) rfl))))
      (pss_one ps_never) pss_nil)
    (pss_one (ps_ret (pe_callTy (call_list_dK rfl) (by rfl) T.z_list (by decide +kernel) (pa_cons (pe_dget2 (hu_of hr) (pe_fld (pv 0) rfl) (pv 1) pe_dnewK ⟨rfl, rfl, rfl, rfl⟩) pa_nil)))), ?_⟩
  refine ⟨_, rfl, n, rfl, hn, tb, fun H1 f1 => ⟨true, rfl, iteF ?_⟩⟩
  have A1 := hA.fr0 f1
  obtain ⟨kvs, e1, _, e3⟩ := A1.ppl.key n
  refine ⟨_, rfl, _, rfl, R.r, _, R.dx, _, _, rfl, A1.ob, T.c_House, T.n_House_people, hfs_people R, ?_⟩
  refine ⟨R.p, _, rfl, DGet.k (k := Sum.inr n) e1, _, rfl, ?_⟩
  rw [e3, decide_eq_false hm]
  refine iteF ?_
  obtain ⟨kv2, d1, _, d3⟩ := A1.out.get (Sum.inr n)
  refine ⟨_, rfl, R.r, _, R.dx, _, _, rfl, A1.ob, T.c_House, T.n_House_sent, hfs_sent R, ?_⟩
  refine ⟨R.s, rfl, .inl ⟨_, .inl d1⟩, _, rfl, fun el nel => ?_⟩
  have f2 := f1.trans (Fr.new (E := []) (o := .dK []) f1.2 nel)
  refine ⟨_, DGet.k (k := Sum.inr n) (by rw [upd_ne (ne_of_none d1 nel)]; exact d1), ?_⟩
  have em : ∀ ns : List Nat, (trues ns).map (fun kv => kV kv.1) = nVs ns := fun ns => by simp [kV]
  rcases d3 with ⟨ev, pn⟩ | ⟨a, o, ev, _, ha, no, n', ek, rfl, _⟩
  · rw [ev]
    refine ⟨el, [], rfl, upd_same, fun D nD => ?_⟩
    refine k _ D (f2.trans (Fr.new f2.2 nD)) (f2.3 _ nD) ?_
    rw [upd_same, (show M.out n = [] from pn n rfl)]; rfl
  · rw [ev]
    cases ek
    refine ⟨a, trues (M.out n), rfl, by rw [upd_ne (ne_of_none ha nel)]; exact ha, fun D nD => ?_⟩
    refine k _ D (f2.trans (Fr.new f2.2 nD)) (f2.3 _ nD) ?_
    rw [upd_same, em]
def HM0 (ps : List (Str × List RuleD)) (ts : List (Str × Str)) : HM := ⟨ps, ts, [], fun _ _ => [], fun _ => []⟩
def spHInit (K : PySem.W.Frag) : Sp := fun vs H Q _ => ∃ (a dx d : Addr) (ts : List (Str × Str)) (ro : Str → List RuleD) (W : List Str), vs = [.ref a, .ref d] ∧ H a = some (.ins (C_House K) dx []) ∧ H d = some (.dK (txK ts)) ∧ HsOk ts ro W ∧ Tb K H ∧
  ∀ H' R (ns : List Str), Fr K [a] H H' → R.r = a → (∀ x ∈ R.own, x = a ∨ H x = none) → ns.Perm (ts.map (·.1)) → (∀ O, (∀ e ∈ O, H e ≠ none) → a ∉ O → HAt K O H' R (HM0 (ns.map fun n => (n, ro n)) ts) 0) → Q .non H'
theorem R_House_init (T : Txt w K mg base) : FnR P w K mg base CX0 52 (a_House_init K) (spHInit K) := by
  refine mkR T.f_House_init sc_House_init bd_House_init ?_ ?_
  · rintro vs H Q E ⟨a, dx, d, ts, ro, W, rfl, _⟩; rfl
  rintro cdv A outer s H vs Q E hr ⟨a, dx, d, ts, ro, W, rfl, ha, hd, hs, tb, k⟩
  have nd := sc_House_init.nd
  obtain ⟨_, F1⟩ := T.f_read_house
  refine ⟨_, pss_cons (ps_fld (pv 0) (pe_cF (R_read_house T) (hr.mono (by decide)) (by rfl) T.g_read_house F1.kp (pa_cons (pv 1) pa_nil)) rfl)
    (pss_cons (ps_fld (pv 0) (pe_lock (pe_dc (own := [("name", 2)]) (g := gName 2) (tt := tYes) (tk := tVar 2) (tv := tDGet (tVar 1) (tVar 2)) rfl nd (pi_keys (pv 1))
      (blkOk_by (own := [("name", 2)]) (N := N_House_init) (sc := defScope s_House_init) (by decide +kernel)) (fun _ _ _ _ _ => pg_name (i := 2) nd rfl (Or.inl rfl)) (fun _ _ _ _ _ => pts_nil) (fun _ _ _ _ _ => pv 2)
      (fun _ _ _ _ _ => pe_dget (hu_of hr) (pv 1) (pv 2) (fun _ _ => rfl)))) rfl)
    (pss_cons (ps_fld (pv 0) (pe_lst pa_nil) rfl) (pss_cons (ps_fld (pv 0) pe_dnewT rfl) (pss_one (ps_fld (pv 0) pe_dnewK rfl))))), ?_⟩
  have ntD : NT (.dK (txK ts)) := ntK _
  have ad : a ≠ d := ne_of ha hd (by intro z; cases z)
  refine ⟨_, rfl, d, ts, ro, W, rfl, hd, hs, tb, fun H1 p ns f1 hp pm hP => ?_⟩
  have ap : a ≠ p := ne_of_none ha hp
  refine ⟨_, rfl, a, _, dx, [], rfl, f1.at ha, T.c_House, T.n_House_people, by decide, ?_⟩
  have g1 : Fr K [a] H1 (L2.upd H1 a (.ins (C_House K) dx (putF "people" (.ref p) []))) := (Fr.put f1.2 (f1.at ha) (by intro _ z; cases z) (List.mem_singleton.mpr rfl))
  have hd1 := g1.at (f1.at hd) ntD (fun m => ad (List.mem_singleton.mp m).symm)
  have ha1 : (L2.upd H1 a (.ins (C_House K) dx (putF "people" (.ref p) []))) a = some (.ins (C_House K) dx (putF "people" (.ref p) [])) := upd_same
  generalize L2.upd H1 a (.ins (C_House K) dx (putF "people" (.ref p) [])) = G1 at g1 hd1 ha1 ⊢
  refine ⟨d, _, hd1, trivial, fun od => ?_⟩
  refine ⟨_, rfl, d, od, rfl, .inl ⟨_, upd_same, fun D nD => ?_⟩⟩
  have nD1 : G1 D = none := upd_live _ nD
  have t1 := g1.2.lock (od := od) hd1 ntD
  have dD : d ≠ D := ne_of_none hd1 nD1
  have aD : a ≠ D := ne_of_none ha1 nD1
  have b1 : Fr K [] (L2.upd G1 d (.frz od (.dK (txK ts)))) (L2.upd (L2.upd G1 d (.frz od (.dK (txK ts)))) D (.dK [])) := Fr.new t1 nD
  have hl1 : (L2.upd (L2.upd G1 d (.frz od (.dK (txK ts)))) D (.dK [])) d = some (.frz od (.dK (txK ts))) := by rw [upd_ne dD]; exact upd_same
  refine dc_it (walk_keys (d := d) (o := od) (kvs := txK ts)) (fun i H' => Fr K [D] (L2.upd (L2.upd G1 d (.frz od (.dK (txK ts)))) D (.dK [])) H' ∧ H' D = some (.dK (txK (ts.take i))))
    ⟨Fr.refl b1.2, upd_same⟩ (fun i H' _ ⟨f, _⟩ => f.at hl1 (by intro _ z; cases z) (fun m => dD (List.mem_singleton.mp m))) (fun i x H' H2 hi ⟨f, hk⟩ hy => ?_) (fun H5 ⟨f, hk⟩ => ?_)
  · obtain ⟨rfl, kk, v, hx, rfl⟩ := hy
    obtain ⟨q, hq, eq⟩ : ∃ q, ts[i]? = some q ∧ (Sum.inr q.1, V.str q.2) = (kk, v) := by
      rw [List.getElem?_map] at hx
      exact Option.map_eq_some_iff.mp hx
    obtain ⟨n, y⟩ := q
    cases eq
    have hlk := f.at hl1 (by intro _ z; cases z) (fun m => dD (List.mem_singleton.mp m))
    refine ⟨rfl, ?_⟩
    refine ⟨_, rfl, _, rfl, _, rfl, d, _, rfl, .inl ⟨_, Sum.inr n, .inr ⟨_, hlk⟩, rfl, (valV_tx hs.nd (List.mem_of_getElem? hq)).symm⟩, ?_⟩
    have l5 : (txK (ts.take i)).length ≤ 5 := by rw [List.length_map, List.length_take]; have := hs.five; omega
    refine ⟨_, Sum.inr n, rfl, hk, Nat.lt_of_le_of_lt l5 (by decide), f.trans (Fr.put f.2 hk (ntK _) (List.mem_singleton.mpr rfl)), ?_⟩
    have knew : (Sum.inr n : Key) ∉ (txK (ts.take i)).map (·.1) := by
      intro m
      obtain ⟨q, hq', e⟩ := List.mem_map.mp m
      obtain ⟨q2, hq2, e2⟩ := List.mem_map.mp hq'
      subst e2
      have e3 : q2.1 = n := by injection e
      obtain ⟨j, hj⟩ := List.mem_iff_getElem?.mp hq2
      have hji : j < i := by
        have := (List.getElem?_eq_some_iff.mp hj).1
        rw [List.length_take] at this; omega
      rw [List.getElem?_take, if_pos hji] at hj
      have r1 : (ts.map (·.1))[j]? = some n := by rw [List.getElem?_map, hj]; exact congrArg some e3
      have r2 : (ts.map (·.1))[i]? = some n := by rw [List.getElem?_map, hq]; rfl
      have := (List.getElem?_inj (List.getElem?_eq_some_iff.mp r1).1 hs.nd).mp (r1.trans r2.symm)
      omega
    rw [upd_same, putK_new knew, List.take_add_one, hq]
    show _ = some (HO.dK (List.map _ (ts.take i ++ [(n, y)])))
    rw [List.map_append]; rfl
  · have ek : txK (ts.take (txK ts).length) = txK ts := by rw [List.length_map, List.take_length]
    rw [ek] at hk
    have hlk := f.at hl1 (by intro _ z; cases z) (fun m => dD (List.mem_singleton.mp m))
    have g2 : Fr K [] G1 (L2.upd H5 d (.dK (txK ts))) := Fr.drop1 (E := []) (Fr.unlock g1.2 hd1 ntD ((b1.mono (E' := [] ++ [D]) (by simp)).trans f) hlk) nD1
    have hDU : (L2.upd H5 d (.dK (txK ts))) D = some (.dK (txK ts)) := by rw [upd_ne dD.symm]; exact hk
    refine ⟨hlk, _, rfl, a, _, dx, _, rfl, g2.at ha1, T.c_House, T.n_House_texts, (by show 1 < 1000; decide), ?_⟩
    have haU := g2.at ha1
    generalize L2.upd H5 d (.dK (txK ts)) = U at g2 hDU haU ⊢
    have st : ∀ {Hc : Hp} {fs fs' : List (Str × V)}, Tb K Hc → Hc a = some (.ins (C_House K) dx fs) → Fr K [a] Hc (L2.upd Hc a (.ins (C_House K) dx fs')) := fun {Hc fs fs'} t e => Fr.put t e (by intro _ z; cases z) (List.mem_singleton.mpr rfl)
    have nE : ∀ {x : Addr}, a ≠ x → x ∉ [a] := fun h m => h (List.mem_singleton.mp m).symm
    have i2 := (g1.trans g2.nil).trans (st (fs' := putF "texts" (.ref D) (putF "people" (.ref p) [])) g2.2 haU)
    have hD2 : (L2.upd U a (.ins (C_House K) dx (putF "texts" (.ref D) (putF "people" (.ref p) [])))) D = some (.dK (txK ts)) := by rw [upd_ne aD.symm]; exact hDU
    have ha2 : (L2.upd U a (.ins (C_House K) dx (putF "texts" (.ref D) (putF "people" (.ref p) [])))) a = some (.ins (C_House K) dx (putF "texts" (.ref D) (putF "people" (.ref p) []))) := upd_same
    generalize L2.upd U a (.ins (C_House K) dx (putF "texts" (.ref D) (putF "people" (.ref p) []))) = G2 at i2 hD2 ha2 ⊢
    refine ⟨by show 0 ≤ sizeLine; decide, fun wa nwa => ?_⟩
    have awa : a ≠ wa := ne_of_none ha2 nwa
    have Dwa : D ≠ wa := ne_of_none hD2 nwa
    have j3 := i2.trans (Fr.new (o := .lst []) i2.2 nwa)
    have ha3' : (L2.upd G2 wa (.lst [])) a = some (.ins (C_House K) dx (putF "texts" (.ref D) (putF "people" (.ref p) []))) := by rw [upd_ne awa]; exact ha2
    refine ⟨_, rfl, a, _, dx, _, rfl, ha3', T.c_House, T.n_House_ways, (by show 2 < 1000; decide), fun fa nfa => ?_⟩
    have i3 := j3.trans (st (fs' := putF "ways" (.ref wa) (putF "texts" (.ref D) (putF "people" (.ref p) []))) j3.2 ha3')
    have hD3 : (L2.upd (L2.upd G2 wa (.lst [])) a (.ins (C_House K) dx (putF "ways" (.ref wa) (putF "texts" (.ref D) (putF "people" (.ref p) []))))) D = some (.dK (txK ts)) := by rw [upd_ne aD.symm, upd_ne Dwa]; exact hD2
    have hw3 : (L2.upd (L2.upd G2 wa (.lst [])) a (.ins (C_House K) dx (putF "ways" (.ref wa) (putF "texts" (.ref D) (putF "people" (.ref p) []))))) wa = some (.lst []) := by rw [upd_ne awa.symm]; exact upd_same
    have ha3 : (L2.upd (L2.upd G2 wa (.lst [])) a (.ins (C_House K) dx (putF "ways" (.ref wa) (putF "texts" (.ref D) (putF "people" (.ref p) []))))) a = some (.ins (C_House K) dx (putF "ways" (.ref wa) (putF "texts" (.ref D) (putF "people" (.ref p) [])))) := upd_same
    generalize L2.upd (L2.upd G2 wa (.lst [])) a (.ins (C_House K) dx (putF "ways" (.ref wa) (putF "texts" (.ref D) (putF "people" (.ref p) [])))) = G3 at i3 hD3 hw3 ha3 nfa ⊢
    have afa : a ≠ fa := ne_of_none ha3 nfa
    have Dfa : D ≠ fa := ne_of_none hD3 nfa
    have wfa : wa ≠ fa := ne_of_none hw3 nfa
    have j4 := i3.trans (Fr.new (o := .dT []) i3.2 nfa)
    have ha4' : (L2.upd G3 fa (.dT [])) a = some (.ins (C_House K) dx (putF "ways" (.ref wa) (putF "texts" (.ref D) (putF "people" (.ref p) [])))) := by rw [upd_ne afa]; exact ha3
    refine ⟨_, rfl, a, _, dx, _, rfl, ha4', T.c_House, T.n_House_filings, (by show 3 < 1000; decide), fun sa nsa => ?_⟩
    have i4 := j4.trans (st (fs' := putF "filings" (.ref fa) (putF "ways" (.ref wa) (putF "texts" (.ref D) (putF "people" (.ref p) [])))) j4.2 ha4')
    have hD4 : (L2.upd (L2.upd G3 fa (.dT [])) a (.ins (C_House K) dx (putF "filings" (.ref fa) (putF "ways" (.ref wa) (putF "texts" (.ref D) (putF "people" (.ref p) [])))))) D = some (.dK (txK ts)) := by rw [upd_ne aD.symm, upd_ne Dfa]; exact hD3
    have hw4 : (L2.upd (L2.upd G3 fa (.dT [])) a (.ins (C_House K) dx (putF "filings" (.ref fa) (putF "ways" (.ref wa) (putF "texts" (.ref D) (putF "people" (.ref p) [])))))) wa = some (.lst []) := by rw [upd_ne awa.symm, upd_ne wfa]; exact hw3
    have hf4 : (L2.upd (L2.upd G3 fa (.dT [])) a (.ins (C_House K) dx (putF "filings" (.ref fa) (putF "ways" (.ref wa) (putF "texts" (.ref D) (putF "people" (.ref p) [])))))) fa = some (.dT []) := by rw [upd_ne afa.symm]; exact upd_same
    have ha4 : (L2.upd (L2.upd G3 fa (.dT [])) a (.ins (C_House K) dx (putF "filings" (.ref fa) (putF "ways" (.ref wa) (putF "texts" (.ref D) (putF "people" (.ref p) [])))))) a = some (.ins (C_House K) dx (putF "filings" (.ref fa) (putF "ways" (.ref wa) (putF "texts" (.ref D) (putF "people" (.ref p) []))))) := upd_same
    generalize L2.upd (L2.upd G3 fa (.dT [])) a (.ins (C_House K) dx (putF "filings" (.ref fa) (putF "ways" (.ref wa) (putF "texts" (.ref D) (putF "people" (.ref p) []))))) = G4 at i4 hD4 hw4 hf4 ha4 nsa ⊢
    have asa : a ≠ sa := ne_of_none ha4 nsa
    have Dsa : D ≠ sa := ne_of_none hD4 nsa
    have wsa : wa ≠ sa := ne_of_none hw4 nsa
    have fsa : fa ≠ sa := ne_of_none hf4 nsa
    have j5 := i4.trans (Fr.new (o := .dK []) i4.2 nsa)
    have ha5' : (L2.upd G4 sa (.dK [])) a = some (.ins (C_House K) dx (putF "filings" (.ref fa) (putF "ways" (.ref wa) (putF "texts" (.ref D) (putF "people" (.ref p) []))))) := by rw [upd_ne asa]; exact ha4
    refine ⟨_, rfl, a, _, dx, _, rfl, ha5', T.c_House, T.n_House_sent, (by show 4 < 1000; decide), ?_⟩
    have i5 := j5.trans (st (fs' := putF "sent" (.ref sa) (putF "filings" (.ref fa) (putF "ways" (.ref wa) (putF "texts" (.ref D) (putF "people" (.ref p) []))))) j5.2 ha5')
    have hsN : H1 sa = none := i4.3 _ nsa
    have hfN : H1 fa = none := i3.3 _ nfa
    have hwN : H1 wa = none := i2.3 _ nwa
    have hDN : H1 D = none := g1.3 _ nD1
    refine k _ ⟨a, dx, p, D, wa, fa, sa, [], []⟩ ns (f1.nil.trans i5) rfl (fun x m => ?_) pm fun O hO aO => ?_
    · simp only [HR.own, List.mem_cons, List.append_nil, List.not_mem_nil, or_false] at m
      rcases m with rfl | rfl | rfl | rfl | rfl
      · exact .inl rfl
      · exact .inr (f1.3 _ hDN)
      · exact .inr (f1.3 _ hwN)
      · exact .inr (f1.3 _ hfN)
      · exact .inr (f1.3 _ hsN)
    have live : ∀ e ∈ a :: O, H e ≠ none := fun e m => by
      rcases List.mem_cons.mp m with rfl | m
      · rw [ha]; intro z; cases z
      · exact hO e m
    have pl := (hP (a :: O) live).go (N := [D, wa, fa, sa]) (fun x m => by
      simp only [List.mem_cons, List.not_mem_nil, or_false] at m
      rcases m with rfl | rfl | rfl | rfl
      · exact hDN
      · exact hwN
      · exact hfN
      · exact hsN) i5 fun e m => by rw [List.mem_singleton.mp m]; exact List.mem_cons_self
    have notO : ∀ {x}, H1 x = none → x ∉ O := fun e m => hO _ m (f1.3 _ e)
    refine ⟨upd_same, pl.sub fun x m => ?_, by rw [upd_ne aD.symm, upd_ne Dsa]; exact hD4, ⟨[], by rw [upd_ne awa.symm, upd_ne wsa]; exact hw4, .nil⟩, ⟨[], by rw [upd_ne afa.symm, upd_ne fsa]; exact hf4, rfl, List.nodup_nil, Nat.le_refl _, fun _ _ m => (nomatch m), fun _ _ _ _ _ => rfl⟩, ⟨[], by rw [upd_ne asa.symm]; exact upd_same, rfl, List.nodup_nil, Nat.le_refl _, fun _ _ m => (nomatch m), fun _ _ _ _ => rfl⟩, ?_, fun x m => ?_⟩
    · simp only [HR.own, List.mem_append, List.mem_cons, List.append_nil, List.not_mem_nil, or_false] at m ⊢
      rcases m with (rfl | rfl | rfl | rfl | rfl) | m <;> simp_all
    · simp only [HR.own, List.append_nil, List.nodup_cons, List.mem_cons, List.not_mem_nil, or_false, not_or, not_false_eq_true, List.nodup_nil, and_true]
      exact ⟨⟨aD, awa, afa, asa⟩, ⟨Dwa, Dfa, Dsa⟩, ⟨wfa, wsa⟩, fsa⟩
    · simp only [HR.own, List.mem_cons, List.append_nil, List.not_mem_nil, or_false] at m
      rcases m with rfl | rfl | rfl | rfl | rfl
      · exact aO
      · exact notO hDN
      · exact notO hwN
      · exact notO hfN
      · exact notO hsN
end
end So
end

section
set_option Elab.async false
set_option linter.all false
set_option maxRecDepth 100000
set_option maxHeartbeats 4000000
/-! a house's own things, changed one at a time -/
namespace So
open PySem PySem.Spec PyProof.Rows L2 GxA TL
section
variable {K : PySem.W.Frag} {O F N E E' : List Addr} {H H' : Hp} {R : HR} {M : HM} {b : Nat}
theorem Fr.dropN (f : Fr K E' H H') (d : ∀ e ∈ E', e ∈ E ∨ H e = none) : Fr K E H H' :=
  ⟨fun p o n h z => f.1 p o (fun m => (d p m).elim n fun q => by rw [q] at h; cases h) h z, f.2, f.3, f.4⟩
theorem valV_put {κ : Type} [DecidableEq κ] {kvs : List (κ × V)} {k : κ} {v : V} (h : valV kvs k = none) : valV (putK kvs k v) k = some v := by
  rw [putK_new (valV_no h)]
  unfold valV
  have : kvs.find? (fun kv => decide (kv.1 = k)) = none := by
    have := h
    unfold valV at this
    exact Option.map_eq_none_iff.mp this
  rw [List.find?_append, this]
  simp
/-- the parts are unlike one another -/
structure HR.Un (R : HR) : Prop where
  rt : R.r ≠ R.t
  rw : R.r ≠ R.w
  rf : R.r ≠ R.f
  rs : R.r ≠ R.s
  rl : R.r ∉ R.fl
  rm : R.r ∉ R.sl
  tw : R.t ≠ R.w
  tf : R.t ≠ R.f
  ts : R.t ≠ R.s
  tl : R.t ∉ R.fl
  tm : R.t ∉ R.sl
  wf : R.w ≠ R.f
  ws : R.w ≠ R.s
  wl : R.w ∉ R.fl
  wm : R.w ∉ R.sl
  fs : R.f ≠ R.s
  fl : R.f ∉ R.fl
  fm : R.f ∉ R.sl
  sl : R.s ∉ R.fl
  sm : R.s ∉ R.sl
  lf : R.fl.Nodup
  ls : R.sl.Nodup
  lm : ∀ a ∈ R.fl, a ∉ R.sl
theorem HR.un (h : R.own.Nodup) : R.Un := by
  simp only [HR.own, List.nodup_cons, List.nodup_append, List.mem_cons, List.mem_append, not_or] at h
  obtain ⟨⟨a1, a2, a3, a4, a5, a6⟩, ⟨b1, b2, b3, b4, b5⟩, ⟨c1, c2, c3, c4⟩, ⟨d1, d2, d3⟩, ⟨e1, e2⟩, f1, f2, f3⟩ := h
  exact ⟨a1, a2, a3, a4, a5, a6, b1, b2, b3, b4, b5, c1, c2, c3, c4, d1, d2, d3, e1, e2, f1, f2, fun a m z => f3 a m a z rfl⟩
theorem HR.nd (u : R.Un) : R.own.Nodup := by
  simp only [HR.own, List.nodup_cons, List.nodup_append, List.mem_cons, List.mem_append, not_or]
  exact ⟨⟨u.rt, u.rw, u.rf, u.rs, u.rl, u.rm⟩, ⟨u.tw, u.tf, u.ts, u.tl, u.tm⟩, ⟨u.wf, u.ws, u.wl, u.wm⟩, ⟨u.fs, u.fl, u.fm⟩, ⟨u.sl, u.sm⟩, u.lf, u.ls, fun a m c z e => u.lm a m (by rw [e]; exact z)⟩
theorem WayL.fr {O : List Addr} {v : V} {l : List Str} (h : WayL H O v l) (f : Fr K F H H') (i : ∀ e ∈ F, e ∈ O) : WayL H' O v l := by
  obtain ⟨D, e1, e2, e3⟩ := h
  exact ⟨D, e1, e2, f.at e3 (by intro _ z; cases z) fun m => e2 (i D m)⟩
theorem WayL.sub {O O' : List Addr} {v : V} {l : List Str} (h : WayL H O v l) (s : ∀ x ∈ O', x ∈ O) : WayL H O' v l := by
  obtain ⟨D, e1, e2, e3⟩ := h
  exact ⟨D, e1, fun m => e2 (s D m), e3⟩
theorem own_keep {κ : Type} [DecidableEq κ] {mk : List (κ × V) → HO} {d : Addr} {as : List Addr} {P : κ → Option HO → Prop} (h : OwnD mk H d as P b) (nt : ∀ kvs, NT (mk kvs)) (f : Fr K F H H') (hd : d ∉ F) (ha : ∀ a ∈ as, a ∉ F) : OwnD mk H' d as P b :=
  h.frame nt fun a o m e n => f.1 a o (m.elim (fun z => by rw [z]; exact hd) (ha a)) e n
theorem PFil.weak {fil : Str → Str → List Nat} {b b' : Nat} (hb : b ≤ b') (k : List Key) (o : Option HO) (q : PFil fil b k o) : PFil fil b' k o := by
  cases o with
  | none => exact q
  | some o => obtain ⟨n, g, e1, e2, e3⟩ := q; exact ⟨n, g, e1, e2, Nat.le_trans e3 hb⟩
theorem POut.weak {out : Str → List Nat} {b b' : Nat} (hb : b ≤ b') (k : Key) (o : Option HO) (q : POut out b k o) : POut out b' k o := by
  cases o with
  | none => exact q
  | some o => obtain ⟨n, e1, e2, e3⟩ := q; exact ⟨n, e1, e2, Nat.le_trans e3 hb⟩
/-- a new list for what is filed -/
theorem HAt.setd {D : Addr} {kvs : List (List Key × V)} {n g : Str} (t : Tb K H) (A : HAt K (D :: O) H R M b) (DO : D ∉ O) (hD : H D = some (.lst [])) (e : H R.f = some (.dT kvs)) (hn : valV kvs [Sum.inr n, Sum.inr g] = none) :
    HAt K O (L2.upd H R.f (.dT (putK kvs [Sum.inr n, Sum.inr g] (.ref D)))) { R with fl := R.fl ++ [D] } M (b + 1) := by
  have u := HR.un A.nd
  have Dn : ∀ {x}, x ∈ R.own → x ≠ D := fun m z => A.av _ m (by rw [z]; exact List.mem_cons_self)
  have pn : M.fil n g = [] := by
    obtain ⟨kv2, q1, _, q3⟩ := A.fil.get [Sum.inr n, Sum.inr g]
    rw [e] at q1
    cases q1
    rcases q3 with ⟨_, q⟩ | ⟨a, o, q, _⟩
    · exact q n g rfl
    · rw [hn] at q; cases q
  have f : Fr K [R.f] H (L2.upd H R.f (.dT (putK kvs [Sum.inr n, Sum.inr g] (.ref D)))) := Fr.put t e (ntT _) (List.mem_singleton.mpr rfl)
  have ne : ∀ {x}, x ≠ R.f → x ∉ [R.f] := fun h m => h (List.mem_singleton.mp m)
  have sb : ∀ x ∈ ({ R with fl := R.fl ++ [D] } : HR).own ++ O, x ∈ R.own ++ D :: O := fun x m => by
    simp only [HR.own, List.mem_append, List.mem_cons, List.not_mem_nil, or_false] at m ⊢
    rcases m with (rfl | rfl | rfl | rfl | rfl | (m | m) | m) | m <;> simp [*]
  have fi : ∀ e ∈ [R.f], e ∈ R.own ++ D :: O := fun x m => by rw [List.mem_singleton.mp m]; exact List.mem_append_left _ R.mf
  obtain ⟨vs, w1, w2⟩ := A.ways
  have fnew := (A.fil.weak (Nat.le_refl b) fun _ _ q => q).new ntT injT e hn hD (by intro _ z; cases z) (Dn R.mf).symm (P := PFil M.fil b) ⟨n, g, rfl, by rw [pn]; rfl, by rw [pn]; exact Nat.zero_le _⟩
  refine ⟨f.at A.ob (by intro _ z; cases z) (ne u.rf), (A.ppl.fr f fi).sub sb, f.at A.txt (ntK _) (ne u.tf), ⟨vs, f.at w1 (by intro _ z; cases z) (ne u.wf), paired_imp w2 fun v l q => (q.fr f fi).sub sb⟩, ?_,
    (own_keep A.out ntK f (ne u.fs.symm) fun a m => ne fun z => u.fm (by rw [← z]; exact m)).weak (Nat.le_succ b) (POut.weak (Nat.le_succ b)), ?_, ?_⟩
  · rcases fnew with q | q
    · exact q.weak (Nat.le_refl _) (PFil.weak (Nat.le_succ b))
    · exact absurd q u.fl
  · have nl : ∀ {x}, x ∉ R.fl → x ≠ D → x ∉ R.fl ++ [D] := fun a c m => (List.mem_append.mp m).elim a fun z => c (List.mem_singleton.mp z)
    refine HR.nd ⟨u.rt, u.rw, u.rf, u.rs, nl u.rl (Dn R.mr), u.rm, u.tw, u.tf, u.ts, nl u.tl (Dn R.mt), u.tm, u.wf, u.ws, nl u.wl (Dn R.mw), u.wm, u.fs, nl u.fl (Dn R.mf), u.fm, nl u.sl (Dn R.ms), u.sm, nd_snoc u.lf (fun m => Dn (R.mfl m) rfl), u.ls, fun a m => ?_⟩
    rcases List.mem_append.mp m with m | m
    · exact u.lm a m
    · rw [List.mem_singleton.mp m]
      exact fun z => Dn (R.msl z) rfl
  · intro a m z
    simp only [HR.own, List.mem_append, List.mem_cons, List.not_mem_nil, or_false] at m
    by_cases aD : a = D
    · subst aD; exact DO z
    · refine A.av a ?_ (List.mem_cons_of_mem _ z)
      simp only [HR.own, List.mem_append, List.mem_cons]
      rcases m with h | h | h | h | h | (h | h) | h
      · simp [h]
      · simp [h]
      · simp [h]
      · simp [h]
      · simp [h]
      · simp [h]
      · exact absurd h aD
      · simp [h]
def addF (fil : Str → Str → List Nat) (n g : Str) (i : Nat) : Str → Str → List Nat := fun m h => if m = n ∧ h = g then fil m h ++ [i] else fil m h
/-- what is filed grows -/
theorem HAt.file {a : Addr} {kvs : List (List Key × V)} {n g : Str} (i : Nat) (t : Tb K H) (A : HAt K O H R M b) (e : H R.f = some (.dT kvs)) (hv : valV kvs [Sum.inr n, Sum.inr g] = some (.ref a)) :
    a ∈ R.own ∧ H a = some (.lst (nVs (M.fil n g))) ∧ (M.fil n g).length ≤ b ∧ HAt K O (L2.upd H a (.lst (nVs (M.fil n g ++ [i])))) R { M with fil := addF M.fil n g i } (b + 1) := by
  have u := HR.un A.nd
  obtain ⟨kv2, q1, _, q3⟩ := A.fil.get [Sum.inr n, Sum.inr g]
  rw [e] at q1
  cases q1
  rcases q3 with ⟨q, _⟩ | ⟨a', o, q, am, ha, no, n', g', ek, rfl, hl⟩
  · rw [hv] at q; cases q
  rw [hv] at q
  cases q
  injection ek with k1 k2
  injection k2 with k2 _
  cases k1
  cases k2
  have f : Fr K [a] H (L2.upd H a (.lst (nVs (M.fil n g ++ [i])))) := Fr.put t ha no (List.mem_singleton.mpr rfl)
  have ne : ∀ {x}, x ≠ a → x ∉ [a] := fun h m => h (List.mem_singleton.mp m)
  have fi : ∀ e ∈ [a], e ∈ R.own ++ O := fun x m => by rw [List.mem_singleton.mp m]; exact List.mem_append_left _ (R.mfl am)
  have xa : ∀ {x}, x ∉ R.fl → x ≠ a := fun h z => h (by rw [z]; exact am)
  obtain ⟨vs, w1, w2⟩ := A.ways
  refine ⟨R.mfl am, ha, hl, f.at A.ob (by intro _ z; cases z) (ne (xa u.rl)), A.ppl.fr f fi, f.at A.txt (ntK _) (ne (xa u.tl)), ⟨vs, f.at w1 (by intro _ z; cases z) (ne (xa u.wl)), paired_imp w2 fun v l q => q.fr f fi⟩, ?_,
    (own_keep A.out ntK f (ne (xa u.sl)) fun x m => ne fun z => u.lm a am (by rw [← z]; exact m)).weak (Nat.le_succ b) (POut.weak (Nat.le_succ b)), A.nd, A.av⟩
  have ho : addF M.fil n g i n g = M.fil n g ++ [i] := by unfold addF; rw [if_pos ⟨rfl, rfl⟩]
  refine ((A.fil.weak (P' := PFil M.fil b) (Nat.le_succ b) fun _ _ q => q).set (P' := PFil (addF M.fil n g i) (b + 1)) injT u.lf u.fl e hv (by intro _ z; cases z) ⟨n, g, rfl, by rw [ho], by rw [ho, List.length_append]; exact Nat.add_le_add_right hl 1⟩ fun k' x hk hx => ?_)
  have hno : ∀ m h, k' = [Sum.inr m, Sum.inr h] → addF M.fil n g i m h = M.fil m h := fun m h ez => by
    unfold addF
    rw [if_neg]
    rintro ⟨rfl, rfl⟩
    exact hk ez
  cases x with
  | none => exact fun m h ez => by rw [hno m h ez]; exact hx m h ez
  | some o =>
    obtain ⟨m, h, e1, e2, e3⟩ := hx
    exact ⟨m, h, e1, by rw [hno m h e1]; exact e2, by rw [hno m h e1]; exact Nat.le_succ_of_le e3⟩
/-- a new dict for somebody outside -/
theorem HAt.setdo {D : Addr} {kvs : List (Key × V)} {n : Str} (t : Tb K H) (A : HAt K (D :: O) H R M b) (DO : D ∉ O) (hD : H D = some (.dK [])) (e : H R.s = some (.dK kvs)) (hn : valV kvs (Sum.inr n) = none) :
    HAt K O (L2.upd H R.s (.dK (putK kvs (Sum.inr n) (.ref D)))) { R with sl := R.sl ++ [D] } M (b + 1) := by
  have u := HR.un A.nd
  have Dn : ∀ {x}, x ∈ R.own → x ≠ D := fun m z => A.av _ m (by rw [z]; exact List.mem_cons_self)
  have pn : M.out n = [] := by
    obtain ⟨kv2, q1, _, q3⟩ := A.out.get (Sum.inr n)
    rw [e] at q1
    cases q1
    rcases q3 with ⟨_, q⟩ | ⟨a, o, q, _⟩
    · exact q n rfl
    · rw [hn] at q; cases q
  have f : Fr K [R.s] H (L2.upd H R.s (.dK (putK kvs (Sum.inr n) (.ref D)))) := Fr.put t e (ntK _) (List.mem_singleton.mpr rfl)
  have ne : ∀ {x}, x ≠ R.s → x ∉ [R.s] := fun h m => h (List.mem_singleton.mp m)
  have sb : ∀ x ∈ ({ R with sl := R.sl ++ [D] } : HR).own ++ O, x ∈ R.own ++ D :: O := fun x m => by
    simp only [HR.own, List.mem_append, List.mem_cons, List.not_mem_nil, or_false] at m ⊢
    rcases m with (rfl | rfl | rfl | rfl | rfl | m | m | m) | m <;> simp [*]
  have fi : ∀ e ∈ [R.s], e ∈ R.own ++ D :: O := fun x m => by rw [List.mem_singleton.mp m]; exact List.mem_append_left _ R.ms
  obtain ⟨vs, w1, w2⟩ := A.ways
  have fnew := A.out.new ntK injK e hn hD (ntK _) (Dn R.ms).symm (P := POut M.out b) ⟨n, rfl, by rw [pn]; rfl, by rw [pn]; exact Nat.zero_le _⟩
  refine ⟨f.at A.ob (by intro _ z; cases z) (ne u.rs), (A.ppl.fr f fi).sub sb, f.at A.txt (ntK _) (ne u.ts), ⟨vs, f.at w1 (by intro _ z; cases z) (ne u.ws), paired_imp w2 fun v l q => (q.fr f fi).sub sb⟩,
    (own_keep A.fil ntT f (ne u.fs) fun a m => ne fun z => u.sl (by rw [← z]; exact m)).weak (Nat.le_succ b) (PFil.weak (Nat.le_succ b)), ?_, ?_, ?_⟩
  · rcases fnew with q | q
    · exact q.weak (Nat.le_refl _) (POut.weak (Nat.le_succ b))
    · exact absurd q u.sm
  · have nl : ∀ {x}, x ∉ R.sl → x ≠ D → x ∉ R.sl ++ [D] := fun a c m => (List.mem_append.mp m).elim a fun z => c (List.mem_singleton.mp z)
    exact HR.nd ⟨u.rt, u.rw, u.rf, u.rs, u.rl, nl u.rm (Dn R.mr), u.tw, u.tf, u.ts, u.tl, nl u.tm (Dn R.mt), u.wf, u.ws, u.wl, nl u.wm (Dn R.mw), u.fs, u.fl, nl u.fm (Dn R.mf), u.sl, nl u.sm (Dn R.ms), u.lf, nd_snoc u.ls (fun m => Dn (R.msl m) rfl), fun a m => nl (u.lm a m) (Dn (R.mfl m))⟩
  · intro a m z
    simp only [HR.own, List.mem_append, List.mem_cons, List.not_mem_nil, or_false] at m
    by_cases aD : a = D
    · subst aD; exact DO z
    · refine A.av a ?_ (List.mem_cons_of_mem _ z)
      simp only [HR.own, List.mem_append, List.mem_cons]
      rcases m with h | h | h | h | h | h | h | h
      · simp [h]
      · simp [h]
      · simp [h]
      · simp [h]
      · simp [h]
      · simp [h]
      · simp [h]
      · exact absurd h aD
def addO (out : Str → List Nat) (n : Str) (i : Nat) : Str → List Nat := fun m => if m = n ∧ i ∉ out m then out m ++ [i] else out m
theorem trues_put (ns : List Nat) (i : Nat) : putK (trues ns) (Sum.inl (i : Int)) (V.bl true) = trues (if i ∈ ns then ns else ns ++ [i]) := by
  by_cases h : i ∈ ns
  · rw [if_pos h]
    unfold putK
    rw [if_pos (List.any_eq_true.mpr ⟨(Sum.inl (i : Int), V.bl true), List.mem_map.mpr ⟨i, h, rfl⟩, decide_eq_true rfl⟩)]
    rw [List.map_map]
    refine List.map_congr_left fun x _ => ?_
    show (if (Sum.inl (x : Int) : Key) = Sum.inl (i : Int) then (Sum.inl (x : Int), V.bl true) else (Sum.inl (x : Int), V.bl true)) = _
    split <;> rfl
  · rw [if_neg h, putK_new]
    · exact (List.map_append (l₁ := ns) (l₂ := [i])).symm
    · intro m
      obtain ⟨q, hq, e⟩ := List.mem_map.mp m
      obtain ⟨x, hx, rfl⟩ := List.mem_map.mp hq
      have : (x : Int) = (i : Int) := by injection e
      have : x = i := by omega
      subst this
      exact h hx
/-- who is outside has one more -/
theorem HAt.send {a : Addr} {kvs : List (Key × V)} {n : Str} (i : Nat) (t : Tb K H) (A : HAt K O H R M b) (e : H R.s = some (.dK kvs)) (hv : valV kvs (Sum.inr n) = some (.ref a)) :
    a ∈ R.own ∧ H a = some (.dK (trues (M.out n))) ∧ (M.out n).length ≤ b ∧ HAt K O (L2.upd H a (.dK (putK (trues (M.out n)) (Sum.inl (i : Int)) (V.bl true)))) R { M with out := addO M.out n i } (b + 1) := by
  have u := HR.un A.nd
  obtain ⟨kv2, q1, _, q3⟩ := A.out.get (Sum.inr n)
  rw [e] at q1
  cases q1
  rcases q3 with ⟨q, _⟩ | ⟨a', o, q, am, ha, no, n', ek, rfl, hl⟩
  · rw [hv] at q; cases q
  rw [hv] at q
  cases q
  cases ek
  have f : Fr K [a] H (L2.upd H a (.dK (putK (trues (M.out n)) (Sum.inl (i : Int)) (V.bl true)))) := Fr.put t ha no (List.mem_singleton.mpr rfl)
  have ne : ∀ {x}, x ≠ a → x ∉ [a] := fun h m => h (List.mem_singleton.mp m)
  have fi : ∀ e ∈ [a], e ∈ R.own ++ O := fun x m => by rw [List.mem_singleton.mp m]; exact List.mem_append_left _ (R.msl am)
  have xa : ∀ {x}, x ∉ R.sl → x ≠ a := fun h z => h (by rw [z]; exact am)
  obtain ⟨vs, w1, w2⟩ := A.ways
  refine ⟨R.msl am, ha, hl, f.at A.ob (by intro _ z; cases z) (ne (xa u.rm)), A.ppl.fr f fi, f.at A.txt (ntK _) (ne (xa u.tm)), ⟨vs, f.at w1 (by intro _ z; cases z) (ne (xa u.wm)), paired_imp w2 fun v l q => q.fr f fi⟩,
    (own_keep A.fil ntT f (ne (xa u.fm)) fun x m => ne fun z => u.lm x m (by rw [z]; exact am)).weak (Nat.le_succ b) (PFil.weak (Nat.le_succ b)), ?_, A.nd, A.av⟩
  have ho : addO M.out n i n = if i ∈ M.out n then M.out n else M.out n ++ [i] := by
    unfold addO
    by_cases h : i ∈ M.out n
    · rw [if_pos h, if_neg (fun z => z.2 h)]
    · rw [if_neg h, if_pos ⟨rfl, h⟩]
  refine A.out.set (b := b) (P' := POut (addO M.out n i) (b + 1)) injK u.ls u.sm e hv (ntK _) ⟨n, rfl, by rw [trues_put, ho], ?_⟩ (fun k' x hk hx => ?_) |>.weak (Nat.le_succ b) fun _ _ q => q
  · rw [ho]
    split
    · exact Nat.le_succ_of_le hl
    · rw [List.length_append]; exact Nat.add_le_add_right hl 1
  have hno : ∀ m, k' = Sum.inr m → addO M.out n i m = M.out m := fun m ez => by
    unfold addO
    rw [if_neg]
    rintro ⟨rfl, _⟩
    exact hk ez
  cases x with
  | none => exact fun m ez => by rw [hno m ez]; exact hx m ez
  | some o =>
    obtain ⟨m, e1, e2, e3⟩ := hx
    exact ⟨m, e1, by rw [hno m e1]; exact e2, by rw [hno m e1]; exact Nat.le_succ_of_le e3⟩
end
end So
end

section
set_option Elab.async false
set_option linter.all false
set_option maxRecDepth 100000
set_option maxHeartbeats 4000000
/-! a house that has more lists of its own -/
namespace So
open PySem PySem.Spec PyProof.Rows L2 GxA TL
def HR.gr (R : HR) (fl sl : List Addr) : HR := { R with fl := fl, sl := sl }
/-- the house as it has grown since -/
def Grown (K : PySem.W.Frag) (O : List Addr) (H0 H : Hp) (R : HR) (M : HM) (b : Nat) : Prop := Fr K R.own H0 H ∧ ∃ fl sl, HAt K O H (R.gr fl sl) M b ∧ ∀ x ∈ (R.gr fl sl).own, x ∈ R.own ∨ H0 x = none
def Live (O : List Addr) (H : Hp) : Prop := ∀ e ∈ O, H e ≠ none
section
variable {K : PySem.W.Frag} {O F N E E' : List Addr} {H0 H H' : Hp} {R : HR} {M M' : HM} {b b' : Nat}
theorem Live.fr (l : Live O H) (f : Fr K E H H') : Live O H' := fun e m z => l e m (f.3 e z)
theorem Live.no {x : Addr} (l : Live O H) (h : H x = none) : x ∉ O := fun m => l x m h
theorem HAt.grown (t : Tb K H) (A : HAt K O H R M b) : Grown K O H H R M b := ⟨Fr.refl t, R.fl, R.sl, A, fun x m => .inl m⟩
theorem HAt.oplive (A : HAt K O H R M b) : Live R.own H := fun a m => by
  have own : ∀ {κ : Type} {mk : List (κ × V) → HO} {d as} {P : κ → Option HO → Prop} [DecidableEq κ], OwnD mk H d as P b → ∀ x ∈ as, H x ≠ none := fun {κ mk d as P _} q x m z => by
    obtain ⟨kvs, _, h2, _, _, h5, _⟩ := q
    have : V.ref x ∈ kvs.map (·.2) := by rw [h2]; exact List.mem_map.mpr ⟨_, m, rfl⟩
    obtain ⟨kv, hkv, ekv⟩ := List.mem_map.mp this
    obtain ⟨o, q1, _⟩ := h5 kv.1 x (by rw [← ekv]; exact hkv)
    rw [z] at q1; cases q1
  simp only [HR.own, List.mem_cons, List.mem_append] at m
  rcases m with rfl | rfl | rfl | rfl | rfl | m | m
  · rw [A.ob]; intro z; cases z
  · rw [A.txt]; intro z; cases z
  · obtain ⟨vs, e, _⟩ := A.ways
    rw [e]; intro z; cases z
  · obtain ⟨kvs, e, _⟩ := A.fil
    rw [e]; intro z; cases z
  · obtain ⟨kvs, e, _⟩ := A.out
    rw [e]; intro z; cases z
  · exact own A.fil a m
  · exact own A.out a m
theorem gr_sub {fl sl : List Addr} (A : Live R.own H0) (h : ∀ x ∈ (R.gr fl sl).own, x ∈ R.own ∨ H0 x = none) (f : Fr K (R.gr fl sl).own H H') (F : Fr K R.own H0 H) : Fr K R.own H0 H' := by
  refine Fr.dropN (E' := (R.gr fl sl).own ++ R.own) ((F.mono fun x m => List.mem_append_right _ m).trans (f.mono fun x m => List.mem_append_left _ m)) fun e m => ?_
  rcases List.mem_append.mp m with m | m
  · exact h e m
  · exact .inl m
theorem Grown.go (G : Grown K O H0 H R M b) (hN : ∀ x ∈ N, H x = none) (f : Fr K F H H') (i : ∀ e ∈ F, e ∈ O) (l : ∀ e ∈ F, e ∈ E ∨ H0 e = none) : Fr K (R.own ++ E) H0 H' ∧ ∃ fl sl, HAt K (N ++ O) H' (R.gr fl sl) M b ∧ ∀ x ∈ (R.gr fl sl).own, x ∈ R.own ∨ H0 x = none := by
  obtain ⟨g, fl, sl, A, q⟩ := G
  refine ⟨?_, fl, sl, A.go hN f i, q⟩
  refine Fr.dropN (E' := R.own ++ F) ((g.mono fun x m => List.mem_append_left _ m).trans (f.mono fun x m => List.mem_append_right _ m)) fun e m => ?_
  rcases List.mem_append.mp m with m | m
  · exact .inl (List.mem_append_left _ m)
  · exact (l e m).imp (fun z => List.mem_append_right _ z) id
theorem Grown.fr0 (G : Grown K O H0 H R M b) (f : Fr K [] H H') : Grown K O H0 H' R M b := by
  obtain ⟨g, fl, sl, A, q⟩ := G
  exact ⟨g.trans f.nil, fl, sl, A.fr0 f, q⟩
theorem Grown.trans {fl sl : List Addr} (h : ∀ x ∈ (R.gr fl sl).own, x ∈ R.own ∨ H0 x = none) (F : Fr K R.own H0 H) (G : Grown K O H H' (R.gr fl sl) M b) : Grown K O H0 H' R M b := by
  obtain ⟨g, fl2, sl2, A, q⟩ := G
  refine ⟨?_, fl2, sl2, A, fun x m => ?_⟩
  · refine Fr.dropN (E' := R.own ++ (R.gr fl sl).own) ((F.mono fun x m => List.mem_append_left _ m).trans (g.mono fun x m => List.mem_append_right _ m)) fun e m => ?_
    rcases List.mem_append.mp m with m | m
    · exact .inl m
    · exact h e m
  · rcases q x m with z | z
    · exact h x z
    · exact .inr (F.3 x z)
theorem Grown.weak (G : Grown K O H0 H R M b) (h : b ≤ b') : Grown K O H0 H R M b' := by
  obtain ⟨g, fl, sl, A, q⟩ := G
  exact ⟨g, fl, sl, A.weak h, q⟩
theorem HAt.nl (A : HAt K O H R M b) {D : Addr} (h : H D = none) : D ∉ R.own := fun m => A.oplive D m h
/-- setdefault((n, g), []).append(i) -/
theorem Grown.file (n g : Str) (i : Nat) (l : Live O H0) (G : Grown K O H0 H R M b) : ∃ kvs : List (List Key × V), H R.f = some (.dT kvs) ∧ kvs.length ≤ b ∧
    (∀ v, valV kvs [Sum.inr n, Sum.inr g] = some v → ∃ a xs, v = .ref a ∧ ∀ H3, Fr K [] H H3 → H3 a = some (.lst xs) ∧ xs.length ≤ b ∧ Grown K O H0 (L2.upd H3 a (.lst (xs ++ [V.int i]))) R { M with fil := addF M.fil n g i } (b + 2)) ∧
    (valV kvs [Sum.inr n, Sum.inr g] = none → ∀ H3 el, Fr K [] H H3 → H3 el = some (.lst []) → H el = none → (L2.upd H3 R.f (.dT (putK kvs [Sum.inr n, Sum.inr g] (.ref el)))) el = some (.lst []) ∧
      Grown K O H0 (L2.upd (L2.upd H3 R.f (.dT (putK kvs [Sum.inr n, Sum.inr g] (.ref el)))) el (.lst ([] ++ [V.int i]))) R { M with fil := addF M.fil n g i } (b + 2)) := by
  obtain ⟨g0, fl, sl, A, q⟩ := G
  obtain ⟨kvs, e1, e2, e3⟩ := A.fil.get [Sum.inr n, Sum.inr g]
  have em : ∀ ns : List Nat, nVs (ns ++ [i]) = nVs ns ++ [V.int i] := fun ns => List.map_append
  refine ⟨kvs, e1, e2, fun v hv => ?_, fun hn H3 el f3 hel nel => ?_⟩
  · rcases e3 with ⟨z, _⟩ | ⟨a, o, z, am, ha, no, n', g', ek, rfl, hl⟩
    · rw [hv] at z; cases z
    rw [hv] at z
    cases z
    injection ek with k1 k2
    injection k2 with k2 _
    cases k1
    cases k2
    refine ⟨a, nVs (M.fil n g), rfl, fun H3 f3 => ?_⟩
    have A3 := A.fr0 f3
    obtain ⟨m3, h3, l3, A4⟩ := A3.file (n := n) (g := g) i f3.2 (f3.at e1 (ntT _)) hv
    refine ⟨h3, by rw [List.length_map]; exact l3, ?_, fl, sl, ?_, q⟩
    · refine Fr.dropN (E' := R.own ++ (R.gr fl sl).own) (((g0.trans f3.nil).mono fun x m => List.mem_append_left _ m).trans (Fr.put f3.2 h3 (by intro _ z; cases z) (List.mem_append_right _ m3))) fun e m => ?_
      rcases List.mem_append.mp m with m | m
      · exact .inl m
      · exact q e m
    · rw [← em]
      exact A4.weak (Nat.le_succ _)
  · have pn : M.fil n g = [] := by
      rcases e3 with ⟨_, z⟩ | ⟨a, o, z, _⟩
      · exact z n g rfl
      · rw [hn] at z; cases z
    have A3 : HAt K ([el] ++ O) H3 (R.gr fl sl) M b := A.go (N := [el]) (fun x m => by rw [List.mem_singleton.mp m]; exact nel) f3 fun e m => nomatch m
    have elO : el ∉ O := (l.fr g0).no nel
    have hf3 := f3.at e1 (ntT _)
    have A4 := HAt.setd (n := n) (g := g) f3.2 A3 elO hel hf3 hn
    have nef : R.f ≠ el := ne_of_none e1 nel
    have p4 : Fr K [R.f] H3 (L2.upd H3 R.f (.dT (putK kvs [Sum.inr n, Sum.inr g] (.ref el)))) := Fr.put f3.2 hf3 (ntT _) (List.mem_singleton.mpr rfl)
    have h4 : (L2.upd H3 R.f (.dT (putK kvs [Sum.inr n, Sum.inr g] (.ref el)))) el = some (.lst []) := by rw [upd_ne nef.symm]; exact hel
    obtain ⟨m5, h5, l5, A5⟩ := A4.file (a := el) (n := n) (g := g) i p4.2 upd_same (valV_put hn)
    refine ⟨h4, ?_, fl ++ [el], sl, ?_, fun x m => ?_⟩
    · have p5 : Fr K (R.own ++ [el]) H3 _ := (p4.mono fun x m => by rw [List.mem_singleton.mp m]; exact List.mem_append_left _ R.mf).trans (Fr.put (o' := .lst ([] ++ [V.int i])) p4.2 h4 (by intro _ z; cases z) (List.mem_append_right _ (List.mem_singleton.mpr rfl)))
      refine Fr.dropN (((g0.trans f3.nil).mono fun x m => List.mem_append_left _ m).trans p5) fun e m => ?_
      rcases List.mem_append.mp m with m | m
      · exact .inl m
      · rw [List.mem_singleton.mp m]; exact .inr (g0.3 _ nel)
    · have := A5
      rw [em, pn] at this
      exact this
    · have m' : x ∈ (R.gr fl sl).own ∨ x = el := by
        simp only [HR.own, HR.gr, List.mem_append, List.mem_cons, List.not_mem_nil, or_false] at m ⊢
        rcases m with h | h | h | h | h | (h | h) | h <;> simp [h]
      rcases m' with m | rfl
      · exact q x m
      · exact .inr (g0.3 _ nel)
/-- setdefault(n, {})[i] = True -/
theorem Grown.send (n : Str) (i : Nat) (l : Live O H0) (G : Grown K O H0 H R M b) : ∃ kvs : List (Key × V), H R.s = some (.dK kvs) ∧ kvs.length ≤ b ∧
    (∀ v, valV kvs (Sum.inr n) = some v → ∃ a xs, v = .ref a ∧ H a = some (.dK xs) ∧ xs.length ≤ b ∧ Grown K O H0 (L2.upd H a (.dK (putK xs (Sum.inl (i : Int)) (V.bl true)))) R { M with out := addO M.out n i } (b + 2)) ∧
    (valV kvs (Sum.inr n) = none → ∀ el, H el = none → (L2.upd (L2.upd H el (.dK [])) R.s (.dK (putK kvs (Sum.inr n) (.ref el)))) el = some (.dK []) ∧ (L2.upd H el (.dK [])) R.s = some (.dK kvs) ∧
      Grown K O H0 (L2.upd (L2.upd (L2.upd H el (.dK [])) R.s (.dK (putK kvs (Sum.inr n) (.ref el)))) el (.dK (putK [] (Sum.inl (i : Int)) (V.bl true)))) R { M with out := addO M.out n i } (b + 2)) := by
  obtain ⟨g0, fl, sl, A, q⟩ := G
  obtain ⟨kvs, e1, e2, e3⟩ := A.out.get (Sum.inr n)
  refine ⟨kvs, e1, e2, fun v hv => ?_, fun hn el nel => ?_⟩
  · rcases e3 with ⟨z, _⟩ | ⟨a, o, z, am, ha, no, n', ek, rfl, hl⟩
    · rw [hv] at z; cases z
    rw [hv] at z
    cases z
    cases ek
    obtain ⟨m3, h3, l3, A4⟩ := A.send (n := n) i g0.2 e1 hv
    refine ⟨a, trues (M.out n), rfl, h3, by rw [List.length_map]; exact l3, ?_, fl, sl, A4.weak (Nat.le_succ _), q⟩
    refine Fr.dropN (E' := R.own ++ (R.gr fl sl).own) ((g0.mono fun x m => List.mem_append_left _ m).trans (Fr.put g0.2 h3 (ntK _) (List.mem_append_right _ m3))) fun e m => ?_
    rcases List.mem_append.mp m with m | m
    · exact .inl m
    · exact q e m
  · have pn : M.out n = [] := by
      rcases e3 with ⟨_, z⟩ | ⟨a, o, z, _⟩
      · exact z n rfl
      · rw [hn] at z; cases z
    have f3 : Fr K [] H (L2.upd H el (.dK [])) := Fr.new g0.2 nel
    have hel : (L2.upd H el (.dK [])) el = some (.dK []) := upd_same
    have A3 : HAt K ([el] ++ O) (L2.upd H el (.dK [])) (R.gr fl sl) M b := A.go (N := [el]) (fun x m => by rw [List.mem_singleton.mp m]; exact nel) f3 fun e m => nomatch m
    have elO : el ∉ O := (l.fr g0).no nel
    have nef : R.s ≠ el := ne_of_none e1 nel
    have hf3 := f3.at e1 (ntK _)
    generalize L2.upd H el (.dK []) = H3 at f3 hel A3 hf3 ⊢
    have A4 := HAt.setdo (n := n) f3.2 A3 elO hel hf3 hn
    have p4 : Fr K [R.s] H3 (L2.upd H3 R.s (.dK (putK kvs (Sum.inr n) (.ref el)))) := Fr.put f3.2 hf3 (ntK _) (List.mem_singleton.mpr rfl)
    have h4 : (L2.upd H3 R.s (.dK (putK kvs (Sum.inr n) (.ref el)))) el = some (.dK []) := by rw [upd_ne nef.symm]; exact hel
    obtain ⟨m5, h5, l5, A5⟩ := A4.send (a := el) (n := n) i p4.2 upd_same (valV_put hn)
    refine ⟨h4, hf3, ?_, fl, sl ++ [el], ?_, fun x m => ?_⟩
    · have p5 : Fr K (R.own ++ [el]) H3 _ := (p4.mono fun x m => by rw [List.mem_singleton.mp m]; exact List.mem_append_left _ R.ms).trans (Fr.put (o' := .dK (putK [] (Sum.inl (i : Int)) (V.bl true))) p4.2 h4 (ntK _) (List.mem_append_right _ (List.mem_singleton.mpr rfl)))
      refine Fr.dropN (((g0.trans f3.nil).mono fun x m => List.mem_append_left _ m).trans p5) fun e m => ?_
      rcases List.mem_append.mp m with m | m
      · exact .inl m
      · rw [List.mem_singleton.mp m]; exact .inr (g0.3 _ nel)
    · have := A5
      rw [pn] at this
      exact this
    · have m' : x ∈ (R.gr fl sl).own ∨ x = el := by
        simp only [HR.own, HR.gr, List.mem_append, List.mem_cons, List.not_mem_nil, or_false] at m ⊢
        rcases m with h | h | h | h | h | h | h | h <;> simp [h]
      rcases m' with m | rfl
      · exact q x m
      · exact .inr (g0.3 _ nel)
end
end So
end

section
set_option Elab.async false
set_option linter.all false
set_option maxRecDepth 100000
set_option maxHeartbeats 4000000
/-! a letter sorted by somebody's rules -/
namespace So
open PySem PySem.Spec PyProof.Rows L2 GxA TL
open GxR (TabB TabG Tabbed)
/-- people whose rules are rules -/
structure PWf (W : List Str) (ps : List (Str × List RuleD)) : Prop where
  nm : ∀ q ∈ ps, Nm q.1
  nd : (ps.map (·.1)).Nodup
  rw : ∀ q ∈ ps, ∀ r ∈ q.2, RWf W r
  few : (ps.flatMap (·.2)).length ≤ 20
  five : ps.length ≤ 5
  four : W.length ≤ 4
theorem PWf.len {W : List Str} {ps : List (Str × List RuleD)} (h : PWf W ps) {n : Str} {rs : List RuleD} (m : (n, rs) ∈ ps) : rs.length ≤ 20 := by
  refine Nat.le_trans ?_ h.few
  obtain ⟨a, b, e⟩ := List.append_of_mem m
  rw [e, List.flatMap_append, List.flatMap_cons, List.length_append, List.length_append]
  show rs.length ≤ _
  have : ((n, rs) : Str × List RuleD).2.length = rs.length := rfl
  omega
def HM.na (M : HM) : List Str := M.ps.map (·.1)
def insOf (M : HM) (S : WS) : List Str := S.rs.filter fun x => decide (x ∈ M.na)
def outsOf (M : HM) (S : WS) : List Str := S.rs.filter fun x => decide (x ∉ M.na)
def filD (fil : Str → Str → List Nat) (n : Str) (i : Nat) (gs : List Str) : Str → Str → List Nat := gs.foldl (fun f g => addF f n g i) fil
def outD (out : Str → List Nat) (i : Nat) (ms : List Str) : Str → List Nat := ms.foldl (fun o m => addO o m i) out
def HM.sorted (M : HM) (n : Str) (S : WS) (i : Nat) : HM := { M with fil := filD M.fil n i S.fs, out := outD M.out i (outsOf M S) }
section
variable {P : Program} {w : World} {K : PySem.W.Frag} {mg : Str → Option Value} {base : Heap}
variable {O F N E E' : List Addr} {H0 H H' : Hp} {R : HR} {M M' : HM} {b b' : Nat}
theorem PplAt.val {p : Addr} {ps : List (Str × List RuleD)} (h : PplAt K O H p ps) (nd : (ps.map (·.1)).Nodup) {n : Str} {rs : List RuleD} (m : (n, rs) ∈ ps) :
    ∃ kvs D as, H p = some (.dK kvs) ∧ valV kvs (Sum.inr n) = some (.ref D) ∧ H D = some (.lst (as.map V.ref)) ∧ RulesAt K H as rs := by
  obtain ⟨_, kvs, e1, e2, e3⟩ := h
  obtain ⟨i, hi⟩ := List.mem_iff_getElem?.mp m
  obtain ⟨kv, hkv⟩ : ∃ kv, kvs[i]? = some kv := by
    have : kvs.length = ps.length := by have := congrArg List.length e2; simpa using this
    have hl := (List.getElem?_eq_some_iff.mp hi).1
    exact ⟨_, List.getElem?_eq_getElem (by omega)⟩
  obtain ⟨D, as, ev, hD, hR⟩ := (e3 i kv _ hkv hi).rules
  have ek : kv.1 = Sum.inr n := by
    have h1 : (kvs.map (·.1))[i]? = some kv.1 := by rw [List.getElem?_map, hkv]; rfl
    rw [e2, List.getElem?_map, hi] at h1
    exact (Option.some.inj h1).symm
  have nk : (kvs.map (·.1)).Nodup := by
    rw [e2, show (ps.map fun q => (Sum.inr q.1 : Key)) = (ps.map (·.1)).map Sum.inr from by rw [List.map_map]; rfl]
    exact List.Pairwise.map _ (fun a b h z => h (by injection z)) nd
  refine ⟨kvs, D, as, e1, valV_some nk ?_, hD, hR⟩
  have := List.mem_of_getElem? hkv
  rw [← ek, ← ev]
  exact this
theorem Grown.unlock {d : Addr} {u : HO} {od : Obj} (t : Tb K H) (e : H d = some u) (nt : NT u) (m : d ∈ O) (G : Grown K O (L2.upd H d (.frz od u)) H' R M b) (hk : H' d = some (.frz od u)) : Grown K O H (L2.upd H' d u) R M b := by
  obtain ⟨g, fl, sl, A, q⟩ := G
  refine ⟨Fr.unlock t e nt g hk, fl, sl, A.fr (F := [d]) (Fr.put g.2 hk (by intro _ z; cases z) (List.mem_singleton.mpr rfl)) fun x z => by rw [List.mem_singleton.mp z]; exact m, fun x z => (q x z).imp id (upd_live x)⟩
theorem Grown.ob (G : Grown K O H0 H R M b) : H R.r = some (.ins (C_House K) R.dx (hfs R)) := by
  obtain ⟨_, fl, sl, A, _⟩ := G
  exact A.ob
theorem Grown.ppl (G : Grown K O H0 H R M b) : PplAt K O H R.p M.ps := by
  obtain ⟨g, fl, sl, A, q⟩ := G
  exact A.ppl.sub fun x m => List.mem_append_right _ m
theorem Grown.at {a : Addr} {o : HO} (G : Grown K O H0 H R M b) (e : H0 a = some o) (n : NT o) (m : a ∉ R.own) : H a = some o := G.1.1 a o m e n
theorem filD_snoc {fil : Str → Str → List Nat} {n g : Str} {i j : Nat} {gs : List Str} (h : gs[j]? = some g) : filD fil n i (gs.take (j + 1)) = addF (filD fil n i (gs.take j)) n g i := by
  unfold filD
  rw [List.take_add_one, h, List.foldl_append]; rfl
theorem take_filter {p : Str → Bool} {gs : List Str} {j : Nat} {g : Str} (h : gs[j]? = some g) : (gs.take (j + 1)).filter p = (gs.take j).filter p ++ (if p g = true then [g] else []) := by
  rw [List.take_add_one, h, List.filter_append]
  show _ ++ List.filter p [g] = _
  rw [List.filter_cons]; rfl
theorem big_lt {n : Nat} (h : n ≤ 2000000) : n < sizeLine := Nat.lt_of_le_of_lt h (by decide)
def spSortAt (K : PySem.W.Frag) : Sp := fun vs H Q _ => ∃ (O : List Addr) (R : HR) (M : HM) (b : Nat) (n : Str) (lt : Addr) (i : Nat) (L : Ltr) (W : List Str) (rs : List RuleD), vs = [.ref R.r, .str n, .ref lt, .int i] ∧ HAt K O H R M b ∧ Live O H ∧ PWf W M.ps ∧ (n, rs) ∈ M.ps ∧ LtAt H lt L ∧ LWf L ∧ b ≤ 1000000 ∧ Tb K H ∧
  ∀ H' D, Grown K (D :: O) H H' R (M.sorted n (thru L 0 rs S0) i) (b + 4000) → H D = none → H' D = some (.lst ((insOf M (thru L 0 rs S0)).map V.str)) → Q (.ref D) H'
theorem R_sort_at (T : Txt w K mg base) : FnR P w K mg base CX0 82 (a_House_sort_at K) (spSortAt K) := by
  refine mkR T.f_House_sort_at sc_House_sort_at bd_House_sort_at ?_ ?_
  · rintro vs H Q E ⟨O, R, M, b, n, lt, i, L, W, rs, rfl, _⟩; rfl
  rintro cdv A outer s H vs Q E hr ⟨O, R, M, b, n, lt, i, L, W, rs, rfl, hA, hlv, pw, hm, hL, hl, hb, tb, k⟩
  have nd := sc_House_sort_at.nd
  obtain ⟨_, F1⟩ := T.f_way_through
  refine ⟨_, PSs.nox <| pss_cons (ps_set (i := 4) nd rfl (.inl rfl) (pe_cF (R_way_through T) (hr.mono (by decide)) (by rfl) T.g_way_through F1.kp (pa_cons (pe_dget (hu_of hr) (pe_fld (pv 0) rfl) (pv 1) (fun _ _ => rfl)) (pa_cons (pv 2) pa_nil))))
    (pss_cons (ps_lock (ps_for PassesOwn.never rfl (pi_keys (pe_fld (pv 4) rfl)) (pg_name (i := 5) nd rfl (.inl rfl))
      (pss_one (ps_expr (pe_bm PySem.F.plainAttrs_list PySem.F.slot_list_append PySem.F.type_list_append mt_append (pe_dsetT (hu_of hr) (pe_fld (pv 0) rfl) (pe_tup (pa_cons (pv 1) (pa_cons (pv 5) pa_nil))) (pe_lst pa_nil) ⟨rfl, rfl, rfl, rfl⟩) (pa_cons (pv 3) pa_nil))))))
    (pss_cons (ps_lock (ps_for PassesOwn.never rfl (pi_keys (pe_fld (pv 4) rfl)) (pg_name (i := 6) nd rfl (.inl rfl))
      (pss_one (ps_if (pt_cmp (pc_dnotin (hu_of hr) (pv 6) (pe_fld (pv 0) rfl)) rfl) (pss_one (ps_dput (hu_of hr) (pe_dsetd (pe_fld (pv 0) rfl) (pv 6) pe_dnewK ⟨rfl, rfl, rfl, rfl⟩) (pv 3) pe_bl (by rfl))) pss_nil))))
    (pss_one (ps_ret (pe_lock (pe_lc (own := [("receiver", 6)]) (g := gName 6) (tt := tB (tDIn (tVar 6) (tFld K (tVar 0) "people"))) (te := tVar 6) rfl nd (pi_keys (pe_fld (pv 4) rfl))
      (blkOk_by (own := [("receiver", 6)]) (N := N_House_sort_at) (sc := defScope s_House_sort_at) (by decide +kernel)) (fun _ _ _ _ _ => pg_name (i := 6) nd rfl (Or.inl rfl)) (fun _ _ _ _ _ => pts_one (pt_cmp (pc_din (hu_of hr) (pv 6) (pe_fld (pv 0) rfl)) rfl)) (fun _ _ _ _ _ => pv 6))))))), ?_⟩
  obtain ⟨kvs, D0, as, e1, ev, hD0, hR⟩ := hA.ppl.val pw.nd hm
  refine ⟨_, rfl, R.r, _, R.dx, _, _, rfl, hA.ob, T.c_House, T.n_House_people, hfs_people R, _, rfl, R.p, _, rfl, by rw [← ev]; exact DGet.k (k := Sum.inr n) e1, ?_⟩
  refine ⟨_, rfl, D0, lt, as, rs, L, W, rfl, hD0, hR, fun r m => pw.rw _ hm r m, pw.len hm, hL, hl, tb, fun H1 a Wa f1 hw hex hsz => ?_⟩
  revert k
  generalize thru L 0 rs S0 = S at hw hsz
  intro k
  have A1 : HAt K ([Wa.fd, Wa.rd, a] ++ O) H1 R M b := hA.go (N := [Wa.fd, Wa.rd, a]) (fun x m => by
    simp only [List.mem_cons, List.not_mem_nil, or_false] at m
    rcases m with rfl | rfl | rfl <;> exact hex _ (by simp [WA.ex])) f1 fun e m => nomatch m
  obtain ⟨dw, ew⟩ := hw.ob
  obtain ⟨kf, ef, qf⟩ := hw.fd
  obtain ⟨kr, er, qr⟩ := hw.rd
  have afd : a ≠ Wa.fd := ne_of ew ef (by intro z; cases z)
  have ard : a ≠ Wa.rd := ne_of ew er (by intro z; cases z)
  have frd : Wa.fd ≠ Wa.rd := hw.n3
  have l1 : Live ([Wa.fd, Wa.rd, a] ++ O) H1 := fun e m => by
    rcases List.mem_append.mp m with m | m
    · simp only [List.mem_cons, List.not_mem_nil, or_false] at m
      rcases m with rfl | rfl | rfl
      · rw [ef]; intro z; cases z
      · rw [er]; intro z; cases z
      · rw [ew]; intro z; cases z
    · exact (hlv.fr f1) e m
  have nO : ∀ {x}, x ∈ [Wa.fd, Wa.rd, a] → x ∉ R.own := fun m z => A1.av _ z (List.mem_append_left _ m)
  have nfd := nO (x := Wa.fd) (by simp)
  have nrd := nO (x := Wa.rd) (by simp)
  have naa := nO (x := a) (by simp)
  have lenf : kf.length = S.fs.length := by have := congrArg List.length qf; simpa using this
  have lenr : kr.length = S.rs.length := by have := congrArg List.length qr; simpa using this
  -- what is filed
  refine ⟨Wa.fd, _, ef, trivial, fun od => ?_⟩
  have aL : (L2.upd H1 Wa.fd (.frz od (.dK kf))) a = some (.ins (C_Way K) dw (wfs L Wa S.st)) := by rw [upd_ne afd]; exact ew
  refine ⟨_, rfl, a, _, dw, _, _, rfl, aL, T.c_Way, T.n_Way_folders, rfl, Wa.fd, od, rfl, .inl ⟨kf, upd_same, ?_⟩⟩
  have fL : Fr K [Wa.fd] H1 (L2.upd H1 Wa.fd (.frz od (.dK kf))) := Fr.lockd f1.2 ef (ntK _)
  have AL := A1.fr fL fun e m => by rw [List.mem_singleton.mp m]; simp
  have lL := l1.fr fL
  have G0 := AL.grown fL.2
  refine for_it (walk_keys (d := Wa.fd) (o := od) (kvs := kf)) (fun j σ H' => (∃ y z, σ = [some (V.ref R.r), some (.str n), some (.ref lt), some (.int i), some (.ref a), y, z]) ∧ Grown K ([Wa.fd, Wa.rd, a] ++ O) (L2.upd H1 Wa.fd (.frz od (.dK kf))) H' R { M with fil := filD M.fil n i (S.fs.take j) } (b + 2 * j))
    ⟨⟨_, _, rfl⟩, G0⟩ (fun j σ H' _ ⟨_, G⟩ => G.at upd_same (by intro _ z; cases z) nfd) (fun j x σ H' H2 hj ⟨⟨y, z, es⟩, G⟩ hy => ?_) (fun σ H' ⟨⟨y, z, es⟩, G⟩ => ?_)
  · subst es
    obtain ⟨rfl, kk, v, hx, rfl⟩ := hy
    obtain ⟨g, hg, rfl⟩ : ∃ g, S.fs[j]? = some g ∧ Sum.inr g = kk := by
      have h1 : (kf.map (·.1))[j]? = some kk := by rw [List.getElem?_map, hx]; rfl
      rw [qf, List.getElem?_map] at h1
      exact Option.map_eq_some_iff.mp h1
    have hj2 : j < 1000 := by have := hsz.fs; omega
    obtain ⟨kvs, d1, d2, c1, c2⟩ := G.file n g i lL
    refine ⟨_, rfl, R.r, _, R.dx, _, _, rfl, G.ob, T.c_House, T.n_House_filings, hfs_filings R, R.f, rfl, .inr ⟨_, .inl d1⟩, _, rfl, _, rfl, by show 2 ≤ sizeLine; decide, fun tp ntp => ⟨by show 0 ≤ sizeLine; decide, fun el nel => ?_⟩⟩
    have f3 : Fr K [] H2 (L2.upd H2 tp (.tup [V.str n, V.str g])) := Fr.new G.1.2 ntp
    have f4 := f3.trans (Fr.new (E := []) (o := .lst []) f3.2 nel)
    have etp : (L2.upd (L2.upd H2 tp (.tup [V.str n, V.str g])) el (.lst [])) tp = some (.tup ([Sum.inr n, Sum.inr g].map kV)) := by rw [upd_ne (ne_of_none upd_same nel)]; exact upd_same
    have fin : ∀ {H6 : Hp}, Grown K ([Wa.fd, Wa.rd, a] ++ O) (L2.upd H1 Wa.fd (.frz od (.dK kf))) H6 R { M with fil := addF (filD M.fil n i (S.fs.take j)) n g i } (b + 2 * j + 2) → Grown K ([Wa.fd, Wa.rd, a] ++ O) (L2.upd H1 Wa.fd (.frz od (.dK kf))) H6 R { M with fil := filD M.fil n i (S.fs.take (j + 1)) } (b + 2 * (j + 1)) := fun q => by
      rw [filD_snoc hg]
      exact q.weak (by omega)
    refine ⟨kvs, [Sum.inr n, Sum.inr g], tp, f4.at d1 (ntT _), rfl, etp, big_lt (by omega), fun v hv => ?_, fun hn => ?_⟩
    · obtain ⟨a0, xs, rfl, c3⟩ := c1 v hv
      obtain ⟨h3, l3, G3⟩ := c3 _ f4
      exact ⟨.inl ⟨rfl, _, SqL.of h3⟩, _, rfl, a0, xs, _, rfl, rfl, h3, big_lt (by omega), ⟨_, _, rfl⟩, fin G3⟩
    · obtain ⟨h3, G3⟩ := c2 hn _ el f4 upd_same (upd_live _ nel)
      exact ⟨.inl ⟨rfl, _, SqL.of h3⟩, _, rfl, el, [], _, rfl, rfl, h3, by decide, ⟨_, _, rfl⟩, fin G3⟩
  subst es
  rw [lenf, List.take_length] at G
  have hlk := G.at upd_same (by intro _ z; cases z) nfd
  refine ⟨hlk, ?_⟩
  have GU := Grown.unlock f1.2 ef (ntK _) (by simp) G hlk
  have hszf := hsz.fs
  have eUr := GU.at er (ntK _) nrd
  have eUa := GU.at ew (by intro _ z; cases z) naa
  generalize L2.upd H' Wa.fd (.dK kf) = U at GU eUr eUa ⊢
  clear G hlk
  obtain ⟨gU, fl1, sl1, AU, qU⟩ := GU
  have lU := l1.fr gU
  have nO1 : ∀ {x}, x ∈ [Wa.fd, Wa.rd, a] → x ∉ (R.gr fl1 sl1).own := fun m z => AU.av _ z (List.mem_append_left _ m)
  -- who is outside
  refine ⟨Wa.rd, _, eUr, trivial, fun od2 => ?_⟩
  have aL2 : (L2.upd U Wa.rd (.frz od2 (.dK kr))) a = some (.ins (C_Way K) dw (wfs L Wa S.st)) := by rw [upd_ne ard]; exact eUa
  refine ⟨_, rfl, a, _, dw, _, _, rfl, aL2, T.c_Way, T.n_Way_receivers, rfl, Wa.rd, od2, rfl, .inl ⟨kr, upd_same, ?_⟩⟩
  have fL2 : Fr K [Wa.rd] U (L2.upd U Wa.rd (.frz od2 (.dK kr))) := Fr.lockd gU.2 eUr (ntK _)
  have AL2 := AU.fr fL2 fun e m => by rw [List.mem_singleton.mp m]; simp
  have lL2 := lU.fr fL2
  refine for_it (walk_keys (d := Wa.rd) (o := od2) (kvs := kr)) (fun j σ H' => (∃ y z, σ = [some (V.ref R.r), some (.str n), some (.ref lt), some (.int i), some (.ref a), y, z]) ∧ Grown K ([Wa.fd, Wa.rd, a] ++ O) (L2.upd U Wa.rd (.frz od2 (.dK kr))) H' (R.gr fl1 sl1) { M with fil := filD M.fil n i S.fs, out := outD M.out i ((S.rs.take j).filter fun x => decide (x ∉ M.na)) } (b + 2 * S.fs.length + 2 * j))
    ⟨⟨_, _, rfl⟩, AL2.grown fL2.2⟩ (fun j σ H' _ ⟨_, G⟩ => G.at upd_same (by intro _ z; cases z) (nO1 (by simp))) (fun j x σ H' H2 hj ⟨⟨y, z, es⟩, G⟩ hy => ?_) (fun σ H' ⟨⟨y, z, es⟩, G⟩ => ?_)
  · subst es
    obtain ⟨rfl, kk, v, hx, rfl⟩ := hy
    obtain ⟨g, hg, rfl⟩ : ∃ g, S.rs[j]? = some g ∧ Sum.inr g = kk := by
      have h1 : (kr.map (·.1))[j]? = some kk := by rw [List.getElem?_map, hx]; rfl
      rw [qr, List.getElem?_map] at h1
      exact Option.map_eq_some_iff.mp h1
    have hj2 : j < 1000 := by have := hsz.rs; omega
    obtain ⟨kp, p1, _, p3⟩ := G.ppl.key g
    have p3 : (valV kp (Sum.inr g)).isSome = decide (g ∈ M.na) := p3
    refine ⟨_, rfl, _, rfl, R.r, _, R.dx, _, _, rfl, G.ob, T.c_House, T.n_House_people, hfs_people R, R.p, _, rfl, DGet.k (k := Sum.inr g) p1, _, rfl, ?_⟩
    rw [p3]
    have tf := take_filter (p := fun x => decide (x ∉ M.na)) hg
    by_cases hgm : g ∈ M.na
    · rw [decide_eq_true hgm]
      refine iteF ⟨⟨_, _, rfl⟩, ?_⟩
      rw [tf, if_neg (by simpa using hgm), List.append_nil]
      exact G.weak (by omega)
    rw [decide_eq_false hgm]
    refine iteT ?_
    have fin : ∀ {H6 : Hp}, Grown K ([Wa.fd, Wa.rd, a] ++ O) (L2.upd U Wa.rd (.frz od2 (.dK kr))) H6 (R.gr fl1 sl1) { M with fil := filD M.fil n i S.fs, out := addO (outD M.out i ((S.rs.take j).filter fun x => decide (x ∉ M.na))) g i } (b + 2 * S.fs.length + 2 * j + 2) →
        Grown K ([Wa.fd, Wa.rd, a] ++ O) (L2.upd U Wa.rd (.frz od2 (.dK kr))) H6 (R.gr fl1 sl1) { M with fil := filD M.fil n i S.fs, out := outD M.out i ((S.rs.take (j + 1)).filter fun x => decide (x ∉ M.na)) } (b + 2 * S.fs.length + 2 * (j + 1)) := fun q => by
      rw [tf, if_pos (by simpa using hgm)]
      unfold outD
      rw [List.foldl_append]
      exact q.weak (by omega)
    obtain ⟨kvs, d1, d2, _, c2⟩ := G.send g i lL2
    refine ⟨_, rfl, R.r, _, R.dx, _, _, rfl, G.ob, T.c_House, T.n_House_sent, hfs_sent R, R.s, rfl, .inl ⟨_, .inl d1⟩, _, rfl, fun el nel => ?_⟩
    have f3 : Fr K [] H2 (L2.upd H2 el (.dK [])) := Fr.new G.1.2 nel
    refine ⟨kvs, Sum.inr g, f3.at d1 (ntK _), rfl, big_lt (by omega), fun v hv => ?_, fun hn => ?_⟩
    · obtain ⟨kv3, d3, _, c1, _⟩ := (G.fr0 f3).send g i lL2
      have : kv3 = kvs := by
        have q := f3.at d1 (ntK _)
        exact injK _ _ (Option.some.inj (d3.symm.trans q))
      subst this
      obtain ⟨a0, xs, rfl, h3, l3, G3⟩ := c1 v hv
      exact ⟨_, rfl, a0, _, rfl, DPut.k (k := Sum.inl (i : Int)) h3 (big_lt (by omega)), ⟨_, _, rfl⟩, fin G3⟩
    · obtain ⟨h3, h4, G3⟩ := c2 hn el nel
      exact ⟨_, rfl, el, _, rfl, DPut.k (k := Sum.inl (i : Int)) h3 (by decide), ⟨_, _, rfl⟩, fin G3⟩
  subst es
  rw [lenr, List.take_length] at G
  have hlk := G.at upd_same (by intro _ z; cases z) (nO1 (x := Wa.rd) (by simp))
  refine ⟨hlk, ?_⟩
  have GV := Grown.unlock gU.2 eUr (ntK _) (by simp) G hlk
  have hszr := hsz.rs
  have eVr := GV.at eUr (ntK _) (nO1 (x := Wa.rd) (by simp))
  have eVa := GV.at eUa (by intro _ z; cases z) (nO1 (x := a) (by simp))
  have G1 := Grown.trans qU gU GV
  generalize L2.upd H' Wa.rd (.dK kr) = U2 at GV G1 eVr eVa ⊢
  -- who is inside
  refine ⟨Wa.rd, _, eVr, trivial, fun od3 => ?_⟩
  have aL3 : (L2.upd U2 Wa.rd (.frz od3 (.dK kr))) a = some (.ins (C_Way K) dw (wfs L Wa S.st)) := by rw [upd_ne ard]; exact eVa
  refine ⟨_, rfl, a, _, dw, _, _, rfl, aL3, T.c_Way, T.n_Way_receivers, rfl, Wa.rd, od3, rfl, .inl ⟨kr, upd_same, fun D nD => ?_⟩⟩
  have nDU : U2 D = none := upd_live _ nD
  have t3 : Tb K (L2.upd U2 Wa.rd (.frz od3 (.dK kr))) := G1.1.2.lock eVr (ntK _)
  have rD : Wa.rd ≠ D := ne_of_none eVr nDU
  have b1 : Fr K [] (L2.upd U2 Wa.rd (.frz od3 (.dK kr))) (L2.upd (L2.upd U2 Wa.rd (.frz od3 (.dK kr))) D (.lst [])) := Fr.new t3 nD
  have hl3 := b1.at (p := Wa.rd) upd_same
  have fL3 : Fr K [Wa.rd] U2 (L2.upd U2 Wa.rd (.frz od3 (.dK kr))) := Fr.lockd G1.1.2 eVr (ntK _)
  obtain ⟨gV, fl2, sl2, AV, qV⟩ := G1
  have AL3 := (AV.fr fL3 fun e m => by rw [List.mem_singleton.mp m]; simp).go (N := [D]) (fun x m => by rw [List.mem_singleton.mp m]; exact nD) b1 (fun e m => nomatch m)
  refine lc_it (walk_keys (d := Wa.rd) (o := od3) (kvs := kr)) (fun j H' => Fr K [D] (L2.upd (L2.upd U2 Wa.rd (.frz od3 (.dK kr))) D (.lst [])) H' ∧ H' D = some (.lst (((S.rs.take j).filter fun x => decide (x ∈ M.na)).map V.str)))
    ⟨Fr.refl b1.2, upd_same⟩ (fun j H' _ ⟨f, _⟩ => f.at hl3 (by intro _ z; cases z) (fun m => rD (List.mem_singleton.mp m))) (fun j x H' H2 hj ⟨f, hd⟩ hy => ?_) (fun H' ⟨f, hd⟩ => ?_)
  · obtain ⟨rfl, kk, v, hx, rfl⟩ := hy
    obtain ⟨g, hg, rfl⟩ : ∃ g, S.rs[j]? = some g ∧ Sum.inr g = kk := by
      have h1 : (kr.map (·.1))[j]? = some kk := by rw [List.getElem?_map, hx]; rfl
      rw [qr, List.getElem?_map] at h1
      exact Option.map_eq_some_iff.mp h1
    have A2 := AL3.fr f fun e m => by rw [List.mem_singleton.mp m]; simp
    obtain ⟨kp, p1, _, p3⟩ := A2.ppl.key g
    have p3 : (valV kp (Sum.inr g)).isSome = decide (g ∈ M.na) := p3
    refine ⟨rfl, _, rfl, _, rfl, R.r, _, R.dx, _, _, rfl, A2.ob, T.c_House, T.n_House_people, hfs_people R, R.p, _, rfl, DGet.k (k := Sum.inr g) p1, _, rfl, ?_⟩
    rw [p3]
    have tf := take_filter (p := fun x => decide (x ∈ M.na)) hg
    by_cases hgm : g ∈ M.na
    · rw [decide_eq_true hgm]
      refine iteT ⟨_, rfl, _, hd, ?_, f.trans (Fr.put f.2 hd (by intro _ z; cases z) (List.mem_singleton.mpr rfl)), ?_⟩
      · rw [List.length_map]
        have := List.length_filter_le (fun x => decide (x ∈ M.na)) (S.rs.take j)
        rw [List.length_take] at this
        exact big_lt (by omega)
      · rw [upd_same, tf, if_pos (by simpa using hgm), List.map_append]; rfl
    · rw [decide_eq_false hgm]
      refine iteF ⟨f, ?_⟩
      rw [tf, if_neg (by simpa using hgm), List.append_nil]
      exact hd
  rw [lenr, List.take_length] at hd
  have hlk3 := f.at hl3 (by intro _ z; cases z) (fun m => rD (List.mem_singleton.mp m))
  have gW : Fr K [] U2 (L2.upd H' Wa.rd (.dK kr)) := Fr.drop1 (E := []) (Fr.unlock gV.2 eVr (ntK _) ((b1.mono (E' := [] ++ [D]) (by simp)).trans f) hlk3) nDU
  have AW := AV.go (N := [D]) (fun x m => by rw [List.mem_singleton.mp m]; exact nDU) gW (fun e m => nomatch m)
  refine ⟨hlk3, k _ D ⟨f1.nil.trans (gV.trans gW.nil), fl2, sl2, (AW.weak ?_).sub ?_, fun x m => (qV x m).imp id (f1.3 x)⟩ ((f1.nil.trans gV).3 _ nDU) (by rw [upd_ne rD.symm]; exact hd)⟩
  · omega
  · intro x m
    rcases List.mem_cons.mp m with rfl | m
    · simp
    · simp [m]
end
end So
end

section
set_option Elab.async false
set_option linter.all false
set_option maxRecDepth 100000
set_option maxHeartbeats 4000000
/-! a letter delivered -/
namespace So
open PySem PySem.Spec PyProof.Rows L2 GxA TL
open GxR (TabB TabG Tabbed)
theorem addN_nd {ns : List Str} {n : Str} (h : ns.Nodup) : (addN ns n).Nodup := by
  unfold addN
  split
  · exact h
  · rename_i e; exact nd_snoc h e
def addL (line : List Str) (xs : List Str) : List Str := xs.foldl addN line
def HM.rulesOf (M : HM) (n : Str) : List RuleD := (M.ps.lookup n).getD []
/-- the k-th of those reached sorts the letter -/
def vis (L : Ltr) (i : Nat) (k : Nat) (s : HM × List Str) : HM × List Str :=
  match s.2[k]? with
  | none => s
  | some n => (s.1.sorted n (thru L 0 (s.1.rulesOf n) S0) i, addL s.2 (insOf s.1 (thru L 0 (s.1.rulesOf n) S0)))
def visN (L : Ltr) (i : Nat) : Nat → HM × List Str → HM × List Str
  | 0, s => s
  | k + 1, s => vis L i k (visN L i k s)
def HM.delivered (M : HM) (n : Str) (L : Ltr) : HM := { (visN L M.ws.length 5 (M, [n])).1 with ws := M.ws ++ [(visN L M.ws.length 5 (M, [n])).2] }
theorem lookup_of {ps : List (Str × List RuleD)} (nd : (ps.map (·.1)).Nodup) {n : Str} {rs : List RuleD} (m : (n, rs) ∈ ps) : ps.lookup n = some rs := by
  induction ps with
  | nil => cases m
  | cons q ps ih =>
    obtain ⟨k, v⟩ := q
    have h := List.nodup_cons.mp (show (k :: ps.map (·.1)).Nodup from nd)
    rw [List.lookup_cons]
    rcases List.mem_cons.mp m with e | m
    · cases e
      rw [beq_self_eq_true]
    · have : n ≠ k := fun e => h.1 (by rw [← e]; exact List.mem_map.mpr ⟨_, m, rfl⟩)
      rw [beq_eq_false_iff_ne.mpr this]
      exact ih h.2 m
theorem rules_of {M : HM} {W : List Str} (pw : PWf W M.ps) {n : Str} (m : n ∈ M.na) : (n, M.rulesOf n) ∈ M.ps := by
  obtain ⟨q, hq, e⟩ := List.mem_map.mp m
  have : (n, q.2) ∈ M.ps := by rw [← e]; exact hq
  unfold HM.rulesOf
  rw [lookup_of pw.nd this]
  exact this
/-- a line of people, each once -/
structure LnOk (na line : List Str) : Prop where
  nd : line.Nodup
  mem : ∀ x ∈ line, x ∈ na
theorem LnOk.addN {na line : List Str} (h : LnOk na line) {x : Str} (m : x ∈ na) : LnOk na (addN line x) := by
  refine ⟨addN_nd h.nd, fun y hy => ?_⟩
  unfold So.addN at hy
  split at hy
  · exact h.mem y hy
  · rcases List.mem_append.mp hy with z | z
    · exact h.mem y z
    · rw [List.mem_singleton.mp z]; exact m
theorem LnOk.addL {na : List Str} : ∀ {xs line : List Str}, LnOk na line → (∀ x ∈ xs, x ∈ na) → LnOk na (addL line xs)
  | [], _, h, _ => h
  | x :: xs, _, h, m => LnOk.addL (xs := xs) (h.addN (m x List.mem_cons_self)) fun y hy => m y (List.mem_cons_of_mem _ hy)
theorem LnOk.le {na line : List Str} (h : LnOk na line) : line.length ≤ na.length := by
  have := nodup_le na (line.map Sum.inr) (List.Pairwise.map _ (fun a b q z => q (by injection z)) h.nd) fun x m => by
    obtain ⟨y, hy, rfl⟩ := List.mem_map.mp m
    exact ⟨y, h.mem y hy, rfl⟩
  rwa [List.length_map] at this
theorem addN_pre (l : List Str) (x : Str) : ∃ t, addN l x = l ++ t := by
  unfold addN
  split
  · exact ⟨[], (List.append_nil _).symm⟩
  · exact ⟨[x], rfl⟩
theorem addL_pre : ∀ (xs l : List Str), ∃ t, addL l xs = l ++ t
  | [], l => ⟨[], (List.append_nil _).symm⟩
  | x :: xs, l => by
    obtain ⟨t, e⟩ := addN_pre l x
    obtain ⟨u, e2⟩ := addL_pre xs (addN l x)
    exact ⟨t ++ u, by rw [← List.append_assoc, ← e]; exact e2⟩
theorem vis_ps (L : Ltr) (i k : Nat) (s : HM × List Str) : (vis L i k s).1.ps = s.1.ps ∧ (vis L i k s).1.ws = s.1.ws ∧ (vis L i k s).1.ts = s.1.ts := by
  unfold vis
  cases s.2[k]? <;> exact ⟨rfl, rfl, rfl⟩
theorem visN_ps (L : Ltr) (i : Nat) (s : HM × List Str) : ∀ k, (visN L i k s).1.ps = s.1.ps ∧ (visN L i k s).1.ws = s.1.ws ∧ (visN L i k s).1.ts = s.1.ts
  | 0 => ⟨rfl, rfl, rfl⟩
  | k + 1 => by
    obtain ⟨a, b, c⟩ := vis_ps L i k (visN L i k s)
    obtain ⟨d, e, f⟩ := visN_ps L i s k
    exact ⟨a.trans d, b.trans e, c.trans f⟩
theorem visN_ln (L : Ltr) (i : Nat) {s : HM × List Str} (h : LnOk s.1.na s.2) : ∀ k, LnOk s.1.na (visN L i k s).2
  | 0 => h
  | k + 1 => by
    have ih := visN_ln L i h k
    show LnOk _ (vis L i k (visN L i k s)).2
    unfold vis
    cases (visN L i k s).2[k]? with
    | none => exact ih
    | some n =>
      refine ih.addL fun x m => ?_
      have := (List.mem_filter.mp m).2
      have := of_decide_eq_true this
      unfold HM.na at this ⊢
      rw [(visN_ps L i s k).1] at this
      exact this
/-- once all are through, nothing changes -/
theorem visN_end (L : Ltr) (i : Nat) (s : HM × List Str) (k : Nat) (h : (visN L i k s).2.length ≤ k) : ∀ j, visN L i (k + j) s = visN L i k s
  | 0 => rfl
  | j + 1 => by
    show vis L i (k + j) (visN L i (k + j) s) = _
    rw [visN_end L i s k h j]
    unfold vis
    rw [List.getElem?_eq_none (by omega)]
theorem flatStrs (xs : List Str) : (xs.map V.str).all flatV = true := by
  rw [List.all_map]
  exact List.all_eq_true.mpr fun _ _ => rfl
section
variable {P : Program} {w : World} {K : PySem.W.Frag} {mg : Str → Option Value} {base : Heap}
variable {O F N E E' : List Addr} {H0 H H' : Hp} {R : HR} {M M' : HM} {b b' : Nat}
theorem paired_snoc {α β : Type} {P : α → β → Prop} {xs : List α} {ys : List β} {x : α} {y : β} (h : Paired P xs ys) (e : P x y) : Paired P (xs ++ [x]) (ys ++ [y]) := by
  induction h with
  | nil => exact .cons e .nil
  | cons a _ ih => exact .cons a ih
theorem HAt.addWay {D : Addr} {vs : List V} {line : List Str} (t : Tb K H) (A : HAt K (D :: O) H R M b) (DO : D ∉ O) (hD : H D = some (.lst (line.map V.str))) (e : H R.w = some (.lst vs)) : HAt K O (L2.upd H R.w (.lst (vs ++ [.ref D]))) R { M with ws := M.ws ++ [line] } b := by
  have u := HR.un A.nd
  have Dn : D ∉ R.own := fun m => A.av _ m List.mem_cons_self
  have f : Fr K [R.w] H (L2.upd H R.w (.lst (vs ++ [.ref D]))) := Fr.put t e (by intro _ z; cases z) (List.mem_singleton.mpr rfl)
  have ne : ∀ {x}, x ≠ R.w → x ∉ [R.w] := fun h m => h (List.mem_singleton.mp m)
  have fi : ∀ e ∈ [R.w], e ∈ R.own ++ D :: O := fun x m => by rw [List.mem_singleton.mp m]; exact List.mem_append_left _ R.mw
  have sb : ∀ x ∈ R.own ++ O, x ∈ R.own ++ D :: O := fun x m => (List.mem_append.mp m).elim (fun z => List.mem_append_left _ z) fun z => List.mem_append_right _ (List.mem_cons_of_mem _ z)
  obtain ⟨vs2, w1, w2⟩ := A.ways
  rw [e] at w1
  cases w1
  refine ⟨f.at A.ob (by intro _ z; cases z) (ne u.rw), (A.ppl.fr f fi).sub sb, f.at A.txt (ntK _) (ne u.tw), ⟨_, upd_same, ?_⟩, own_keep A.fil ntT f (ne u.wf.symm) fun a m => ne fun z => u.wl (by rw [← z]; exact m), own_keep A.out ntK f (ne u.ws.symm) fun a m => ne fun z => u.wm (by rw [← z]; exact m), A.nd, fun a m z => A.av a m (List.mem_cons_of_mem _ z)⟩
  have q1 : Paired (WayL (L2.upd H R.w (.lst (vs ++ [.ref D]))) (R.own ++ O)) vs M.ws := paired_imp w2 fun v l q => (q.fr f fi).sub sb
  have q2 : WayL (L2.upd H R.w (.lst (vs ++ [.ref D]))) (R.own ++ O) (.ref D) line := ⟨D, rfl, fun m => (List.mem_append.mp m).elim Dn DO, by
    rw [upd_ne (fun z => Dn (by rw [z]; exact R.mw))]; exact hD⟩
  exact paired_snoc q1 q2
def spDeliver (K : PySem.W.Frag) : Sp := fun vs H Q _ => ∃ (O : List Addr) (R : HR) (M : HM) (b : Nat) (n : Str) (lt l : Addr) (L : Ltr) (W : List Str), vs = [.ref R.r, .str n, .ref lt] ∧ HAt K O H R M b ∧ Live O H ∧ PWf W M.ps ∧ n ∈ M.na ∧ lt ∈ O ∧ l ∈ O ∧ H lt = some (.tup [.str L.snd, .ref l, .int L.sz]) ∧ H l = some (.lst (L.ws.map V.str)) ∧ LWf L ∧ b ≤ 900000 ∧ M.ws.length ≤ 1000 ∧ Tb K H ∧
  ∀ H', Grown K O H H' R (M.delivered n L) (b + 20000) → Q (.int (M.ws.length : Int)) H'
theorem R_deliver (T : Txt w K mg base) : FnR P w K mg base CX0 90 (a_House_deliver K) (spDeliver K) := by
  refine mkR T.f_House_deliver sc_House_deliver bd_House_deliver ?_ ?_
  · rintro vs H Q E ⟨O, R, M, b, n, lt, l, L, W, rfl, _⟩; rfl
  rintro cdv A outer s H vs Q E hr ⟨O, R, M, b, n, lt, l, L, W, rfl, hA, hlv, pw, hn, ltO, lO, hlt, hll, hl, hb, hws, tb, k⟩
  have nd := sc_House_deliver.nd
  obtain ⟨_, F1⟩ := T.f_check_letter
  refine ⟨_, PSs.nox <| pss_cons (ps_expr (pe_methR (pv 0) T.c_House T.m_House_check_person (R_check T) (hr.mono (by decide)) pass0 (pa_cons (pv 1) pa_nil)))
    (pss_cons (ps_expr (pe_cF (R_check_letter T) (hr.mono (by decide)) (by rfl) T.g_check_letter F1.kp (pa_cons (pv 2) pa_nil)))
    (pss_cons (ps_set (i := 3) nd rfl (.inl rfl) (pe_callB call_len_seq (by rfl) T.z_len PySem.boot_len (pa_cons (pe_fld (pv 0) rfl) pa_nil)))
    (pss_cons (ps_set (i := 4) nd rfl (.inl rfl) (pe_lst (pa_cons (pv 1) pa_nil)))
    (pss_cons (ps_set (i := 5) nd rfl (.inl rfl) pe_int)
    (pss_cons (ps_while PassesOwn.never (pt_cmpR op_lt (pv 5) (pe_callB call_len_seq (by rfl) T.z_len PySem.boot_len (pa_cons (pv 4) pa_nil)) (nomark _))
      (pss_cons (ps_set (i := 6) nd rfl (.inl rfl) (pe_methR (pv 0) T.c_House T.m_House_sort_at (R_sort_at T) (hr.mono (by decide)) pass0 (pa_cons (pe_ix ix_list (pv 4) (pv 5) (fun _ _ => rfl)) (pa_cons (pv 2) (pa_cons (pv 3) pa_nil)))))
      (pss_cons (ps_for PassesOwn.never rfl (pi_list (pv 6)) (pg_name (i := 7) nd rfl (.inl rfl))
        (pss_one (ps_if (pt_cmpR op_notIn_seq (pv 7) (pv 4) (by rfl)) (pss_one (ps_expr (pe_bm PySem.F.plainAttrs_list PySem.F.slot_list_append PySem.F.type_list_append mt_append (pv 4) (pa_cons (pv 7) pa_nil)))) pss_nil)))
      (pss_one (ps_aug (i := 5) nd rfl (.inl rfl) pe_int ip_add)))))
    (pss_cons (ps_expr (pe_bm PySem.F.plainAttrs_list PySem.F.slot_list_append PySem.F.type_list_append mt_append (pe_fld (pv 0) rfl) (pa_cons (pv 4) pa_nil)))
    (pss_one (ps_ret (pv 3))))))))), ?_⟩
  have nmn : Nm n := by
    obtain ⟨q, hq, e⟩ := List.mem_map.mp hn
    rw [← e]; exact pw.nm q hq
  refine ⟨_, rfl, R.r, R.dx, _, rfl, hA.ob, rfl, _, rfl, O, R, M, b, n, rfl, hA, nmn, hn, tb, fun H1 f1 => ?_⟩
  refine ⟨_, rfl, lt, L, rfl, ⟨l, f1.at hlt, f1.at hll⟩, hl, f1.2, fun H2 f2 => ?_⟩
  have F2 := f1.trans f2
  have A2 := hA.fr0 F2
  obtain ⟨wv, w1, w2⟩ := A2.ways
  have wlen := Paired.length w2
  refine ⟨_, rfl, R.r, _, R.dx, _, _, rfl, A2.ob, T.c_House, T.n_House_ways, hfs_ways R, R.w, _, rfl, .inl (SqL.of w1), ?_⟩
  refine ⟨_, rfl, by show 1 ≤ sizeLine; decide, fun Dr nDr => ?_⟩
  rw [wlen]
  have f3 : Fr K [] H2 (L2.upd H2 Dr (.lst [V.str n])) := Fr.new F2.2 nDr
  have DrO : Dr ∉ O := (hlv.fr F2).no nDr
  have Dro : Dr ∉ R.own := A2.nl nDr
  have lv2 := hlv.fr F2
  have A3 : HAt K (Dr :: O) (L2.upd H2 Dr (.lst [V.str n])) R M b := A2.go (N := [Dr]) (fun x m => by rw [List.mem_singleton.mp m]; exact nDr) f3 fun e m => nomatch m
  have hlt2 := F2.at hlt
  have hll2 := F2.at hll
  have ln0 : LnOk M.na [n] := ⟨by simp, fun x m => by rw [List.mem_singleton.mp m]; exact hn⟩
  have nal : M.na.length ≤ 5 := by unfold HM.na; rw [List.length_map]; exact pw.five
  refine ⟨fun m σ H' => ∃ k, m = 5 - k ∧ k ≤ 5 ∧ (∃ y z, σ = [some (V.ref R.r), some (.str n), some (.ref lt), some (.int (M.ws.length : Int)), some (.ref Dr), some (.int (k : Int)), y, z]) ∧ Fr K R.own H2 H' ∧ k ≤ (visN L M.ws.length k (M, [n])).2.length ∧ H' Dr = some (.lst ((visN L M.ws.length k (M, [n])).2.map V.str)) ∧
      ∃ fl sl, HAt K (Dr :: O) H' (R.gr fl sl) (visN L M.ws.length k (M, [n])).1 (b + 4000 * k) ∧ ∀ x ∈ (R.gr fl sl).own, x ∈ R.own ∨ H2 x = none,
    ⟨5, 0, rfl, by decide, ⟨_, _, rfl⟩, f3.nil, Nat.zero_le _, upd_same, R.fl, R.sl, A3, fun x m => .inl m⟩, ?_⟩
  rintro m σ H' ⟨k0, rfl, hk5, ⟨y, z, es⟩, g, hkl, hDr, fl, sl, Ak, q⟩
  subst es
  have lnk := visN_ln L M.ws.length (s := (M, [n])) ln0 k0
  have le5 : (visN L M.ws.length k0 (M, [n])).2.length ≤ 5 := Nat.le_trans lnk.le nal
  obtain ⟨eps, ews, ets⟩ := visN_ps L M.ws.length (M, [n]) k0
  have eS : visN L M.ws.length (k0 + 1) (M, [n]) = vis L M.ws.length k0 (visN L M.ws.length k0 (M, [n])) := rfl
  have eE := visN_end L M.ws.length (M, [n]) k0
  generalize visN L M.ws.length k0 (M, [n]) = st at *
  obtain ⟨Mk, line⟩ := st
  have eps : Mk.ps = M.ps := eps
  have ena : Mk.na = M.na := by unfold HM.na; rw [eps]
  refine ⟨_, rfl, _, rfl, Dr, _, rfl, .inl (SqL.of hDr), _, _, rfl, rfl, _, rfl, ?_⟩
  rw [List.length_map]
  by_cases hk : k0 < line.length
  · refine iteD (by exact Int.ofNat_lt.mpr hk) ?_
    have hk4 : k0 < 5 := by have : line.length ≤ 5 := le5; omega
    have hx : line[k0]? = some line[k0] := List.getElem?_eq_getElem hk
    generalize line[k0] = x at hx
    have xm : x ∈ Mk.na := by rw [ena]; exact lnk.mem x (List.mem_of_getElem? hx)
    have pwk : PWf W Mk.ps := by rw [eps]; exact pw
    have lvk : Live (Dr :: O) H' := fun e m => by
      rcases List.mem_cons.mp m with rfl | m
      · rw [hDr]; intro z; cases z
      · exact (lv2.fr g) e m
    refine ⟨fun σ H' => ∃ k, 5 - k < 5 - k0 ∧ (∃ m, m = 5 - k ∧ k ≤ 5 ∧ (∃ y z, σ = [some (V.ref R.r), some (.str n), some (.ref lt), some (.int (M.ws.length : Int)), some (.ref Dr), some (.int (k : Int)), y, z]) ∧ Fr K R.own H2 H' ∧ k ≤ (visN L M.ws.length k (M, [n])).2.length ∧ H' Dr = some (.lst ((visN L M.ws.length k (M, [n])).2.map V.str)) ∧
      ∃ fl sl, HAt K (Dr :: O) H' (R.gr fl sl) (visN L M.ws.length k (M, [n])).1 (b + 4000 * k) ∧ ∀ x ∈ (R.gr fl sl).own, x ∈ R.own ∨ H2 x = none), fun σ' H' ⟨k, lt, m, e, r⟩ => ⟨m, by rw [e]; exact lt, k, e, r⟩, ?_⟩
    have nlt : lt ∉ R.own := fun z => A2.av lt z ltO
    have nll : l ∉ R.own := fun z => A2.av l z lO
    refine ⟨_, rfl, R.r, R.dx, _, rfl, Ak.ob, rfl, _, rfl, _, rfl, Dr, _, k0, _, rfl, rfl, SqL.of hDr, atI_nat (by rw [List.getElem?_map, hx]; rfl), _, rfl, _, rfl, ?_⟩
    refine ⟨Dr :: O, R.gr fl sl, Mk, b + 4000 * k0, x, lt, M.ws.length, L, W, Mk.rulesOf x, rfl, Ak, lvk, pwk, rules_of pwk xm, ⟨l, g.at hlt2 (by intro _ z; cases z) nlt, g.at hll2 (by intro _ z; cases z) nll⟩, hl, by omega, g.2, fun H5 D G5 nD hD => ?_⟩
    have G6 := Grown.trans q g G5
    obtain ⟨g6, fl6, sl6, A6, q6⟩ := G6
    have DD : Dr ≠ D := ne_of_none hDr nD
    have hDr5 : H5 Dr = some (.lst (line.map V.str)) := G5.at hDr (by intro _ z; cases z) (fun m => Ak.av Dr m List.mem_cons_self)
    generalize hS : thru L 0 (Mk.rulesOf x) S0 = S at *
    have ev : vis L M.ws.length k0 (Mk, line) = (Mk.sorted x S M.ws.length, addL line (insOf Mk S)) := by
      unfold vis
      show (match line[k0]? with | none => _ | some n => _) = _
      rw [hx]
      show (Mk.sorted x (thru L 0 (Mk.rulesOf x) S0) _, _) = _
      rw [hS]
    refine ⟨_, rfl, D, rfl, ⟨_, SqL.of hD⟩, ?_⟩
    refine for_it (walk_list (K := K) (a := D) (xs := (insOf Mk S).map V.str)) (fun j σ H' => (∃ y, σ = [some (V.ref R.r), some (.str n), some (.ref lt), some (.int (M.ws.length : Int)), some (.ref Dr), some (.int (k0 : Int)), some (.ref D), y]) ∧ Fr K [Dr] H5 H' ∧ H' Dr = some (.lst ((addL line ((insOf Mk S).take j)).map V.str)))
      ⟨⟨_, rfl⟩, Fr.refl g6.2, hDr5⟩ (fun j σ H' _ ⟨_, f, _⟩ => SqL.of (f.at hD (by intro _ z; cases z) (fun m => DD (List.mem_singleton.mp m).symm))) (fun j x' σ H' H7 hj ⟨⟨y, es⟩, f, hd⟩ hy => ?_) (fun σ H' ⟨⟨y, es⟩, f, hd⟩ => ?_)
    · subst es
      obtain ⟨rfl, hx'⟩ := hy
      obtain ⟨u, hu, rfl⟩ := at_map hx'
      have ea : addL line ((insOf Mk S).take (j + 1)) = addN (addL line ((insOf Mk S).take j)) u := by
        unfold addL
        rw [List.take_add_one, hu, List.foldl_append]; rfl
      have lnj : LnOk M.na (addL line ((insOf Mk S).take j)) := lnk.addL fun v m => by
        have := (List.mem_filter.mp (List.mem_of_mem_take m)).2
        rw [← ena]
        exact of_decide_eq_true this
      have l5 := Nat.le_trans lnj.le nal
      refine ⟨_, rfl, _, rfl, Dr, _, rfl, .inl (SqL.of hd), rfl, flatStrs _, _, rfl, ?_⟩
      show (if (if true = true then !inV (V.str u) ((addL line ((insOf Mk S).take j)).map V.str) else inV (V.str u) ((addL line ((insOf Mk S).take j)).map V.str)) = true then _ else _)
      rw [if_pos rfl, inV_strs]
      by_cases hm : u ∈ addL line ((insOf Mk S).take j)
      · rw [List.contains_iff_mem.mpr hm]
        refine iteF ⟨⟨_, rfl⟩, f, ?_⟩
        rw [ea]
        unfold addN
        rw [if_pos hm]
        exact hd
      · rw [show (addL line ((insOf Mk S).take j)).contains u = false from by rw [Bool.eq_false_iff]; exact fun z => hm (List.contains_iff_mem.mp z)]
        refine iteT ⟨_, rfl, .inl ⟨rfl, _, SqL.of hd⟩, _, rfl, Dr, _, _, rfl, rfl, hd, by rw [List.length_map]; exact big_lt (by omega), ⟨_, rfl⟩, f.trans (Fr.put f.2 hd (by intro _ z; cases z) (List.mem_singleton.mpr rfl)), ?_⟩
        rw [ea]
        unfold addN
        rw [if_neg hm, upd_same, List.map_append]; rfl
    · subst es
      rw [List.length_map, List.take_length] at hd
      refine ⟨_, rfl, _, _, rfl, rfl, k0 + 1, by omega, _, rfl, by omega, ⟨_, _, rfl⟩, ?_, ?_, ?_, fl6, sl6, ?_, q6⟩
      · refine Fr.dropN (E' := R.own ++ [Dr]) ((g6.mono fun e m => List.mem_append_left _ m).trans (f.mono fun e m => List.mem_append_right _ m)) fun e m => ?_
        rcases List.mem_append.mp m with m | m
        · exact .inl m
        · rw [List.mem_singleton.mp m]; exact .inr nDr
      · rw [eS, ev]
        obtain ⟨t, et⟩ := addL_pre (insOf Mk S) line
        show k0 + 1 ≤ (addL line (insOf Mk S)).length
        rw [et, List.length_append]
        omega
      · rw [eS, ev]; exact hd
      · rw [eS, ev]
        refine ((A6.fr f fun e m => by rw [List.mem_singleton.mp m]; simp).sub fun e m => List.mem_cons_of_mem _ m).weak (by omega)
  · refine iteN (fun z => hk (Int.ofNat_lt.mp z)) ?_
    have hend : visN L M.ws.length 5 (M, [n]) = (Mk, line) := by
      have := eE (Nat.le_of_not_lt hk) (5 - k0)
      rw [show k0 + (5 - k0) = 5 by omega] at this
      exact this
    obtain ⟨vs, v1, v2⟩ := Ak.ways
    have vl := Paired.length v2
    have ews : Mk.ws = M.ws := ews
    have p := Ak.addWay g.2 DrO hDr v1
    refine ⟨_, rfl, R.r, _, R.dx, _, _, rfl, Ak.ob, T.c_House, T.n_House_ways, hfs_ways R, .inl ⟨rfl, _, SqL.of v1⟩, _, rfl, R.w, vs, _, rfl, rfl, v1, big_lt (by rw [vl, ews]; omega), ?_⟩
    refine ⟨_, rfl, k _ ⟨F2.nil.trans (g.trans (Fr.put g.2 v1 (by intro _ z; cases z) R.mw)), fl, sl, ?_, fun x m => (q x m).imp id (F2.3 x)⟩⟩
    have ed : M.delivered n L = { Mk with ws := Mk.ws ++ [line] } := by
      unfold HM.delivered
      rw [hend, ews]
    rw [ed]
    exact p.weak (by omega)
end
end So
end

section
set_option Elab.async false
set_option linter.all false
set_option maxRecDepth 100000
set_option maxHeartbeats 4000000
/-! rules taught; what is refused -/
namespace So
open PySem PySem.Spec PyProof.Rows L2 GxA TL
open GxR (TabB TabG Tabbed)
def putN {α : Type} (ps : List (Str × α)) (n : Str) (v : α) : List (Str × α) := if (ps.any fun q => decide (q.1 = n)) = true then ps.map (fun q => if q.1 = n then (q.1, v) else q) else ps ++ [(n, v)]
theorem any_keys {α : Type} {kvs : List (Key × V)} {ps : List (Str × α)} {n : Str} (h : kvs.map (·.1) = ps.map fun q => Sum.inr q.1) : (kvs.any fun kv => decide (kv.1 = Sum.inr n)) = ps.any fun q => decide (q.1 = n) := by
  induction ps generalizing kvs with
  | nil =>
    cases kvs with
    | nil => rfl
    | cons _ _ => cases h
  | cons q ps ih =>
    cases kvs with
    | nil => cases h
    | cons kv kvs =>
      have h1 : kv.1 = Sum.inr q.1 := by injection h
      have h2 : kvs.map (·.1) = ps.map fun q => Sum.inr q.1 := by injection h
      rw [List.any_cons, List.any_cons, ih h2, h1]
      congr 1
      by_cases e : q.1 = n
      · rw [e]; simp
      · rw [decide_eq_false e, decide_eq_false (fun z => e (by injection z))]
theorem txK_put (ts : List (Str × Str)) (n x : Str) : txK (putN ts n x) = putK (txK ts) (Sum.inr n) (V.str x) := by
  have e := any_keys (kvs := txK ts) (ps := ts) (n := n) (by rw [List.map_map]; rfl)
  unfold putN putK
  rw [e]
  split
  · show List.map _ (List.map _ ts) = List.map _ (List.map _ ts)
    rw [List.map_map, List.map_map]
    refine List.map_congr_left fun q _ => ?_
    show (Sum.inr (if q.1 = n then (q.1, x) else q).1, V.str (if q.1 = n then (q.1, x) else q).2) = if (Sum.inr q.1 : Key) = Sum.inr n then (Sum.inr q.1, V.str x) else (Sum.inr q.1, V.str q.2)
    by_cases h : q.1 = n
    · rw [if_pos h, if_pos (by rw [h])]
    · rw [if_neg h, if_neg (fun z => h (by injection z))]
  · exact List.map_append (l₁ := ts) (l₂ := [(n, x)])
section
variable {P : Program} {w : World} {K : PySem.W.Frag} {mg : Str → Option Value} {base : Heap}
variable {O F N E E' : List Addr} {H0 H H' : Hp} {R : HR} {M M' : HM} {b b' : Nat}
theorem PplAt.put {p : Addr} {ps : List (Str × List RuleD)} {kvs : List (Key × V)} {n : Str} {v : V} {rs : List RuleD} (t : Tb K H) (pO : p ∉ O) (e : H p = some (.dK kvs)) (e2 : kvs.map (·.1) = ps.map (fun q => Sum.inr q.1))
    (e3 : ∀ (i : Nat) (kv : Key × V) (q : Str × List RuleD), kvs[i]? = some kv → ps[i]? = some q → PerAt K (p :: O) H kv.2 q.2) (hv : PerAt K (p :: O) H v rs) : PplAt K O (L2.upd H p (.dK (putK kvs (Sum.inr n) v))) p (putN ps n rs) := by
  have f : Fr K [p] H (L2.upd H p (.dK (putK kvs (Sum.inr n) v))) := Fr.put t e (ntK _) (List.mem_singleton.mpr rfl)
  have keep : ∀ {u qs}, PerAt K (p :: O) H u qs → PerAt K O (L2.upd H p (.dK (putK kvs (Sum.inr n) v))) u qs := fun q => (q.fr f fun x m => by rw [List.mem_singleton.mp m]; simp).sub fun x m => List.mem_cons_of_mem _ m
  have l : kvs.length = ps.length := by have := congrArg List.length e2; simpa using this
  have ea := any_keys (n := n) e2
  refine ⟨pO, _, upd_same, ?_, fun i kv q a b => ?_⟩
  · unfold putN putK
    rw [ea]
    split
    · rw [List.map_map, List.map_map]
      have k1 : ∀ kv : Key × V, ((fun x : Key × V => x.1) ∘ fun kv : Key × V => if kv.1 = Sum.inr n then (kv.1, v) else kv) kv = kv.1 := fun kv => by
        show (if kv.1 = Sum.inr n then (kv.1, v) else kv).1 = kv.1
        split <;> rfl
      have k2 : ∀ q : Str × List RuleD, ((fun q : Str × List RuleD => (Sum.inr q.1 : Key)) ∘ fun q => if q.1 = n then (q.1, rs) else q) q = Sum.inr q.1 := fun q => by
        show (Sum.inr (if q.1 = n then (q.1, rs) else q).1 : Key) = Sum.inr q.1
        split <;> rfl
      rw [List.map_congr_left fun x _ => k1 x, List.map_congr_left fun x _ => k2 x]
      exact e2
    · rw [List.map_append, List.map_append, e2]; rfl
  · unfold putK at a
    unfold putN at b
    rw [ea] at a
    split at a
    · rename_i hc
      rw [if_pos hc] at b
      rw [List.getElem?_map] at a b
      obtain ⟨kv0, a1, a2⟩ := Option.map_eq_some_iff.mp a
      obtain ⟨q0, b1, b2⟩ := Option.map_eq_some_iff.mp b
      have ek : kv0.1 = Sum.inr q0.1 := by
        have h1 : (kvs.map (·.1))[i]? = some kv0.1 := by rw [List.getElem?_map, a1]; rfl
        rw [e2, List.getElem?_map, b1] at h1
        exact (Option.some.inj h1).symm
      by_cases h : q0.1 = n
      · rw [if_pos h] at b2
        rw [if_pos (by rw [ek, h])] at a2
        rw [← a2, ← b2]
        exact keep hv
      · rw [if_neg h] at b2
        rw [if_neg (by rw [ek]; exact fun z => h (by injection z))] at a2
        rw [← a2, ← b2]
        exact keep (e3 i kv0 q0 a1 b1)
    · rename_i hc
      rw [if_neg hc] at b
      rcases at_snoc a with a | ⟨ei, rfl⟩
      · rcases at_snoc b with b | ⟨ei, rfl⟩
        · exact keep (e3 i kv q a b)
        · have := (List.getElem?_eq_some_iff.mp a).1
          omega
      · rcases at_snoc b with b | ⟨ei2, rfl⟩
        · have := (List.getElem?_eq_some_iff.mp b).1
          omega
        · exact keep hv
theorem call_dictC {X : Cx} : CallR X (.type "dict") (fun xs H Q => ∃ a kvs, xs = [.ref a] ∧ Rd H a (.dK kvs) ∧ ∀ p, H p = none → Q (.ref p) (upd H p (.dK kvs))) := by
  intro pins s σ H xs us Q I r h
  obtain ⟨a, kvs, rfl, hq, q⟩ := h
  obtain ⟨u, rfl, rx⟩ := vals1 r
  cases (show u = Value.ref a from rx)
  exact d_copyOf I hq fun p s' np I' => ⟨V.ref p, _, I', rfl, q p np⟩
def spTeach (K : PySem.W.Frag) : Sp := fun vs H Q _ => ∃ (O : List Addr) (R : HR) (M : HM) (b : Nat) (n x : Str) (os : List (Option RuleD)) (W : List Str), vs = [.ref R.r, .str n, .str x] ∧ HAt K O H R M b ∧ Live O H ∧ Nm n ∧ TxtOk x os W ∧ PWf W (putN M.ps n (os.filterMap id)) ∧ M.ps.length ≤ 5 ∧ M.ts.length ≤ 5 ∧ Tb K H ∧
  ∀ H' p, Fr K R.own H H' → HAt K O H' { R with p := p } { M with ps := putN M.ps n (os.filterMap id), ts := putN M.ts n x } b → Q .non H'
theorem R_teach (T : Txt w K mg base) : FnR P w K mg base CX0 52 (a_House_teach K) (spTeach K) := by
  refine mkR T.f_House_teach sc_House_teach bd_House_teach ?_ ?_
  · rintro vs H Q E ⟨O, R, M, b, n, x, os, W, rfl, _⟩; rfl
  rintro cdv A outer s H vs Q E hr ⟨O, R, M, b, n, x, os, W, rfl, hA, hlv, hn, hx, pw, hl5, ht5, tb, k⟩
  have nd := sc_House_teach.nd
  obtain ⟨_, F1⟩ := T.f_is_name
  obtain ⟨_, F2⟩ := T.f_read
  obtain ⟨_, F3⟩ := T.f_all_rules
  obtain ⟨_, F4⟩ := T.f_check_names
  obtain ⟨tM, hM⟩ := T.i_MOST_PEOPLE
  refine ⟨_, pss_cons (ps_if (pt_not (pt_val (pe_cF (R_is_name T) (hr.mono (by decide)) (by rfl) T.g_is_name F1.kp (pa_cons (pv 1) pa_nil)))) (pss_one ps_never) pss_nil)
    (pss_cons (ps_set (i := 3) nd rfl (.inl rfl) (pe_callTy call_dictC (by rfl) T.z_dict (by decide +kernel) (pa_cons (pe_fld (pv 0) rfl) pa_nil)))
    (pss_cons (ps_dput (hu_of hr) (pv 3) (pv 1) (pe_cF (R_read T) (hr.mono (by decide)) (by rfl) T.g_read F2.kp (pa_cons (pv 2) pa_nil)) (by rfl))
    (pss_cons (ps_expr (pe_cF (R_check_names T) (hr.mono (by decide)) (by rfl) T.g_check_names F4.kp (pa_cons (pe_cF (R_all_rules T) (hr.mono (by decide)) (by rfl) T.g_all_rules F3.kp (pa_cons (pv 3) pa_nil)) pa_nil)))
    (pss_cons (ps_if (pt_cmpR op_gt (pe_callB call_lenD (by rfl) T.z_len PySem.boot_len (pa_cons (pv 3) pa_nil)) (pe_glob (by rfl) hM (v := .int 5) ⟨_, rfl⟩) (nomark _)) (pss_one ps_never) pss_nil)
    (pss_cons (ps_fld (pv 0) (pv 3) rfl)
    (pss_one (ps_dput (hu_of hr) (pe_fld (pv 0) rfl) (pv 1) (pv 2) (by rfl)))))))), ?_⟩
  obtain ⟨rows, r1, r2, r3, r4⟩ := hx.ex
  refine ⟨_, rfl, n, rfl, hn, tb, fun H1 f1 => ⟨true, rfl, iteF ?_⟩⟩
  have A1 := hA.fr0 f1
  obtain ⟨p0, kvs, e1, e2, e3⟩ := A1.ppl
  have klen : kvs.length = M.ps.length := by have := congrArg List.length e2; simpa using this
  refine ⟨_, rfl, R.r, _, R.dx, _, _, rfl, A1.ob, T.c_House, T.n_House_people, hfs_people R, R.p, kvs, rfl, .inl e1, fun pd npd => ?_⟩
  have f2 := Fr.new (E := []) (o := .dK kvs) f1.2 npd
  have npO : pd ∉ R.own ++ O := fun m => (List.mem_append.mp m).elim (A1.nl npd) ((hlv.fr f1).no npd)
  have lv : ∀ e ∈ pd :: (R.own ++ O), (L2.upd H1 pd (.dK kvs)) e ≠ none := fun e m z => by
    rcases List.mem_cons.mp m with rfl | m
    · rw [upd_same] at z; cases z
    · have z1 := upd_live _ z
      rcases List.mem_append.mp m with m | m
      · exact A1.nl z1 m
      · exact (hlv.fr f1).no z1 m
  have p3 : ∀ (i : Nat) (kv : Key × V) (q : Str × List RuleD), kvs[i]? = some kv → M.ps[i]? = some q → PerAt K (pd :: (R.own ++ O)) (L2.upd H1 pd (.dK kvs)) kv.2 q.2 := fun i kv q a b => (e3 i kv q a b).go (N := [pd]) (fun y m => by rw [List.mem_singleton.mp m]; exact npd) f2 fun e m => nomatch m
  have hpd : (L2.upd H1 pd (.dK kvs)) pd = some (.dK kvs) := upd_same
  have F2' := f1.trans f2
  generalize L2.upd H1 pd (.dK kvs) = H2 at f2 lv p3 hpd F2' ⊢
  refine ⟨_, rfl, x, rows, os, W, rfl, hx.len, r1, r2, r3, r4, hx.four, F2'.2, fun H3 Dl as f3 nDl hDl hR => ?_⟩
  have per : PerAt K (pd :: (R.own ++ O)) H3 (.ref Dl) (os.filterMap id) := ⟨Dl, as, rfl, fun q => lv Dl q nDl, hDl, hR.1, fun j c r q1 q2 => (hR.2 j c r q1 q2).back (fun _ _ => rfl) (fun e m => .inr (lv e m))⟩
  have hpd3 := f3.at hpd
  have ppl4 := PplAt.put (n := n) f3.2 npO hpd3 e2 (fun i kv q a b => (p3 i kv q a b).fr f3 fun _ m => nomatch m) per
  have f4 : Fr K [pd] H3 (L2.upd H3 pd (.dK (putK kvs (Sum.inr n) (.ref Dl)))) := Fr.put f3.2 hpd3 (ntK _) (List.mem_singleton.mpr rfl)
  refine ⟨_, rfl, _, rfl, pd, _, rfl, DPut.k (k := Sum.inr n) hpd3 (Nat.lt_of_le_of_lt (by omega : kvs.length ≤ 5) (by decide)), ?_⟩
  have F4 : Fr K [] H (L2.upd H3 pd (.dK (putK kvs (Sum.inr n) (.ref Dl)))) := Fr.drop1 (E := []) ((F2'.trans f3).nil.trans f4) (f1.3 _ npd)
  have hpd4 : (L2.upd H3 pd (.dK (putK kvs (Sum.inr n) (.ref Dl)))) pd = some (.dK (putK kvs (Sum.inr n) (.ref Dl))) := upd_same
  generalize L2.upd H3 pd (.dK (putK kvs (Sum.inr n) (.ref Dl))) = H4 at ppl4 f4 F4 hpd4 ⊢
  refine ⟨_, rfl, pd, _, rfl, ppl4.sub (fun _ m => nomatch m), Nat.le_trans pw.few (by decide), f4.2, fun H5 Da aa f5 nDa hDa hRa => ?_⟩
  refine ⟨Da, aa, _, W, rfl, hDa, hRa, fun r m => ?_, pw.few, ?_, f5.2, fun H6 f6 => ?_⟩
  · obtain ⟨q, hq, hr'⟩ := List.mem_flatMap.mp m
    exact pw.rw q hq r hr'
  · refine Nat.le_trans (namesR_le (W := W) fun r m => ?_) pw.four
    obtain ⟨q, hq, hr'⟩ := List.mem_flatMap.mp m
    exact pw.rw q hq r hr'
  have f56 := f5.trans f6
  have F6 := F4.trans f56
  have A6 := hA.fr0 F6
  have ppl6 := ppl4.fr f56 fun _ m => nomatch m
  have hpd6 := f56.at hpd4
  have plen : (putK kvs (Sum.inr n) (V.ref Dl)).length ≤ 5 := by
    obtain ⟨_, kv2, q1, q2, _⟩ := ppl4
    rw [hpd4] at q1
    cases q1
    have := congrArg List.length q2
    rw [List.length_map, List.length_map] at this
    rw [this]
    exact pw.five
  refine ⟨_, rfl, pd, _, rfl, hpd6, _, _, rfl, rfl, _, rfl, iteN (by omega) ?_⟩
  have u := HR.un hA.nd
  refine ⟨_, rfl, _, rfl, R.r, _, R.dx, _, rfl, A6.ob, T.c_House, T.n_House_people, (by show 5 < 1000; decide), ?_⟩
  have g7 : Fr K [R.r] H6 (L2.upd H6 R.r (.ins (C_House K) R.dx (putF "people" (.ref pd) (hfs R)))) := Fr.put f6.2 A6.ob (by intro _ z; cases z) (List.mem_singleton.mpr rfl)
  have e7 : (L2.upd H6 R.r (.ins (C_House K) R.dx (putF "people" (.ref pd) (hfs R)))) R.r = some (.ins (C_House K) R.dx (hfs { R with p := pd })) := upd_same
  have t7 : (L2.upd H6 R.r (.ins (C_House K) R.dx (putF "people" (.ref pd) (hfs R)))) R.t = some (.dK (txK M.ts)) := by rw [upd_ne u.rt.symm]; exact A6.txt
  generalize L2.upd H6 R.r (.ins (C_House K) R.dx (putF "people" (.ref pd) (hfs R))) = H7 at g7 e7 t7 ⊢
  refine ⟨_, rfl, _, rfl, R.r, _, R.dx, _, _, rfl, e7, T.c_House, T.n_House_texts, hfs_texts { R with p := pd }, _, rfl, R.t, _, rfl, DPut.k (k := Sum.inr n) t7 (by rw [List.length_map]; exact Nat.lt_of_le_of_lt ht5 (by decide)), ?_⟩
  have g8 : Fr K [R.t] H7 (L2.upd H7 R.t (.dK (putK (txK M.ts) (Sum.inr n) (.str x)))) := Fr.put g7.2 t7 (ntK _) (List.mem_singleton.mpr rfl)
  have g : Fr K [R.r, R.t] H6 (L2.upd H7 R.t (.dK (putK (txK M.ts) (Sum.inr n) (.str x)))) := (g7.mono fun y m => by rw [List.mem_singleton.mp m]; simp).trans (g8.mono fun y m => by rw [List.mem_singleton.mp m]; simp)
  have gi : ∀ e ∈ [R.r, R.t], e ∈ R.own := fun y m => by
    simp only [List.mem_cons, List.not_mem_nil, or_false] at m
    rcases m with rfl | rfl
    · exact R.mr
    · exact R.mt
  have ne : ∀ {y}, y ≠ R.r → y ≠ R.t → y ∉ [R.r, R.t] := fun a c m => by
    simp only [List.mem_cons, List.not_mem_nil, or_false] at m
    exact m.elim a c
  obtain ⟨vs, w1, w2⟩ := A6.ways
  refine k _ pd (F6.nil.trans (g.mono gi)) ⟨by rw [upd_ne u.rt]; exact e7, ppl6.fr g fun e m => List.mem_append_left _ (gi e m), ?_, ⟨vs, g.at w1 (by intro _ z; cases z) (ne u.rw.symm u.tw.symm), paired_imp w2 fun v l q => q.fr g fun e m => List.mem_append_left _ (gi e m)⟩,
    own_keep A6.fil ntT g (ne u.rf.symm u.tf.symm) (fun a m => ne (fun z => u.rl (by rw [← z]; exact m)) fun z => u.tl (by rw [← z]; exact m)), own_keep A6.out ntK g (ne u.rs.symm u.ts.symm) (fun a m => ne (fun z => u.rm (by rw [← z]; exact m)) fun z => u.tm (by rw [← z]; exact m)), hA.nd, hA.av⟩
  rw [upd_same]
  show _ = some (HO.dK (txK (putN M.ts n x)))
  rw [txK_put]
/-- "" is no name -/
def spTeachNo (K : PySem.W.Frag) : Sp := fun vs H _ E => ∃ (r : Addr) (y x : Str), vs = [.ref r, .str y, .str x] ∧ ¬ Nm y ∧ y.length ≤ sizeLine ∧ Tb K H ∧ ∀ H', Fr K [] H H' → E (.ref (C_BadName K)) none H'
theorem R_teach_no (T : Txt w K mg base) : FnE P w K mg base 52 (a_House_teach K) (spTeachNo K) := by
  refine mkE T.f_House_teach sc_House_teach bd_House_teach ?_ ?_
  · rintro vs H Q E ⟨r, y, x, rfl, _⟩; rfl
  rintro cdv A outer s H vs Q E hr ⟨r, y, x, rfl, hn, hl, tb, k⟩
  obtain ⟨_, F1⟩ := T.f_is_name
  refine ⟨_, pss_cons (ps_if (pt_not (pt_val (pe_cF (R_no_name T) (hr.mono (by decide)) (by rfl) T.g_is_name F1.kp (pa_cons (pv 1) pa_nil))))
      (pss_one (ps_raise rfl (takes_of rfl rfl rfl rfl) (pmk_own PySem.F.excBase_ValueError T.exc.x_BadName T.g_BadName T.exc.k_BadName (raises_own T.exc.s_BadName T.exc.y_BadName) rfl))) pss_nil)
    (pss_cons ps_never (pss_cons ps_never (pss_cons ps_never (pss_cons ps_never (pss_cons ps_never (pss_one ps_never)))))), ?_⟩
  exact ⟨_, rfl, y, rfl, hn, hl, tb, fun H1 f1 => ⟨false, rfl, iteT (k H1 f1)⟩⟩
/-- a text that is no rules, or has too many names -/
def spTeachBad (sp : Sp) (K : PySem.W.Frag) : Sp := fun vs H Q E => ∃ (O : List Addr) (R : HR) (M : HM) (b : Nat) (n x : Str), vs = [.ref R.r, .str n, .str x] ∧ HAt K O H R M b ∧ Nm n ∧ Tb K H ∧ ∀ H', Fr K [] H H' → ∃ Q', sp [.str x] H' Q' E
theorem R_teach_bad {sp : Sp} (T : Txt w K mg base) (hsp : FnE P w K mg base 48 (a_read K) sp) (mono : ∀ vs H Q Q' E, sp vs H Q E → sp vs H Q' E) : FnE P w K mg base 52 (a_House_teach K) (spTeachBad sp K) := by
  refine mkE T.f_House_teach sc_House_teach bd_House_teach ?_ ?_
  · rintro vs H Q E ⟨O, R, M, b, n, x, rfl, _⟩; rfl
  rintro cdv A outer s H vs Q E hr ⟨O, R, M, b, n, x, rfl, hA, hn, tb, k⟩
  have nd := sc_House_teach.nd
  obtain ⟨_, F1⟩ := T.f_is_name
  obtain ⟨_, F2⟩ := T.f_read
  refine ⟨_, pss_cons (ps_if (pt_not (pt_val (pe_cF (R_is_name T) (hr.mono (by decide)) (by rfl) T.g_is_name F1.kp (pa_cons (pv 1) pa_nil)))) (pss_one ps_never) pss_nil)
    (pss_cons (ps_set (i := 3) nd rfl (.inl rfl) (pe_callTy call_dictC (by rfl) T.z_dict (by decide +kernel) (pa_cons (pe_fld (pv 0) rfl) pa_nil)))
    (pss_cons (ps_dput (hu_of hr) (pv 3) (pv 1) (pe_cX hsp (hr.mono (by decide)) (passX (takes_of rfl rfl rfl rfl) fun _ _ _ _ h => h) (by rfl) T.g_read F2.kp (pa_cons (pv 2) pa_nil)) (by rfl))
    (pss_cons ps_never (pss_cons ps_never (pss_cons ps_never (pss_one ps_never)))))), ?_⟩
  refine ⟨_, rfl, n, rfl, hn, tb, fun H1 f1 => ⟨true, rfl, iteF ?_⟩⟩
  have A1 := hA.fr0 f1
  obtain ⟨p0, kvs, e1, e2, e3⟩ := A1.ppl
  refine ⟨_, rfl, R.r, _, R.dx, _, _, rfl, A1.ob, T.c_House, T.n_House_people, hfs_people R, R.p, kvs, rfl, .inl e1, fun pd npd => ?_⟩
  obtain ⟨Q', h⟩ := k _ (f1.trans (Fr.new (E := []) (o := .dK kvs) f1.2 npd))
  exact ⟨_, rfl, mono _ _ _ _ _ h⟩
/-- a letter for nobody -/
def spDelNo (K : PySem.W.Frag) : Sp := fun vs H _ E => ∃ (O : List Addr) (R : HR) (M : HM) (b : Nat) (n : Str) (lt : Addr), vs = [.ref R.r, .str n, .ref lt] ∧ HAt K O H R M b ∧ Nm n ∧ n ∉ M.na ∧ Tb K H ∧ ∀ H', Fr K [] H H' → E (.ref (C_BadName K)) none H'
theorem R_deliver_no (T : Txt w K mg base) : FnE P w K mg base 90 (a_House_deliver K) (spDelNo K) := by
  refine mkE T.f_House_deliver sc_House_deliver bd_House_deliver ?_ ?_
  · rintro vs H Q E ⟨O, R, M, b, n, lt, rfl, _⟩; rfl
  rintro cdv A outer s H vs Q E hr ⟨O, R, M, b, n, lt, rfl, hA, hn, hm, tb, k⟩
  refine ⟨_, pss_cons (ps_expr (pe_methR (pv 0) T.c_House T.m_House_check_person (R_check_bad T) (hr.mono (by decide)) (passX (takes_of rfl rfl rfl rfl) fun _ _ _ _ h => h) (pa_cons (pv 1) pa_nil)))
    (pss_cons ps_never (pss_cons ps_never (pss_cons ps_never (pss_cons ps_never (pss_cons ps_never (pss_cons ps_never (pss_one ps_never))))))), ?_⟩
  exact ⟨_, rfl, R.r, R.dx, _, rfl, hA.ob, rfl, _, rfl, O, R, M, b, n, rfl, hA, hn, hm, tb, k⟩
/-- no letter -/
def spDelBad (K : PySem.W.Frag) : Sp := fun vs H _ E => ∃ (O : List Addr) (R : HR) (M : HM) (b : Nat) (n : Str) (lt l : Addr) (L : Ltr), vs = [.ref R.r, .str n, .ref lt] ∧ HAt K O H R M b ∧ Nm n ∧ n ∈ M.na ∧ H lt = some (.tup [.str L.snd, .ref l, .int L.sz]) ∧ H l = some (.lst (L.ws.map V.str)) ∧ Nm L.snd ∧ (∀ x ∈ L.ws, x.length ≤ sizeLine) ∧ L.sz ≤ 99999 ∧ L.ws.all nmB = false ∧ Tb K H ∧ ∀ H', Fr K [] H H' → E (.ref (C_BadLetter K)) none H'
theorem R_deliver_bad (T : Txt w K mg base) : FnE P w K mg base 90 (a_House_deliver K) (spDelBad K) := by
  refine mkE T.f_House_deliver sc_House_deliver bd_House_deliver ?_ ?_
  · rintro vs H Q E ⟨O, R, M, b, n, lt, l, L, rfl, _⟩; rfl
  rintro cdv A outer s H vs Q E hr ⟨O, R, M, b, n, lt, l, L, rfl, hA, hn, hm, h1, h2, h3, h4, h5, h6, tb, k⟩
  obtain ⟨_, F1⟩ := T.f_check_letter
  refine ⟨_, pss_cons (ps_expr (pe_methR (pv 0) T.c_House T.m_House_check_person (R_check T) (hr.mono (by decide)) pass0 (pa_cons (pv 1) pa_nil)))
    (pss_cons (ps_expr (pe_cX (R_no_letter T) (hr.mono (by decide)) (passX (takes_of rfl rfl rfl rfl) fun _ _ _ _ h => h) (by rfl) T.g_check_letter F1.kp (pa_cons (pv 2) pa_nil)))
    (pss_cons ps_never (pss_cons ps_never (pss_cons ps_never (pss_cons ps_never (pss_cons ps_never (pss_one ps_never))))))), ?_⟩
  refine ⟨_, rfl, R.r, R.dx, _, rfl, hA.ob, rfl, _, rfl, O, R, M, b, n, rfl, hA, hn, hm, tb, fun H1 f1 => ?_⟩
  exact ⟨_, rfl, lt, l, L, rfl, f1.at h1, f1.at h2, h3, h4, h5, h6, f1.2, fun H' f => k H' (f1.trans f)⟩
end
end So
end

section
set_option Elab.async false
set_option linter.all false
set_option maxRecDepth 100000
set_option maxHeartbeats 4000000
/-! things of all sorts: names, sizes, letters or not -/
namespace So
open PySem PySem.Spec PyProof.Rows L2 GxA TL
open GxR (TabB TabG Tabbed)
/-- a plain thing and its type's name -/
inductive Pl (H : Hp) : V → String → Prop where
  | non : Pl H .non "NoneType"
  | bl (b : Bool) : Pl H (.bl b) "bool"
  | int (i : Int) : Pl H (.int i) "int"
  | str (x : Str) : Pl H (.str x) "str"
  | lst {a : Addr} {xs : List V} (e : H a = some (.lst xs)) : Pl H (.ref a) "list"
  | tup {a : Addr} {xs : List V} (e : H a = some (.tup xs)) : Pl H (.ref a) "tuple"
  | dic {a : Addr} {kvs : List (Key × V)} (e : H a = some (.dK kvs)) : Pl H (.ref a) "dict"
section
variable {P : Program} {w : World} {K : PySem.W.Frag} {mg : Str → Option Value} {base : Heap} {H H' : Hp} {v : V} {t : String}
theorem Pl.fr (p : Pl H v t) (f : Fr K [] H H') : Pl H' v t := by
  cases p with
  | non => exact .non
  | bl b => exact .bl b
  | int i => exact .int i
  | str x => exact .str x
  | lst e => exact .lst (f.at e)
  | tup e => exact .tup (f.at e)
  | dic e => exact .dic (f.at e)
theorem Pl.ty (p : Pl H v t) : TyX K H v (.type t) := by
  cases p with
  | non => exact .base .non
  | bl b => exact .base (.bl b)
  | int i => exact .base (.int i)
  | str x => exact .base (.str x)
  | lst e => exact .base (.lst e)
  | tup e => exact .base (.tup e)
  | dic e => exact .base (.dK e)
/-- whether a thing is a name -/
inductive Nm8 (H : Hp) : V → Bool → Prop where
  | str (x : Str) (l : x.length ≤ sizeLine) : Nm8 H (.str x) (nmB x)
  | no {v : V} {t : String} (p : Pl H v t) (h : kitB t "str" = some false) : Nm8 H v false
theorem Nm8.fr {b : Bool} (p : Nm8 H v b) (f : Fr K [] H H') : Nm8 H' v b := by
  cases p with
  | str x l => exact .str x l
  | no p h => exact .no (p.fr f) h
/-- whether a thing is a size -/
inductive Sz8 (H : Hp) : V → Bool → Prop where
  | int (i : Int) : Sz8 H (.int i) (decide (0 ≤ i) && decide (i ≤ 99999))
  | bl (b : Bool) : Sz8 H (.bl b) false
  | no {v : V} {t : String} (p : Pl H v t) (h : kitB t "int" = some false) : Sz8 H v false
theorem Sz8.fr {b : Bool} (p : Sz8 H v b) (f : Fr K [] H H') : Sz8 H' v b := by
  cases p with
  | int i => exact .int i
  | bl b => exact .bl b
  | no p h => exact .no (p.fr f) h
/-- whether a thing is a list of names -/
inductive Ws8 (H : Hp) : V → Bool → Prop where
  | lst {a : Addr} {xs : List V} {bs : List Bool} (e : H a = some (.lst xs)) (p : Paired (Nm8 H) xs bs) : Ws8 H (.ref a) (bs.all id)
  | no {v : V} {t : String} (p : Pl H v t) (h : kitB t "list" = some false) : Ws8 H v false
theorem Ws8.fr {b : Bool} (p : Ws8 H v b) (f : Fr K [] H H') : Ws8 H' v b := by
  cases p with
  | lst e p => exact .lst (f.at e) (paired_imp p fun x y q => q.fr f)
  | no p h => exact .no (p.fr f) h
/-- whether a thing is a letter -/
inductive Lt8 (H : Hp) : V → Bool → Prop where
  | three {a : Addr} {x y z : V} {b1 b2 b3 : Bool} (e : H a = some (.tup [x, y, z])) (h1 : Nm8 H x b1) (h2 : Ws8 H y b2) (h3 : Sz8 H z b3) : Lt8 H (.ref a) (b1 && (b3 && b2))
  | len {a : Addr} {xs : List V} (e : H a = some (.tup xs)) (h : xs.length ≠ 3) : Lt8 H (.ref a) false
  | no {v : V} {t : String} (p : Pl H v t) (h : kitB t "tuple" = some false) : Lt8 H v false
theorem Lt8.fr {b : Bool} (p : Lt8 H v b) (f : Fr K [] H H') : Lt8 H' v b := by
  cases p with
  | three e h1 h2 h3 => exact .three (f.at e) (h1.fr f) (h2.fr f) (h3.fr f)
  | len e h => exact .len (f.at e) h
  | no p h => exact .no (p.fr f) h
def spNotStr (K : PySem.W.Frag) : Sp := fun vs H Q _ => ∃ (v : V) (t : String), vs = [v] ∧ Pl H v t ∧ kitB t "str" = some false ∧ Tb K H ∧ ∀ H', Fr K [] H H' → Q (.bl false) H'
theorem R_not_str (T : Txt w K mg base) : FnR P w K mg base CX0 6 (a_is_name K) (spNotStr K) := by
  refine mkRC (p := ("is_name", none)) rfl T.f_is_name sc_is_name bd_is_name ?_ ?_
  · rintro vs H Q E ⟨v, t, rfl, _⟩; rfl
  rintro A outer s H vs Q E hr ⟨v, t, rfl, p, ht, tb, k⟩
  obtain ⟨tL, hL⟩ := T.i_LONGEST_NAME
  have nd := sc_is_name.nd
  refine ⟨_, pss_cons (ps_if (PW.pt (pw_or (pt_not (pt_val (pe_callB call_isi (by rfl) T.z_isinstance (by decide +kernel) (pa_cons (pv 0) (pa_cons (pe_bltn (by rfl) T.z_str (by decide +kernel) (v := .ty "str") rfl) pa_nil)))))
      (pw_or1 (pt_not (pt_chain op_le op_le pe_int (pe_callB call_len_str (by rfl) T.z_len PySem.boot_len (pa_cons (pv 0) pa_nil)) (pe_glob (by rfl) hL (v := .int 10) ⟨_, rfl⟩))))))
      (pss_one (ps_ret pe_bl)) pss_nil)
    (pss_one ps_never), ?_⟩
  refine ⟨_, rfl, _, _, _, _, false, rfl, .ty _, p.ty, kit_ty ht, ?_⟩
  refine ⟨false, rfl, iteT ?_⟩
  exact k H (Fr.refl tb)
def spName8 (K : PySem.W.Frag) : Sp := fun vs H Q _ => ∃ (v : V) (b : Bool), vs = [v] ∧ Nm8 H v b ∧ Tb K H ∧ ∀ H', Fr K [] H H' → Q (.bl b) H'
theorem R_name8 (T : Txt w K mg base) : FnR P w K mg base CX0 6 (a_is_name K) (spName8 K) := by
  intro A outer s H us vs Q E hr e0 r ⟨v, b, e, p, tb, k⟩
  cases p with
  | str x l => exact R_nameB T A outer s H us vs Q E hr e0 r ⟨x, e, l, tb, k⟩
  | no p h => exact R_not_str T A outer s H us vs Q E hr e0 r ⟨v, _, e, p, h, tb, k⟩
def spSize8 (K : PySem.W.Frag) : Sp := fun vs H Q _ => ∃ (v : V) (b : Bool), vs = [v] ∧ Sz8 H v b ∧ Tb K H ∧ ∀ H', Fr K [] H H' → Q (.bl b) H'
theorem R_size8 (T : Txt w K mg base) : FnR P w K mg base CX0 1 (a_is_size K) (spSize8 K) := by
  refine mkR T.f_is_size sc_is_size bd_is_size ?_ ?_
  · rintro vs H Q E ⟨v, b, rfl, _⟩; rfl
  rintro cdv A outer s H vs Q E hr ⟨v, b, rfl, p, tb, k⟩
  obtain ⟨tB, hB⟩ := T.i_BIGGEST_SIZE
  have k0 := k H (Fr.refl tb)
  refine ⟨_, pss_cons (ps_if (PW.pt (pw_or (pt_not (pt_val (pe_callB call_isi (by rfl) T.z_isinstance (by decide +kernel) (pa_cons (pv 0) (pa_cons (pe_bltn (by rfl) T.z_int (by decide +kernel) (v := .ty "int") rfl) pa_nil)))))
      (pw_or1 (pt_val (pe_callB call_isi (by rfl) T.z_isinstance (by decide +kernel) (pa_cons (pv 0) (pa_cons (pe_bltn (by rfl) T.z_bool (by decide +kernel) (v := .ty "bool") rfl) pa_nil)))))))
      (pss_one (ps_ret pe_bl)) pss_nil)
    (pss_one (ps_ret (pe_chain op_le op_le pe_int (pv 0) (pe_glob (by rfl) hB (v := .int 99999) ⟨_, rfl⟩)))), ?_⟩
  cases p with
  | no p h =>
    refine ⟨_, rfl, _, _, _, _, false, rfl, .ty _, p.ty, kit_ty h, ?_⟩
    exact ⟨false, rfl, iteT k0⟩
  | bl c =>
    refine ⟨_, rfl, _, _, _, _, true, rfl, .ty _, .base (.bl c), kit_ty (by decide +kernel), true, rfl, iteF ?_⟩
    refine ⟨_, rfl, _, _, _, _, true, rfl, .ty _, .base (.bl c), kit_ty (by decide +kernel), true, rfl, iteT k0⟩
  | int i =>
    refine ⟨_, rfl, _, _, _, _, true, rfl, .ty _, .base (.int i), kit_ty (by decide +kernel), true, rfl, iteF ?_⟩
    refine ⟨_, rfl, _, _, _, _, false, rfl, .ty _, .base (.int i), kit_ty (by decide +kernel), false, rfl, iteF ?_⟩
    by_cases h1 : 0 ≤ i
    · rw [decide_eq_true h1, Bool.true_and] at k0
      refine ⟨_, rfl, _, _, rfl, rfl, _, rfl, iteD h1 ?_⟩
      exact ⟨_, _, rfl, rfl, k0⟩
    · rw [decide_eq_false h1, Bool.false_and] at k0
      exact ⟨_, rfl, _, _, rfl, rfl, _, rfl, iteN h1 k0⟩
/-- whether a thing is a letter -/
def spLetter8 (K : PySem.W.Frag) : Sp := fun vs H Q _ => ∃ (v : V) (b : Bool), vs = [v] ∧ Lt8 H v b ∧ Tb K H ∧ ∀ H', Fr K [] H H' → Q (.bl b) H'
theorem R_letter8 (T : Txt w K mg base) : FnR P w K mg base CX0 12 (a_is_letter K) (spLetter8 K) := by
  refine mkRC (p := ("is_letter", none)) rfl T.f_is_letter sc_is_letter bd_is_letter ?_ ?_
  · rintro vs H Q E ⟨v, b, rfl, _⟩; rfl
  rintro A outer s H vs Q E hr ⟨v, b, rfl, p, tb, k⟩
  obtain ⟨_, F1⟩ := T.f_is_name
  obtain ⟨_, F2⟩ := T.f_is_size
  have nd := sc_is_letter.nd
  refine ⟨_, pss_cons (ps_if (PW.pt (pw_or (pt_not (pt_val (pe_callB call_isi (by rfl) T.z_isinstance (by decide +kernel) (pa_cons (pv 0) (pa_cons (pe_bltn (by rfl) T.z_tuple (by decide +kernel) (v := .ty "tuple") rfl) pa_nil)))))
      (pw_or1 (pt_cmpR op_ne (pe_callB call_len_seq (by rfl) T.z_len PySem.boot_len (pa_cons (pv 0) pa_nil)) pe_int (nomark _)))))
      (pss_one (ps_ret pe_bl)) pss_nil)
    (pss_cons (ps_asg (pv 0) (pg_tup (by rfl) (pgs_cons (pg_name (i := 1) nd rfl (.inl rfl)) (pgs_cons (pg_name (i := 2) nd rfl (.inl rfl)) (pgs_cons (pg_name (i := 3) nd rfl (.inl rfl)) pgs_nil)))))
    (pss_cons (ps_if (PW.pt (pw_or (pt_not (pt_val (pe_cF (R_name8 T) (hr.mono (by decide)) (by rfl) T.g_is_name F1.kp (pa_cons (pv 1) pa_nil))))
      (pw_or (pt_not (pt_val (pe_callB call_isi (by rfl) T.z_isinstance (by decide +kernel) (pa_cons (pv 2) (pa_cons (pe_bltn (by rfl) T.z_list (by decide +kernel) (v := .ty "list") rfl) pa_nil)))))
      (pw_or1 (pt_not (pt_val (pe_cF (R_size8 T) (hr.mono (by decide)) (by rfl) T.g_is_size F2.kp (pa_cons (pv 3) pa_nil))))))))
      (pss_one (ps_ret pe_bl)) pss_nil)
    (pss_one (ps_ret (pe_allG (own := [("word", 4)]) (g := gName 4) (te := tCF (spName8 K) (tCons (tVar 4) tNil)) (hr.mono (by decide) : Room (10 + 1) _) (by rfl) T.z_all T.t_is_letter rfl nd (pi_list (pv 2)) (blkOk_by (own := [("word", 4)]) (N := N_is_letter) (sc := defScope s_is_letter) (by decide +kernel)) (by decide +kernel) rfl rfl
      (fun _ _ _ _ _ _ => pg_name (i := 4) nd rfl (Or.inl rfl)) (fun _ _ _ _ _ _ => pe_cF (R_name8 T) ((hr.in1.in1.deeper _).mono (by decide)) (by rfl) T.g_is_name F1.kp (pa_cons (pv 4) pa_nil))))))), ?_⟩
  cases p with
  | no p h =>
    refine ⟨_, rfl, _, _, _, _, false, rfl, .ty _, p.ty, kit_ty h, ?_⟩
    exact ⟨false, rfl, iteT (k H (Fr.refl tb))⟩
  | @len a xs e h =>
    refine ⟨_, rfl, _, _, _, _, true, rfl, .ty _, .base (.tup e), kit_ty (by decide +kernel), true, rfl, iteF ?_⟩
    refine ⟨_, rfl, a, _, rfl, .inr (.inl (.inl e)), rfl, _, rfl, iteB ?_ (k H (Fr.refl tb))⟩
    rw [decide_eq_false fun z => h (by injection z with z; omega)]
    rfl
  | @three a x y z b1 b2 b3 e h1 h2 h3 =>
    refine ⟨_, rfl, _, _, _, _, true, rfl, .ty _, .base (.tup e), kit_ty (by decide +kernel), true, rfl, iteF ?_⟩
    refine ⟨_, rfl, a, _, rfl, .inr (.inl (.inl e)), rfl, _, rfl, iteF ?_⟩
    refine ⟨_, rfl, a, _, rfl, .inl (.inl e), rfl, _, _, rfl, _, _, rfl, _, _, rfl, rfl, ?_⟩
    refine ⟨_, rfl, x, b1, rfl, h1, tb, fun H1 f1 => ⟨b1, rfl, ?_⟩⟩
    cases b1 with
    | false =>
      refine iteT ?_
      exact k H1 f1
    | true =>
      refine iteF ?_
      have h2' := h2.fr f1
      have h3' := h3.fr f1
      cases h2' with
      | no p h =>
        refine ⟨_, rfl, _, _, _, _, false, rfl, .ty _, p.ty, kit_ty h, false, rfl, iteT ?_⟩
        have := k H1 f1
        rw [Bool.and_false, Bool.and_false] at this
        exact this
      | @lst l ws bs el pw =>
        refine ⟨_, rfl, _, _, _, _, true, rfl, .ty _, .base (.lst el), kit_ty (by decide +kernel), true, rfl, iteF ?_⟩
        refine ⟨_, rfl, z, b3, rfl, h3', f1.2, fun H2 f2 => ⟨b3, rfl, ?_⟩⟩
        have F2 := f1.trans f2
        cases b3 with
        | false =>
          refine iteT ?_
          exact k H2 F2
        | true =>
          refine iteF ?_
          have el2 := f2.at el
          refine ⟨_, rfl, l, rfl, ⟨_, SqL.of el2⟩, F2.2 _ mtL, fun H3 t3 => ?_⟩
          have f3 : Fr K [] H2 H3 := Fr.tab F2.2 t3 mtL
          have el3 := f3.at el2
          refine g_list (xs := ws) (fun i H => Fr K [] H3 H ∧ ∀ b ∈ bs.take i, b = true) ⟨Fr.refl f3.2, fun _ m => by simp at m⟩ (fun i H _ ⟨f, _⟩ => SqL.of (f.at el3)) (fun i a H ha ⟨f, hp⟩ => ?_) (fun H ⟨f, hp⟩ => ?_)
          · obtain ⟨b, hb, hn⟩ := paired_get pw ha
            refine ⟨rfl, _, rfl, a, b, rfl, hn.fr ((f2.trans f3).trans f), f.2, fun H4 f4 => ⟨b, rfl, ?_⟩⟩
            cases b with
            | true =>
              refine iteT ⟨f.trans f4, fun c m => ?_⟩
              rw [List.take_add_one, hb] at m
              rcases List.mem_append.mp m with m | m
              · exact hp c m
              · exact List.mem_singleton.mp m
            | false =>
              refine iteF ?_
              have := k H4 (F2.trans (f3.trans (f.trans f4)))
              rw [show bs.all id = false from by
                rw [Bool.eq_false_iff]
                intro q
                have := List.all_eq_true.mp q false (List.mem_of_getElem? hb)
                cases this] at this
              exact this
          · have := k H (F2.trans (f3.trans f))
            rw [show ws.length = bs.length from Paired.length pw, List.take_length] at hp
            rw [show bs.all id = true from List.all_eq_true.mpr hp] at this
            exact this
end
end So
end

section
set_option Elab.async false
set_option linter.all false
set_option maxRecDepth 100000
set_option maxHeartbeats 4000000
/-! what is refused, things of all sorts -/
namespace So
open PySem PySem.Spec PyProof.Rows L2 GxA TL
open GxR (TabB TabG Tabbed)
section
variable {P : Program} {w : World} {K : PySem.W.Frag} {mg : Str → Option Value} {base : Heap} {H H' : Hp} {v : V} {t : String}
/-- whether a thing is a house -/
inductive Hs8 (H : Hp) : V → Bool → Prop where
  | dic {a : Addr} {kvs : List (Key × V)} {bs : List Bool} (e : H a = some (.dK kvs)) (p : Paired (fun (kv : Key × V) (b : Bool) => ∃ b1 t c, (∀ H, Nm8 H (kV kv.1) b1) ∧ (∀ H, Pl H kv.2 t) ∧ kitB t "str" = some c ∧ b = (b1 && c)) kvs bs) : Hs8 H (.ref a) (decide (1 ≤ kvs.length) && (decide (kvs.length ≤ 5) && bs.all id))
  | no {v : V} {t : String} (p : Pl H v t) (h : kitB t "dict" = some false) : Hs8 H v false
theorem Hs8.fr {b : Bool} (p : Hs8 H v b) (f : Fr K [] H H') : Hs8 H' v b := by
  cases p with
  | dic e p => exact .dic (f.at e) p
  | no p h => exact .no (p.fr f) h
def spHouse8 (K : PySem.W.Frag) : Sp := fun vs H Q _ => ∃ (v : V) (b : Bool), vs = [v] ∧ Hs8 H v b ∧ Tb K H ∧ ∀ H', Fr K [] H H' → Q (.bl b) H'
theorem R_house8 (T : Txt w K mg base) : FnR P w K mg base CX0 12 (a_is_house K) (spHouse8 K) := by
  refine mkRC (p := ("is_house", none)) rfl T.f_is_house sc_is_house bd_is_house ?_ ?_
  · rintro vs H Q E ⟨v, b, rfl, _⟩; rfl
  rintro A outer s H vs Q E hr ⟨v, b, rfl, p, tb, k⟩
  obtain ⟨_, F1⟩ := T.f_is_name
  obtain ⟨tM, hM⟩ := T.i_MOST_PEOPLE
  have nd := sc_is_house.nd
  refine ⟨_, pss_cons (ps_if (PW.pt (pw_or (pt_not (pt_val (pe_callB call_isi (by rfl) T.z_isinstance (by decide +kernel) (pa_cons (pv 0) (pa_cons (pe_bltn (by rfl) T.z_dict (by decide +kernel) (v := .ty "dict") rfl) pa_nil)))))
      (pw_or1 (pt_not (pt_chain op_le op_le pe_int (pe_callB call_lenD (by rfl) T.z_len PySem.boot_len (pa_cons (pv 0) pa_nil)) (pe_glob (by rfl) hM (v := .int 5) ⟨_, rfl⟩))))))
      (pss_one (ps_ret pe_bl)) pss_nil)
    (pss_one (ps_ret (pe_lock (pe_allG (te := tAndV (tCF (spName8 K) (tCons (tVar 1) tNil)) (tCB (rIsi K) (tCons (tVar 2) (tCons (tC (.ty "str")) tNil)))) (own := [("name", 1), ("text", 2)]) (g := gTup K 2 (gCons (gName 1) (gCons (gName 2) gNil))) (hr.mono (by decide) : Room (10 + 1) _) (by rfl) T.z_all T.t_is_house rfl nd (pi_items (pv 0)) (blkOk_by (own := [("name", 1), ("text", 2)]) (N := N_is_house) (sc := defScope s_is_house) (by decide +kernel)) (by decide +kernel) rfl rfl
      (fun _ _ _ _ _ _ => pg_tup rfl (pgs_cons (pg_name (i := 1) nd rfl (Or.inl rfl)) (pgs_cons (pg_name (i := 2) nd rfl (Or.inl rfl)) pgs_nil)))
      (fun _ _ _ _ _ _ => pe_and (pe_cF (R_name8 T) ((hr.in1.in1.deeper _).mono (by decide)) (by rfl) T.g_is_name F1.kp (pa_cons (pv 1) pa_nil)) (pe_one (pe_callB (id := "isinstance") call_isi (by rfl) T.z_isinstance (by decide +kernel) (pa_cons (pv 2) (pa_cons (pe_bltn (by rfl) T.z_str (by decide +kernel) (v := .ty "str") rfl) pa_nil))))))))), ?_⟩
  have k0 := k H (Fr.refl tb)
  cases p with
  | no p h =>
    refine ⟨_, rfl, _, _, _, _, false, rfl, .ty _, p.ty, kit_ty h, ?_⟩
    exact ⟨false, rfl, iteT k0⟩
  | @dic d kvs bs hd pw =>
  refine ⟨_, rfl, _, _, _, _, true, rfl, .ty _, .base (.dK hd), kit_ty (by decide +kernel), true, rfl, iteF ?_⟩
  refine ⟨_, rfl, d, _, rfl, hd, ?_⟩
  by_cases c1 : 1 ≤ kvs.length
  · rw [decide_eq_true c1, Bool.true_and] at k k0
    refine ⟨_, _, rfl, rfl, _, rfl, iteD (by omega) ?_⟩
    by_cases c2 : kvs.length ≤ 5
    · rw [decide_eq_true c2, Bool.true_and] at k k0
      refine ⟨_, _, rfl, rfl, _, rfl, ?_⟩
      rw [decide_eq_true (show ((kvs.length : Int) ≤ 5) by omega)]
      refine iteF ?_
      refine ⟨d, _, hd, trivial, fun od => ?_⟩
      have ntD : NT (.dK kvs) := ntK _
      have t0 := tb.lock (od := od) hd ntD
      refine ⟨_, rfl, d, od, kvs, rfl, upd_same, t0 _ mtH, fun H2 t2 => ?_⟩
      have f2 : Fr K [] (L2.upd H d (.frz od (.dK kvs))) H2 := Fr.tab t0 t2 mtH
      have hd2 := f2.at (p := d) upd_same
      refine g_it (walk_items (d := d) (o := od) (kvs := kvs)) (fun i H => Fr K [] H2 H ∧ ∀ b ∈ bs.take i, b = true) ⟨Fr.refl f2.2, fun _ m => by simp at m⟩ (fun i H _ ⟨f, _⟩ => f.at hd2) (fun i x H3 H4 hi ⟨f, hp⟩ hy => ?_) (fun H3 ⟨f, hp⟩ => ?_)
      · obtain ⟨Tp, x, y, rfl, nT, rfl, ex, ey⟩ := hy
        have e1 : kvs[i]? = some kvs[i] := List.getElem?_eq_getElem hi
        obtain ⟨b, hb, b1, tt, c, q1, q2, q3, q4⟩ := paired_get pw e1
        dsimp only at ex ey
        rw [e1] at ex ey
        cases ex
        cases ey
        have f3 := Fr.new (E := []) (o := .tup [kV kvs[i].1, kvs[i].2]) f.2 nT
        have no : b = false → ∀ H', Fr K [] H2 H' → H' d = some (.frz od (.dK kvs)) ∧ Q (.bl false) (L2.upd H' d (.dK kvs)) := fun eb H' f' => by
          have := k _ (Fr.unlock tb hd ntD (f2.trans f') (f'.at hd2))
          rw [show bs.all id = false from by
            rw [Bool.eq_false_iff]
            intro q
            have := List.all_eq_true.mp q b (List.mem_of_getElem? hb)
            rw [eb] at this
            cases this] at this
          exact ⟨f'.at hd2, this⟩
        have yes : b = true → ∀ H', Fr K [] H2 H' → Fr K [] H2 H' ∧ ∀ b ∈ bs.take (i + 1), b = true := fun eb H' f' => ⟨f', fun c m => by
          rw [List.take_add_one, hb] at m
          rcases List.mem_append.mp m with m | m
          · exact hp c m
          · rw [List.mem_singleton.mp m]; exact eb⟩
        refine ⟨Tp, _, rfl, .inl (.inl upd_same), rfl, _, _, rfl, _, _, rfl, rfl, rfl, ?_⟩
        refine ⟨_, rfl, _, b1, rfl, q1 _, f3.2, fun H5 f5 => ⟨b1, rfl, ?_⟩⟩
        have g5 := (f.trans f3).trans f5
        cases b1 with
        | false =>
          refine iteF ⟨false, rfl, iteF ?_⟩
          exact no (by rw [q4, Bool.false_and]) H5 g5
        | true =>
          refine iteT ⟨_, rfl, _, _, _, _, c, rfl, .ty _, (q2 _).ty, kit_ty q3, c, rfl, ?_⟩
          rw [Bool.true_and] at q4
          cases c with
          | true => exact iteT (yes q4 H5 g5)
          | false => exact iteF (no q4 H5 g5)
      · have := k _ (Fr.unlock tb hd ntD (f2.trans f) (f.at hd2))
        rw [show kvs.length = bs.length from Paired.length pw, List.take_length] at hp
        rw [show bs.all id = true from List.all_eq_true.mpr hp] at this
        exact ⟨f.at hd2, this⟩
    · rw [decide_eq_false c2, Bool.false_and] at k0
      refine ⟨_, _, rfl, rfl, _, rfl, ?_⟩
      rw [decide_eq_false (show ¬ ((kvs.length : Int) ≤ 5) by omega)]
      exact iteT k0
  · rw [decide_eq_false c1, Bool.false_and] at k0
    exact ⟨_, _, rfl, rfl, _, rfl, iteN (by omega) ⟨false, rfl, iteT k0⟩⟩
end
end So
end

section
set_option Elab.async false
set_option linter.all false
set_option maxRecDepth 100000
set_option maxHeartbeats 4000000
/-! a house's refusals, things of all sorts -/
namespace So
open PySem PySem.Spec PyProof.Rows L2 GxA TL
open GxR (TabB TabG Tabbed)
section
variable {P : Program} {w : World} {K : PySem.W.Frag} {mg : Str → Option Value} {base : Heap} {H H' : Hp} {v : V} {t : String}
/-- a thing that is nobody's name in the house -/
def NoOne (K : PySem.W.Frag) (H : Hp) (M : HM) (v : V) : Prop := Nm8 H v false ∨ ∃ n, v = .str n ∧ Nm n ∧ n ∉ M.na
def spCheck8 (K : PySem.W.Frag) : Sp := fun vs H _ E => ∃ (O : List Addr) (R : HR) (M : HM) (b : Nat) (v : V), vs = [.ref R.r, v] ∧ HAt K O H R M b ∧ NoOne K H M v ∧ Tb K H ∧ ∀ H', Fr K [] H H' → E (.ref (C_BadName K)) none H'
theorem R_check8 (T : Txt w K mg base) : FnE P w K mg base 8 (a_House_check_person K) (spCheck8 K) := by
  intro A outer s H us vs Q E hr e0 r ⟨O, R, M, b, v, e, hA, no, tb, k⟩
  rcases no with no | ⟨n, rfl, hn, hm⟩
  · have R0 : FnE P w K mg base 8 (a_House_check_person K) (fun vs H _ E => ∃ (r v : V), vs = [r, v] ∧ Nm8 H v false ∧ Tb K H ∧ ∀ H', Fr K [] H H' → E (.ref (C_BadName K)) none H') := by
      refine mkE T.f_House_check_person sc_House_check_person bd_House_check_person ?_ ?_
      · rintro vs H Q E ⟨r, v, rfl, _⟩; rfl
      rintro cdv A outer s H vs Q E hr ⟨r, v, rfl, hn, tb, k⟩
      obtain ⟨_, F1⟩ := T.f_is_name
      refine ⟨_, pss_one (ps_if (PW.pt (pw_or (pt_not (pt_val (pe_cF (R_name8 T) (hr.mono (by decide)) (by rfl) T.g_is_name F1.kp (pa_cons (pv 1) pa_nil)))) (pw_or1 (pt_cmp (pc_dnotin (hu_of hr) (pv 1) (pe_fld (pv 0) rfl)) rfl))))
        (pss_one (ps_raise rfl (takes_of rfl rfl rfl rfl) (pmk_own PySem.F.excBase_ValueError T.exc.x_BadName T.g_BadName T.exc.k_BadName (raises_own T.exc.s_BadName T.exc.y_BadName) rfl))) pss_nil), ?_⟩
      exact ⟨_, rfl, v, false, rfl, hn, tb, fun H1 f1 => ⟨false, rfl, iteT (k H1 f1)⟩⟩
    exact R0 A outer s H us vs Q E hr e0 r ⟨_, v, e, no, tb, k⟩
  · exact R_check_bad T A outer s H us vs Q E hr e0 r ⟨O, R, M, b, n, e, hA, hn, hm, tb, k⟩
def spNoLetter8 (K : PySem.W.Frag) : Sp := fun vs H _ E => ∃ (v : V), vs = [v] ∧ Lt8 H v false ∧ Tb K H ∧ ∀ H', Fr K [] H H' → E (.ref (C_BadLetter K)) none H'
theorem R_no_letter8 (T : Txt w K mg base) : FnE P w K mg base 14 (a_check_letter K) (spNoLetter8 K) := by
  refine mkE T.f_check_letter sc_check_letter bd_check_letter ?_ ?_
  · rintro vs H Q E ⟨v, rfl, _⟩; rfl
  rintro cdv A outer s H vs Q E hr ⟨v, rfl, p, tb, k⟩
  obtain ⟨_, F1⟩ := T.f_is_letter
  refine ⟨_, pss_one (ps_if (pt_not (pt_val (pe_cF (R_letter8 T) (hr.mono (by decide)) (by rfl) T.g_is_letter F1.kp (pa_cons (pv 0) pa_nil))))
    (pss_one (ps_raise rfl (takes_of rfl rfl rfl rfl) (pmk_own PySem.F.excBase_ValueError T.exc.x_BadLetter T.g_BadLetter T.exc.k_BadLetter (raises_own T.exc.s_BadLetter T.exc.y_BadLetter) rfl))) pss_nil), ?_⟩
  exact ⟨_, rfl, v, false, rfl, p, tb, fun H' f => ⟨false, rfl, iteT (k H' f)⟩⟩
/-- deliver to nobody -/
def spDel8a (K : PySem.W.Frag) : Sp := fun vs H _ E => ∃ (O : List Addr) (R : HR) (M : HM) (b : Nat) (v z : V), vs = [.ref R.r, v, z] ∧ HAt K O H R M b ∧ NoOne K H M v ∧ Tb K H ∧ ∀ H', Fr K [] H H' → E (.ref (C_BadName K)) none H'
theorem R_deliver8a (T : Txt w K mg base) : FnE P w K mg base 90 (a_House_deliver K) (spDel8a K) := by
  refine mkE T.f_House_deliver sc_House_deliver bd_House_deliver ?_ ?_
  · rintro vs H Q E ⟨O, R, M, b, v, z, rfl, _⟩; rfl
  rintro cdv A outer s H vs Q E hr ⟨O, R, M, b, v, z, rfl, hA, no, tb, k⟩
  refine ⟨_, pss_cons (ps_expr (pe_methR (pv 0) T.c_House T.m_House_check_person (R_check8 T) (hr.mono (by decide)) (passX (takes_of rfl rfl rfl rfl) fun _ _ _ _ h => h) (pa_cons (pv 1) pa_nil)))
    (pss_cons ps_never (pss_cons ps_never (pss_cons ps_never (pss_cons ps_never (pss_cons ps_never (pss_cons ps_never (pss_one ps_never))))))), ?_⟩
  exact ⟨_, rfl, R.r, R.dx, _, rfl, hA.ob, rfl, _, rfl, O, R, M, b, v, rfl, hA, no, tb, k⟩
/-- no letter -/
def spDel8b (K : PySem.W.Frag) : Sp := fun vs H _ E => ∃ (O : List Addr) (R : HR) (M : HM) (b : Nat) (n : Str) (z : V), vs = [.ref R.r, .str n, z] ∧ HAt K O H R M b ∧ Nm n ∧ n ∈ M.na ∧ Lt8 H z false ∧ Tb K H ∧ ∀ H', Fr K [] H H' → E (.ref (C_BadLetter K)) none H'
theorem R_deliver8b (T : Txt w K mg base) : FnE P w K mg base 90 (a_House_deliver K) (spDel8b K) := by
  refine mkE T.f_House_deliver sc_House_deliver bd_House_deliver ?_ ?_
  · rintro vs H Q E ⟨O, R, M, b, n, z, rfl, _⟩; rfl
  rintro cdv A outer s H vs Q E hr ⟨O, R, M, b, n, z, rfl, hA, hn, hm, hz, tb, k⟩
  obtain ⟨_, F1⟩ := T.f_check_letter
  refine ⟨_, pss_cons (ps_expr (pe_methR (pv 0) T.c_House T.m_House_check_person (R_check T) (hr.mono (by decide)) pass0 (pa_cons (pv 1) pa_nil)))
    (pss_cons (ps_expr (pe_cX (R_no_letter8 T) (hr.mono (by decide)) (passX (takes_of rfl rfl rfl rfl) fun _ _ _ _ h => h) (by rfl) T.g_check_letter F1.kp (pa_cons (pv 2) pa_nil)))
    (pss_cons ps_never (pss_cons ps_never (pss_cons ps_never (pss_cons ps_never (pss_cons ps_never (pss_one ps_never))))))), ?_⟩
  refine ⟨_, rfl, R.r, R.dx, _, rfl, hA.ob, rfl, _, rfl, O, R, M, b, n, rfl, hA, hn, hm, tb, fun H1 f1 => ?_⟩
  exact ⟨_, rfl, z, rfl, hz.fr f1, f1.2, fun H' f => k H' (f1.trans f)⟩
/-- filed with nobody -/
def spFil8a (K : PySem.W.Frag) : Sp := spDel8a K
theorem R_filed8a (T : Txt w K mg base) : FnE P w K mg base 9 (a_House_filed K) (spFil8a K) := by
  refine mkE T.f_House_filed sc_House_filed bd_House_filed ?_ ?_
  · rintro vs H Q E ⟨O, R, M, b, v, z, rfl, _⟩; rfl
  rintro cdv A outer s H vs Q E hr ⟨O, R, M, b, v, z, rfl, hA, no, tb, k⟩
  refine ⟨_, pss_cons (ps_expr (pe_methR (pv 0) T.c_House T.m_House_check_person (R_check8 T) (hr.mono (by decide)) (passX (takes_of rfl rfl rfl rfl) fun _ _ _ _ h => h) (pa_cons (pv 1) pa_nil)))
    (pss_cons ps_never (pss_one ps_never)), ?_⟩
  exact ⟨_, rfl, R.r, R.dx, _, rfl, hA.ob, rfl, _, rfl, O, R, M, b, v, rfl, hA, no, tb, k⟩
/-- filed under what is no name -/
def spFil8b (K : PySem.W.Frag) : Sp := fun vs H _ E => ∃ (O : List Addr) (R : HR) (M : HM) (b : Nat) (n : Str) (z : V), vs = [.ref R.r, .str n, z] ∧ HAt K O H R M b ∧ Nm n ∧ n ∈ M.na ∧ Nm8 H z false ∧ Tb K H ∧ ∀ H', Fr K [] H H' → E (.ref (C_BadName K)) none H'
theorem R_filed8b (T : Txt w K mg base) : FnE P w K mg base 9 (a_House_filed K) (spFil8b K) := by
  refine mkE T.f_House_filed sc_House_filed bd_House_filed ?_ ?_
  · rintro vs H Q E ⟨O, R, M, b, n, z, rfl, _⟩; rfl
  rintro cdv A outer s H vs Q E hr ⟨O, R, M, b, n, z, rfl, hA, hn, hm, hz, tb, k⟩
  obtain ⟨_, F1⟩ := T.f_is_name
  refine ⟨_, pss_cons (ps_expr (pe_methR (pv 0) T.c_House T.m_House_check_person (R_check T) (hr.mono (by decide)) pass0 (pa_cons (pv 1) pa_nil)))
    (pss_cons (ps_if (pt_not (pt_val (pe_cF (R_name8 T) (hr.mono (by decide)) (by rfl) T.g_is_name F1.kp (pa_cons (pv 2) pa_nil))))
      (pss_one (ps_raise rfl (takes_of rfl rfl rfl rfl) (pmk_own PySem.F.excBase_ValueError T.exc.x_BadName T.g_BadName T.exc.k_BadName (raises_own T.exc.s_BadName T.exc.y_BadName) rfl))) pss_nil)
    (pss_one ps_never)), ?_⟩
  refine ⟨_, rfl, R.r, R.dx, _, rfl, hA.ob, rfl, _, rfl, O, R, M, b, n, rfl, hA, hn, hm, tb, fun H1 f1 => ?_⟩
  exact ⟨_, rfl, z, false, rfl, hz.fr f1, f1.2, fun H2 f2 => ⟨false, rfl, iteT (k H2 (f1.trans f2))⟩⟩
/-- outside, of what is no name or somebody's -/
def spOut8 (K : PySem.W.Frag) : Sp := fun vs H _ E => ∃ (O : List Addr) (R : HR) (M : HM) (b : Nat) (v : V), vs = [.ref R.r, v] ∧ HAt K O H R M b ∧ (Nm8 H v false ∨ ∃ n, v = .str n ∧ Nm n ∧ n ∈ M.na) ∧ Tb K H ∧ ∀ H', Fr K [] H H' → E (.ref (C_BadName K)) none H'
theorem R_outside8 (T : Txt w K mg base) : FnE P w K mg base 9 (a_House_outside K) (spOut8 K) := by
  refine mkE T.f_House_outside sc_House_outside bd_House_outside ?_ ?_
  · rintro vs H Q E ⟨O, R, M, b, v, rfl, _⟩; rfl
  rintro cdv A outer s H vs Q E hr ⟨O, R, M, b, v, rfl, hA, no, tb, k⟩
  obtain ⟨_, F1⟩ := T.f_is_name
  refine ⟨_, pss_cons (ps_if (PW.pt (pw_or (pt_not (pt_val (pe_cF (R_name8 T) (hr.mono (by decide)) (by rfl) T.g_is_name F1.kp (pa_cons (pv 1) pa_nil)))) (pw_or1 (pt_cmp (pc_din (hu_of hr) (pv 1) (pe_fld (pv 0) rfl)) rfl))))
      (pss_one (ps_raise rfl (takes_of rfl rfl rfl rfl) (pmk_own PySem.F.excBase_ValueError T.exc.x_BadName T.g_BadName T.exc.k_BadName (raises_own T.exc.s_BadName T.exc.y_BadName) rfl))) pss_nil)
    (pss_one ps_never), ?_⟩
  rcases no with no | ⟨n, rfl, hn, hm⟩
  · exact ⟨_, rfl, v, false, rfl, no, tb, fun H1 f1 => ⟨false, rfl, iteT (k H1 f1)⟩⟩
  · refine ⟨_, rfl, _, nmB n, rfl, .str n (Nat.le_trans hn.2.1 (by decide)), tb, fun H1 f1 => ⟨nmB n, rfl, ?_⟩⟩
    rw [nmB_t hn]
    refine iteF ?_
    have A1 := hA.fr0 f1
    obtain ⟨kvs, e1, _, e3⟩ := A1.ppl.key n
    refine ⟨_, rfl, _, rfl, R.r, _, R.dx, _, _, rfl, A1.ob, T.c_House, T.n_House_people, hfs_people R, R.p, _, rfl, DGet.k (k := Sum.inr n) e1, _, rfl, ?_⟩
    rw [e3, decide_eq_true (show n ∈ M.ps.map (·.1) from hm)]
    exact iteT (k H1 f1)
/-- the text of nobody -/
theorem R_rules8 (T : Txt w K mg base) : FnE P w K mg base 9 (a_House_rules K) (spCheck8 K) := by
  refine mkE T.f_House_rules sc_House_rules bd_House_rules ?_ ?_
  · rintro vs H Q E ⟨O, R, M, b, v, rfl, _⟩; rfl
  rintro cdv A outer s H vs Q E hr ⟨O, R, M, b, v, rfl, hA, no, tb, k⟩
  refine ⟨_, pss_cons (ps_expr (pe_methR (pv 0) T.c_House T.m_House_check_person (R_check8 T) (hr.mono (by decide)) (passX (takes_of rfl rfl rfl rfl) fun _ _ _ _ h => h) (pa_cons (pv 1) pa_nil))) (pss_one ps_never), ?_⟩
  exact ⟨_, rfl, R.r, R.dx, _, rfl, hA.ob, rfl, _, rfl, O, R, M, b, v, rfl, hA, no, tb, k⟩
/-- what is no name taught -/
def spTeach8 (K : PySem.W.Frag) : Sp := fun vs H _ E => ∃ (r v z : V), vs = [r, v, z] ∧ Nm8 H v false ∧ Tb K H ∧ ∀ H', Fr K [] H H' → E (.ref (C_BadName K)) none H'
theorem R_teach8 (T : Txt w K mg base) : FnE P w K mg base 52 (a_House_teach K) (spTeach8 K) := by
  refine mkE T.f_House_teach sc_House_teach bd_House_teach ?_ ?_
  · rintro vs H Q E ⟨r, v, z, rfl, _⟩; rfl
  rintro cdv A outer s H vs Q E hr ⟨r, v, z, rfl, hn, tb, k⟩
  obtain ⟨_, F1⟩ := T.f_is_name
  refine ⟨_, pss_cons (ps_if (pt_not (pt_val (pe_cF (R_name8 T) (hr.mono (by decide)) (by rfl) T.g_is_name F1.kp (pa_cons (pv 1) pa_nil))))
      (pss_one (ps_raise rfl (takes_of rfl rfl rfl rfl) (pmk_own PySem.F.excBase_ValueError T.exc.x_BadName T.g_BadName T.exc.k_BadName (raises_own T.exc.s_BadName T.exc.y_BadName) rfl))) pss_nil)
    (pss_cons ps_never (pss_cons ps_never (pss_cons ps_never (pss_cons ps_never (pss_cons ps_never (pss_one ps_never)))))), ?_⟩
  exact ⟨_, rfl, v, false, rfl, hn, tb, fun H1 f1 => ⟨false, rfl, iteT (k H1 f1)⟩⟩
/-- a number that no letter has -/
inductive No8 (H : Hp) (n : Nat) : V → Prop where
  | int (i : Int) (h : ¬ (0 ≤ i ∧ i < n)) : No8 H n (.int i)
  | bl (b : Bool) : No8 H n (.bl b)
  | no {v : V} {t : String} (p : Pl H v t) (h : kitB t "int" = some false) : No8 H n v
def spWay8 (K : PySem.W.Frag) : Sp := fun vs H _ E => ∃ (O : List Addr) (R : HR) (M : HM) (b : Nat) (v : V), vs = [.ref R.r, v] ∧ HAt K O H R M b ∧ No8 H M.ws.length v ∧ Tb K H ∧ ∀ H', Fr K [] H H' → E (.ref (C_NoLetter K)) none H'
theorem R_way8 (T : Txt w K mg base) : FnE P w K mg base 1 (a_House_way K) (spWay8 K) := by
  refine mkE T.f_House_way sc_House_way bd_House_way ?_ ?_
  · rintro vs H Q E ⟨O, R, M, b, v, rfl, _⟩; rfl
  rintro cdv A outer s H vs Q E hr ⟨O, R, M, b, v, rfl, hA, no, tb, k⟩
  have k0 := k H (Fr.refl tb)
  refine ⟨_, pss_cons (ps_if (PW.pt (pw_or (pt_not (pt_val (pe_callB call_isi (by rfl) T.z_isinstance (by decide +kernel) (pa_cons (pv 1) (pa_cons (pe_bltn (by rfl) T.z_int (by decide +kernel) (v := .ty "int") rfl) pa_nil)))))
      (pw_or (pt_val (pe_callB call_isi (by rfl) T.z_isinstance (by decide +kernel) (pa_cons (pv 1) (pa_cons (pe_bltn (by rfl) T.z_bool (by decide +kernel) (v := .ty "bool") rfl) pa_nil))))
      (pw_or1 (pt_not (pt_chain op_le op_lt pe_int (pv 1) (pe_callB call_len_seq (by rfl) T.z_len PySem.boot_len (pa_cons (pe_fld (pv 0) rfl) pa_nil))))))))
      (pss_one (ps_raise rfl (takes_of rfl rfl rfl rfl) (pmk_own PySem.F.excBase_ValueError T.exc.x_NoLetter T.g_NoLetter T.exc.k_NoLetter (raises_own T.exc.s_NoLetter T.exc.y_NoLetter) rfl))) pss_nil)
    (pss_one ps_never), ?_⟩
  cases no with
  | no p h =>
    refine ⟨_, rfl, _, _, _, _, false, rfl, .ty _, p.ty, kit_ty h, ?_⟩
    exact ⟨false, rfl, iteT k0⟩
  | bl c =>
    refine ⟨_, rfl, _, _, _, _, true, rfl, .ty _, .base (.bl c), kit_ty (by decide +kernel), true, rfl, iteF ?_⟩
    exact ⟨_, rfl, _, _, _, _, true, rfl, .ty _, .base (.bl c), kit_ty (by decide +kernel), true, rfl, iteT k0⟩
  | int i h =>
    refine ⟨_, rfl, _, _, _, _, true, rfl, .ty _, .base (.int i), kit_ty (by decide +kernel), true, rfl, iteF ?_⟩
    refine ⟨_, rfl, _, _, _, _, false, rfl, .ty _, .base (.int i), kit_ty (by decide +kernel), false, rfl, iteF ?_⟩
    obtain ⟨ws, w1, w2⟩ := hA.ways
    have wl := Paired.length w2
    by_cases h1 : 0 ≤ i
    · refine ⟨_, rfl, _, _, rfl, rfl, _, rfl, iteD h1 ?_⟩
      refine ⟨_, rfl, R.r, _, R.dx, _, _, rfl, hA.ob, T.c_House, T.n_House_ways, hfs_ways R, R.w, _, rfl, .inl (SqL.of w1), _, _, rfl, rfl, _, rfl, ?_⟩
      rw [decide_eq_false (show ¬ (i < (ws.length : Int)) by rw [wl]; exact fun z => h ⟨h1, z⟩)]
      exact iteT k0
    · exact ⟨_, rfl, _, _, rfl, rfl, _, rfl, iteN h1 ⟨false, rfl, iteT k0⟩⟩
end
end So
end

section
set_option Elab.async false
set_option linter.all false
set_option maxRecDepth 100000
set_option maxHeartbeats 4000000
/-! refusals of the other doors -/
namespace So
open PySem PySem.Spec PyProof.Rows L2 GxA TL
open GxR (TabB TabG Tabbed)
section
variable {P : Program} {w : World} {K : PySem.W.Frag} {mg : Str → Option Value} {base : Heap} {H H' : Hp} {v : V} {t : String}
/-- no text -/
def spReadText (K : PySem.W.Frag) : Sp := fun vs H _ E => ∃ (v : V) (t : String), vs = [v] ∧ Pl H v t ∧ kitB t "str" = some false ∧ Tb K H ∧ ∀ H', Fr K [] H H' → E (.ref (C_BadText K)) none H'
theorem R_read_text (T : Txt w K mg base) : FnE P w K mg base 48 (a_read K) (spReadText K) := by
  refine mkE T.f_read sc_read bd_read ?_ ?_
  · rintro vs H Q E ⟨v, t, rfl, _⟩; rfl
  rintro cdv A outer s H vs Q E hr ⟨v, t, rfl, p, ht, tb, k⟩
  refine ⟨_, pss_cons (ps_if (pt_not (pt_val (pe_callB call_isi (by rfl) T.z_isinstance (by decide +kernel) (pa_cons (pv 0) (pa_cons (pe_bltn (by rfl) T.z_str (by decide +kernel) (v := .ty "str") rfl) pa_nil)))))
      (pss_one (ps_raise rfl (takes_of rfl rfl rfl rfl) (pmk_own PySem.F.excBase_ValueError T.exc.x_BadText T.g_BadText T.exc.k_BadText (raises_own T.exc.s_BadText T.exc.y_BadText) rfl))) pss_nil)
    (pss_cons ps_never (pss_cons ps_never (pss_cons ps_never (pss_one ps_never)))), ?_⟩
  exact ⟨_, rfl, _, _, _, _, false, rfl, .ty _, p.ty, kit_ty ht, false, rfl, iteT (k H (Fr.refl tb))⟩
/-- no house -/
def spNoHouse (K : PySem.W.Frag) : Sp := fun vs H _ E => ∃ (v : V), vs = [v] ∧ Hs8 H v false ∧ Tb K H ∧ ∀ H', Fr K [] H H' → E (.ref (C_BadHouse K)) none H'
theorem R_no_house (T : Txt w K mg base) : FnE P w K mg base 50 (a_read_house K) (spNoHouse K) := by
  refine mkE T.f_read_house sc_read_house bd_read_house ?_ ?_
  · rintro vs H Q E ⟨v, rfl, _⟩; rfl
  rintro cdv A outer s H vs Q E hr ⟨v, rfl, p, tb, k⟩
  obtain ⟨_, F1⟩ := T.f_is_house
  refine ⟨_, pss_cons (ps_if (pt_not (pt_val (pe_cF (R_house8 T) (hr.mono (by decide)) (by rfl) T.g_is_house F1.kp (pa_cons (pv 0) pa_nil))))
      (pss_one (ps_raise rfl (takes_of rfl rfl rfl rfl) (pmk_own PySem.F.excBase_ValueError T.exc.x_BadHouse T.g_BadHouse T.exc.k_BadHouse (raises_own T.exc.s_BadHouse T.exc.y_BadHouse) rfl))) pss_nil)
    (pss_cons ps_never (pss_cons ps_never (pss_one ps_never))), ?_⟩
  exact ⟨_, rfl, v, false, rfl, p, tb, fun H1 f1 => ⟨false, rfl, iteT (k H1 f1)⟩⟩
def spInit8 (K : PySem.W.Frag) : Sp := fun vs H _ E => ∃ (a : V) (v : V), vs = [a, v] ∧ Hs8 H v false ∧ Tb K H ∧ ∀ H', Fr K [] H H' → E (.ref (C_BadHouse K)) none H'
theorem R_init8 (T : Txt w K mg base) : FnE P w K mg base 52 (a_House_init K) (spInit8 K) := by
  refine mkE T.f_House_init sc_House_init bd_House_init ?_ ?_
  · rintro vs H Q E ⟨a, v, rfl, _⟩; rfl
  rintro cdv A outer s H vs Q E hr ⟨a, v, rfl, p, tb, k⟩
  obtain ⟨_, F1⟩ := T.f_read_house
  refine ⟨_, pss_cons (ps_fld (pv 0) (pe_cX (R_no_house T) (hr.mono (by decide)) (passX (takes_of rfl rfl rfl rfl) fun _ _ _ _ h => h) (by rfl) T.g_read_house F1.kp (pa_cons (pv 1) pa_nil)) rfl)
    (pss_cons ps_never (pss_cons ps_never (pss_cons ps_never (pss_one ps_never)))), ?_⟩
  exact ⟨_, rfl, v, rfl, p, tb, k⟩
/-- ring: no house -/
def spRingH (K : PySem.W.Frag) : Sp := fun vs H _ E => ∃ (v z : V), vs = [v, z] ∧ Hs8 H v false ∧ Tb K H ∧ ∀ H', Fr K [] H H' → E (.ref (C_BadHouse K)) none H'
theorem R_ringH (T : Txt w K mg base) : FnE P w K mg base 60 (a_ring K) (spRingH K) := by
  refine mkE T.f_ring sc_ring bd_ring ?_ ?_
  · rintro vs H Q E ⟨v, z, rfl, _⟩; rfl
  rintro cdv A outer s H vs Q E hr ⟨v, z, rfl, p, tb, k⟩
  have nd := sc_ring.nd
  obtain ⟨_, F1⟩ := T.f_read_house
  refine ⟨_, pss_cons (ps_set (i := 2) nd rfl (.inr rfl) (pe_cX (R_no_house T) (hr.mono (by decide)) (passX (takes_of rfl rfl rfl rfl) fun _ _ _ _ h => h) (by rfl) T.g_read_house F1.kp (pa_cons (pv 0) pa_nil)))
    (pss_cons ps_never (pss_cons ps_never (pss_cons ps_never (pss_cons ps_never (pss_cons ps_never (pss_one ps_never)))))), ?_⟩
  exact ⟨_, rfl, v, rfl, p, tb, k⟩
/-- ring: nobody's name -/
def spRingN (K : PySem.W.Frag) : Sp := fun vs H _ E => ∃ (d : Addr) (ts : List (Str × Str)) (ro : Str → List RuleD) (W : List Str) (v : V), vs = [.ref d, v] ∧ H d = some (.dK (txK ts)) ∧ HsOk ts ro W ∧ (Nm8 H v false ∨ ∃ n, v = .str n ∧ Nm n ∧ n ∉ ts.map (·.1)) ∧ Tb K H ∧ ∀ H', Fr K [] H H' → E (.ref (C_BadName K)) none H'
theorem R_ringN (T : Txt w K mg base) : FnE P w K mg base 60 (a_ring K) (spRingN K) := by
  refine mkE T.f_ring sc_ring bd_ring ?_ ?_
  · rintro vs H Q E ⟨d, ts, ro, W, v, rfl, _⟩; rfl
  rintro cdv A outer s H vs Q E hr ⟨d, ts, ro, W, v, rfl, hd, hs, no, tb, k⟩
  have nd := sc_ring.nd
  obtain ⟨_, F1⟩ := T.f_read_house
  obtain ⟨_, F2⟩ := T.f_is_name
  refine ⟨_, pss_cons (ps_set (i := 2) nd rfl (.inr rfl) (pe_cF (R_read_house T) (hr.mono (by decide)) (by rfl) T.g_read_house F1.kp (pa_cons (pv 0) pa_nil)))
    (pss_cons (ps_if (PW.pt (pw_or (pt_not (pt_val (pe_cF (R_name8 T) (hr.mono (by decide)) (by rfl) T.g_is_name F2.kp (pa_cons (pv 1) pa_nil)))) (pw_or1 (pt_cmp (pc_dnotin (hu_of hr) (pv 1) (pv 2)) rfl))))
      (pss_one (ps_raise rfl (takes_of rfl rfl rfl rfl) (pmk_own PySem.F.excBase_ValueError T.exc.x_BadName T.g_BadName T.exc.k_BadName (raises_own T.exc.s_BadName T.exc.y_BadName) rfl))) pss_nil)
    (pss_cons ps_never (pss_cons ps_never (pss_cons ps_never (pss_cons ps_never (pss_one ps_never)))))), ?_⟩
  refine ⟨_, rfl, d, ts, ro, W, rfl, hd, hs, tb, fun H1 p ns f1 np pm hP => ?_⟩
  rcases no with no | ⟨n, rfl, hn, hm⟩
  · exact ⟨_, rfl, v, false, rfl, no.fr f1, f1.2, fun H2 f2 => ⟨false, rfl, iteT (k H2 (f1.trans f2))⟩⟩
  · refine ⟨_, rfl, _, nmB n, rfl, .str n (Nat.le_trans hn.2.1 (by decide)), f1.2, fun H2 f2 => ⟨nmB n, rfl, ?_⟩⟩
    rw [nmB_t hn]
    refine iteF ?_
    have ppl := ((hP [] fun _ m => nomatch m).fr f2 fun _ m => nomatch m)
    obtain ⟨kvs, e1, _, e3⟩ := ppl.key n
    refine ⟨_, rfl, _, rfl, p, _, rfl, DGet.k (k := Sum.inr n) e1, _, rfl, ?_⟩
    have hm2 : n ∉ (ns.map fun n => (n, ro n)).map (·.1) := by
      rw [List.map_map]
      intro m
      obtain ⟨x, hx, e⟩ := List.mem_map.mp m
      have e : x = n := e
      exact hm (pm.mem_iff.mp (by rw [← e]; exact hx))
    rw [e3, decide_eq_false hm2]
    exact iteT (k H2 (f1.trans f2))
/-- reaching: no name -/
def spReach8 (K : PySem.W.Frag) : Sp := fun vs H _ E => ∃ (x : Str) (os : List (Option RuleD)) (W : List Str) (v : V), vs = [.str x, v] ∧ TxtOk x os W ∧ Nm8 H v false ∧ Tb K H ∧ ∀ H', Fr K [] H H' → E (.ref (C_BadName K)) none H'
theorem R_reach8 (T : Txt w K mg base) : FnE P w K mg base 60 (a_reaching K) (spReach8 K) := by
  refine mkE T.f_reaching sc_reaching bd_reaching ?_ ?_
  · rintro vs H Q E ⟨x, os, W, v, rfl, _⟩; rfl
  rintro cdv A outer s H vs Q E hr ⟨x, os, W, v, rfl, ht, hn, tb, k⟩
  have nd := sc_reaching.nd
  obtain ⟨_, F1⟩ := T.f_read
  obtain ⟨_, F2⟩ := T.f_is_name
  obtain ⟨rows, t1, t2, t3, t4⟩ := ht.ex
  refine ⟨_, pss_cons (ps_set (i := 2) nd rfl (.inl rfl) (pe_cF (R_read T) (hr.mono (by decide)) (by rfl) T.g_read F1.kp (pa_cons (pv 0) pa_nil)))
    (pss_cons (ps_if (pt_not (pt_val (pe_cF (R_name8 T) (hr.mono (by decide)) (by rfl) T.g_is_name F2.kp (pa_cons (pv 1) pa_nil))))
      (pss_one (ps_raise rfl (takes_of rfl rfl rfl rfl) (pmk_own PySem.F.excBase_ValueError T.exc.x_BadName T.g_BadName T.exc.k_BadName (raises_own T.exc.s_BadName T.exc.y_BadName) rfl))) pss_nil)
    (pss_cons ps_never (pss_cons ps_never (pss_cons ps_never (pss_one ps_never))))), ?_⟩
  refine ⟨_, rfl, x, rows, os, W, rfl, ht.len, t1, t2, t3, t4, ht.four, tb, fun H1 D as f1 _ hD hR => ?_⟩
  exact ⟨_, rfl, v, false, rfl, hn.fr f1, f1.2, fun H2 f2 => ⟨false, rfl, iteT (k H2 (f1.trans f2))⟩⟩
/-- sort, acting: no letter -/
def spSort8 (K : PySem.W.Frag) : Sp := fun vs H _ E => ∃ (x : Str) (os : List (Option RuleD)) (W : List Str) (v : V), vs = [.str x, v] ∧ TxtOk x os W ∧ Lt8 H v false ∧ Tb K H ∧ ∀ H', Fr K [] H H' → E (.ref (C_BadLetter K)) none H'
theorem R_sort8 (T : Txt w K mg base) : FnE P w K mg base 84 (a_sort K) (spSort8 K) := by
  refine mkE T.f_sort sc_sort bd_sort ?_ ?_
  · rintro vs H Q E ⟨x, os, W, v, rfl, _⟩; rfl
  rintro cdv A outer s H vs Q E hr ⟨x, os, W, v, rfl, ht, hn, tb, k⟩
  have nd := sc_sort.nd
  obtain ⟨_, F1⟩ := T.f_read
  obtain ⟨_, F2⟩ := T.f_check_letter
  obtain ⟨rows, t1, t2, t3, t4⟩ := ht.ex
  refine ⟨_, pss_cons (ps_set (i := 2) nd rfl (.inl rfl) (pe_cF (R_read T) (hr.mono (by decide)) (by rfl) T.g_read F1.kp (pa_cons (pv 0) pa_nil)))
    (pss_cons (ps_expr (pe_cX (R_no_letter8 T) (hr.mono (by decide)) (passX (takes_of rfl rfl rfl rfl) fun _ _ _ _ h => h) (by rfl) T.g_check_letter F2.kp (pa_cons (pv 1) pa_nil)))
    (pss_one ps_never)), ?_⟩
  refine ⟨_, rfl, x, rows, os, W, rfl, ht.len, t1, t2, t3, t4, ht.four, tb, fun H1 D as f1 _ hD hR => ?_⟩
  exact ⟨_, rfl, v, rfl, hn.fr f1, f1.2, fun H2 f2 => k H2 (f1.trans f2)⟩
theorem R_acting8 (T : Txt w K mg base) : FnE P w K mg base 84 (a_acting K) (spSort8 K) := by
  refine mkE T.f_acting sc_acting bd_acting ?_ ?_
  · rintro vs H Q E ⟨x, os, W, v, rfl, _⟩; rfl
  rintro cdv A outer s H vs Q E hr ⟨x, os, W, v, rfl, ht, hn, tb, k⟩
  have nd := sc_acting.nd
  obtain ⟨_, F1⟩ := T.f_read
  obtain ⟨_, F2⟩ := T.f_check_letter
  obtain ⟨rows, t1, t2, t3, t4⟩ := ht.ex
  refine ⟨_, pss_cons (ps_set (i := 2) nd rfl (.inl rfl) (pe_cF (R_read T) (hr.mono (by decide)) (by rfl) T.g_read F1.kp (pa_cons (pv 0) pa_nil)))
    (pss_cons (ps_expr (pe_cX (R_no_letter8 T) (hr.mono (by decide)) (passX (takes_of rfl rfl rfl rfl) fun _ _ _ _ h => h) (by rfl) T.g_check_letter F2.kp (pa_cons (pv 1) pa_nil)))
    (pss_one ps_never)), ?_⟩
  refine ⟨_, rfl, x, rows, os, W, rfl, ht.len, t1, t2, t3, t4, ht.four, tb, fun H1 D as f1 _ hD hR => ?_⟩
  exact ⟨_, rfl, v, rfl, hn.fr f1, f1.2, fun H2 f2 => k H2 (f1.trans f2)⟩
end
end So
end

section
set_option Elab.async false
set_option linter.all false
set_option maxRecDepth 100000
set_option maxHeartbeats 4000000
/-! if, and nothing behind it -/
namespace So
open PySem PySem.Spec PyProof.Rows L2 GxA TL
open GxR (TabB TabG Tabbed)
def noCond : List Str := ["if"]
def ifText : Str := "if"
section
variable {P : Program} {w : World} {K : PySem.W.Frag} {mg : Str → Option Value} {base : Heap}
section
variable [RowV]
def spEndBad (K : PySem.W.Frag) : Sp := fun vs H _ E => ∃ (r wl : Addr) (ws : List Str) (row i : Nat), vs = [.ref r] ∧ RdAt K H r wl ws i ∧ RowV.v = .int row ∧ nxt ws i = "" ∧ row ≤ 100000 ∧ Tb K H ∧ BadAt K E H (row : Int) ((min i 60 : Nat) : Int)
theorem R_fact_end (pk : BrX.POk P) (T : Txt w K mg base) : FnE P w K mg base 10 (a_Reader_read_fact K) (spEndBad K) := by
  refine mkE T.f_Reader_read_fact sc_Reader_read_fact bd_Reader_read_fact ?_ ?_
  · rintro vs H Q E ⟨r, wl, ws, row, i, rfl, _⟩; rfl
  rintro cdv A outer s H vs Q E hr ⟨r, wl, ws, row, i, rfl, R, hv, hx, hrow, tb, k⟩
  have nd := sc_Reader_read_fact.nd
  obtain ⟨es, nn, D⟩ := T.t_FACTS
  refine ⟨_, pss_cons (ps_set (i := 1) nd rfl (.inl rfl) (pe_m0F (pv 0) T.c_Reader T.m_Reader_peek (R_peek T) (hr.mono (by decide))))
    (pss_cons (ps_if (pt_cmpR (op_notIn_kd D) (pv 1) (pe_glob (by rfl) T.g_FACTS (v := .ref (He.ga K "FACTS")) rfl) (by rfl)) (pss_one (ps_expr (pe_m0X (pv 0) T.c_Reader T.m_Reader_fail (R_fail pk T) (hr.mono (by decide)) (passX (takes_of rfl rfl rfl rfl) fun _ _ _ _ h => h)))) pss_nil)
    (pss_cons ps_never (pss_cons ps_never (pss_one ps_never)))), ?_⟩
  obtain ⟨dx, e⟩ := R.obv
  rw [hv] at e
  refine ⟨_, rfl, r, dx, _, rfl, e, rfl, r, wl, ws, i, rfl, R, ?_⟩
  rw [hx]
  refine ⟨_, rfl, _, _, rfl, rfl, T.n_FACTS, _, rfl, iteT ?_⟩
  exact ⟨_, rfl, r, dx, _, rfl, e, rfl, r, dx, wl, row, i, rfl, e, hrow, tb, k⟩
theorem R_single_end (pk : BrX.POk P) (T : Txt w K mg base) : FnE P w K mg base 12 (a_Reader_read_single K) (spEndBad K) := by
  refine mkE T.f_Reader_read_single sc_Reader_read_single bd_Reader_read_single ?_ ?_
  · rintro vs H Q E ⟨r, wl, ws, row, i, rfl, _⟩; rfl
  rintro cdv A outer s H vs Q E hr ⟨r, wl, ws, row, i, rfl, R, hv, hx, hrow, tb, k⟩
  have nd := sc_Reader_read_single.nd
  refine ⟨_, pss_cons (ps_if (pt_val (pe_methR (pv 0) T.c_Reader T.m_Reader_skip (R_skip T) (hr.mono (by decide)) pass0 (pa_cons pe_str pa_nil))) (pss_one ps_never) pss_nil)
    (pss_cons (ps_if (pt_val (pe_methR (pv 0) T.c_Reader T.m_Reader_skip (R_skip T) (hr.mono (by decide)) pass0 (pa_cons pe_str pa_nil))) (pss_cons ps_never (pss_cons ps_never (pss_one ps_never))) pss_nil)
    (pss_cons (ps_if (pt_val (pe_methR (pv 0) T.c_Reader T.m_Reader_skip (R_skip T) (hr.mono (by decide)) pass0 (pa_cons pe_str pa_nil))) (pss_one ps_never) pss_nil)
    (pss_cons (ps_if (pt_val (pe_methR (pv 0) T.c_Reader T.m_Reader_skip (R_skip T) (hr.mono (by decide)) pass0 (pa_cons pe_str pa_nil))) (pss_one ps_never) pss_nil)
    (pss_one (ps_ret (pe_m0X (pv 0) T.c_Reader T.m_Reader_read_fact (R_fact_end pk T) (hr.mono (by decide)) (passX (takes_of rfl rfl rfl rfl) fun _ _ _ _ h => h))))))), ?_⟩
  obtain ⟨dx, e⟩ := R.obv
  have ne : ∀ {x : Str}, x ≠ "" → nxt ws i ≠ x := fun h z => h (by rw [← z, hx])
  refine ⟨_, rfl, r, dx, _, rfl, e, rfl, r, wl, ws, i, "not", rfl, R, tb, fun hx => absurd hx (ne (by decide +kernel)), fun _ => ⟨false, rfl, iteF ?_⟩⟩
  refine ⟨_, rfl, r, dx, _, rfl, e, rfl, r, wl, ws, i, "(", rfl, R, tb, fun hx => absurd hx (ne (by decide +kernel)), fun _ => ⟨false, rfl, iteF ?_⟩⟩
  refine ⟨_, rfl, r, dx, _, rfl, e, rfl, r, wl, ws, i, "any", rfl, R, tb, fun hx => absurd hx (ne (by decide +kernel)), fun _ => ⟨false, rfl, iteF ?_⟩⟩
  refine ⟨_, rfl, r, dx, _, rfl, e, rfl, r, wl, ws, i, "over", rfl, R, tb, fun hx => absurd hx (ne (by decide +kernel)), fun _ => ⟨false, rfl, iteF ?_⟩⟩
  exact ⟨_, rfl, r, dx, _, rfl, e, rfl, r, wl, ws, row, i, rfl, R, hv, hx, hrow, tb, k⟩
theorem R_joined_end (pk : BrX.POk P) (T : Txt w K mg base) : FnE P w K mg base 13 (a_Reader_read_joined K) (spEndBad K) := by
  refine mkE T.f_Reader_read_joined sc_Reader_read_joined bd_Reader_read_joined ?_ ?_
  · rintro vs H Q E ⟨r, wl, ws, row, i, rfl, _⟩; rfl
  rintro cdv A outer s H vs Q E hr ⟨r, wl, ws, row, i, rfl, R, hv, hx, hrow, tb, k⟩
  have nd := sc_Reader_read_joined.nd
  refine ⟨_, pss_cons (ps_set (i := 1) nd rfl (.inl rfl) (pe_lst (pa_cons (pe_m0X (pv 0) T.c_Reader T.m_Reader_read_single (R_single_end pk T) (hr.mono (by decide)) (passX (takes_of rfl rfl rfl rfl) fun _ _ _ _ h => h)) pa_nil)))
    (pss_cons ps_never (pss_one ps_never)), ?_⟩
  obtain ⟨dx, e⟩ := R.obv
  exact ⟨_, rfl, r, dx, _, rfl, e, rfl, r, wl, ws, row, i, rfl, R, hv, hx, hrow, tb, k⟩
theorem R_cond_end (pk : BrX.POk P) (T : Txt w K mg base) : FnE P w K mg base 14 (a_Reader_read_condition K) (spEndBad K) := by
  refine mkE T.f_Reader_read_condition sc_Reader_read_condition bd_Reader_read_condition ?_ ?_
  · rintro vs H Q E ⟨r, wl, ws, row, i, rfl, _⟩; rfl
  rintro cdv A outer s H vs Q E hr ⟨r, wl, ws, row, i, rfl, R, hv, hx, hrow, tb, k⟩
  have nd := sc_Reader_read_condition.nd
  refine ⟨_, pss_cons (ps_set (i := 1) nd rfl (.inl rfl) (pe_lst (pa_cons (pe_m0X (pv 0) T.c_Reader T.m_Reader_read_joined (R_joined_end pk T) (hr.mono (by decide)) (passX (takes_of rfl rfl rfl rfl) fun _ _ _ _ h => h)) pa_nil)))
    (pss_cons ps_never (pss_one ps_never)), ?_⟩
  obtain ⟨dx, e⟩ := R.obv
  exact ⟨_, rfl, r, dx, _, rfl, e, rfl, r, wl, ws, row, i, rfl, R, hv, hx, hrow, tb, k⟩
def spRuleIf (K : PySem.W.Frag) : Sp := fun vs H _ E => ∃ (r wl : Addr) (row : Nat), vs = [.ref r] ∧ RdAt K H r wl noCond 0 ∧ RowV.v = .int row ∧ row ≤ 100000 ∧ Tb K H ∧ (∀ H', Fr K [r] H H' → BadAt K E H' (row : Int) 1)
theorem R_rule_if (pk : BrX.POk P) (T : Txt w K mg base) : FnE P w K mg base 40 (a_Reader_read_rule K) (spRuleIf K) := by
  refine mkE T.f_Reader_read_rule sc_Reader_read_rule bd_Reader_read_rule ?_ ?_
  · rintro vs H Q E ⟨r, wl, row, rfl, _⟩; rfl
  rintro cdv A outer s H vs Q E hr ⟨r, wl, row, rfl, R, hv, hrow, tb, k⟩
  have nd := sc_Reader_read_rule.nd
  refine ⟨_, pss_cons (ps_expr (pe_methR (pv 0) T.c_Reader T.m_Reader_take (R_take T) (hr.mono (by decide)) pass0 (pa_cons pe_str pa_nil)))
    (pss_cons (ps_set (i := 1) nd rfl (.inl rfl) (pe_m0X (pv 0) T.c_Reader T.m_Reader_read_condition (R_cond_end pk T) (hr.mono (by decide)) (passX (takes_of rfl rfl rfl rfl) fun _ _ _ _ h => h)))
    (pss_cons ps_never (pss_cons ps_never (pss_cons ps_never (pss_cons ps_never (pss_one ps_never)))))), ?_⟩
  obtain ⟨dx, row0, e⟩ := R.ob
  refine ⟨_, rfl, r, dx, _, rfl, e, rfl, r, wl, noCond, 0, "if", rfl, R, tb, by decide +kernel, fun H1 f1 R1 => ?_⟩
  obtain ⟨dx1, row1, e1⟩ := R1.ob
  exact ⟨_, rfl, r, dx1, _, rfl, e1, rfl, r, wl, noCond, row, _, rfl, R1, hv, by decide +kernel, hrow, f1.2, k _ f1⟩
end
def spRuleOfIf (K : PySem.W.Frag) : Sp := fun vs H _ E => ∃ (wl : Addr) (row : Nat), vs = [.ref wl, .int row] ∧ H wl = some (.lst (noCond.map V.str)) ∧ row ≤ 100000 ∧ Tb K H ∧ BadAt K E H (row : Int) 1
theorem R_rule_of_if (pk : BrX.POk P) (T : Txt w K mg base) : FnE P w K mg base 44 (a_rule_of K) (spRuleOfIf K) := by
  refine mkE T.f_rule_of sc_rule_of bd_rule_of ?_ ?_
  · rintro vs H Q E ⟨wl, row, rfl, _⟩; rfl
  rintro cdv A outer s H vs Q E hr ⟨wl, row, rfl, hw, hrow, tb, k⟩
  have nd := sc_rule_of.nd
  letI : RowV := ⟨.int row⟩
  obtain ⟨tM, hM⟩ := T.i_MOST_WORDS
  refine ⟨_, pss_cons (ps_set (i := 2) nd rfl (.inl rfl) (pe_m0X (StX.pe_makeR T.mk_Reader (R_Reader_init T) (hr.mono (by decide)) (by rfl) T.g_Reader pass0
      (pa_cons (pe_slice sl_list (pv 0) po_none (po_some (pe_op op_add (pe_glob (by rfl) hM (v := .int 60) ⟨_, rfl⟩) pe_int))) (pa_cons (pv 1) pa_nil))) T.c_Reader T.m_Reader_read_rule (R_rule_if pk T) (hr.mono (by decide)) (passX (takes_of rfl rfl rfl rfl) fun _ _ _ _ h => h)))
    (pss_cons ps_never (pss_one ps_never)), ?_⟩
  refine ⟨_, rfl, ?_⟩
  refine ⟨60, 1, rfl, rfl, _, rfl, wl, noCond.map V.str, rfl, SqL.of hw, fun cl ncl => ?_⟩
  rw [show ((60 : Int) + 1) = ((61 : Nat) : Int) from rfl, cut_take (by decide)]
  refine ⟨_, rfl, fun x dx nx ndx ne => ?_⟩
  have f1 : Fr K [] H (L2.upd H cl (.lst (noCond.map V.str))) := Fr.new tb ncl
  have nx' : (L2.upd (L2.upd H cl (.lst (noCond.map V.str))) dx (.own x)) x = none := by rw [upd_ne ne.symm]; exact nx
  have f2 := f1.trans (Fr.new (E := []) (o := .own x) f1.2 ndx)
  have f3 := f2.trans (Fr.new (E := []) (o := .ins (C_Reader K) dx []) f2.2 nx')
  refine ⟨x, dx, cl, _, noCond, rfl, rfl, upd_same, ?_, f3.2, fun H2 g2 R2 => ⟨rfl, ?_⟩⟩
  · rw [upd_ne (ne_of_none upd_same nx).symm.symm, upd_ne (ne_of_none upd_same ndx)]
    exact upd_same
  obtain ⟨dx2, row2, e2⟩ := R2.ob
  have hx : H x = none := upd_live _ nx
  refine ⟨x, dx2, _, rfl, e2, rfl, x, cl, row, rfl, R2, rfl, hrow, g2.2, fun H3 g3 => ?_⟩
  exact k.of (Fr.drop1 (E := []) (((f3.mono (E' := [x]) (by simp)).trans g2).trans g3) hx)
def spReadIf (K : PySem.W.Frag) : Sp := fun vs H _ E => vs = [.str ifText] ∧ Tb K H ∧ BadAt K E H 0 1
theorem R_read_if (pk : BrX.POk P) (T : Txt w K mg base) : FnE P w K mg base 48 (a_read K) (spReadIf K) := by
  refine mkE T.f_read sc_read bd_read ?_ ?_
  · rintro vs H Q E ⟨rfl, _⟩; rfl
  rintro cdv A outer s H vs Q E hr ⟨rfl, tb, k⟩
  have nd := sc_read.nd
  obtain ⟨_, F1⟩ := T.f_words_of
  obtain ⟨_, F2⟩ := T.f_rule_of
  refine ⟨_, pss_cons (ps_if (pt_not (pt_val (pe_callB call_isi (by rfl) T.z_isinstance (by decide +kernel) (pa_cons (pv 0) (pa_cons (pe_bltn (by rfl) T.z_str (by decide +kernel) (v := .ty "str") rfl) pa_nil))))) (pss_one ps_never) pss_nil)
    (pss_cons (ps_set (i := 1) nd rfl (.inl rfl) (pe_lst pa_nil))
    (pss_cons (ps_for (passes_of rfl) rfl (pi_enum (by rfl) T.z_enumerate (pa_cons (pe_split (pv 0) pe_str) pa_nil)) (pg_tup rfl (pgs_cons (pg_name (i := 2) nd rfl (.inl rfl)) (pgs_cons (pg_name (i := 3) nd rfl (.inl rfl)) pgs_nil)))
      (pss_cons (ps_set (i := 4) nd rfl (.inl rfl) (pe_cF (R_words_of T) (hr.mono (by decide)) (by rfl) T.g_words_of F1.kp (pa_cons (pv 3) pa_nil)))
      (pss_one (ps_if (PW.pt (pw_and (pt_truth (pv 4) (by intro _; rfl)) (pw_and1 (pt_not (pt_val (pe_m1 PySem.F.slot_str_startswith PySem.F.type_str_startswith mt_startswith (pv 3) pe_str))))))
        (pss_one (ps_expr (pe_bm PySem.F.plainAttrs_list PySem.F.slot_list_append PySem.F.type_list_append mt_append (pv 1) (pa_cons (pe_cX (R_rule_of_if pk T) (hr.mono (by decide)) (passX (takes_of rfl rfl rfl rfl) fun _ _ _ _ h => h) (by rfl) T.g_rule_of F2.kp (pa_cons (pv 4) (pa_cons (pv 2) pa_nil))) pa_nil)))) pss_nil))))
    (pss_cons ps_never
    (pss_one ps_never)))), ?_⟩
  refine ⟨_, rfl, _, _, _, _, true, rfl, .ty _, .base (.str ifText), kit_ty (by decide +kernel), true, rfl, iteF ?_⟩
  refine ⟨by show 0 ≤ sizeLine; decide, fun D nD => ?_⟩
  have hD : H D = none := nD
  have f1 : Fr K [] H (L2.upd H D (.lst [])) := Fr.new tb hD
  refine ⟨_, rfl, ⟨_, rfl⟩, _, _, rfl, rfl, by decide, by decide +kernel, fun S nS => ?_⟩
  have esp : Txt.split ifText "\n" = [ifText] := by decide +kernel
  rw [esp]
  have DS : D ≠ S := ne_of_none upd_same nS
  have f2 := f1.trans (Fr.new (E := []) (o := .lst ([ifText].map V.str)) f1.2 nS)
  refine ⟨S, _, rfl, SqL.of upd_same, ?_⟩
  refine for_enum (xs := [ifText].map V.str) (fun i σ H' => i = 0 ∧ (∃ y1 y2 y3, σ = [some (V.str ifText), some (.ref D), y1, y2, y3]) ∧ Fr K [] H H' ∧ H' S = some (.lst ([ifText].map V.str)) ∧ H' D = some (.lst []))
    ⟨rfl, ⟨_, _, _, rfl⟩, f2, upd_same, by rw [upd_ne DS]; exact upd_same⟩ (fun i σ H' _ ⟨_, _, _, h, _⟩ => SqL.of h) (fun i y Tp σ H' hy ⟨ei, ⟨y1, y2, y3, es⟩, f, hS, hDl⟩ nT => ?_) (fun σ H' ⟨ei, _⟩ => by cases ei)
  subst es
  subst ei
  cases (Option.some.inj hy : V.str ifText = y)
  have g1 : Fr K [] H' (L2.upd H' Tp (.tup [.int ((0 : Nat) : Int), .str ifText])) := Fr.new f.2 nT
  refine ⟨Tp, _, rfl, .inl (.inl upd_same), rfl, _, _, rfl, _, _, rfl, rfl, ?_⟩
  refine ⟨_, rfl, ifText, rfl, by decide +kernel, g1.2, fun H2 wl g2 nwl hwl => ?_⟩
  have ew : wordsOf ifText = noCond := by decide +kernel
  rw [ew] at hwl
  have hD2 := (g1.trans g2).at hDl
  refine ⟨_, rfl, true, .inl ⟨_, SqL.of hwl, rfl⟩, iteT ?_⟩
  refine ⟨_, rfl, ⟨_, rfl⟩, _, _, rfl, rfl, false, ?_, iteT ?_⟩
  · exact congrArg V.bl (by decide +kernel)
  exact ⟨_, rfl, .inl ⟨rfl, _, SqL.of hD2⟩, _, rfl, _, rfl, wl, 0, rfl, hwl, by decide, g2.2, k.of ((f.trans g1).trans g2)⟩
end
end So
end

section
set_option Elab.async false
set_option linter.all false
set_option maxRecDepth 100000
set_option maxHeartbeats 4000000
/-! too much taught -/
namespace So
open PySem PySem.Spec PyProof.Rows L2 GxA TL
open GxR (TabB TabG Tabbed)
section
variable {P : Program} {w : World} {K : PySem.W.Frag} {mg : Str → Option Value} {base : Heap}
def spTeachNames (K : PySem.W.Frag) : Sp := fun vs H _ E => ∃ (O : List Addr) (R : HR) (M : HM) (b : Nat) (n x : Str) (os : List (Option RuleD)) (W W' : List Str), vs = [.ref R.r, .str n, .str x] ∧ HAt K O H R M b ∧ Live O H ∧ Nm n ∧ TxtOk x os W ∧ ((putN M.ps n (os.filterMap id)).flatMap (·.2)).length ≤ 20 ∧ (∀ q ∈ (putN M.ps n (os.filterMap id)), ∀ r ∈ q.2, RWf W' r) ∧ 4 < (namesR ((putN M.ps n (os.filterMap id)).flatMap (·.2))).length ∧ M.ps.length ≤ 5 ∧ Tb K H ∧ ∀ H', Fr K [] H H' → E (.ref (C_TooMany K)) none H'
theorem R_TeachNames (T : Txt w K mg base) : FnE P w K mg base 52 (a_House_teach K) (spTeachNames K) := by
  refine mkE T.f_House_teach sc_House_teach bd_House_teach ?_ ?_
  · rintro vs H Q E ⟨O, R, M, b, n, x, os, W, W', rfl, _⟩; rfl
  rintro cdv A outer s H vs Q E hr ⟨O, R, M, b, n, x, os, W, W', rfl, hA, hlv, hn, hx, few, rwf, many, hl5, tb, k⟩
  have nd := sc_House_teach.nd
  obtain ⟨_, F1⟩ := T.f_is_name
  obtain ⟨_, F2⟩ := T.f_read
  obtain ⟨_, F3⟩ := T.f_all_rules
  obtain ⟨_, F4⟩ := T.f_check_names
  refine ⟨_, pss_cons (ps_if (pt_not (pt_val (pe_cF (R_is_name T) (hr.mono (by decide)) (by rfl) T.g_is_name F1.kp (pa_cons (pv 1) pa_nil)))) (pss_one ps_never) pss_nil)
    (pss_cons (ps_set (i := 3) nd rfl (.inl rfl) (pe_callTy call_dictC (by rfl) T.z_dict (by decide +kernel) (pa_cons (pe_fld (pv 0) rfl) pa_nil)))
    (pss_cons (ps_dput (hu_of hr) (pv 3) (pv 1) (pe_cF (R_read T) (hr.mono (by decide)) (by rfl) T.g_read F2.kp (pa_cons (pv 2) pa_nil)) (by rfl))
    (pss_cons (ps_expr (pe_cX (R_names_many T) (hr.mono (by decide)) (passX (takes_of rfl rfl rfl rfl) fun _ _ _ _ h => h) (by rfl) T.g_check_names F4.kp (pa_cons (pe_cF (R_all_rules T) (hr.mono (by decide)) (by rfl) T.g_all_rules F3.kp (pa_cons (pv 3) pa_nil)) pa_nil)))
    (pss_cons ps_never (pss_cons ps_never (pss_one ps_never)))))), ?_⟩
  obtain ⟨rows, r1, r2, r3, r4⟩ := hx.ex
  refine ⟨_, rfl, n, rfl, hn, tb, fun H1 f1 => ⟨true, rfl, iteF ?_⟩⟩
  have A1 := hA.fr0 f1
  obtain ⟨p0, kvs, e1, e2, e3⟩ := A1.ppl
  have klen : kvs.length = M.ps.length := by have := congrArg List.length e2; simpa using this
  refine ⟨_, rfl, R.r, _, R.dx, _, _, rfl, A1.ob, T.c_House, T.n_House_people, hfs_people R, R.p, kvs, rfl, .inl e1, fun pd npd => ?_⟩
  have f2 := Fr.new (E := []) (o := .dK kvs) f1.2 npd
  have npO : pd ∉ R.own ++ O := fun m => (List.mem_append.mp m).elim (A1.nl npd) ((hlv.fr f1).no npd)
  have lv : ∀ e ∈ pd :: (R.own ++ O), (L2.upd H1 pd (.dK kvs)) e ≠ none := fun e m z => by
    rcases List.mem_cons.mp m with rfl | m
    · rw [upd_same] at z; cases z
    · have z1 := upd_live _ z
      rcases List.mem_append.mp m with m | m
      · exact A1.nl z1 m
      · exact (hlv.fr f1).no z1 m
  have p3 : ∀ (i : Nat) (kv : Key × V) (q : Str × List RuleD), kvs[i]? = some kv → M.ps[i]? = some q → PerAt K (pd :: (R.own ++ O)) (L2.upd H1 pd (.dK kvs)) kv.2 q.2 := fun i kv q a b => (e3 i kv q a b).go (N := [pd]) (fun y m => by rw [List.mem_singleton.mp m]; exact npd) f2 fun e m => nomatch m
  have hpd : (L2.upd H1 pd (.dK kvs)) pd = some (.dK kvs) := upd_same
  have F2' := f1.trans f2
  generalize L2.upd H1 pd (.dK kvs) = H2 at f2 lv p3 hpd F2' ⊢
  refine ⟨_, rfl, x, rows, os, W, rfl, hx.len, r1, r2, r3, r4, hx.four, F2'.2, fun H3 Dl as f3 nDl hDl hR => ?_⟩
  have per : PerAt K (pd :: (R.own ++ O)) H3 (.ref Dl) (os.filterMap id) := ⟨Dl, as, rfl, fun q => lv Dl q nDl, hDl, hR.1, fun j c r q1 q2 => (hR.2 j c r q1 q2).back (fun _ _ => rfl) (fun e m => .inr (lv e m))⟩
  have hpd3 := f3.at hpd
  have ppl4 := PplAt.put (n := n) f3.2 npO hpd3 e2 (fun i kv q a b => (p3 i kv q a b).fr f3 fun _ m => nomatch m) per
  have f4 : Fr K [pd] H3 (L2.upd H3 pd (.dK (putK kvs (Sum.inr n) (.ref Dl)))) := Fr.put f3.2 hpd3 (ntK _) (List.mem_singleton.mpr rfl)
  refine ⟨_, rfl, _, rfl, pd, _, rfl, DPut.k (k := Sum.inr n) hpd3 (Nat.lt_of_le_of_lt (by omega : kvs.length ≤ 5) (by decide)), ?_⟩
  have F4 : Fr K [] H (L2.upd H3 pd (.dK (putK kvs (Sum.inr n) (.ref Dl)))) := Fr.drop1 (E := []) ((F2'.trans f3).nil.trans f4) (f1.3 _ npd)
  have hpd4 : (L2.upd H3 pd (.dK (putK kvs (Sum.inr n) (.ref Dl)))) pd = some (.dK (putK kvs (Sum.inr n) (.ref Dl))) := upd_same
  generalize L2.upd H3 pd (.dK (putK kvs (Sum.inr n) (.ref Dl))) = H4 at ppl4 f4 F4 hpd4 ⊢
  refine ⟨_, rfl, pd, _, rfl, ppl4.sub (fun _ m => nomatch m), Nat.le_trans few (by decide), f4.2, fun H5 Da aa f5 nDa hDa hRa => ?_⟩
  exact ⟨Da, aa, _, W', rfl, hDa, hRa, fun r m => by
    obtain ⟨q, hq, hr'⟩ := List.mem_flatMap.mp m
    exact rwf q hq r hr', few, many, f5.2, fun H6 f6 => k H6 (F4.trans (f5.trans f6))⟩
def spTeachPeople (K : PySem.W.Frag) : Sp := fun vs H _ E => ∃ (O : List Addr) (R : HR) (M : HM) (b : Nat) (n x : Str) (os : List (Option RuleD)) (W W' : List Str), vs = [.ref R.r, .str n, .str x] ∧ HAt K O H R M b ∧ Live O H ∧ Nm n ∧ TxtOk x os W ∧ ((putN M.ps n (os.filterMap id)).flatMap (·.2)).length ≤ 20 ∧ (∀ q ∈ (putN M.ps n (os.filterMap id)), ∀ r ∈ q.2, RWf W' r) ∧ W'.length ≤ 4 ∧ M.ps.length ≤ 5 ∧ 5 < (putN M.ps n (os.filterMap id)).length ∧ Tb K H ∧ ∀ H', Fr K [] H H' → E (.ref (C_TooMany K)) none H'
theorem R_TeachPeople (T : Txt w K mg base) : FnE P w K mg base 52 (a_House_teach K) (spTeachPeople K) := by
  refine mkE T.f_House_teach sc_House_teach bd_House_teach ?_ ?_
  · rintro vs H Q E ⟨O, R, M, b, n, x, os, W, W', rfl, _⟩; rfl
  rintro cdv A outer s H vs Q E hr ⟨O, R, M, b, n, x, os, W, W', rfl, hA, hlv, hn, hx, few, rwf, four, hl5, many, tb, k⟩
  have nd := sc_House_teach.nd
  obtain ⟨_, F1⟩ := T.f_is_name
  obtain ⟨_, F2⟩ := T.f_read
  obtain ⟨_, F3⟩ := T.f_all_rules
  obtain ⟨_, F4⟩ := T.f_check_names
  obtain ⟨tM, hM⟩ := T.i_MOST_PEOPLE
  refine ⟨_, pss_cons (ps_if (pt_not (pt_val (pe_cF (R_is_name T) (hr.mono (by decide)) (by rfl) T.g_is_name F1.kp (pa_cons (pv 1) pa_nil)))) (pss_one ps_never) pss_nil)
    (pss_cons (ps_set (i := 3) nd rfl (.inl rfl) (pe_callTy call_dictC (by rfl) T.z_dict (by decide +kernel) (pa_cons (pe_fld (pv 0) rfl) pa_nil)))
    (pss_cons (ps_dput (hu_of hr) (pv 3) (pv 1) (pe_cF (R_read T) (hr.mono (by decide)) (by rfl) T.g_read F2.kp (pa_cons (pv 2) pa_nil)) (by rfl))
    (pss_cons (ps_expr (pe_cF (R_check_names T) (hr.mono (by decide)) (by rfl) T.g_check_names F4.kp (pa_cons (pe_cF (R_all_rules T) (hr.mono (by decide)) (by rfl) T.g_all_rules F3.kp (pa_cons (pv 3) pa_nil)) pa_nil)))
    (pss_cons (ps_if (pt_cmpR op_gt (pe_callB call_lenD (by rfl) T.z_len PySem.boot_len (pa_cons (pv 3) pa_nil)) (pe_glob (by rfl) hM (v := .int 5) ⟨_, rfl⟩) (nomark _))
      (pss_one (ps_raise rfl (takes_of rfl rfl rfl rfl) (pmk_own PySem.F.excBase_ValueError T.exc.x_TooMany T.g_TooMany T.exc.k_TooMany (raises_own T.exc.s_TooMany T.exc.y_TooMany) rfl))) pss_nil)
    (pss_cons ps_never (pss_one ps_never)))))), ?_⟩
  obtain ⟨rows, r1, r2, r3, r4⟩ := hx.ex
  refine ⟨_, rfl, n, rfl, hn, tb, fun H1 f1 => ⟨true, rfl, iteF ?_⟩⟩
  have A1 := hA.fr0 f1
  obtain ⟨p0, kvs, e1, e2, e3⟩ := A1.ppl
  have klen : kvs.length = M.ps.length := by have := congrArg List.length e2; simpa using this
  refine ⟨_, rfl, R.r, _, R.dx, _, _, rfl, A1.ob, T.c_House, T.n_House_people, hfs_people R, R.p, kvs, rfl, .inl e1, fun pd npd => ?_⟩
  have f2 := Fr.new (E := []) (o := .dK kvs) f1.2 npd
  have npO : pd ∉ R.own ++ O := fun m => (List.mem_append.mp m).elim (A1.nl npd) ((hlv.fr f1).no npd)
  have lv : ∀ e ∈ pd :: (R.own ++ O), (L2.upd H1 pd (.dK kvs)) e ≠ none := fun e m z => by
    rcases List.mem_cons.mp m with rfl | m
    · rw [upd_same] at z; cases z
    · have z1 := upd_live _ z
      rcases List.mem_append.mp m with m | m
      · exact A1.nl z1 m
      · exact (hlv.fr f1).no z1 m
  have p3 : ∀ (i : Nat) (kv : Key × V) (q : Str × List RuleD), kvs[i]? = some kv → M.ps[i]? = some q → PerAt K (pd :: (R.own ++ O)) (L2.upd H1 pd (.dK kvs)) kv.2 q.2 := fun i kv q a b => (e3 i kv q a b).go (N := [pd]) (fun y m => by rw [List.mem_singleton.mp m]; exact npd) f2 fun e m => nomatch m
  have hpd : (L2.upd H1 pd (.dK kvs)) pd = some (.dK kvs) := upd_same
  have F2' := f1.trans f2
  generalize L2.upd H1 pd (.dK kvs) = H2 at f2 lv p3 hpd F2' ⊢
  refine ⟨_, rfl, x, rows, os, W, rfl, hx.len, r1, r2, r3, r4, hx.four, F2'.2, fun H3 Dl as f3 nDl hDl hR => ?_⟩
  have per : PerAt K (pd :: (R.own ++ O)) H3 (.ref Dl) (os.filterMap id) := ⟨Dl, as, rfl, fun q => lv Dl q nDl, hDl, hR.1, fun j c r q1 q2 => (hR.2 j c r q1 q2).back (fun _ _ => rfl) (fun e m => .inr (lv e m))⟩
  have hpd3 := f3.at hpd
  have ppl4 := PplAt.put (n := n) f3.2 npO hpd3 e2 (fun i kv q a b => (p3 i kv q a b).fr f3 fun _ m => nomatch m) per
  have f4 : Fr K [pd] H3 (L2.upd H3 pd (.dK (putK kvs (Sum.inr n) (.ref Dl)))) := Fr.put f3.2 hpd3 (ntK _) (List.mem_singleton.mpr rfl)
  refine ⟨_, rfl, _, rfl, pd, _, rfl, DPut.k (k := Sum.inr n) hpd3 (Nat.lt_of_le_of_lt (by omega : kvs.length ≤ 5) (by decide)), ?_⟩
  have F4 : Fr K [] H (L2.upd H3 pd (.dK (putK kvs (Sum.inr n) (.ref Dl)))) := Fr.drop1 (E := []) ((F2'.trans f3).nil.trans f4) (f1.3 _ npd)
  have hpd4 : (L2.upd H3 pd (.dK (putK kvs (Sum.inr n) (.ref Dl)))) pd = some (.dK (putK kvs (Sum.inr n) (.ref Dl))) := upd_same
  generalize L2.upd H3 pd (.dK (putK kvs (Sum.inr n) (.ref Dl))) = H4 at ppl4 f4 F4 hpd4 ⊢
  refine ⟨_, rfl, pd, _, rfl, ppl4.sub (fun _ m => nomatch m), Nat.le_trans few (by decide), f4.2, fun H5 Da aa f5 nDa hDa hRa => ?_⟩
  have wfs : ∀ r ∈ (putN M.ps n (os.filterMap id)).flatMap (·.2), RWf W' r := fun r m => by
    obtain ⟨q, hq, hr'⟩ := List.mem_flatMap.mp m
    exact rwf q hq r hr'
  refine ⟨Da, aa, _, W', rfl, hDa, hRa, wfs, few, Nat.le_trans (namesR_le wfs) four, f5.2, fun H6 f6 => ?_⟩
  have f56 := f5.trans f6
  have hpd6 := f56.at hpd4
  have plen : (putK kvs (Sum.inr n) (V.ref Dl)).length = (putN M.ps n (os.filterMap id)).length := by
    obtain ⟨_, kv2, q1, q2, _⟩ := ppl4
    rw [hpd4] at q1
    cases q1
    have := congrArg List.length q2
    rw [List.length_map, List.length_map] at this
    exact this
  exact ⟨_, rfl, pd, _, rfl, hpd6, _, _, rfl, rfl, _, rfl, iteD (by omega) (k H6 (F4.trans f56))⟩
end
end So
end

section
set_option Elab.async false
set_option linter.all false
set_option maxRecDepth 100000
set_option maxHeartbeats 4000000
/-! the texts that the law hands in -/
namespace So
open PySem PySem.Spec PyProof.Rows L2 GxA TL
theorem nm1 {x : Str} (h : (decide (1 ≤ x.length) && (decide (x.length ≤ 10) && x.cps.toList.all fun c => decide (c ∈ ("abcdefghijklmnopqrstuvwxyz" : Str).cps.toList))) = true) : Nm x := nmB_iff.mp h
/-- a text of one row -/
theorem txt1 {x : Str} {r : RuleD} {W : List Str} (h1 : Txt.split x "\n" = [x]) (h2 : wordsOf x = ruleT r.1 r.2) (h3 : Txt.startswith x "#" = false) (h4 : RWf W r) (h5 : x.length ≤ 1000) (h6 : W.length ≤ 4) : TxtOk x [some r] W :=
  ⟨⟨[x], h1, .cons ⟨h2, h3, h4⟩ .nil, fun y m => by rw [List.mem_singleton.mp m]; exact h5, by show 1 ≤ 20; decide⟩, Nat.le_trans (Nat.add_le_add_right h5 2) (by decide), h6⟩
theorem txt_empty : TxtOk "" [none] [] :=
  ⟨⟨[""], by decide +kernel, .cons (.inl (by decide +kernel)) .nil, fun y m => by rw [List.mem_singleton.mp m]; decide +kernel, by decide⟩, by decide +kernel, by decide⟩
def stopD : List Deed := [("stop", "")]
theorem stop_wf : ∀ d ∈ stopD, dWf d := fun d m => by
  rw [List.mem_singleton.mp m]
  exact .inl rfl
theorem fact_wf {W : List Str} {k n : Str} {i : Nat} (h1 : k ∈ kinds1) (h2 : Nm n) (h3 : n ∈ W) : (Cnd.fact k n).wf W i := ⟨h1, h2, fun _ => h3⟩
theorem txt_stop : TxtOk "if any then stop" [some (.any, stopD)] [] :=
  txt1 (by decide +kernel) (by decide +kernel) (by decide +kernel) ⟨trivial, by decide, by decide, by decide, by decide, stop_wf, by decide, by decide +kernel⟩ (by decide +kernel) (by decide)
def fileC : List Deed := [("file", "c")]
theorem txt_file : TxtOk "if any then file c" [some (.any, fileC)] [] :=
  txt1 (by decide +kernel) (by decide +kernel) (by decide +kernel) ⟨trivial, by decide, by decide, by decide, by decide, fun d m => by
    rw [List.mem_singleton.mp m]
    exact .inr ⟨by decide +kernel, nm1 (by decide +kernel)⟩, by decide, by decide +kernel⟩ (by decide +kernel) (by decide)
def cXY : Cnd := .and2 (.fact "has" "x") (.fact "has" "y")
theorem txt_xy {W : List Str} (hx : ("x" : Str) ∈ W) (hy : ("y" : Str) ∈ W) (h : W.length ≤ 4) : TxtOk "if has x and has y then stop" [some (cXY, stopD)] W :=
  txt1 (by decide +kernel) (by decide +kernel) (by decide +kernel) ⟨⟨by decide, fact_wf (by decide +kernel) (nm1 (by decide +kernel)) hx, fact_wf (by decide +kernel) (nm1 (by decide +kernel)) hy⟩, by decide, by decide, by decide, by decide, stop_wf, by decide, by decide +kernel⟩ (by decide +kernel) h
def cZW : Cnd := .and2 (.fact "has" "z") (.fact "first" "w")
theorem txt_zw {W : List Str} (hx : ("z" : Str) ∈ W) (hy : ("w" : Str) ∈ W) (h : W.length ≤ 4) : TxtOk "if has z and first w then stop" [some (cZW, stopD)] W :=
  txt1 (by decide +kernel) (by decide +kernel) (by decide +kernel) ⟨⟨by decide, fact_wf (by decide +kernel) (nm1 (by decide +kernel)) hx, fact_wf (by decide +kernel) (nm1 (by decide +kernel)) hy⟩, by decide, by decide, by decide, by decide, stop_wf, by decide, by decide +kernel⟩ (by decide +kernel) h
def cV : Cnd := .fact "last" "v"
theorem txt_v {W : List Str} (hx : ("v" : Str) ∈ W) (h : W.length ≤ 4) : TxtOk "if last v then stop" [some (cV, stopD)] W :=
  txt1 (by decide +kernel) (by decide +kernel) (by decide +kernel) ⟨fact_wf (by decide +kernel) (nm1 (by decide +kernel)) hx, by decide, by decide, by decide, by decide, stop_wf, by decide, by decide +kernel⟩ (by decide +kernel) h
def cVU : Cnd := .pair "v" "u"
theorem txt_vu {W : List Str} (hx : ("v" : Str) ∈ W) (hy : ("u" : Str) ∈ W) (h : W.length ≤ 4) : TxtOk "if pair v u then stop" [some (cVU, stopD)] W :=
  txt1 (by decide +kernel) (by decide +kernel) (by decide +kernel) ⟨⟨nm1 (by decide +kernel), nm1 (by decide +kernel), hx, hy⟩, by decide, by decide, by decide, by decide, stop_wf, by decide, by decide +kernel⟩ (by decide +kernel) h
end So
end

section
set_option Elab.async false
set_option linter.all false
set_option maxRecDepth 100000
set_option maxHeartbeats 4000000
/-! a lambda as a value -/
namespace So
open PySem PySem.Spec PyProof.Rows L2 LamX
/-- the object at f is this very one -/
def LamO (f : Addr) (ob : Obj) : HO := .ext fun h => h.get? f = some ob
section
variable {X : Cx} {pins : List (Addr × Obj)} {σ : L2.St} {H : Hp} {s : Shared}
abbrev lamObj (X : Cx) (params : Arguments) (body : Expr) (scope : Scope) (pm : Value) (c' : Addr) (ctv : Value) : Obj := PySem.W.kla_obj "<lambda>" (X.env.qual ++ "<lambda>") params body scope (cloFrom X.env.cells scope.names []) pm c' ctv
theorem lam_track {h' : Heap} {tk : Nat} {f : Addr} {ob : Obj} (I : Inv X pins σ H { s with heap := h', toks := tk }) (hf : f = h'.objs.size) (hb : ob.isFreed = false) : Inv X pins σ (L2.upd H f (LamO f ob)) { s with heap := h'.push ob, toks := tk } := by
  subst hf
  have J := I.laid (a := h'.objs.size) (o := LamO h'.objs.size ob) (t' := tk) (h' := h'.push ob) (fun b u q => Heap.get?_push_of_some _ q) (Nat.le_refl _) ⟨Heap.get?_push_size _ hb, ⟨ob, Heap.get?_push_size _ hb⟩, fun h1 h2 p st => st _ p⟩
  exact J
/-- the lambda is made, and known from now on -/
theorem lam_make3 {c P : Addr} {params : Arguments} {body : Expr} {scope : Scope} {pos : Pos} {E : Value → Shared → Prop} {Q : Value → Shared → Prop} (I : Inv X pins σ H s) (TB : GxR.TabB X.base X.mg c P) (code : X.env.code = .ref c) (mT : (P, X.env.qual ++ "<lambda>") ∈ ltabs X.K)
    (tb : Tb X.K H) (nodef : defaultsOf params X.env = ([], [])) (frees : ∀ y ∈ scope.names, y.2 = .free → ∃ c, X.env.cells.lookup y.1 = some c)
    (h : ∀ (f c' : Addr) (pm ctv : Value) (H1 : Hp) (s' : Shared), Inv X pins σ H1 s' → So.Fr X.K [] H H1 → H f = none → H1 f = some (LamO f (lamObj X params body scope pm c' ctv)) → H1 c' = some (CodeO c' (X.env.qual ++ "<lambda>")) → Q (.ref f) s') :
    wpAny (model X.prog X.w) X.A (eval (.Lambda params body scope pos) X.env) Q E s := by
  obtain ⟨ps, hP, tr, known⟩ := tb.lam _ mT
  have oP : s.heap.get? P = some { cls := .none, data := .fields ps } := I.hok P _ hP
  refine PySem.W.kla_eval nodef ?_
  cases hit : codeAmong pos ps.toList with
  | some cv =>
    obtain ⟨c', rfl, co⟩ := known pos cv hit
    refine PySem.W.kla_makeFunctionHit (mg := X.mg) (c := c) (P := P) (ps := ps) (closure_ok frees) I.ok.glob (I.mod.glob.keeps I.bk) code (TB.code.keeps I.bk) oP tr hit (TB.bm.keeps I.bk) fun ctv h1 tk hx hsz => ?_
    have nf : H h1.objs.size = none := I.hok.fresh hsz
    have J := lam_track (f := h1.objs.size) (ob := lamObj X params body scope ((X.mg "__name__").getD .none) c' ctv) (I.kept (t' := tk) hx) rfl rfl
    have fr := So.Fr.new (E := []) (o := LamO h1.objs.size (lamObj X params body scope ((X.mg "__name__").getD .none) c' ctv)) tb nf
    exact h h1.objs.size c' _ ctv _ _ J fr nf upd_same (fr.4 _ _ co)
  | none =>
    refine PySem.W.kla_makeFunction (mg := X.mg) (c := c) (P := P) (ps := ps) (closure_ok frees) I.ok.glob (I.mod.glob.keeps I.bk) code (TB.code.keeps I.bk) oP tr hit TB.gP (TB.bm.keeps I.bk) fun c' ctv h1 tk hx hge hlt hrec htb => ?_
    obtain ⟨c2, oc, vs, t, e2, hoc, hd, hv⟩ := hrec
    cases e2
    have hsz : s.heap.objs.size ≤ h1.objs.size := Nat.le_trans hge (Nat.le_of_lt hlt)
    have nC : H c' = none := I.hok.fresh hge
    have nf : H h1.objs.size = none := I.hok.fresh hsz
    have I1 := inv_table (t' := tk) (more := #[rawInt pos.line, rawInt pos.col, .ref c']) (h' := h1) I hP hx htb hge ⟨oc, vs, t, hoc, hd, hv⟩
    have J := lam_track (f := h1.objs.size) (ob := lamObj X params body scope ((X.mg "__name__").getD .none) c' ctv) I1 rfl rfl
    have n1 : h1.objs.size ≠ c' := Nat.ne_of_gt hlt
    have n2 : h1.objs.size ≠ P := Nat.ne_of_gt (Nat.lt_of_lt_of_le (Heap.lt_size oP) hsz)
    have nfP : ∀ b o, H b = some o → (∀ ps, o ≠ .tbl ps) → b ≠ P := fun b o e n z => n ps (Option.some.inj (e.symm.trans (by rw [z]; exact hP)))
    have ex1 : ∀ b o, b ≠ P → H b = some o → (L2.upd (L2.upd H P (.tbl (ps ++ #[rawInt pos.line, rawInt pos.col, .ref c']))) c' (CodeO c' (X.env.qual ++ "<lambda>"))) b = some o := fun b o n e => by
      rw [upd_ne (ne_of_none e nC), upd_ne n]
      exact e
    have nf1 : (L2.upd (L2.upd H P (.tbl (ps ++ #[rawInt pos.line, rawInt pos.col, .ref c']))) c' (CodeO c' (X.env.qual ++ "<lambda>"))) h1.objs.size = none := by rw [upd_ne n1, upd_ne n2]; exact nf
    have hP1 : (L2.upd (L2.upd H P (.tbl (ps ++ #[rawInt pos.line, rawInt pos.col, .ref c']))) c' (CodeO c' (X.env.qual ++ "<lambda>"))) P = some (.tbl (ps ++ #[rawInt pos.line, rawInt pos.col, .ref c'])) := by rw [upd_ne (ne_of_none hP nC), upd_same]
    have eL : (ps ++ #[rawInt pos.line, rawInt pos.col, .ref c']).toList = ps.toList ++ [rawInt pos.line, rawInt pos.col, .ref c'] := by simp
    have fr1 : So.Fr X.K [] H (L2.upd (L2.upd H P (.tbl (ps ++ #[rawInt pos.line, rawInt pos.col, .ref c']))) c' (CodeO c' (X.env.qual ++ "<lambda>"))) := by
      refine ⟨fun p o _ e n => ex1 p o (nfP p o e fun q z => n () (by rw [z]; exact .tbl q)) e, ⟨fun p m => ?_, tb.dj, fun p hp => ?_⟩, fun p e => upd_live p (upd_live p e), fun p φ e => ex1 p _ (nfP p _ e (by intro _ z; cases z)) e⟩
      · obtain ⟨qs, a1, a2⟩ := tb p m
        exact ⟨qs, ex1 p _ (tb.dj.1 p m _ mT) a1, a2⟩
      · by_cases hb : p.1 = P
        · rw [tb.dj.2 p hp _ mT hb, hb]
          refine ⟨_, hP1, by rw [eL]; exact PySem.TriplesOk_snoc _ _ _ _ tr, fun p' cv hcv => ?_⟩
          rw [eL] at hcv
          rcases among_app _ tr hcv with z | z
          · obtain ⟨c0, e1, e2⟩ := known p' cv z
            exact ⟨c0, e1, ex1 _ _ (nfP _ _ e2 fun ps => codeO_ne ps) e2⟩
          · exact ⟨c', z, upd_same⟩
        · obtain ⟨ps', a1, a2, a3⟩ := tb.lam p hp
          refine ⟨ps', ex1 _ _ hb a1, a2, fun p' cv hcv => ?_⟩
          obtain ⟨c0, e1, e2⟩ := a3 p' cv hcv
          exact ⟨c0, e1, ex1 _ _ (nfP _ _ e2 fun ps => codeO_ne ps) e2⟩
    have fr2 := So.Fr.new (E := []) (o := LamO h1.objs.size (lamObj X params body scope ((X.mg "__name__").getD .none) c' ctv)) fr1.2 nf1
    have co1 : (L2.upd (L2.upd H P (.tbl (ps ++ #[rawInt pos.line, rawInt pos.col, .ref c']))) c' (CodeO c' (X.env.qual ++ "<lambda>"))) c' = some (CodeO c' (X.env.qual ++ "<lambda>")) := upd_same
    exact h h1.objs.size c' _ ctv _ _ J (fr1.trans fr2) nf upd_same (fr2.4 _ _ co1)
/-- as an expression -/
def tLamV (X : Cx) (params : Arguments) (body : Expr) (scope : Scope) : TE := fun _ H Q => Tb X.K H ∧ ∀ (f c' : Addr) (pm ctv : Value) (H1 : Hp), So.Fr X.K [] H H1 → H f = none → H1 f = some (LamO f (lamObj X params body scope pm c' ctv)) → H1 c' = some (CodeO c' (X.env.qual ++ "<lambda>")) → Q (.ref f) H1
theorem pe_lamV {c P : Addr} {params : Arguments} {body : Expr} {scope : Scope} {pos : Pos} (TB : GxR.TabB X.base X.mg c P) (code : X.env.code = .ref c) (mT : (P, X.env.qual ++ "<lambda>") ∈ ltabs X.K)
    (nodef : defaultsOf params X.env = ([], [])) (L : LamS X.env.scope scope) : PE X (.Lambda params body scope pos) (tLamV X params body scope) :=
  ⟨fun pins s σ H Q I ⟨tb, h⟩ => lam_make3 I TB code mT tb nodef (L.has I.ok) fun f c' pm ctv H1 s' I1 fr nf hf hc => ⟨.ref f, H1, I1, rfl, h f c' pm ctv H1 fr nf hf hc⟩⟩
end
end So
end

section
set_option Elab.async false
set_option linter.all false
set_option maxRecDepth 100000
set_option maxHeartbeats 4000000
/-! a lambda called, however deep -/
namespace So
open PySem PySem.Spec PyProof.Rows L2 LamX
theorem un_down {fs fs' ex : List Addr} {H H' : Hp} {h h' : Heap} (u : Un fs' ex H H' h h') (d : ∀ b ∈ fs', b ∈ fs ∨ h.get? b = none) : Un fs ex H H' h h' := by
  refine ⟨fun b o q n m x => ?_, fun b o q n m x => ?_, u.free, u.there, u.tups, u.frzs, u.tbls⟩
  · by_cases z : b ∈ fs'
    · rcases d b z with y | y
      · exact absurd y m
      · rw [y] at q; cases q
    · exact u.keep b o q n z x
  · by_cases z : b ∈ fs'
    · exact u.slot b o q n z x
    · exact ⟨o.slots, u.keep b o q n z x⟩
section
variable {X : Cx} {pins : List (Addr × Obj)} {σ : L2.St} {H : Hp} {s : Shared}
/-- x(), in a def that holds the lambda f, made by X: X stood at s with σ and H when the first def was entered -/
theorem pe_actR {CXg : CXT} {Eg : XK} {Ng : List Str} {qg : Str} {sg : Scope} {g f c' : Addr} {cdg pm ctv : Value} {params : Arguments} {body : Expr} {scope : Scope} {k i : Nat} {a : Str} {pn : List (Addr × Obj)} {xe : Value → Shared → Prop} {W : WX} {E : XK} {tb : TE} {p1 p2 : Pos}
    {A2 : Around} {outer2 : List Env} {s2 : Shared} {H2 : Hp} (I : Inv X pins σ H s) (L : LamS X.env.scope scope) (un2 : Un (frs X.stack) [] H H2 s.heap s2.heap) (fr2 : ∀ b ∈ frs outer2, b ∈ frs X.stack ∨ s.heap.get? b = none)
    (nopar : bindArgs (PySem.W.kla_fn "<lambda>" (X.env.qual ++ "<lambda>") params body scope (cloFrom X.env.cells scope.names []) pm (.ref c') ctv) ⟨[], []⟩ = pure [])
    (tk : Takes ((cxOf CXg X.prog X.w X.K X.mg X.base Ng qg sg g cdg A2 outer2 s2 H2 Eg).tr pn xe) W) (hW : ∀ cls d σ' H', E cls d H' → W cls d σ' H') (hr : Room (k + 1) (A2.deeper (envOfC qg sg s2.heap.objs.size g cdg)))
    (hbody : ∀ (A : Around) (outer : List Env) (s : Shared) (H : Hp), Room k (A.deeper (lamEnv X scope s.heap.objs.size f c')) → PE (lamCx X A outer s H E scope f c') body tb)
    (hN : Ng[i]? = some a) (hv : Vis sg a) (hd : (a == ("__debug__" : Str)) = false := by decide) (hcd : (a == ("__classdict__" : Str)) = false := by decide) :
    PE ((cxOf CXg X.prog X.w X.K X.mg X.base Ng qg sg g cdg A2 outer2 s2 H2 Eg).tr pn xe) (.Call (.Name a p1) [] [] p2)
      (fun σZ HZ Q => σZ[i]? = some (some (.ref f)) ∧ HZ f = some (LamO f (lamObj X params body scope pm c' ctv)) ∧ HZ c' = some (CodeO c' (X.env.qual ++ "<lambda>")) ∧ tb σ HZ Q) := by
  refine ⟨fun pinsZ sZ σZ HZ Q IZ ⟨hs, hf, hc, ht⟩ => ?_⟩
  refine wpAny_Call_Name_kw (thn ((pe_var (pos := p1) (i := i) hN hv hd hcd).run pinsZ sZ σZ HZ (fun v H1 => v = .ref f ∧ H1 = HZ) IZ ⟨.ref f, hs, rfl, rfl⟩) fun u s1 ⟨v, H1, I1, r1, ev, eH⟩ => ?_)
  subst ev
  rw [eH] at I1
  cases (show u = Value.ref f from r1)
  obtain ⟨of1, _, _⟩ := I1.hok f _ hf
  have of1 : s1.heap.get? f = some (lamObj X params body scope pm c' ctv) := of1
  refine PySem.W.callWith_F0 ⟨_, _, _, _, of1⟩ ?_
  have u1 : Un (frs outer2) [] H2 HZ s2.heap s1.heap := I1.base
  obtain ⟨⟨oc, vs, t, hoc, hdc, hvc⟩, _, _⟩ := I1.hok c' _ hc
  have un : Un (frs X.stack) [] H HZ s.heap s1.heap := by
    have big : ∀ b ∈ frs X.stack ++ frs outer2, b ∈ frs X.stack ∨ s.heap.get? b = none := fun b m => (List.mem_append.mp m).elim .inl (fr2 b)
    exact un_down ((un2.mono (fs' := frs X.stack ++ frs outer2) (ex' := []) (fun b m => List.mem_append_left _ m) (fun b m => m)).trans (u1.mono (fun b m => List.mem_append_right _ m) (fun b m => m))) big
  have rc : codeAny (model X.prog X.w) (A2.deeper (envOfC qg sg s2.heap.objs.size g cdg)) (.call (.ref f) ⟨[], []⟩) (CR (L2.CX X.prog X.w) (envOfC qg sg s2.heap.objs.size g cdg :: outer2) X.prog X.w HZ s1 Q E) s1 := by
    refine PySem.W.kla_callFunE hr.depth of1 rfl L.co L.gen rfl ⟨c', oc, vs, t, rfl, hoc, hdc, hvc⟩ ?_
    rw [nopar]
    refine wpAny_pure (wpAny_newFunctionEnv (fun y hy => (L.own y hy).2) (fun y hy => absurd hy (by simp)) (fun h₁ hns hsb => ⟨I1.nolimit.fresh _ hsb, ?_⟩) L.kind)
    show codeAny _ _ (.expr body (lamEnv X scope s1.heap.objs.size f c')) _ _
    have kp : ∀ b o, s1.heap.get? b = some o → h₁.get? b = some o := fun b o e => hsb.extBut b o (Nat.ne_of_lt (Heap.lt_size e)) (Heap.get?_push_of_some _ e)
    have J : Inv (lamCx X (A2.deeper (envOfC qg sg s2.heap.objs.size g cdg)) (envOfC qg sg s2.heap.objs.size g cdg :: outer2) s1 HZ E scope f c') [] σ HZ { s1 with heap := h₁, toks := s1.toks + ([] : List (Str × Value)).length } :=
      lam_start2 I L I1.env0 hr.hd un hns kp
    refine PySem.W.kla_codeExpr (wpAny_mono ((hbody _ _ s1 HZ (hr.deeper _)).run [] _ _ HZ Q J ht) (fun v s' ⟨w', H', J', rv, q⟩ => ?_) fun e s' q => q)
    exact ⟨w', H', J'.os, J'.bare, J'.base, J'.hok, rv, q⟩
  have px : Passes (L2.CX X.prog X.w) ((cxOf CXg X.prog X.w X.K X.mg X.base Ng qg sg g cdg A2 outer2 s2 H2 Eg).tr pn xe) E := passes_call tk hW
  refine wpAny_call (codeAny_mono rc fun r s' hq => ?_)
  cases r with
  | error e => exact px pinsZ σZ HZ s1 e s' I1 hq
  | ok fl =>
    cases fl with
    | ret u => exact I1.after hq
    | next => exact False.elim hq
    | brk => exact False.elim hq
    | cont => exact False.elim hq
/-- the same, what it may raise told at the caller's own names -/
theorem pe_actW {CXg : CXT} {Eg : XK} {Ng : List Str} {qg : Str} {sg : Scope} {g f c' : Addr} {cdg pm ctv : Value} {params : Arguments} {body : Expr} {scope : Scope} {k i : Nat} {a : Str} {pn : List (Addr × Obj)} {xe : Value → Shared → Prop} {W : WX} {tb : XK → TE} {p1 p2 : Pos}
    {A2 : Around} {outer2 : List Env} {s2 : Shared} {H2 : Hp} (I : Inv X pins σ H s) (L : LamS X.env.scope scope) (un2 : Un (frs X.stack) [] H H2 s.heap s2.heap) (fr2 : ∀ b ∈ frs outer2, b ∈ frs X.stack ∨ s.heap.get? b = none)
    (nopar : bindArgs (PySem.W.kla_fn "<lambda>" (X.env.qual ++ "<lambda>") params body scope (cloFrom X.env.cells scope.names []) pm (.ref c') ctv) ⟨[], []⟩ = pure [])
    (tk : Takes ((cxOf CXg X.prog X.w X.K X.mg X.base Ng qg sg g cdg A2 outer2 s2 H2 Eg).tr pn xe) W) (hr : Room (k + 1) (A2.deeper (envOfC qg sg s2.heap.objs.size g cdg)))
    (hbody : ∀ (A : Around) (outer : List Env) (s : Shared) (H : Hp) (E : XK), Room k (A.deeper (lamEnv X scope s.heap.objs.size f c')) → PE (lamCx X A outer s H E scope f c') body (tb E))
    (hN : Ng[i]? = some a) (hv : Vis sg a) (hd : (a == ("__debug__" : Str)) = false := by decide) (hcd : (a == ("__classdict__" : Str)) = false := by decide) :
    PE ((cxOf CXg X.prog X.w X.K X.mg X.base Ng qg sg g cdg A2 outer2 s2 H2 Eg).tr pn xe) (.Call (.Name a p1) [] [] p2)
      (fun σZ HZ Q => σZ[i]? = some (some (.ref f)) ∧ HZ f = some (LamO f (lamObj X params body scope pm c' ctv)) ∧ HZ c' = some (CodeO c' (X.env.qual ++ "<lambda>")) ∧ tb (fun cls d H' => W cls d σZ H') σ HZ Q) := by
  refine ⟨fun pinsZ sZ σZ HZ Q IZ ⟨hs, hf, hc, ht⟩ => ?_⟩
  refine wpAny_Call_Name_kw (thn ((pe_var (pos := p1) (i := i) hN hv hd hcd).run pinsZ sZ σZ HZ (fun v H1 => v = .ref f ∧ H1 = HZ) IZ ⟨.ref f, hs, rfl, rfl⟩) fun u s1 ⟨v, H1, I1, r1, ev, eH⟩ => ?_)
  subst ev
  rw [eH] at I1
  cases (show u = Value.ref f from r1)
  obtain ⟨of1, _, _⟩ := I1.hok f _ hf
  have of1 : s1.heap.get? f = some (lamObj X params body scope pm c' ctv) := of1
  refine PySem.W.callWith_F0 ⟨_, _, _, _, of1⟩ ?_
  have u1 : Un (frs outer2) [] H2 HZ s2.heap s1.heap := I1.base
  obtain ⟨⟨oc, vs, t, hoc, hdc, hvc⟩, _, _⟩ := I1.hok c' _ hc
  have un : Un (frs X.stack) [] H HZ s.heap s1.heap := by
    have big : ∀ b ∈ frs X.stack ++ frs outer2, b ∈ frs X.stack ∨ s.heap.get? b = none := fun b m => (List.mem_append.mp m).elim .inl (fr2 b)
    exact un_down ((un2.mono (fs' := frs X.stack ++ frs outer2) (ex' := []) (fun b m => List.mem_append_left _ m) (fun b m => m)).trans (u1.mono (fun b m => List.mem_append_right _ m) (fun b m => m))) big
  have rc : codeAny (model X.prog X.w) (A2.deeper (envOfC qg sg s2.heap.objs.size g cdg)) (.call (.ref f) ⟨[], []⟩) (CR (L2.CX X.prog X.w) (envOfC qg sg s2.heap.objs.size g cdg :: outer2) X.prog X.w HZ s1 Q (fun cls d H' => W cls d σZ H')) s1 := by
    refine PySem.W.kla_callFunE hr.depth of1 rfl L.co L.gen rfl ⟨c', oc, vs, t, rfl, hoc, hdc, hvc⟩ ?_
    rw [nopar]
    refine wpAny_pure (wpAny_newFunctionEnv (fun y hy => (L.own y hy).2) (fun y hy => absurd hy (by simp)) (fun h₁ hns hsb => ⟨I1.nolimit.fresh _ hsb, ?_⟩) L.kind)
    show codeAny _ _ (.expr body (lamEnv X scope s1.heap.objs.size f c')) _ _
    have kp : ∀ b o, s1.heap.get? b = some o → h₁.get? b = some o := fun b o e => hsb.extBut b o (Nat.ne_of_lt (Heap.lt_size e)) (Heap.get?_push_of_some _ e)
    have J : Inv (lamCx X (A2.deeper (envOfC qg sg s2.heap.objs.size g cdg)) (envOfC qg sg s2.heap.objs.size g cdg :: outer2) s1 HZ (fun cls d H' => W cls d σZ H') scope f c') [] σ HZ { s1 with heap := h₁, toks := s1.toks + ([] : List (Str × Value)).length } :=
      lam_start2 I L I1.env0 hr.hd un hns kp
    refine PySem.W.kla_codeExpr (wpAny_mono ((hbody _ _ s1 HZ _ (hr.deeper _)).run [] _ _ HZ Q J ht) (fun v s' ⟨w', H', J', rv, q⟩ => ?_) fun e s' q => q)
    exact ⟨w', H', J'.os, J'.bare, J'.base, J'.hok, rv, q⟩
  refine wpAny_call (codeAny_mono rc fun r s' hq => ?_)
  cases r with
  | error e => exact tk e s' (XE.of_call I1 (fun cls d H' h => h) hq)
  | ok fl =>
    cases fl with
    | ret u => exact I1.after hq
    | next => exact False.elim hq
    | brk => exact False.elim hq
    | cont => exact False.elim hq
end
end So
end

section
set_option Elab.async false
set_option linter.all false
set_option maxRecDepth 100000
set_option maxHeartbeats 4000000
/-! isinstance of a caught exception; suites told of what was caught -/
namespace So
open PySem PySem.Spec PyProof.Rows L2
/-- the exception's own dict, if it has one, is tracked -/
def XdAt (H : Hp) : Option Addr → Prop
  | none => True
  | some dd => ∃ fs, H dd = some (.xd fs)
theorem XdAt.fr {K : PySem.W.Frag} {H H' : Hp} {d : Option Addr} (h : XdAt H d) (f : Fr K [] H H') : XdAt H' d := by
  cases d with
  | none => trivial
  | some dd => obtain ⟨fs, e⟩ := h; exact ⟨fs, f.at e⟩
/-- isinstance(e, c), e the exception that the suite holds -/
def rIsX (K : PySem.W.Frag) (D a : Addr) (d : Option Addr) : List V → Hp → VK → Prop := fun xs H Q => ∃ (c : V) (cv : Value) (b : Bool), xs = [.ref a, c] ∧ (∀ u, RelV c u → u = cv) ∧ XdAt H d ∧ PySem.W.kitOne K (.ref D) cv = some b ∧ Q (.bl b) H
theorem call_isX {X : Cx} {a D : Addr} {d : Option Addr} {oe : Obj} {pn : List (Addr × Obj)} (C : ExcC X.K D) (hz : Zc (.ref D) d oe) (hf : ∃ vs, oe.data = .fields vs) : CallR (X.suite a ((a, oe) :: pn)) (.builtin "isinstance") (rIsX X.K D a d) := by
  intro pins s σ H xs us Q I r h
  obtain ⟨c, cv, b, rfl, hcv, xd, e, q⟩ := h
  obtain ⟨u1, u2, rfl, r1, r2⟩ := r.two
  cases (show u1 = Value.ref a from r1)
  cases hcv _ r2
  obtain ⟨hget, _⟩ := I.pin (a, oe) (List.mem_append_left _ List.mem_cons_self)
  obtain ⟨vs, hd⟩ := hf
  have J : ∃ od, PySem.W.InstAt s.heap a oe D od := by
    cases d with
    | none => exact ⟨none, hget, hz.1, by unfold PySem.W.notCls; rw [hd] <;> rfl, by rw [hz.2]; trivial⟩
    | some dd =>
      obtain ⟨fs, ea⟩ := xd
      obtain ⟨mA, hns, _⟩ := (show ObjOk X.prog X.w H s.heap dd (.xd fs) from I.hok dd _ ea)
      obtain ⟨od, ho, _⟩ := lookIn_ns hns
      exact ⟨some od, hget, hz.1, by unfold PySem.W.notCls; rw [hd] <;> rfl, by rw [hz.2]; exact ho⟩
  obtain ⟨od, J⟩ := J
  have cls : (PySem.W.clsIn X.K D).isSome = true := by
    obtain ⟨cd, hc, _⟩ := PySem.W.any_some C.hd
    rw [hc]; rfl
  exact PySem.W.kia_one (PySem.W.kitx_exc cls C.hg C.hk C.hs C.ha C.hn C.ht C.hm) I.kIn J e (fun z => nomatch z) fun tk => ⟨.bl b, H, I.kept (t' := tk) fun _ _ z => z, rfl, q⟩
/-- a suite whose promise asks something of what was caught -/
theorem pss_ex {X : Cx} {sts : List Stmt} {α : Type} {p : α → Prop} {t : α → TS} (h : ∀ x, p x → PSs X sts (t x)) : PSs X sts (fun D σ H => ∃ x, p x ∧ t x D σ H) :=
  ⟨fun pins s σ H D I ⟨x, hp, ht⟩ => (h x hp).run pins s σ H D I ht⟩
end So
end

section
set_option Elab.async false
set_option linter.all false
set_option maxRecDepth 100000
set_option maxHeartbeats 4000000
/-! _law_kinds, told of the very state -/
namespace So
open PySem PySem.Spec PyProof.Rows L2 GxA TL
open GxR (TabB TabG Tabbed)
/-- C is one of the classes of refusals, its number j -/
structure KindOk (K : PySem.W.Frag) (C : Addr) (j : Nat) : Prop where
  ex : ExcC K C
  sub : PySem.W.exmOne K (.ref C) (.ref (C_SortError K)) = some true
  k0 : PySem.W.kitOne K (.ref C) (.ref (C_BadLetter K)) = some (decide (j = 0))
  k1 : PySem.W.kitOne K (.ref C) (.ref (C_BadName K)) = some (decide (j = 1))
  k2 : PySem.W.kitOne K (.ref C) (.ref (C_BadHouse K)) = some (decide (j = 2))
  k3 : PySem.W.kitOne K (.ref C) (.ref (C_NoLetter K)) = some (decide (j = 3))
  k4 : PySem.W.kitOne K (.ref C) (.ref (C_TooMany K)) = some (decide (j = 4))
  k5 : PySem.W.kitOne K (.ref C) (.ref (C_BadText K)) = some (decide (j = 5))
  k6 : PySem.W.kitOne K (.ref C) (.ref (C_BadRule K)) = some (decide (j = 6))
  ve : PySem.W.kitOne K (.ref C) (.type "ValueError") = some true
def kindsV (j : Nat) : List V := [.bl (decide (j = 0)), .bl (decide (j = 1)), .bl (decide (j = 2)), .bl (decide (j = 3)), .bl (decide (j = 4)), .bl (decide (j = 5)), .bl (decide (j = 6)), .bl false]
abbrev tIs (K : PySem.W.Frag) (D a : Addr) (d : Option Addr) (c : V) : TE := tCB (rIsX K D a d) (tCons (tVar 1) (tCons (tC c) tNil))
abbrev tSuite (K : PySem.W.Frag) (D a : Addr) (d : Option Addr) : TS :=
  tSeq (tAsg (tLst (tCons (tIs K D a d (.ref (C_BadLetter K))) (tCons (tIs K D a d (.ref (C_BadName K))) (tCons (tIs K D a d (.ref (C_BadHouse K))) tNil)))) (gName 2))
  (tSeq (tAsg (tOp rCat (tVar 2) (tLst (tCons (tIs K D a d (.ref (C_NoLetter K))) (tCons (tIs K D a d (.ref (C_TooMany K))) (tCons (tIs K D a d (.ref (C_BadText K))) tNil))))) (gName 2))
  (tRet (tOp rCat (tVar 2) (tLst (tCons (tIs K D a d (.ref (C_BadRule K))) (tCons (tNotV (tIs K D a d (.ty "ValueError"))) tNil))))))
section
variable {P : Program} {w : World} {K : PySem.W.Frag} {mg : Str → Option Value} {base : Heap}
abbrev zKinds (P : Program) (w : World) (K : PySem.W.Frag) (mg : Str → Option Value) (base : Heap) (cdv : Value) (A : Around) (outer : List Env) (s : Shared) (H : Hp) : Cx := cxOf CX0 P w K mg base N_law_kinds "_law_kinds" (defScope s_law_kinds) (a_law_kinds K) cdv A outer s H E0
theorem kinds_body (T : Txt w K mg base) {cdv : Value} {A : Around} {outer : List Env} {s : Shared} {H : Hp} {Q : VK} {f c' : Addr} {ob : Obj} {q : Str} (tl : XK → Hp → VK → Prop)
    (hcall : ∀ (W : WX) (pn : List (Addr × Obj)) (xe : Value → Shared → Prop) (p1 p2 : Pos), Takes ((zKinds P w K mg base cdv A outer s H).tr pn xe) W → PE ((zKinds P w K mg base cdv A outer s H).tr pn xe) (.Call (.Name "_law_ask" p1) [] [] p2)
      (fun σZ HZ Q => σZ[0]? = some (some (.ref f)) ∧ HZ f = some (LamO f ob) ∧ HZ c' = some (LamX.CodeO c' q) ∧ tl (fun cls d H' => W cls d σZ H') HZ Q))
    (hf : H f = some (LamO f ob)) (hc : H c' = some (LamX.CodeO c' q)) (tbk : Tb K H)
    (mono : ∀ (E1 E2 : XK) (Q1 Q2 : VK), (∀ cls d H', E1 cls d H' → E2 cls d H') → (∀ v H', Q1 v H' → Q2 v H') → tl E1 H Q1 → tl E2 H Q2)
    (h : tl (fun cls d H' => ∃ C j, cls = .ref C ∧ KindOk K C j ∧ XdAt H' d ∧ Tb K H' ∧ ∀ H'' D, Fr K [] H' H'' → H'' D = some (.lst (kindsV j)) → Q (.ref D) H'') H (fun _ _ => False)) :
    ∃ t, PSs (zKinds P w K mg base cdv A outer s H).nox (defBody s_law_kinds) t ∧ t { nx := fun _ H' => Q .non H', rt := Q } (start N_law_kinds [.ref f]) H := by
  have nd := sc_law_kinds.nd
  refine ⟨_, pss_cons (ps_try_as (X := (zKinds P w K mg base cdv A outer s H).nox) (c := .ref (C_SortError K)) (i := 1) (ts := fun a cls d D σ H => ∃ x : Addr × Nat, (cls = .ref x.1 ∧ KindOk K x.1 x.2) ∧ tSuite K x.1 a d D σ H) rfl rfl nd rfl rfl ⟨by rfl, by decide, .inl T.g_SortError⟩ LamX.takes0
      (fun W pn xe tk _ => pss_one (ps_expr (hcall W pn xe _ _ tk)))
      (fun a oe cls d pn hz hfl => pss_ex fun x hp => ?_))
    (pss_one (ps_ret (pe_lst pa_nil))), ?_⟩
  · obtain ⟨rfl, ko⟩ := hp
    refine pss_cons (ps_set (i := 2) nd rfl (.inl rfl) (pe_lst (pa_cons (pe_callB (call_isX ko.ex hz hfl) (by rfl) T.z_isinstance (by decide +kernel) (pa_cons (pv 1) (pa_cons (pe_glob (by rfl) T.g_BadLetter (v := .ref (C_BadLetter K)) rfl) pa_nil)))
        (pa_cons (pe_callB (call_isX ko.ex hz hfl) (by rfl) T.z_isinstance (by decide +kernel) (pa_cons (pv 1) (pa_cons (pe_glob (by rfl) T.g_BadName (v := .ref (C_BadName K)) rfl) pa_nil)))
        (pa_cons (pe_callB (call_isX ko.ex hz hfl) (by rfl) T.z_isinstance (by decide +kernel) (pa_cons (pv 1) (pa_cons (pe_glob (by rfl) T.g_BadHouse (v := .ref (C_BadHouse K)) rfl) pa_nil))) pa_nil)))))
      (pss_cons (ps_set (i := 2) nd rfl (.inl rfl) (pe_op op_cat (pv 2) (pe_lst (pa_cons (pe_callB (call_isX ko.ex hz hfl) (by rfl) T.z_isinstance (by decide +kernel) (pa_cons (pv 1) (pa_cons (pe_glob (by rfl) T.g_NoLetter (v := .ref (C_NoLetter K)) rfl) pa_nil)))
        (pa_cons (pe_callB (call_isX ko.ex hz hfl) (by rfl) T.z_isinstance (by decide +kernel) (pa_cons (pv 1) (pa_cons (pe_glob (by rfl) T.g_TooMany (v := .ref (C_TooMany K)) rfl) pa_nil)))
        (pa_cons (pe_callB (call_isX ko.ex hz hfl) (by rfl) T.z_isinstance (by decide +kernel) (pa_cons (pv 1) (pa_cons (pe_glob (by rfl) T.g_BadText (v := .ref (C_BadText K)) rfl) pa_nil))) pa_nil))))))
      (pss_one (ps_ret (pe_op op_cat (pv 2) (pe_lst (pa_cons (pe_callB (call_isX ko.ex hz hfl) (by rfl) T.z_isinstance (by decide +kernel) (pa_cons (pv 1) (pa_cons (pe_glob (by rfl) T.g_BadRule (v := .ref (C_BadRule K)) rfl) pa_nil)))
        (pa_cons (pe_not (pe_callB (call_isX ko.ex hz hfl) (by rfl) T.z_isinstance (by decide +kernel) (pa_cons (pv 1) (pa_cons (pe_bltn (by rfl) T.z_ValueError (by decide +kernel) (v := .ty "ValueError") rfl) pa_nil)))) pa_nil)))))))
  · refine ⟨rfl, hf, hc, mono _ _ _ _ (fun cls d H1 hx => ?_) (fun _ _ z => z.elim) h⟩
    obtain ⟨C, j, rfl, ko, xd, t1, k⟩ := hx
    refine ⟨true, ko.sub, fun _ a na => ?_, fun z => nomatch z⟩
    refine ⟨(C, j), ⟨rfl, ko⟩, ?_⟩
    refine ⟨_, rfl, _, .ref (C_BadLetter K), _, rfl, fun u z => z, xd, ko.k0, _, rfl, _, .ref (C_BadName K), _, rfl, fun u z => z, xd, ko.k1, _, rfl, _, .ref (C_BadHouse K), _, rfl, fun u z => z, xd, ko.k2, by show 3 ≤ sizeLine; decide, fun p1 n1 => ?_⟩
    have f1 : Fr K [] H1 (L2.upd H1 p1 (.lst [.bl (decide (j = 0)), .bl (decide (j = 1)), .bl (decide (j = 2))])) := Fr.new t1 n1
    have x1 := xd.fr f1
    have e1 : (L2.upd H1 p1 (.lst [.bl (decide (j = 0)), .bl (decide (j = 1)), .bl (decide (j = 2))])) p1 = some (.lst [.bl (decide (j = 0)), .bl (decide (j = 1)), .bl (decide (j = 2))]) := upd_same
    generalize L2.upd H1 p1 (.lst [.bl (decide (j = 0)), .bl (decide (j = 1)), .bl (decide (j = 2))]) = G1 at f1 x1 e1 ⊢
    refine ⟨_, rfl, _, rfl, _, .ref (C_NoLetter K), _, rfl, fun u z => z, x1, ko.k3, _, rfl, _, .ref (C_TooMany K), _, rfl, fun u z => z, x1, ko.k4, _, rfl, _, .ref (C_BadText K), _, rfl, fun u z => z, x1, ko.k5, by show 3 ≤ sizeLine; decide, fun p2 n2 => ?_⟩
    have f2 := f1.trans (Fr.new (E := []) (o := .lst [.bl (decide (j = 3)), .bl (decide (j = 4)), .bl (decide (j = 5))]) f1.2 n2)
    refine ⟨p1, p2, _, _, rfl, rfl, by rw [upd_ne (ne_of_none e1 n2)]; exact e1, upd_same, by show 3 + 3 ≤ sizeLine; decide, fun p3 n3 => ?_⟩
    have f3 := f2.trans (Fr.new (E := []) (o := .lst ([.bl (decide (j = 0)), .bl (decide (j = 1)), .bl (decide (j = 2))] ++ [.bl (decide (j = 3)), .bl (decide (j = 4)), .bl (decide (j = 5))])) f2.2 n3)
    have x3 := xd.fr f3
    have e3 : (L2.upd (L2.upd G1 p2 (.lst [.bl (decide (j = 3)), .bl (decide (j = 4)), .bl (decide (j = 5))])) p3 (.lst ([.bl (decide (j = 0)), .bl (decide (j = 1)), .bl (decide (j = 2))] ++ [.bl (decide (j = 3)), .bl (decide (j = 4)), .bl (decide (j = 5))]))) p3 = some (.lst ([.bl (decide (j = 0)), .bl (decide (j = 1)), .bl (decide (j = 2))] ++ [.bl (decide (j = 3)), .bl (decide (j = 4)), .bl (decide (j = 5))])) := upd_same
    generalize L2.upd (L2.upd G1 p2 (.lst [.bl (decide (j = 3)), .bl (decide (j = 4)), .bl (decide (j = 5))])) p3 (.lst ([.bl (decide (j = 0)), .bl (decide (j = 1)), .bl (decide (j = 2))] ++ [.bl (decide (j = 3)), .bl (decide (j = 4)), .bl (decide (j = 5))])) = G3 at f3 x3 e3 ⊢
    refine ⟨_, rfl, _, rfl, _, .ref (C_BadRule K), _, rfl, fun u z => z, x3, ko.k6, _, rfl, _, .type "ValueError", _, rfl, fun u z => z, x3, ko.ve, ?_⟩
    refine ⟨true, rfl, by show 2 ≤ sizeLine; decide, fun p4 n4 => ?_⟩
    have f4 := f3.trans (Fr.new (E := []) (o := .lst [.bl (decide (j = 6)), .bl (!true)]) f3.2 n4)
    refine ⟨p3, p4, _, _, rfl, rfl, by rw [upd_ne (ne_of_none e3 n4)]; exact e3, upd_same, by show 6 + 2 ≤ sizeLine; decide, fun p5 n5 => ?_⟩
    exact k _ p5 (f4.trans (Fr.new f4.2 n5)) upd_same
end
end So
end

section
set_option Elab.async false
set_option linter.all false
set_option maxRecDepth 100000
set_option maxHeartbeats 4000000
/-! _law_is, told of the very state -/
namespace So
open PySem PySem.Spec PyProof.Rows L2 GxA TL
open GxR (TabB TabG Tabbed)
/-- what a lambda's body does: it raises, if the names hold what it asks -/
def tBadE (K : PySem.W.Frag) (C : Addr) (PP : L2.St → Hp → Prop) (E : XK) : TE := fun σ H _ => PP σ H ∧ Tb K H ∧ ∀ H' d, Fr K [] H H' → XdAt H' d → E (.ref C) d H'
theorem pe_imp {X : Cx} {e : Expr} {t u : TE} (h : PE X e t) (i : ∀ σ H Q, u σ H Q → t σ H Q) : PE X e u := ⟨fun pins s σ H Q I q => h.run pins s σ H Q I (i σ H Q q)⟩
/-- a lambda that X makes, its body told -/
structure Ask (X : Cx) (C : Addr) (PP : L2.St → Hp → Prop) (k : Nat) (params : Arguments) (body : Expr) (scope : Scope) : Prop where
  L : LamX.LamS X.env.scope scope
  nopar : ∀ (q : Str) (cl : List (Str × Addr)) (pm cv ctv : Value), bindArgs (PySem.W.kla_fn "<lambda>" q params body scope cl pm cv ctv) ⟨[], []⟩ = pure []
  nodef : defaultsOf params X.env = ([], [])
  run : ∀ (A : Around) (outer : List Env) (s : Shared) (H : Hp) (E : XK) (f c' : Addr), Room k (A.deeper (LamX.lamEnv X scope s.heap.objs.size f c')) → PE (LamX.lamCx X A outer s H E scope f c') body (tBadE X.K C PP E)
/-- such a lambda at f, in the heap -/
def LamAt (X : Cx) (C : Addr) (PP : L2.St → Hp → Prop) (k : Nat) (H : Hp) (f : Addr) : Prop := ∃ (params : Arguments) (body : Expr) (scope : Scope) (c' : Addr) (pm ctv : Value), Ask X C PP k params body scope ∧ H f = some (LamO f (lamObj X params body scope pm c' ctv)) ∧ H c' = some (LamX.CodeO c' (X.env.qual ++ "<lambda>"))
theorem LamAt.fr {X : Cx} {C : Addr} {PP : L2.St → Hp → Prop} {k : Nat} {H H' : Hp} {f : Addr} (a : LamAt X C PP k H f) (g : Fr X.K [] H H') : LamAt X C PP k H' f := by
  obtain ⟨params, body, scope, c', pm, ctv, A, e1, e2⟩ := a
  exact ⟨params, body, scope, c', pm, ctv, A, g.4 _ _ e1, g.4 _ _ e2⟩
/-- .. and the names hold what it asks -/
structure AskAt (X : Cx) (σ : L2.St) (C : Addr) (PP : L2.St → Hp → Prop) (k : Nat) (H : Hp) (f : Addr) : Prop where
  ex : LamAt X C PP k H f
  pp : ∀ H', Fr X.K [] H H' → PP σ H'
abbrev zIs (P : Program) (w : World) (K : PySem.W.Frag) (mg : Str → Option Value) (base : Heap) (cdv : Value) (A : Around) (outer : List Env) (s : Shared) (H : Hp) : Cx := cxOf CX0 P w K mg base N_law_is "_law_is" (defScope s_law_is) (a_law_is K) cdv A outer s H E0
def dKinds (j : Nat) : PyData := .list [.bool (decide (j = 0)), .bool (decide (j = 1)), .bool (decide (j = 2)), .bool (decide (j = 3)), .bool (decide (j = 4)), .bool (decide (j = 5)), .bool (decide (j = 6)), .bool false]
theorem kinds_eqv : ∀ j : Nat, j < 7 → PyData.eqv (dKinds j) (dKinds j) = true ∧ SeqAt.shaped (dKinds j) = true := by
  intro j h
  match j, h with
  | 0, _ => decide +kernel
  | 1, _ => decide +kernel
  | 2, _ => decide +kernel
  | 3, _ => decide +kernel
  | 4, _ => decide +kernel
  | 5, _ => decide +kernel
  | 6, _ => decide +kernel
theorem kinds_dp {K : PySem.W.Frag} {H : Hp} {D : Addr} {j : Nat} (e : H D = some (.lst (kindsV j))) : Dp K H (.ref D) (dKinds j) :=
  .lst (SqL.of e) (.cons (.bl _) (.cons (.bl _) (.cons (.bl _) (.cons (.bl _) (.cons (.bl _) (.cons (.bl _) (.cons (.bl _) (.cons (.bl _) .nil))))))))
/-- the eight answers, so far -/
def upTo (j i : Nat) : List V := (List.range i).map fun k => V.bl (decide (j = k))
theorem upTo_8 {j : Nat} (h : j < 7) : upTo j 8 = kindsV j := by
  unfold upTo kindsV
  have : decide (j = 7) = false := decide_eq_false (by omega)
  simp [List.range_succ, this]
section
variable {P : Program} {w : World} {K : PySem.W.Frag} {mg : Str → Option Value} {base : Heap}
theorem is_body (T : Txt w K mg base) {cdv : Value} {A : Around} {outer : List Env} {s : Shared} {H : Hp} {Q : VK} {f : Addr} {j : Nat} (hj : j < 7) (hr : Room 1 (A.deeper (envOfC "_law_is" (defScope s_law_is) s.heap.objs.size (a_law_is K) cdv))) (HK : Hp → Prop)
    (hcall : ∀ (p1 p2 p3 : Pos), PE (zIs P w K mg base cdv A outer s H) (.Call (.Name "_law_kinds" p1) [.Name "_law_ask" p2] [] p3)
      (fun σZ HZ Q => σZ[0]? = some (some (.ref f)) ∧ HK HZ ∧ ∀ H'' D, Fr K [] HZ H'' → H'' D = some (.lst (kindsV j)) → Q (.ref D) H''))
    (hk : HK H) (k : ∀ H', Fr K [] H H' → Q (.bl true) H') :
    ∃ t, PSs (zIs P w K mg base cdv A outer s H) (defBody s_law_is) t ∧ t { nx := fun _ H' => Q .non H', rt := Q } (start N_law_is [.ref f, .int j]) H := by
  have nd := sc_law_is.nd
  refine ⟨_, pss_one (ps_ret (pe_cmpR (op_eqD hr.units) (hcall _ _ _)
    (pe_lc (own := [("_law_one", 2)]) (g := gName 2) (tt := tYes) (te := tOp rEq (tVar 1) (tVar 2)) rfl nd (pi_range1 (by rfl) T.z_range (pa_cons pe_int pa_nil)) (blkOk_by (own := [("_law_one", 2)]) (N := N_law_is) (sc := defScope s_law_is) (by decide +kernel))
      (fun _ _ _ _ _ => pg_name (i := 2) nd rfl (Or.inl rfl)) (fun _ _ _ _ _ => pts_nil) (fun _ _ _ _ _ => pe_cmpR op_eq (pv 1) (pv 2) (nomark _))) (nomark _))), ?_⟩
  refine ⟨rfl, hk, fun H1 D1 f1 e1 => ?_⟩
  refine ⟨8, rfl, by decide, by decide, fun D nD => ?_⟩
  have g1 : Fr K [] H1 (L2.upd H1 D (.lst [])) := Fr.new f1.2 nD
  have d1 : D1 ≠ D := ne_of_none e1 nD
  refine lc_range (lo := 0) (n := 8) (fun i Hx => Fr K [] H1 Hx ∧ Hx D = some (.lst (upTo j i))) ⟨g1, upd_same⟩ (fun i Hx hi ⟨g, hD⟩ => ?_) (fun H2 ⟨g, hD⟩ => ?_)
  · refine ⟨rfl, _, rfl, _, rfl, rfl, upTo j i, hD, by unfold upTo; rw [List.length_map, List.length_range]; exact Nat.lt_trans hi (by decide), g.upNew f1.2 nD, ?_⟩
    rw [upd_same]
    unfold upTo
    rw [List.range_succ, List.map_append]
    have : decide (V.int (j : Int) = V.int (0 + (i : Int))) = decide (j = i) := by
      rw [Bool.eq_iff_iff]
      simp
      omega
    rw [this]
    rfl
  · rw [upTo_8 hj] at hD
    obtain ⟨q1, q2⟩ := kinds_eqv j hj
    refine ⟨dKinds j, dKinds j, kinds_dp (g.at e1), kinds_dp hD, q2, q2, ?_⟩
    rw [q1]
    exact k H2 (f1.trans g)
end
section
variable {X : Cx} {pins : List (Addr × Obj)} {σ : L2.St} {H : Hp} {s : Shared}
/-- _law_kinds(_law_ask) in _law_is, called while X stood at s -/
theorem pe_kinds (T : Txt X.w X.K X.mg X.base) {C : Addr} {PP : L2.St → Hp → Prop} {k j : Nat} {f : Addr} {cdv : Value} {A : Around} {outer : List Env} {s1 : Shared} {H1 : Hp} (I : Inv X pins σ H s) (un1 : Un (frs X.stack) [] H H1 s.heap s1.heap)
    (fr1 : ∀ b ∈ frs outer, b ∈ frs X.stack ∨ s.heap.get? b = none) (KO : KindOk X.K C j) (hr : Room (k + 2) (A.deeper (envOfC "_law_is" (defScope s_law_is) s1.heap.objs.size (a_law_is X.K) cdv))) (lt1 : s.heap.objs.size ≤ s1.heap.objs.size) (p1 p2 p3 : Pos) :
    PE (zIs X.prog X.w X.K X.mg X.base cdv A outer s1 H1) (.Call (.Name "_law_kinds" p1) [.Name "_law_ask" p2] [] p3)
      (fun σZ HZ Q => σZ[0]? = some (some (.ref f)) ∧ (AskAt X σ C PP k HZ f ∧ Tb X.K HZ) ∧ ∀ H'' D, Fr X.K [] HZ H'' → H'' D = some (.lst (kindsV j)) → Q (.ref D) H'') := by
  obtain ⟨fd, F⟩ := T.f_law_kinds
  refine ⟨fun pinsZ sZ σZ HZ Q IZ ⟨hσ, ⟨ask, tb⟩, kk⟩ => ?_⟩
  refine wpAny_Call_Name_kw (ld_glob IZ (by rfl) T.g_law_kinds ?_ (by decide))
  have ha : PA (zIs X.prog X.w X.K X.mg X.base cdv A outer s1 H1) [.Name "_law_ask" p2] (tCons (tVar 0) tNil) := pa_cons (pv 0) pa_nil
  refine PySem.W.callWith_K (h₀ := X.base) IZ.ok.mod.kin F.kp (thn (ha.run p3 pinsZ sZ σZ HZ (fun vs Ha => vs = [.ref f] ∧ Ha = HZ) IZ ⟨_, hσ, rfl, rfl⟩) fun us s2 ⟨vs, Ha, I2, r, ev, eH⟩ => ⟨I2.kIn, ?_⟩) (by rfl) (by rfl)
  subst ev
  subst eH
  obtain ⟨params, body, scope, c', pm, ctv, AK, e1, e2⟩ := ask.ex
  obtain ⟨oc, od, dV, kV, doc, pmk, an, cdk, ct, osl, rfl, lk, hcd, _, _⟩ := F.ex
  have rc : codeAny (model X.prog X.w) (A.deeper (envOfC "_law_is" (defScope s_law_is) s1.heap.objs.size (a_law_is X.K) cdv)) (.call (.ref (a_law_kinds X.K)) ⟨us, []⟩) (CR CX0 (zIs X.prog X.w X.K X.mg X.base cdv A outer s1 H1).stack X.prog X.w Ha s2 Q E0) s2 := by
    refine LamX.run_ofS (N := N_law_kinds) (ps := ["_law_ask"]) (vs := [.ref f]) lk hcd sc_law_kinds hr I2.env0 ((F.bindsN bd_law_kinds) s2 us I2.kIn (by rw [List.append_nil, ← r.length]; rfl)) (by rw [List.append_nil]; exact r) rfl fun hr' => ?_
    have u2 : Un (frs X.stack) [] H Ha s.heap s2.heap := by
      have big : ∀ b ∈ frs X.stack ++ frs outer, b ∈ frs X.stack ∨ s.heap.get? b = none := fun b m => (List.mem_append.mp m).elim .inl (fr1 b)
      exact un_down ((un1.mono (fs' := frs X.stack ++ frs outer) (ex' := []) (fun b m => List.mem_append_left _ m) (fun b m => m)).trans (I2.base.mono (fun b m => List.mem_append_right _ m) (fun b m => m))) big
    have f2 : ∀ b ∈ frs (zIs X.prog X.w X.K X.mg X.base cdv A outer s1 H1).stack, b ∈ frs X.stack ∨ s.heap.get? b = none := fun b m => by
      have m : b ∈ s1.heap.objs.size :: frs outer := m
      rcases List.mem_cons.mp m with z | z
      · exact .inr (by rw [z]; exact Heap.get?_none_of_le lt1)
      · exact fr1 b z
    have kb := kinds_body (cdv := cdk) (A := A.deeper (envOfC "_law_is" (defScope s_law_is) s1.heap.objs.size (a_law_is X.K) cdv)) (outer := (zIs X.prog X.w X.K X.mg X.base cdv A outer s1 H1).stack) (s := s2) (H := Ha) (Q := Q) (f := f) (c' := c') T (fun E Hp _ => tBadE X.K C PP E σ Hp fun _ _ => False) (fun W pn xe q1 q2 tk => pe_imp (pe_actW (i := 0) (tb := fun E => tBadE X.K C PP E) I AK.L u2 f2 (AK.nopar _ _ _ _ _) tk hr' (fun A outer s H E hr2 => AK.run A outer s H E f c' hr2) rfl (.inl rfl)) fun σ' H' Q' h => h) e1 e2 tb (fun E1 E2 Q1 Q2 hE _ ⟨a, b, c⟩ => ⟨a, b, fun H' d g x => hE _ _ _ (c H' d g x)⟩)
      (⟨ask.pp Ha (Fr.refl tb), tb, fun H' d g x => ⟨C, j, rfl, KO, x, g.2, fun H'' D g2 e => kk H'' D (g.trans g2) e⟩⟩)
    obtain ⟨t, ht, hq⟩ := kb
    exact ⟨t, ht.nox, hq⟩
  refine wpAny_call (codeAny_mono rc fun r s3 hq => ?_)
  cases r with
  | error e => exact (show False from hq).elim
  | ok fl =>
    cases fl with
    | ret u => exact I2.after hq
    | next => exact False.elim hq
    | brk => exact False.elim hq
    | cont => exact False.elim hq
/-- the call of _law_is from a state of Y, the lambda made by X, which stood at s -/
theorem run_is (T : Txt X.w X.K X.mg X.base) {Y : Cx} {pinsY : List (Addr × Obj)} {σY : L2.St} {HY : Hp} {sY : Shared} {C : Addr} {PP : L2.St → Hp → Prop} {k j : Nat} {f : Addr} {Q : VK} {us : List Value} (I : Inv X pins σ H s)
    (eP : Y.prog = X.prog) (ew : Y.w = X.w) (eK : Y.K = X.K) (em : Y.mg = X.mg) (eb : Y.base = X.base) (IY : Inv Y pinsY σY HY sY) (un : Un (frs X.stack) [] H HY s.heap sY.heap) (fr : ∀ b ∈ frs Y.stack, b ∈ frs X.stack ∨ s.heap.get? b = none) (lt : s.heap.objs.size ≤ sY.heap.objs.size)
    (KO : KindOk X.K C j) (hj : j < 7) (hr : Room (k + 3) Y.A) (r : Vals [.ref f, .int j] us) (ask : AskAt X σ C PP k HY f) (tb : Tb X.K HY) (q : ∀ H', Fr X.K [] HY H' → Q (.bl true) H') :
    codeAny (model Y.prog Y.w) Y.A (.call (.ref (a_law_is X.K)) ⟨us, []⟩) (CR CX0 Y.stack Y.prog Y.w HY sY Q E0) sY := by
  have e0 : Env0 X.prog X.w X.K X.mg X.base Y.A Y.stack sY HY := by rw [← eP, ← ew, ← eK, ← em, ← eb]; exact IY.env0
  rw [eP, ew]
  obtain ⟨fd, F⟩ := T.f_law_is
  obtain ⟨oc, od, dV, kV, doc, pmk, an, cdk, ct, osl, rfl, lk, hcd, _, _⟩ := F.ex
  have kin : X.K.In sY.heap := e0.mod.kin.keeps fun b o e => (e0.bs b o e).1
  refine LamX.run_ofS (N := N_law_is) (ps := ["_law_ask", "_law_at"]) (vs := [.ref f, .int j]) lk hcd sc_law_is hr e0 ((F.bindsN bd_law_is) sY us kin (by rw [List.append_nil, ← r.length]; rfl)) (by rw [List.append_nil]; exact r) rfl fun hr' => ?_
  exact is_body T hj (hr'.mono (by omega)) (fun HZ => AskAt X σ C PP k HZ f ∧ Tb X.K HZ) (fun p1 p2 p3 => pe_kinds T I un fr KO hr' lt p1 p2 p3) ⟨ask, tb⟩ q
/-- lambda: body, as a value -/
theorem pe_lamA {c Pt C : Addr} {PP : L2.St → Hp → Prop} {k : Nat} {params : Arguments} {body : Expr} {scope : Scope} {p1 : Pos} (TB : TabB X.base X.mg c Pt) (code : X.env.code = .ref c) (mT : (Pt, X.env.qual ++ "<lambda>") ∈ ltabs X.K) (AK : Ask X C PP k params body scope) :
    PE X (.Lambda params body scope p1) (fun _ H Q => Tb X.K H ∧ ∀ f H1, Fr X.K [] H H1 → LamAt X C PP k H1 f → Q (.ref f) H1) :=
  pe_imp (pe_lamV TB code mT AK.nodef AK.L) fun σ H Q ⟨tb, h⟩ => ⟨tb, fun f c' pm ctv H1 fr nf e1 e2 => h f H1 fr ⟨params, body, scope, c', pm, ctv, AK, e1, e2⟩⟩
/-- _law_is(lambda: body, j) -/
theorem pe_ask (T : Txt X.w X.K X.mg X.base) {c Pt C : Addr} {PP : L2.St → Hp → Prop} {k j : Nat} {params : Arguments} {body : Expr} {scope : Scope} {kd : Nat} {p p1 p2 pos : Pos} (hg : Gl X "_law_is") (TB : TabB X.base X.mg c Pt) (code : X.env.code = .ref c) (mT : (Pt, X.env.qual ++ "<lambda>") ∈ ltabs X.K)
    (KO : KindOk X.K C j) (hj : j < 7) (hr : Room (k + 3) X.A) (AK : Ask X C PP k params body scope) :
    PE X (.Call (.Name "_law_is" p) [.Lambda params body scope p1, .Constant (.int j) kd p2] [] pos)
      (fun σ H Q => Tb X.K H ∧ (∀ H', Fr X.K [] H H' → PP σ H') ∧ ∀ H', Fr X.K [] H H' → Q (.bl true) H') := by
  obtain ⟨fd, F⟩ := id T.f_law_is
  refine ⟨fun pins s σ H Q I ⟨tb, hp, q⟩ => ?_⟩
  refine wpAny_Call_Name_kw (ld_glob I hg T.g_law_is ?_ (by decide))
  have ha : PA X [.Lambda params body scope p1, .Constant (.int j) kd p2] (tCons _ (tCons (tC (.int j)) tNil)) := pa_cons (pe_lamA TB code mT AK) (pa_cons pe_int pa_nil)
  refine PySem.W.callWith_K (h₀ := X.base) I.ok.mod.kin F.kp (thn (ha.run pos pins s σ H (fun vs H1 => ∃ f, vs = [.ref f, .int j] ∧ Fr X.K [] H H1 ∧ AskAt X σ C PP k H1 f) I
    ⟨tb, fun f H1 fr a => ⟨f, rfl, fr, a, fun H' g => hp H' (fr.trans g)⟩⟩) fun us s1 ⟨vs, H1, I1, r, f, ev, fr, ask⟩ => ⟨I1.kIn, ?_⟩) (by rfl) (by rfl)
  subst ev
  refine wpAny_call (codeAny_mono (run_is T I1 rfl rfl rfl rfl rfl I1 Un.refl (fun b m => .inl m) (Nat.le_refl _) KO hj hr r ask fr.2 fun H' g => q H' (fr.trans g)) fun r s' hq => ?_)
  cases r with
  | error e => exact (show False from hq).elim
  | ok fl =>
    cases fl with
    | ret u => exact I1.after hq
    | next => exact False.elim hq
    | brk => exact False.elim hq
    | cont => exact False.elim hq
end
end So
end

section
set_option Elab.async false
set_option linter.all false
set_option maxRecDepth 100000
set_option maxHeartbeats 4000000
/-! rows of things that are no letters, names ..; text * int -/
namespace So
open PySem PySem.Spec PyProof.Rows L2 GxA TL
def repS (n : Nat) (z : Str) : Str := ⟨(List.replicate n z.cps).foldl (· ++ ·) #[]⟩
theorem op_mulS {X : Cx} {n : Nat} (hn : 2 ≤ n ∧ n ≤ 100) : OpR X (binaryOp .Mult) (fun x y H Q => ∃ z, x = .str z ∧ y = .int (n : Int) ∧ 0 < z.length ∧ z.length ≤ 1000 ∧ (repS n z).length = z.length * n ∧ Q (.str (repS n z)) H) := by
  intro pins s σ H x y v u Q I rx ry h
  obtain ⟨z, rfl, rfl, h0, h1, hl, q⟩ := h
  obtain ⟨t, rfl⟩ := rx
  obtain ⟨t', rfl⟩ := ry
  have hm : z.length * n ≤ 100000 := Nat.mul_le_mul h1 hn.2
  have hc : ((n : Int) == 1 || z.length == 0) = false := by
    have a : (z.length == 0) = false := beq_eq_false_iff_ne.mpr (by omega)
    have b : ((n : Int) == 1) = false := beq_eq_false_iff_ne.mpr (by omega)
    rw [a, b]; rfl
  have hz : (n : Int).toNat = n := Int.toNat_natCast n
  refine PySem.P.mul_str (by
    rw [decide_eq_false (by omega : ¬ (n : Int) < -(2 ^ 63 : Int)), decide_eq_false (by omega : ¬ (n : Int) ≥ 2 ^ 63)]; rfl) (fun _ _ => by
    have m2 : (z.length : Int) * n ≤ 100000 := by
      have q : ((z.length * n : Nat) : Int) ≤ 100000 := by omega
      rwa [Int.natCast_mul] at q
    have e : (z.length : Int) ≤ (2 ^ 63 - 1 : Int) / n := Int.le_ediv_of_mul_le (by omega) (Int.le_trans m2 (by decide))
    exact Int.not_lt.mpr e) (fun _ _ => by
    show decide _ = false
    refine decide_eq_false ?_
    show ¬ z.length * (n : Int).toNat > _
    rw [hz]
    exact Nat.not_lt.mpr (Nat.le_trans hm (by decide))) ?_
  rw [if_neg (by omega), hc, hz]
  refine ⟨?_, ⟨.str (repS n z), H, I.tok _, ⟨_, rfl⟩, q⟩⟩
  show (repS n z).length ≤ _
  rw [hl]
  exact Nat.le_trans hm (by decide)
end So
end

section
set_option Elab.async false
set_option linter.all false
set_option maxRecDepth 100000
set_option maxHeartbeats 4000000
namespace So
open PySem PySem.Spec PyProof.Rows L2 GxA TL
/-! one step of a reading, by name -/
theorem rd_asg {te : TE} {g : TG} {u : TS} {D : Ends} {σ : L2.St} {H : Hp} (h : te σ H fun x H1 => g x σ H1 (u D)) : tSeq (tAsg te g) u D σ H := h
theorem rd_set {te : TE} {i : Nat} {u : TS} {D : Ends} {σ : L2.St} {H : Hp} (h : te σ H fun x H1 => u D (σ.set i (some x)) H1) : tSeq (tAsg te (gName i)) u D σ H := h
theorem rd_op {r : R2} {ta tb : TE} {σ : L2.St} {H : Hp} {Q : VK} (h : ta σ H fun x H1 => tb σ H1 fun y H2 => r x y H2 Q) : tOp r ta tb σ H Q := h
theorem rd_seq {t u : TS} {D : Ends} {σ : L2.St} {H : Hp} (h : t { D with nx := u D } σ H) : tSeq t u D σ H := h
theorem rd_iL {K : PySem.W.Frag} {tl : TE} {σ : L2.St} {H : Hp} {R : L2.It → Hp → Prop} (h : tl σ H fun x H1 => ∃ a, x = .ref a ∧ (∃ xs, SqL K H1 a xs) ∧ R (Itl K a) H1) : iList K tl σ H R := h
theorem rd_iT {K : PySem.W.Frag} {tl : TE} {σ : L2.St} {H : Hp} {R : L2.It → Hp → Prop} (h : tl σ H fun x H1 => ∃ a, x = .ref a ∧ (∃ xs, SqT K H1 a xs) ∧ R (Itt K a) H1) : iTup K tl σ H R := h
theorem rd_cb {r : List V → Hp → VK → Prop} {t : TA} {σ : L2.St} {H : Hp} {Q : VK} (h : t σ H fun vs H1 => r vs H1 Q) : tCB r t σ H Q := h
/-- an item: a new thing of which G holds -/
def It (K : PySem.W.Frag) (J : Hp → Prop) (σ : L2.St) (G : Hp → V → Prop) (te : TE) : Prop := ∀ H Q, Tb K H → J H → (∀ v H', Fr K [] H H' → G H' v → Q v H') → te σ H Q
/-- a row of them -/
def Its (K : PySem.W.Frag) (J : Hp → Prop) (σ : L2.St) (G : Hp → V → Prop) (n : Nat) (ta : TA) : Prop := ∀ H Q, Tb K H → J H → (∀ vs H', Fr K [] H H' → vs.length = n → (∀ v ∈ vs, G H' v) → Q vs H') → ta σ H Q
/-- what stays -/
def Stays (K : PySem.W.Frag) (G : Hp → V → Prop) : Prop := ∀ H H' v, G H v → Fr K [] H H' → G H' v
def StayJ (K : PySem.W.Frag) (J : Hp → Prop) : Prop := ∀ H H', J H → Fr K [] H H' → J H'
section
variable {K : PySem.W.Frag} {J : Hp → Prop} {σ : L2.St} {G G1 G2 G3 G4 : Hp → V → Prop} {te t1 t2 t3 t4 : TE} {ta : TA} {n : Nat}
theorem it_c {v : V} (h : ∀ H, G H v) : It K J σ G (tC v) := fun H Q tb _ k => k v H (Fr.refl tb) (h H)
theorem its_nil : Its K J σ G 0 tNil := fun H Q tb _ k => k [] H (Fr.refl tb) rfl fun _ m => nomatch m
theorem its_cons (sj : StayJ K J) (sg : Stays K G) (h : It K J σ G te) (hr : Its K J σ G n ta) : Its K J σ G (n + 1) (tCons te ta) := fun H Q tb j k =>
  h H _ tb j fun v H1 f1 g1 => hr H1 _ f1.2 (sj _ _ j f1) fun vs H2 f2 hl hv => k (v :: vs) H2 (f1.trans f2) (by rw [List.length_cons, hl]) fun u m => by
    rcases List.mem_cons.mp m with rfl | m
    · exact sg _ _ _ g1 f2
    · exact hv u m
/-- the row made a list -/
theorem it_lst (h : Its K J σ G n ta) (hn : n ≤ sizeLine) (sg : Stays K G) (hg : ∀ H D vs, H D = some (.lst vs) → vs.length = n → (∀ v ∈ vs, G H v) → G1 H (.ref D)) : It K J σ G1 (tLst ta) := fun H Q tb j k =>
  h H _ tb j fun vs H1 f1 hl hv => ⟨by rw [hl]; exact hn, fun p np => by
    have f2 : Fr K [] H1 (L2.upd H1 p (.lst vs)) := Fr.new f1.2 np
    exact k _ _ (f1.trans f2) (hg _ p vs upd_same hl fun v m => sg _ _ _ (hv v m) f2)⟩
theorem it_tup0 (hg : ∀ H D, H D = some (.tup []) → G H (.ref D)) : It K J σ G (tTup tNil) := fun H Q tb j k =>
  ⟨Nat.zero_le _, fun p np => k _ _ (Fr.new tb np) (hg _ p upd_same)⟩
theorem it_tup1 (s1 : Stays K G1) (h1 : It K J σ G1 t1) (hg : ∀ H D x, H D = some (.tup [x]) → G1 H x → G H (.ref D)) : It K J σ G (tTup (tCons t1 tNil)) := fun H Q tb j k =>
  h1 H _ tb j fun x H1 f1 g1 => ⟨by show 1 ≤ sizeLine; decide, fun p np => by
    have f2 : Fr K [] H1 (L2.upd H1 p (.tup [x])) := Fr.new f1.2 np
    exact k _ _ (f1.trans f2) (hg _ p x upd_same (s1 _ _ _ g1 f2))⟩
theorem it_tup2 (sj : StayJ K J) (s1 : Stays K G1) (s2 : Stays K G2) (h1 : It K J σ G1 t1) (h2 : It K J σ G2 t2) (hg : ∀ H D x y, H D = some (.tup [x, y]) → G1 H x → G2 H y → G H (.ref D)) : It K J σ G (tTup (tCons t1 (tCons t2 tNil))) := fun H Q tb j k =>
  h1 H _ tb j fun x H1 f1 g1 => h2 H1 _ f1.2 (sj _ _ j f1) fun y H2 f2 g2 => ⟨by show 2 ≤ sizeLine; decide, fun p np => by
    have f3 : Fr K [] H2 (L2.upd H2 p (.tup [x, y])) := Fr.new f2.2 np
    exact k _ _ ((f1.trans f2).trans f3) (hg _ p x y upd_same (s1 _ _ _ g1 (f2.trans f3)) (s2 _ _ _ g2 f3))⟩
theorem it_tup3 (sj : StayJ K J) (s1 : Stays K G1) (s2 : Stays K G2) (s3 : Stays K G3) (h1 : It K J σ G1 t1) (h2 : It K J σ G2 t2) (h3 : It K J σ G3 t3) (hg : ∀ H D x y z, H D = some (.tup [x, y, z]) → G1 H x → G2 H y → G3 H z → G H (.ref D)) : It K J σ G (tTup (tCons t1 (tCons t2 (tCons t3 tNil)))) := fun H Q tb j k =>
  h1 H _ tb j fun x H1 f1 g1 => h2 H1 _ f1.2 (sj _ _ j f1) fun y H2 f2 g2 => h3 H2 _ f2.2 (sj _ _ (sj _ _ j f1) f2) fun z H3 f3 g3 => ⟨by show 3 ≤ sizeLine; decide, fun p np => by
    have f4 : Fr K [] H3 (L2.upd H3 p (.tup [x, y, z])) := Fr.new f3.2 np
    exact k _ _ (((f1.trans f2).trans f3).trans f4) (hg _ p x y z upd_same (s1 _ _ _ g1 ((f2.trans f3).trans f4)) (s2 _ _ _ g2 (f3.trans f4)) (s3 _ _ _ g3 f4))⟩
theorem it_tup4 (sj : StayJ K J) (h1 : It K J σ (fun _ _ => True) t1) (h2 : It K J σ (fun _ _ => True) t2) (h3 : It K J σ (fun _ _ => True) t3) (h4 : It K J σ (fun _ _ => True) t4) (hg : ∀ H D xs, H D = some (.tup xs) → xs.length = 4 → G H (.ref D)) : It K J σ G (tTup (tCons t1 (tCons t2 (tCons t3 (tCons t4 tNil))))) := fun H Q tb j k =>
  h1 H _ tb j fun x H1 f1 g1 => h2 H1 _ f1.2 (sj _ _ j f1) fun y H2 f2 g2 => h3 H2 _ f2.2 (sj _ _ (sj _ _ j f1) f2) fun z H3 f3 g3 => h4 H3 _ f3.2 (sj _ _ (sj _ _ (sj _ _ j f1) f2) f3) fun u H4 f4 _ => ⟨by show 4 ≤ sizeLine; decide, fun p np => by
    have f5 : Fr K [] H4 (L2.upd H4 p (.tup [x, y, z, u])) := Fr.new f4.2 np
    exact k _ _ ((((f1.trans f2).trans f3).trans f4).trans f5) (hg _ p _ upd_same rfl)⟩
/-- a row made a tuple -/
theorem it_tupN (h : Its K J σ G n ta) (hn : n ≤ sizeLine) (sg : Stays K G) : It K J σ (fun H v => ∃ D vs, v = .ref D ∧ H D = some (.tup vs) ∧ vs.length = n ∧ ∀ u ∈ vs, G H u) (tTup ta) := fun H Q tb j k =>
  h H _ tb j fun vs H1 f1 hl hv => ⟨by rw [hl]; exact hn, fun p np => by
    have f2 : Fr K [] H1 (L2.upd H1 p (.tup vs)) := Fr.new f1.2 np
    exact k _ _ (f1.trans f2) ⟨p, vs, rfl, upd_same, hl, fun v m => sg _ _ _ (hv v m) f2⟩⟩
theorem it_mul {m : Nat} {i : Int} {z : Str} (h0 : 0 < z.length ∧ z.length ≤ 1000) (hl : (repS m z).length = z.length * m) (hg : ∀ H, G H (.str (repS m z))) (hi : i = (m : Int) := by rfl) : It K J σ G (tOp (fun x y H Q => ∃ z, x = .str z ∧ y = .int (m : Int) ∧ 0 < z.length ∧ z.length ≤ 1000 ∧ (repS m z).length = z.length * m ∧ Q (.str (repS m z)) H) (tC (.str z)) (tC (.int i))) := fun H Q tb j k =>
  ⟨z, rfl, by rw [hi], h0.1, h0.2, hl, k _ H (Fr.refl tb) (hg H)⟩
theorem it_imp (h : It K J σ G te) (i : ∀ H v, G H v → G1 H v) : It K J σ G1 te := fun H Q tb j k => h H Q tb j fun v H' f g => k v H' f (i _ _ g)
theorem it_var {i : Nat} {v : V} (hv : σ[i]? = some (some v)) (hg : ∀ H, J H → G H v) : It K J σ G (tVar i) := fun H Q tb j k => ⟨v, hv, k v H (Fr.refl tb) (hg H j)⟩
theorem st_true : Stays K (fun _ _ => True) := fun _ _ _ _ _ => trivial
theorem it_any (h : It K J σ G te) : It K J σ (fun _ _ => True) te := it_imp h fun _ _ _ => trivial
theorem st_nm {b : Bool} : Stays K (fun H v => Nm8 H v b) := fun _ _ _ h f => h.fr f
theorem st_sz {b : Bool} : Stays K (fun H v => Sz8 H v b) := fun _ _ _ h f => h.fr f
theorem st_ws {b : Bool} : Stays K (fun H v => Ws8 H v b) := fun _ _ _ h f => h.fr f
theorem st_lt {b : Bool} : Stays K (fun H v => Lt8 H v b) := fun _ _ _ h f => h.fr f
theorem st_hs {b : Bool} : Stays K (fun H v => Hs8 H v b) := fun _ _ _ h f => h.fr f
theorem st_pl {t : String} : Stays K (fun H v => Pl H v t) := fun _ _ _ h f => h.fr f
theorem it_nil : It K J σ (fun H v => ∃ D, v = .ref D ∧ H D = some (.lst [])) (tLst tNil) := fun H Q tb j k => ⟨Nat.zero_le _, fun p np => k _ _ (Fr.new tb np) ⟨p, rfl, upd_same⟩⟩
theorem nm_a (H : Hp) : Nm8 H (.str "a") true := by
  have h := Nm8.str (H := H) "a" (by decide +kernel)
  rwa [show nmB "a" = true from by decide +kernel] at h
theorem nm_no {x : Str} (H : Hp) (hx : nmB x = false) (l : x.length ≤ sizeLine) : Nm8 H (.str x) false := by
  have h := Nm8.str (H := H) x l
  rwa [hx] at h
/-- the empty list is a list of names -/
theorem ws_nil {H : Hp} {v : V} (h : ∃ D, v = .ref D ∧ H D = some (.lst [])) : Ws8 H v true := by
  obtain ⟨D, rfl, e⟩ := h
  exact .lst (bs := []) e .nil
theorem sz_in {H : Hp} {i : Int} (h : 0 ≤ i ∧ i ≤ 99999) : Sz8 H (.int i) true := by
  have z := Sz8.int (H := H) i
  rwa [decide_eq_true h.1, decide_eq_true h.2] at z
theorem sz_out {H : Hp} {i : Int} (h : i < 0 ∨ 99999 < i) : Sz8 H (.int i) false := by
  have z := Sz8.int (H := H) i
  rcases h with h | h
  · rw [decide_eq_false (by omega : ¬ 0 ≤ i), Bool.false_and] at z; exact z
  · rw [decide_eq_false (by omega : ¬ i ≤ 99999), Bool.and_false] at z; exact z
/-- (x, y, z), one of them none -/
theorem lt_bad {H : Hp} {a : Addr} {x y z : V} {b1 b2 b3 : Bool} (e : H a = some (.tup [x, y, z])) (h1 : Nm8 H x b1) (h2 : Ws8 H y b2) (h3 : Sz8 H z b3) (hb : (b1 && (b3 && b2)) = false) : Lt8 H (.ref a) false := by
  have h := Lt8.three e h1 h2 h3
  rwa [hb] at h
end
end So
end

section
set_option Elab.async false
set_option linter.all false
set_option maxRecDepth 100000
set_option maxHeartbeats 4000000
/-! a row made by a comprehension whose item is told with the def's own state at hand -/
namespace So
open PySem PySem.Spec PyProof.Rows L2 GxA TL
/-- [elt for target in iter]; te is told of the def's own names σ, too -/
def tLcW (wi : TI) (g : TG) (te : L2.St → TE) (vs : List Nat) : TE := fun σ H Q => wi σ H fun J H1 => ∀ D, H1 D = none → ∃ W : Nat → Nat → Hp → Prop, (∃ m, W 0 m (L2.upd H1 D (.lst []))) ∧ ∀ i m Hx, W i m Hx →
  (J.stop i Hx ∧ Q (.ref D) Hx) ∨ (J.go i Hx ∧ ∃ Nx : Hp → Prop, (∀ Hy, Nx Hy → ∃ m', m' < m ∧ W (i + 1) m' Hy) ∧ ∀ x Hy, J.yld i Hx x Hy → g x (wipe σ vs) Hy fun σ2 Hz => wipe σ2 vs = wipe σ vs ∧
    te σ σ2 Hz fun y Hu => ∃ acc, Hu D = some (.lst acc) ∧ acc.length < sizeLine ∧ Nx (L2.upd Hu D (.lst (acc ++ [y]))))
theorem pe_lcW {X : Cx} {elt tg iter : Expr} {scope : Scope} {own : List (Str × Nat)} {pos : Pos} {wi : TI} {g : TG} {te : L2.St → TE} (calm : X.calm = true) (nodup : X.N.Nodup) (walk : PI X tg iter wi) (bok : BlkOk X.N X.env.scope scope own)
    (store : ∀ (s : Shared) (H : Hp) (C : Addr) (cl : List (Str × Addr)) (fp : List Addr), PG (X.blk s H scope (compEnvC scope cl C X.env) fp) tg g)
    (item : ∀ (pins : List (Addr × Obj)) (σ : L2.St) (s : Shared) (H : Hp) (C : Addr) (cl : List (Str × Addr)) (fp : List Addr), Inv X pins σ H s → (∀ b ∈ fp, FpOk X pins H b) → PE (X.blk s H scope (compEnvC scope cl C X.env) fp) elt (te σ))
    (plain : ∀ x, foldedSetIterable iter X.env x = pure x := by intro _; rfl) : PE X (.ListComp elt [⟨tg, iter, [], 0⟩] scope pos) (tLcW wi g te (own.map (·.2))) := by
  refine ⟨fun pins s σ H Q I told => ?_⟩
  rw [eval_ListComp]
  have clo : ∀ y ∈ scope.names, y.2 = .free → ∃ c, X.env.cells.lookup y.1 = some c := fun y m e =>
    (bok.free y m e).elim (fun z => I.ok.has _ (.inl z)) fun z => I.ok.has _ (.inr z)
  refine wpAny_comprehension_free (use := none) rfl plain (closure_ok clo) bok.kind (fun y m e => by rw [bok.uniq y m, e]) ?_
  refine thn (walk.run pins s σ H _ I told) fun _ sa ha => thn ha fun _ sb ⟨it, fp, tn, J, Hb, e, Ib, T, t0, ok0, rest⟩ => ?_
  subst e
  refine wpAny_newObj_type (newEnv_comp ?_) (by show 0 ≤ sizeLine; decide)
  have nD : Hb sb.heap.objs.size = none := Ib.hok.fresh (Nat.le_refl _)
  obtain ⟨W, ⟨m0, w0⟩, turn⟩ := rest sb.heap.objs.size nD
  -- the row stands, empty
  have Ic : Inv X pins σ (L2.upd Hb sb.heap.objs.size (.lst [])) { sb with heap := sb.heap.push { cls := .type "list", data := .seq ([] : List Value).toArray } } :=
    Ib.laid (t' := sb.toks) (fun _ _ z => Heap.get?_push_of_some _ z) (Nat.le_refl _) ⟨Nat.zero_le _, [], 0, .nil, Heap.get?_push_size _ rfl⟩
  have okc : ∀ b ∈ fp, FpOk X pins (L2.upd Hb sb.heap.objs.size (.lst [])) b ∧ b < (sb.heap.push { cls := .type "list", data := .seq ([] : List Value).toArray }).objs.size := fun b m => by
    obtain ⟨o, z, _⟩ := T.obj _ _ t0 b m
    have lt := Heap.lt_size z
    refine ⟨⟨?_, (ok0 b m).2⟩, ?_⟩
    · rw [upd_ne (Nat.ne_of_lt lt)]
      exact (ok0 b m).1
    · rw [Heap.size_push]
      exact Nat.lt_succ_of_lt lt
  have tc : tn 0 (sb.heap.push { cls := .type "list", data := .seq ([] : List Value).toArray }) := T.keep _ _ _ t0 fun _ _ _ z => Heap.get?_push_of_some _ z
  generalize sb.heap.objs.size = D at nD turn w0 Ic okc ⊢
  generalize L2.upd Hb D (.lst []) = Hc at w0 Ic okc
  generalize hsc : ({ sb with heap := sb.heap.push { cls := .type "list", data := .seq ([] : List Value).toArray } } : Shared) = sc at Ic ⊢
  have hsh : sb.heap.push { cls := .type "list", data := .seq ([] : List Value).toArray } = sc.heap := by rw [← hsc]
  rw [hsh] at okc tc
  have Id := block_start Ic bok nodup okc
  have pg := store sc Hc sc.heap.objs.size (cellsFrom (sc.heap.objs.size + 1) scope.names (cloFrom X.env.cells scope.names [])) fp
  have pe := item pins σ sc Hc sc.heap.objs.size (cellsFrom (sc.heap.objs.size + 1) scope.names (cloFrom X.env.cells scope.names [])) fp Ic fun b m => (okc b m).1
  have free0 : ∀ b ∈ fp, Hc b = none := fun b m => (okc b m).1.1
  have td : tn 0 (pushCells (sc.heap.push { cls := .type "dict", data := .dict #[] }) scope.names) := T.keep _ _ _ tc fun _ _ _ z => pushCells_keeps _ _ _ _ (Heap.get?_push_of_some _ z)
  show codeAny _ _ (.compStart (.ListComp elt [⟨tg, iter, [], 0⟩] scope pos) 0 (.ref it) (.ref D) (compEnvC scope (cellsFrom (sc.heap.objs.size + 1) scope.names (cloFrom X.env.cells scope.names [])) sc.heap.objs.size X.env)) (compPost (model X.prog X.w) X.A X.xe none _ (.ref D) sc.heap.objs.size) { sc with heap := pushCells (sc.heap.push { cls := .type "dict", data := .dict #[] }) scope.names }
  have here : (compEnvC scope (cellsFrom (sc.heap.objs.size + 1) scope.names (cloFrom X.env.cells scope.names [])) sc.heap.objs.size X.env).locals = sc.heap.objs.size := rfl
  generalize compEnvC scope (cellsFrom (sc.heap.objs.size + 1) scope.names (cloFrom X.env.cells scope.names [])) sc.heap.objs.size X.env = ce at Id pg pe here ⊢
  generalize hsd : ({ sc with heap := pushCells (sc.heap.push { cls := .type "dict", data := .dict #[] }) scope.names } : Shared) = sd at Id ⊢
  have hdh : pushCells (sc.heap.push { cls := .type "dict", data := .dict #[] }) scope.names = sd.heap := by rw [← hsd]
  rw [hdh] at td
  have fine : ∀ {τ : L2.St} {Hx : Hp} {sx : Shared}, Inv (X.blk sc Hc scope ce fp) [] τ Hx sx → (∀ b ∈ fp, Hx b = none) → ∀ b ∈ fp, FpOk (X.blk sc Hc scope ce fp) [] Hx b := fun Ix nx b m =>
    ⟨nx b m, (Ix.ok.exf b m).1, Ix.ok.exfs b m, .inl m, (Ix.ok.exf b m).2, fun _ z => nomatch z⟩
  have loop : codeAny (model X.prog X.w) X.A (.compLoop (.ListComp elt [⟨tg, iter, [], 0⟩] scope pos) 0 (.ref it) (.ref D) ce) (compPost (model X.prog X.w) X.A X.xe none (EP X pins σ Q) (.ref D) sc.heap.objs.size) sd := by
    refine compLoop_any (fun n sx => ∃ i Hx, Inv (X.blk sc Hc scope ce fp) [] (wipe σ (own.map (·.2))) Hx sx ∧ tn i sx.heap ∧ (∀ b ∈ fp, Hx b = none) ∧ W i n Hx) ?_ m0 ⟨0, Hc, Id, td, free0, w0⟩
    rintro n sx ⟨i, Hx, Ix, tx, nx, wx⟩
    rcases turn i n Hx wx with ⟨stop, fin⟩ | ⟨go, Nx, less, step⟩
    · refine thnF (T.done (X.blk sc Hc scope ce fp) rfl rfl rfl calm i [] sx _ Hx (fun _ _ => False) Ix (fine Ix nx) tx stop) fun _ sy ⟨hr, Iy⟩ => ?_
      subst hr
      have again : Inv X pins σ Hx sy := Ic.call' (ch := fp) Iy.os Iy.base Iy.hok Iy.bare fun b m =>
        have z := (okc b m).1.2
        ⟨z.2.2.1, z.1, z.2.2.2.1, z.2.2.2.2⟩
      obtain ⟨names, hn, _⟩ := Iy.loc
      have hn : sy.heap.Ns ce.locals names := hn
      have nl : Hx ce.locals = none := Iy.free
      rw [here] at hn nl
      obtain ⟨a0, a1, _, a3, a4, a5⟩ := Ic.fpOk (Nat.le_refl _) nl
      exact ⟨names, hn, fun _ same => ⟨.ref D, Hx, again.turned (t' := sy.toks) (fun b _ nb z => (same.2 b nb).trans z) a0 a1 a3 a4 a5, rfl, fin⟩⟩
    · refine thnF (T.item (X.blk sc Hc scope ce fp) rfl rfl rfl calm i [] sx _ Hx (fun _ _ => False) Ix (fine Ix nx) tx go) fun _ sy ⟨u, hr, hy⟩ => ?_
      subst hr
      refine thnF hy fun _ sz ⟨x, Hz, Iz, rz, yz, tz, nz⟩ => ?_
      refine thnF (pg.run _ sz _ Hz x u _ (Iz.pinned (fine Iz nz) (T.obj _ _ tz)) rz (step x Hz yz)) fun _ sv ⟨σv, Hv, Iv, wv, qv⟩ => ?_
      refine thnF ((pts_nil (X := X.blk sc Hc scope ce fp)).run _ sv σv Hv (fun b Hw => b = true ∧ te σ σv Hw _) Iv ⟨rfl, qv⟩) fun b sw ⟨Hw, Iw, hb, qw⟩ => ?_
      subst hb
      rw [if_pos rfl]
      refine thnF (pe.run _ sw σv Hw _ Iw qw) fun _ sq ⟨y, Hq, Iq, rq, acc, eD, small, nxt⟩ => ?_
      refine app_ok (X := X.blk sc Hc scope ce fp) Iq eD small rq fun sr Ir => ?_
      obtain ⟨m', lt, w'⟩ := less _ nxt
      have held : ∀ b ∈ fp, ∀ o, sz.heap.get? b = some o → sr.heap.get? b = some o ∧ L2.upd Hq D (.lst (acc ++ [y])) b = none := fun b m o e =>
        have z := Ir.pin (b, o) (List.mem_append_right _ (List.mem_append_right _ (mem_pinsAt m e)))
        ⟨z.1, z.2.1⟩
      refine ⟨m', lt, i + 1, _, (Ir.unpinned (pins := [])).weak (by rw [← wv, wipe_length]) (fun j v e => ?_), T.keep _ _ _ tz fun b m o e => (held b m o e).1, fun b m => ?_, w'⟩
      · rw [← wv] at e
        exact (wipe_some e).1
      · obtain ⟨o, e, _⟩ := T.obj _ _ tz b m
        exact (held b m o e).2
  exact codeAny_compStart_list loop (T.self X.A 0 _ _ _ td loop)
end So
end

section
set_option Elab.async false
set_option linter.all false
set_option maxRecDepth 100000
set_option maxHeartbeats 4000000
/-! what the law's lambdas share; lists of bad things -/
namespace So
open PySem PySem.Spec PyProof.Rows L2 GxA TL
open GxR (TabB TabG Tabbed)
/-- the seven classes -/
structure Knds (K : PySem.W.Frag) : Prop where
  letter : KindOk K (C_BadLetter K) 0
  name : KindOk K (C_BadName K) 1
  house : KindOk K (C_BadHouse K) 2
  none_ : KindOk K (C_NoLetter K) 3
  many : KindOk K (C_TooMany K) 4
  text : KindOk K (C_BadText K) 5
  rule : KindOk K (C_BadRule K) 6
theorem ask_mk {X : Cx} {C : Addr} {PP : L2.St → Hp → Prop} {k : Nat} {params : Arguments} {body : Expr} {scope : Scope} {te : XK → TE} (L : LamX.LamS X.env.scope scope)
    (nopar : ∀ (q : Str) (cl : List (Str × Addr)) (pm cv ctv : Value), bindArgs (PySem.W.kla_fn "<lambda>" q params body scope cl pm cv ctv) ⟨[], []⟩ = pure []) (nodef : defaultsOf params X.env = ([], []))
    (hp : ∀ (A : Around) (outer : List Env) (s : Shared) (H : Hp) (E : XK) (f c' : Addr), Room k (A.deeper (LamX.lamEnv X scope s.heap.objs.size f c')) → PE (LamX.lamCx X A outer s H E scope f c') body (te E))
    (im : ∀ (E : XK) (σ : L2.St) (H : Hp) (Q : VK), PP σ H → Tb X.K H → (∀ H' d, Fr X.K [] H H' → XdAt H' d → E (.ref C) d H') → te E σ H Q) : Ask X C PP k params body scope :=
  ⟨L, nopar, nodef, fun A outer s H E f c' hr => pe_imp (hp A outer s H E f c' hr) fun σ H Q ⟨a, b, c⟩ => im E σ H Q a b c⟩
/-- n things, of each of which G holds, as a list -/
def RowAt (G : Hp → V → Prop) (n : Nat) (H : Hp) (D : Addr) : Prop := ∃ vs, H D = some (.lst vs) ∧ vs.length = n ∧ ∀ u ∈ vs, G H u
section
variable {K : PySem.W.Frag} {J : Hp → Prop} {σ : L2.St} {G : Hp → V → Prop} {ta : TA} {n m : Nat} {H H' : Hp} {D D2 D3 : Addr}
theorem RowAt.fr (sg : Stays K G) (h : RowAt G n H D) (f : Fr K [] H H') : RowAt G n H' D := by
  obtain ⟨vs, e, l, g⟩ := h
  exact ⟨vs, f.at e, l, fun u mu => sg _ _ _ (g u mu) f⟩
theorem it_row (h : Its K J σ G n ta) (hn : n ≤ sizeLine) (sg : Stays K G) : It K J σ (fun H v => ∃ D, v = .ref D ∧ RowAt G n H D) (tLst ta) :=
  it_lst h hn sg fun _ D vs e l g => ⟨D, rfl, vs, e, l, g⟩
theorem row_cat (sg : Stays K G) (tb : Tb K H) (h1 : RowAt G n H D) (h2 : RowAt G m H D2) (hl : n + m ≤ 1000) {Q : VK} (k : ∀ H' D3, Fr K [] H H' → RowAt G (n + m) H' D3 → Q (.ref D3) H') : rCat (.ref D) (.ref D2) H Q := by
  obtain ⟨xs, e1, l1, g1⟩ := h1
  obtain ⟨ys, e2, l2, g2⟩ := h2
  refine ⟨D, D2, xs, ys, rfl, rfl, e1, e2, by rw [l1, l2]; exact Nat.le_trans hl (by decide), fun p np => ?_⟩
  have f : Fr K [] H (L2.upd H p (.lst (xs ++ ys))) := Fr.new tb np
  exact k _ p f ⟨_, upd_same, by rw [List.length_append, l1, l2], fun u mu => (List.mem_append.mp mu).elim (fun z => sg _ _ _ (g1 u z) f) fun z => sg _ _ _ (g2 u z) f⟩
end
end So
end

section
set_option Elab.async false
set_option linter.all false
set_option maxRecDepth 100000
set_option maxHeartbeats 4000000
/-! _law_letters_right -/
namespace So
open PySem PySem.Spec PyProof.Rows L2 GxA TL
open GxR (TabB TabG Tabbed)
section
variable {P : Program} {w : World} {K : PySem.W.Frag} {mg : Str → Option Value} {base : Heap}
theorem ixn {n j : Nat} (hj : j < n) : ixN n (j : Int) = some j := by
  unfold ixN
  rw [if_pos (Int.natCast_nonneg j), if_pos (by omega)]
  simp
/-- a list is written over -/
theorem Nm8.putL {H : Hp} {D : Addr} {xs ys : List V} {v : V} {b : Bool} (h : Nm8 H v b) (e0 : H D = some (.lst xs)) : Nm8 (L2.upd H D (.lst ys)) v b := by
  cases h with
  | str x l => exact .str x l
  | @no _ _ p h =>
    refine .no (t := _) ?_ h
    cases p with
    | non => exact .non
    | bl b => exact .bl b
    | int i => exact .int i
    | str x => exact .str x
    | @lst a zs e =>
      by_cases q : a = D
      · subst q; exact .lst upd_same
      · exact .lst (by rw [upd_ne q]; exact e)
    | tup e => exact .tup (by rw [upd_ne (ne_of e e0 (by intro z; cases z))]; exact e)
    | dic e => exact .dic (by rw [upd_ne (ne_of e e0 (by intro z; cases z))]; exact e)
abbrev zLet (P : Program) (w : World) (K : PySem.W.Frag) (mg : Str → Option Value) (base : Heap) (A : Around) (outer : List Env) (s : Shared) (H : Hp) (E : XK) : Cx := cxOf CX0 P w K mg base N_law_letters_right "_law_letters_right" (defScope s_law_letters_right) (a_law_letters_right K) (.ref (He.codeOf K ("_law_letters_right", none))) A outer s H E
/-- the house at slot 0, a bad letter at slot 4 -/
def PLet (K : PySem.W.Frag) (R : HR) (σ : L2.St) (H : Hp) : Prop := (∃ v, σ[4]? = some (some v) ∧ Lt8 H v false) ∧ σ[0]? = some (some (.ref R.r)) ∧ ∃ O M b, HAt K O H R M b ∧ ("a" : Str) ∈ M.na ∧ ("b" : Str) ∉ M.na
theorem nm_sa : Nm "a" := nm1 (by decide +kernel)
theorem nm_sb : Nm "b" := nm1 (by decide +kernel)
def spLettersR (K : PySem.W.Frag) : Sp := fun vs H Q _ => ∃ (O : List Addr) (R : HR) (M : HM) (b : Nat) (n : Nat), vs = [.ref R.r, .int n] ∧ HAt K O H R M b ∧ ("a" : Str) ∈ M.na ∧ ("b" : Str) ∉ M.na ∧ n < 1000003 ∧ Tb K H ∧ ∀ H', Fr K [] H H' → Q (.bl true) H'
theorem R_lettersR (T : Txt w K mg base) (KN : Knds K) : FnR P w K mg base CX0 95 (a_law_letters_right K) (spLettersR K) := by
  refine mkRC (p := ("_law_letters_right", none)) rfl T.f_law_letters_right sc_law_letters_right bd_law_letters_right ?_ ?_
  · rintro vs H Q E ⟨O, R, M, b, n, rfl, _⟩; rfl
  rintro A outer s H vs Q E hr ⟨O, R, M, b, n, rfl, hA, ha, hb, hn, tb, k⟩
  have nd := sc_law_letters_right.nd
  obtain ⟨_, F1⟩ := T.f_sort
  obtain ⟨_, F2⟩ := T.f_acting
  refine ⟨_, PSs.nox <| pss_cons (ps_set (i := 2) nd rfl (.inl rfl) (pe_lst (pa_cons (pe_str) (pa_cons (pe_str) (pa_cons (pe_str) (pa_cons (pe_str) (pa_cons (pe_str) pa_nil)))))))
    (pss_cons (ps_asg (pe_ix ix_tup (pe_tup (pa_cons (pe_str) (pa_cons (pe_str) (pa_cons (pe_str) (pa_cons (pe_non) (pa_cons (pe_int) (pa_cons (pe_op (op_mulS (n := 11) (by decide)) pe_str pe_int) (pa_cons (pe_lst (pa_cons (pe_str) pa_nil)) (pa_cons (pe_bl) pa_nil))))))))) (pe_op op_mod (pe_op op_fdiv (pv 1) pe_int) pe_int) (fun _ _ => rfl)) (pg_sub (pv 2) (pe_op op_mod (pv 1) pe_int) set_list))
    (pss_cons (ps_set (i := 3) nd rfl (.inl rfl) (pe_lst (pa_cons (pe_non) (pa_cons (pe_int) (pa_cons (pe_str) (pa_cons (pe_tup pa_nil) (pa_cons (pe_tup (pa_cons (pe_str) pa_nil)) (pa_cons (pe_tup (pa_cons (pe_str) (pa_cons (pe_lst pa_nil) pa_nil))) (pa_cons (pe_tup (pa_cons (pe_str) (pa_cons (pe_lst pa_nil) (pa_cons (pe_int) (pa_cons (pe_int) pa_nil))))) pa_nil)))))))))
    (pss_cons (ps_set (i := 3) nd rfl (.inl rfl) (pe_op op_cat (pv 3) (pe_lst (pa_cons (pe_lst (pa_cons (pe_str) (pa_cons (pe_lst pa_nil) (pa_cons (pe_int) pa_nil)))) (pa_cons (pe_tup (pa_cons (pe_str) (pa_cons (pv 2) (pa_cons (pe_int) pa_nil)))) (pa_cons (pe_tup (pa_cons (pe_str) (pa_cons (pe_tup (pa_cons (pe_str) pa_nil)) (pa_cons (pe_int) pa_nil)))) (pa_cons (pe_tup (pa_cons (pe_str) (pa_cons (pe_str) (pa_cons (pe_int) pa_nil)))) pa_nil)))))))
    (pss_cons (ps_set (i := 3) nd rfl (.inl rfl) (pe_op op_cat (pv 3) (pe_lst (pa_cons (pe_tup (pa_cons (pe_str) (pa_cons (pe_lst pa_nil) (pa_cons (pe_int) pa_nil)))) (pa_cons (pe_tup (pa_cons (pe_str) (pa_cons (pe_lst pa_nil) (pa_cons (pe_int) pa_nil)))) (pa_cons (pe_tup (pa_cons (pe_non) (pa_cons (pe_lst pa_nil) (pa_cons (pe_int) pa_nil)))) (pa_cons (pe_tup (pa_cons (pe_op (op_mulS (n := 11) (by decide)) pe_str pe_int) (pa_cons (pe_lst pa_nil) (pa_cons (pe_int) pa_nil)))) pa_nil)))))))
    (pss_cons (ps_set (i := 3) nd rfl (.inl rfl) (pe_op op_cat (pv 3) (pe_lst (pa_cons (pe_tup (pa_cons (pe_str) (pa_cons (pe_lst pa_nil) (pa_cons (pe_un un_neg pe_int) pa_nil)))) (pa_cons (pe_tup (pa_cons (pe_str) (pa_cons (pe_lst pa_nil) (pa_cons (pe_int) pa_nil)))) (pa_cons (pe_tup (pa_cons (pe_str) (pa_cons (pe_lst pa_nil) (pa_cons (pe_bl) pa_nil)))) pa_nil))))))
    (pss_cons (ps_set (i := 3) nd rfl (.inl rfl) (pe_op op_cat (pv 3) (pe_lst (pa_cons (pe_tup (pa_cons (pe_str) (pa_cons (pe_lst pa_nil) (pa_cons (pe_str) pa_nil)))) (pa_cons (pe_tup (pa_cons (pe_str) (pa_cons (pe_lst pa_nil) (pa_cons (pe_non) pa_nil)))) (pa_cons (pe_tup (pa_cons (pe_str) (pa_cons (pe_lst pa_nil) (pa_cons (pe_op op_add pe_int (pv 1)) pa_nil)))) pa_nil))))))
    (pss_cons (ps_set (i := 3) nd rfl (.inl rfl) (pe_op op_cat (pv 3) (pe_lst (pa_cons (pe_tup (pa_cons (pe_str) (pa_cons (pe_lst pa_nil) (pa_cons (pe_op op_sub (pe_un un_neg pe_int) (pv 1)) pa_nil)))) (pa_cons (pe_tup (pa_cons (pe_str) (pa_cons (pe_non) (pa_cons (pe_int) pa_nil)))) pa_nil)))))
    (pss_cons (ps_for PassesOwn.never rfl (pi_list (pe_op op_cat (pv 3) (pe_lst (pa_cons pe_dnewK pa_nil)))) (pg_name (i := 4) nd rfl (.inr rfl)) (pss_cons (ps_if (pt_not (pt_val (pe_ask (X := (zLet P w K mg base A outer s H E).nox) (k := 91) T (by rfl) T.t_law_letters_right rfl (by exact List.Mem.head _) KN.letter (by decide) hr
          (ask_mk (PP := PLet K R) (te := fun E => tCX (spSort8 K) E (tCons (tC (.str "if any then stop")) (tCons (tVar 4) tNil))) (LamX.lamS_by (sc := defScope s_law_letters_right) (by decide +kernel)) (by intros; rfl) (by rfl)
            (fun _ _ _ _ _ _ _ h => pe_cX (R_sort8 T) (h.mono (by decide)) (passX (takes_of rfl rfl rfl rfl) fun _ _ _ _ z => z) (by rfl) T.g_sort F1.kp (pa_cons (pe_str) (pa_cons (pe_var (i := 4) rfl (.inr (.inr rfl))) pa_nil)))
            (fun E σ Hx Qx ⟨⟨v, e, l⟩, _⟩ t kk => ⟨v, e, _, _, _, _, rfl, txt_stop, l, t, fun H' f => kk H' none f trivial⟩))))) (pss_one ps_never) pss_nil)
    (pss_cons (ps_if (pt_not (pt_val (pe_ask (X := (zLet P w K mg base A outer s H E).nox) (k := 91) T (by rfl) T.t_law_letters_right rfl (by exact List.Mem.head _) KN.letter (by decide) hr
          (ask_mk (PP := PLet K R) (te := fun E => tCX (spSort8 K) E (tCons (tC (.str "")) (tCons (tVar 4) tNil))) (LamX.lamS_by (sc := defScope s_law_letters_right) (by decide +kernel)) (by intros; rfl) (by rfl)
            (fun _ _ _ _ _ _ _ h => pe_cX (R_acting8 T) (h.mono (by decide)) (passX (takes_of rfl rfl rfl rfl) fun _ _ _ _ z => z) (by rfl) T.g_acting F2.kp (pa_cons (pe_str) (pa_cons (pe_var (i := 4) rfl (.inr (.inr rfl))) pa_nil)))
            (fun E σ Hx Qx ⟨⟨v, e, l⟩, _⟩ t kk => ⟨v, e, _, _, _, _, rfl, txt_empty, l, t, fun H' f => kk H' none f trivial⟩))))) (pss_one ps_never) pss_nil)
    (pss_cons (ps_if (pt_not (pt_val (pe_ask (X := (zLet P w K mg base A outer s H E).nox) (k := 91) T (by rfl) T.t_law_letters_right rfl (by exact List.Mem.head _) KN.letter (by decide) hr
          (ask_mk (PP := PLet K R) (te := fun E => tMethR (C_House K) "deliver" (spDel8b K) E (tVar 0) (tCons (tC (.str "a")) (tCons (tVar 4) tNil))) (LamX.lamS_by (sc := defScope s_law_letters_right) (by decide +kernel)) (by intros; rfl) (by rfl)
            (fun _ _ _ _ _ _ _ h => pe_methR (pe_var (i := 0) rfl (.inr (.inr rfl))) T.c_House T.m_House_deliver (R_deliver8b T) (h.mono (by decide)) (passX (takes_of rfl rfl rfl rfl) fun _ _ _ _ z => z) (pa_cons (pe_str) (pa_cons (pe_var (i := 4) rfl (.inr (.inr rfl))) pa_nil)))
            (fun E σ Hx Qx ⟨⟨v, e, l⟩, e0, O, M, b, hA, ha, hb⟩ t kk => ⟨_, e0, R.r, R.dx, _, rfl, hA.ob, rfl, v, e, O, R, M, b, "a", v, rfl, hA, nm_sa, ha, l, t, fun H' f => kk H' none f trivial⟩))))) (pss_one ps_never) pss_nil)
    (pss_one (ps_if (pt_not (pt_val (pe_ask (X := (zLet P w K mg base A outer s H E).nox) (k := 91) T (by rfl) T.t_law_letters_right rfl (by exact List.Mem.head _) KN.name (by decide) hr
          (ask_mk (PP := PLet K R) (te := fun E => tMethR (C_House K) "deliver" (spDel8a K) E (tVar 0) (tCons (tC (.str "b")) (tCons (tVar 4) tNil))) (LamX.lamS_by (sc := defScope s_law_letters_right) (by decide +kernel)) (by intros; rfl) (by rfl)
            (fun _ _ _ _ _ _ _ h => pe_methR (pe_var (i := 0) rfl (.inr (.inr rfl))) T.c_House T.m_House_deliver (R_deliver8a T) (h.mono (by decide)) (passX (takes_of rfl rfl rfl rfl) fun _ _ _ _ z => z) (pa_cons (pe_str) (pa_cons (pe_var (i := 4) rfl (.inr (.inr rfl))) pa_nil)))
            (fun E σ Hx Qx ⟨⟨v, e, l⟩, e0, O, M, b, hA, ha, hb⟩ t kk => ⟨_, e0, R.r, R.dx, _, rfl, hA.ob, rfl, v, e, O, R, M, b, .str "b", v, rfl, hA, .inr ⟨"b", rfl, nm_sb, hb⟩, t, fun H' f => kk H' none f trivial⟩))))) (pss_one ps_never) pss_nil))))))
    (pss_one (ps_ret (pe_cmpR (op_eqD hr.units) (pe_cF (R_sort T) (hr.mono (by decide)) (by rfl) T.g_sort F1.kp (pa_cons (pe_str) (pa_cons (pe_tup (pa_cons (pe_op (op_mulS (n := 10) (by decide)) pe_str pe_int) (pa_cons (pe_op op_rep (pe_lst (pa_cons (pe_op (op_mulS (n := 10) (by decide)) pe_str pe_int) pa_nil)) pe_int) (pa_cons (pe_int) pa_nil)))) pa_nil))) (pe_tup (pa_cons (pe_lst pa_nil) (pa_cons (pe_lst pa_nil) (pa_cons (pe_lst pa_nil) pa_nil)))) (nomark _)))))))))))), ?_⟩
  -- the words
  refine rd_set ⟨by show 5 ≤ sizeLine; decide, fun Dw nDw => ?_⟩
  have f1 : Fr K [] H (L2.upd H Dw (.lst [.str "a", .str "bb", .str "ccc", .str "d", .str "a"])) := Fr.new tb nDw
  have hw1 : (L2.upd H Dw (.lst [.str "a", .str "bb", .str "ccc", .str "d", .str "a"])) Dw = some (.lst [.str "a", .str "bb", .str "ccc", .str "d", .str "a"]) := upd_same
  generalize L2.upd H Dw (.lst [.str "a", .str "bb", .str "ccc", .str "d", .str "a"]) = H1 at f1 hw1 ⊢
  -- one of them spoilt
  have sj0 : StayJ K (fun _ => True) := fun _ _ _ _ => trivial
  have l11 : (repS 11 "a").length = ("a" : Str).length * 11 := by decide +kernel
  have la : 0 < ("a" : Str).length ∧ ("a" : Str).length ≤ 1000 := by decide +kernel
  have no : ∀ x : Str, nmB x = false → x.length ≤ 1000 → ∀ H, Nm8 H (.str x) false := fun x h l H => nm_no H h (Nat.le_trans l (by decide))
  refine rd_asg (rd_op (it_tupN (J := fun _ => True) (G := fun H v => Nm8 H v false) (its_cons sj0 st_nm (it_c (no "A" (by decide +kernel) (by decide +kernel))) (its_cons sj0 st_nm (it_c (no "" (by decide +kernel) (by decide +kernel))) (its_cons sj0 st_nm (it_c (no "a b" (by decide +kernel) (by decide +kernel)))
    (its_cons sj0 st_nm (it_c fun _ => .no .non (by decide +kernel)) (its_cons sj0 st_nm (it_c fun _ => .no (.int 5) (by decide +kernel)) (its_cons sj0 st_nm (it_mul la l11 (no _ (by decide +kernel) (by decide +kernel)))
    (its_cons sj0 st_nm (it_lst (G := fun _ _ => True) (its_cons sj0 st_true (it_c fun _ => trivial) its_nil) (by decide) st_true fun _ _ _ e _ _ => .no (.lst e) (by decide +kernel)) (its_cons sj0 st_nm (it_c fun _ => .no (.bl true) (by decide +kernel)) its_nil)))))))) (by decide) st_nm H1 _ f1.2 trivial fun v H2 f2 ⟨Dt, xs, ev, et, xl, xg⟩ => ?_))
  subst ev
  have k8 : n / 5 % 8 < xs.length := by rw [xl]; omega
  refine ⟨_, rfl, _, _, rfl, rfl, ⟨by decide, by decide⟩, _, _, rfl, rfl, (by show (0 : Int) < 8; decide), Dt, xs, _, xs[n / 5 % 8], rfl, rfl, .inl (.inl et), (by
    rw [show ((n : Int) / 5 % 8) = ((n / 5 % 8 : Nat) : Int) by omega]
    exact atI_nat (List.getElem?_eq_getElem k8)), ?_⟩
  have bad := xg _ (List.getElem_mem k8)
  generalize xs[n / 5 % 8] = sp at bad ⊢
  have hw2 := f2.at hw1
  refine ⟨_, rfl, _, rfl, _, _, rfl, rfl, (by show (0 : Int) < 5; decide), Dw, _, _, n % 5, rfl, rfl, hw2, (by
    rw [show ((n : Int) % 5) = ((n % 5 : Nat) : Int) by omega]
    exact ixn (by show n % 5 < 5; omega)), ?_⟩
  have f3 : Fr K [Dw] H2 (L2.upd H2 Dw (.lst (([.str "a", .str "bb", .str "ccc", .str "d", .str "a"] : List V).set (n % 5) sp))) := Fr.put f2.2 hw2 (by intro _ z; cases z) (List.mem_singleton.mpr rfl)
  have F3 : Fr K [] H (L2.upd H2 Dw (.lst (([.str "a", .str "bb", .str "ccc", .str "d", .str "a"] : List V).set (n % 5) sp))) := Fr.drop1 (E := []) ((f1.trans f2).nil.trans f3) nDw
  have bad3 : Nm8 (L2.upd H2 Dw (.lst (([.str "a", .str "bb", .str "ccc", .str "d", .str "a"] : List V).set (n % 5) sp))) sp false := bad.putL hw2
  have ok : ∀ (x : Str) (Hx : Hp), nmB x = true → x.length ≤ 1000 → Nm8 Hx (.str x) true := fun x Hx h l => by
    have z := Nm8.str (H := Hx) x (Nat.le_trans l (by decide))
    rwa [h] at z
  have hws : Ws8 (L2.upd H2 Dw (.lst (([.str "a", .str "bb", .str "ccc", .str "d", .str "a"] : List V).set (n % 5) sp))) (.ref Dw) false := by
    have o1 := ok "a" (L2.upd H2 Dw (.lst (([.str "a", .str "bb", .str "ccc", .str "d", .str "a"] : List V).set (n % 5) sp))) (by decide +kernel) (by decide +kernel)
    have o2 := ok "bb" (L2.upd H2 Dw (.lst (([.str "a", .str "bb", .str "ccc", .str "d", .str "a"] : List V).set (n % 5) sp))) (by decide +kernel) (by decide +kernel)
    have o3 := ok "ccc" (L2.upd H2 Dw (.lst (([.str "a", .str "bb", .str "ccc", .str "d", .str "a"] : List V).set (n % 5) sp))) (by decide +kernel) (by decide +kernel)
    have o4 := ok "d" (L2.upd H2 Dw (.lst (([.str "a", .str "bb", .str "ccc", .str "d", .str "a"] : List V).set (n % 5) sp))) (by decide +kernel) (by decide +kernel)
    have e0 : (L2.upd H2 Dw (.lst (([.str "a", .str "bb", .str "ccc", .str "d", .str "a"] : List V).set (n % 5) sp))) Dw = some (.lst (([.str "a", .str "bb", .str "ccc", .str "d", .str "a"] : List V).set (n % 5) sp)) := upd_same
    generalize L2.upd H2 Dw (.lst (([.str "a", .str "bb", .str "ccc", .str "d", .str "a"] : List V).set (n % 5) sp)) = H3 at bad3 o1 o2 o3 o4 e0
    have lt : n % 5 < 5 := Nat.mod_lt _ (by decide)
    generalize n % 5 = j at lt e0
    match j, lt, e0 with
    | 0, _, e0 => exact .lst (bs := [false, true, true, true, true]) e0 (.cons bad3 (.cons o2 (.cons o3 (.cons o4 (.cons o1 .nil)))))
    | 1, _, e0 => exact .lst (bs := [true, false, true, true, true]) e0 (.cons o1 (.cons bad3 (.cons o3 (.cons o4 (.cons o1 .nil)))))
    | 2, _, e0 => exact .lst (bs := [true, true, false, true, true]) e0 (.cons o1 (.cons o2 (.cons bad3 (.cons o4 (.cons o1 .nil)))))
    | 3, _, e0 => exact .lst (bs := [true, true, true, false, true]) e0 (.cons o1 (.cons o2 (.cons o3 (.cons bad3 (.cons o1 .nil)))))
    | 4, _, e0 => exact .lst (bs := [true, true, true, true, false]) e0 (.cons o1 (.cons o2 (.cons o3 (.cons o4 (.cons bad3 .nil)))))
  generalize L2.upd H2 Dw (.lst (([.str "a", .str "bb", .str "ccc", .str "d", .str "a"] : List V).set (n % 5) sp)) = H3 at F3 hws ⊢
  clear f3 hw2 bad3 bad hw1 f2 f1 et xg
  -- the bad letters
  have sj : StayJ K (fun H => Ws8 H (.ref Dw) false) := fun _ _ h f => h.fr f
  have na : ∀ (τ : L2.St), It K (fun H => Ws8 H (.ref Dw) false) τ (fun H v => Nm8 H v true) (tC (.str "a")) := fun τ => it_c nm_a
  have we : ∀ (τ : L2.St), It K (fun H => Ws8 H (.ref Dw) false) τ (fun H v => Ws8 H v true) (tLst tNil) := fun τ => it_imp it_nil fun H v h => ws_nil h
  have z0 : ∀ (τ : L2.St), It K (fun H => Ws8 H (.ref Dw) false) τ (fun H v => Sz8 H v true) (tC (.int 0)) := fun τ => it_c fun H => sz_in (by decide)
  have tr : ∀ (τ : L2.St) (v : V), It K (fun H => Ws8 H (.ref Dw) false) τ (fun _ _ => True) (tC v) := fun τ v => it_c fun _ => trivial
  have te : ∀ (τ : L2.St), It K (fun H => Ws8 H (.ref Dw) false) τ (fun _ _ => True) (tLst tNil) := fun τ => it_any it_nil
  have bnm : ∀ (τ : L2.St) (t : TE), It K (fun H => Ws8 H (.ref Dw) false) τ (fun H v => Nm8 H v false) t → It K (fun H => Ws8 H (.ref Dw) false) τ (fun H v => Lt8 H v false) (tTup (tCons t (tCons (tLst tNil) (tCons (tC (.int 0)) tNil)))) := fun τ t h =>
    it_tup3 sj st_nm st_ws st_sz h (we τ) (z0 τ) fun _ _ _ _ _ e a b c => lt_bad e a b c rfl
  have bws : ∀ (τ : L2.St) (t : TE), It K (fun H => Ws8 H (.ref Dw) false) τ (fun H v => Ws8 H v false) t → It K (fun H => Ws8 H (.ref Dw) false) τ (fun H v => Lt8 H v false) (tTup (tCons (tC (.str "a")) (tCons t (tCons (tC (.int 0)) tNil)))) := fun τ t h =>
    it_tup3 sj st_nm st_ws st_sz (na τ) h (z0 τ) fun _ _ _ _ _ e a b c => lt_bad e a b c rfl
  have bsz : ∀ (τ : L2.St) (t : TE), It K (fun H => Ws8 H (.ref Dw) false) τ (fun H v => Sz8 H v false) t → It K (fun H => Ws8 H (.ref Dw) false) τ (fun H v => Lt8 H v false) (tTup (tCons (tC (.str "a")) (tCons (tLst tNil) (tCons t tNil)))) := fun τ t h =>
    it_tup3 sj st_nm st_ws st_sz (na τ) (we τ) h fun _ _ _ _ _ e a b c => lt_bad e a b c rfl
  refine rd_set (it_row (its_cons sj st_lt (it_c fun _ => .no .non (by decide +kernel)) (its_cons sj st_lt (it_c fun _ => .no (.int 5) (by decide +kernel)) (its_cons sj st_lt (it_c fun _ => .no (.str "a") (by decide +kernel)) (its_cons sj st_lt (it_tup0 fun _ _ e => .len e (by decide))
    (its_cons sj st_lt (it_tup1 st_true (tr _ _) fun _ _ _ e _ => .len e (by simp)) (its_cons sj st_lt (it_tup2 sj st_true st_true (tr _ _) (te _) fun _ _ _ _ e _ _ => .len e (by simp)) (its_cons sj st_lt (it_tup4 sj (tr _ _) (te _) (tr _ _) (tr _ _) fun _ _ _ e l => .len e (by omega)) its_nil))))))) (by decide) st_lt H3 _ F3.2 hws fun v H4 f4 ⟨D4, ev, r4⟩ => ?_)
  subst ev
  have hws4 := hws.fr f4
  have F4 := F3.trans f4
  refine rd_set (rd_op ⟨_, rfl, it_row (its_cons sj st_lt (it_lst (its_cons sj st_true (tr _ _) (its_cons sj st_true (te _) (its_cons sj st_true (tr _ _) its_nil))) (by decide) st_true fun _ _ _ e _ _ => .no (.lst e) (by decide +kernel))
    (its_cons sj st_lt (bws _ _ (it_var rfl fun _ j => j)) (its_cons sj st_lt (bws _ _ (it_tup1 st_true (tr _ _) fun _ _ _ e _ => .no (.tup e) (by decide +kernel))) (its_cons sj st_lt (bws _ _ (it_c fun _ => .no (.str "a") (by decide +kernel))) its_nil)))) (by decide) st_lt H4 _ F4.2 hws4 fun v H5 f5 ⟨D5, ev, r5⟩ => ?_⟩)
  subst ev
  refine row_cat st_lt f5.2 (r4.fr st_lt f5) r5 (by decide) fun H6 D6 f6 r6 => ?_
  clear r4 r5
  have F6 := F4.trans (f5.trans f6)
  have hws6 := hws4.fr (f5.trans f6)
  refine rd_set (rd_op ⟨_, rfl, it_row (its_cons sj st_lt (bnm _ _ (it_c (no "" (by decide +kernel) (by decide +kernel)))) (its_cons sj st_lt (bnm _ _ (it_c (no "A" (by decide +kernel) (by decide +kernel)))) (its_cons sj st_lt (bnm _ _ (it_c fun _ => .no .non (by decide +kernel)))
    (its_cons sj st_lt (bnm _ _ (it_mul la l11 (no _ (by decide +kernel) (by decide +kernel)))) its_nil)))) (by decide) st_lt H6 _ F6.2 hws6 fun v H7 f7 ⟨D7, ev, r7⟩ => ?_⟩)
  subst ev
  refine row_cat st_lt f7.2 (r6.fr st_lt f7) r7 (by decide) fun H8 D8 f8 r8 => ?_
  clear r6 r7
  have F8 := F6.trans (f7.trans f8)
  have hws8 := hws6.fr (f7.trans f8)
  refine rd_set (rd_op ⟨_, rfl, it_row (its_cons sj st_lt (bsz _ _ fun Hx Qx tx _ kx => ⟨_, rfl, kx _ Hx (Fr.refl tx) (sz_out (.inl (by decide)))⟩) (its_cons sj st_lt (bsz _ _ (it_c fun _ => sz_out (.inr (by decide)))) (its_cons sj st_lt (bsz _ _ (it_c fun _ => .bl true)) its_nil))) (by decide) st_lt H8 _ F8.2 hws8 fun v H9 f9 ⟨D9, ev, r9⟩ => ?_⟩)
  subst ev
  refine row_cat st_lt f9.2 (r8.fr st_lt f9) r9 (by decide) fun H10 D10 f10 r10 => ?_
  clear r8 r9
  have F10 := F8.trans (f9.trans f10)
  have hws10 := hws8.fr (f9.trans f10)
  refine rd_set (rd_op ⟨_, rfl, it_row (its_cons sj st_lt (bsz _ _ (it_c fun _ => .no (.str "0") (by decide +kernel))) (its_cons sj st_lt (bsz _ _ (it_c fun _ => .no .non (by decide +kernel))) (its_cons sj st_lt (bsz _ _ fun Hx Qx tx _ kx => ⟨_, rfl, _, _, rfl, rfl, kx _ Hx (Fr.refl tx) (sz_out (.inr (by omega)))⟩) its_nil))) (by decide) st_lt H10 _ F10.2 hws10 fun v H11 f11 ⟨D11, ev, r11⟩ => ?_⟩)
  subst ev
  refine row_cat st_lt f11.2 (r10.fr st_lt f11) r11 (by decide) fun H12 D12 f12 r12 => ?_
  clear r10 r11
  have F12 := F10.trans (f11.trans f12)
  have hws12 := hws10.fr (f11.trans f12)
  refine rd_set (rd_op ⟨_, rfl, it_row (its_cons sj st_lt (bsz _ _ fun Hx Qx tx _ kx => ⟨_, rfl, _, rfl, _, _, rfl, rfl, kx _ Hx (Fr.refl tx) (sz_out (.inl (by omega)))⟩) (its_cons sj st_lt (bws _ _ (it_c fun _ => .no .non (by decide +kernel))) its_nil)) (by decide) st_lt H12 _ F12.2 hws12 fun v H13 f13 ⟨D13, ev, r13⟩ => ?_⟩)
  subst ev
  refine row_cat st_lt f13.2 (r12.fr st_lt f13) r13 (by decide) fun H14 D14 f14 r14 => ?_
  clear r12 r13
  have F14 := F12.trans (f13.trans f14)
  have hws14 := hws12.fr (f13.trans f14)
  -- each of them, at four doors
  refine rd_seq ?_
  unfold tFor
  refine rd_iL (rd_op ⟨_, rfl, it_row (its_cons sj st_lt (fun Hx Qx tx _ kx => fun d nd => kx _ _ (Fr.new tx nd) (.no (.dic upd_same) (by decide +kernel))) its_nil) (by decide) st_lt H14 _ F14.2 hws14 fun v H15 f15 ⟨D15, ev, r15⟩ => ?_⟩)
  subst ev
  refine row_cat st_lt f15.2 (r14.fr st_lt f15) r15 (by decide) fun H16 D16 f16 r16 => ?_
  clear r14 r15
  have F16 := F14.trans (f15.trans f16)
  obtain ⟨xs, ex, xl, xb⟩ := r16
  refine ⟨D16, rfl, ⟨_, SqL.of ex⟩, ?_⟩
  refine for_list (xs := xs) (fun i σ Hx => (∃ y, σ = [some (V.ref R.r), some (.int n), some (.ref Dw), some (.ref D14), y]) ∧ Fr K [] H16 Hx) ⟨⟨_, rfl⟩, Fr.refl F16.2⟩ (fun i σ Hx _ ⟨_, f⟩ => SqL.of (f.at ex)) (fun i v σ Hx hv ⟨⟨y, es⟩, f⟩ => ?_) (fun σ Hx ⟨⟨y, es⟩, f⟩ => ?_)
  · subst es
    have bad : Lt8 H16 v false := xb v (List.mem_of_getElem? hv)
    have Fx := F16.trans f
    have pp : ∀ H', Fr K [] Hx H' → PLet K R [some (V.ref R.r), some (.int n), some (.ref Dw), some (.ref D14), some v] H' := fun H' g => ⟨⟨v, rfl, bad.fr (f.trans g)⟩, rfl, O, M, b, hA.fr0 (Fx.trans g), ha, hb⟩
    refine ⟨f.2, pp, fun Ha ga => ⟨true, rfl, iteF ?_⟩⟩
    refine ⟨ga.2, fun H' g => pp H' (ga.trans g), fun Hb gb => ⟨true, rfl, iteF ?_⟩⟩
    have gab := ga.trans gb
    refine ⟨gab.2, fun H' g => pp H' (gab.trans g), fun Hc gc => ⟨true, rfl, iteF ?_⟩⟩
    have gabc := gab.trans gc
    refine ⟨gabc.2, fun H' g => pp H' (gabc.trans g), fun Hd gd => ⟨true, rfl, iteF ?_⟩⟩
    exact ⟨⟨_, rfl⟩, f.trans (gabc.trans gd)⟩
  · subst es
    have Fx := F16.trans f
    have l10 : (repS 10 "a").length = ("a" : Str).length * 10 := by decide +kernel
    have m10 : (repS 10 "b").length = ("b" : Str).length * 10 := by decide +kernel
    have lb : 0 < ("b" : Str).length ∧ ("b" : Str).length ≤ 1000 := by decide +kernel
    refine ⟨_, rfl, rfl, la.1, la.2, l10, _, rfl, rfl, lb.1, lb.2, m10, by show 1 ≤ sizeLine; decide, fun p1 n1 => ?_⟩
    refine ⟨p1, 40, _, rfl, rfl, upd_same, by decide, by decide, by show 1 * 40 ≤ sizeLine; decide, fun p2 n2 => ?_⟩
    have g1 : Fr K [] Hx (L2.upd Hx p1 (.lst [.str (repS 10 "b")])) := Fr.new f.2 n1
    have g2 := g1.trans (Fr.new (o := .lst (List.replicate (40 : Int).toNat [V.str (repS 10 "b")]).flatten) g1.2 n2)
    refine ⟨by show 3 ≤ sizeLine; decide, fun lt nlt => ?_⟩
    have g3 := g2.trans (Fr.new (o := .tup [.str (repS 10 "a"), .ref p2, .int 99999]) g2.2 nlt)
    let L : Ltr := ⟨repS 10 "a", List.replicate 40 (repS 10 "b"), 99999⟩
    have e2 : (List.replicate (40 : Int).toNat [V.str (repS 10 "b")]).flatten = (List.replicate 40 (repS 10 "b")).map V.str := rfl
    have hL : LtAt (L2.upd (L2.upd (L2.upd Hx p1 (.lst [.str (repS 10 "b")])) p2 (.lst (List.replicate (40 : Int).toNat [V.str (repS 10 "b")]).flatten)) lt (.tup [.str (repS 10 "a"), .ref p2, .int 99999])) lt L :=
      ⟨p2, upd_same, by rw [upd_ne (ne_of_none (upd_same) nlt), upd_same, e2]⟩
    have hl : LWf L := ⟨nm1 (by decide +kernel), fun x m => by rw [(List.mem_replicate.mp m).2]; exact nm1 (by decide +kernel), by decide, by decide⟩
    generalize L2.upd (L2.upd (L2.upd Hx p1 (.lst [.str (repS 10 "b")])) p2 (.lst (List.replicate (40 : Int).toNat [V.str (repS 10 "b")]).flatten)) lt (.tup [.str (repS 10 "a"), .ref p2, .int 99999]) = Hy at g3 hL ⊢
    refine ⟨"", lt, [none], [], L, rfl, txt_empty, hL, hl, g3.2, fun Hz v ms fz pm so nd => ?_⟩
    have em : ms = [] := List.perm_nil.mp pm
    subst em
    have nd2 : Tr Hz v (.tuple [.list [], .list [], .list []]) := ND.tr nd
    refine ⟨Nat.zero_le _, fun q1 m1 => ⟨Nat.zero_le _, fun q2 m2 => ⟨Nat.zero_le _, fun q3 m3 => ⟨by show 3 ≤ sizeLine; decide, fun q4 m4 => ?_⟩⟩⟩⟩
    have h1 := Fr.new (K := K) (E := []) (o := .lst []) fz.2 m1
    have h2 := Fr.new (K := K) (E := []) (o := .lst []) h1.2 m2
    have h3 := Fr.new (K := K) (E := []) (o := .lst []) h2.2 m3
    have h4 := Fr.new (K := K) (E := []) (o := .tup [.ref q1, .ref q2, .ref q3]) h3.2 m4
    have a1 := (h2.trans (h3.trans h4)).at (upd_same (H := Hz) (a := q1) (o := .lst []))
    have a2 := (h3.trans h4).at (upd_same (H := L2.upd Hz q1 (.lst [])) (a := q2) (o := .lst []))
    have a3 := h4.at (upd_same (H := L2.upd (L2.upd Hz q1 (.lst [])) q2 (.lst [])) (a := q3) (o := .lst []))
    have gg := h1.trans (h2.trans (h3.trans h4))
    refine ⟨_, .tuple [.list [], .list [], .list []], (tr_fr gg nd2).dp, .tup (.inl (.inl upd_same)) (.cons (.lst (SqL.of a1) .nil) (.cons (.lst (SqL.of a2) .nil) (.cons (.lst (SqL.of a3) .nil) .nil))), by decide +kernel, by decide +kernel, ?_⟩
    rw [show PyData.eqv (.tuple [.list [], .list [], .list []]) (.tuple [.list [], .list [], .list []]) = true from by decide +kernel]
    exact k _ (Fx.trans (g3.trans (fz.trans gg)))
end
end So
end

section
set_option Elab.async false
set_option linter.all false
set_option maxRecDepth 100000
set_option maxHeartbeats 4000000
/-! lambdas in a list; _law_is in a comprehension's block -/
namespace So
open PySem PySem.Spec PyProof.Rows L2 GxA TL
open GxR (TabB TabG Tabbed)
section
variable {X : Cx} {pins : List (Addr × Obj)} {σ : L2.St} {H : Hp} {s : Shared} {C : Addr} {PP : L2.St → Hp → Prop} {k n : Nat}
theorem wipe_set {σ : L2.St} {l : Nat} {v : V} : wipe ((wipe σ [l]).set l (some v)) [l] = wipe σ [l] := by
  show ((σ.set l none).set l (some v)).set l none = σ.set l none
  rw [List.set_set, List.set_set]
/-- the turns of such a comprehension over a list -/
theorem lc_listW {K : PySem.W.Frag} {a : Addr} {xs : List V} {g : TG} {te : TE} {vs : List Nat} {σ : L2.St} {H1 : Hp} {D : Addr} {Qd : Hp → Prop} (Pv : Nat → Hp → Prop) (h0 : Pv 0 (L2.upd H1 D (.lst []))) (hl : ∀ i H, i ≤ xs.length → Pv i H → SqL K H a xs)
    (hs : ∀ i x H, xs[i]? = some x → Pv i H → g x (wipe σ vs) H fun σ2 H2 => wipe σ2 vs = wipe σ vs ∧ te σ2 H2 fun y H4 => ∃ acc, H4 D = some (.lst acc) ∧ acc.length < sizeLine ∧ Pv (i + 1) (L2.upd H4 D (.lst (acc ++ [y]))))
    (hd : ∀ H, Pv xs.length H → Qd H) :
    ∃ W : Nat → Nat → Hp → Prop, (∃ m, W 0 m (L2.upd H1 D (.lst []))) ∧ ∀ i m Hx, W i m Hx → ((Itl K a).stop i Hx ∧ Qd Hx) ∨ ((Itl K a).go i Hx ∧ ∃ Nx : Hp → Prop, (∀ Hy, Nx Hy → ∃ m', m' < m ∧ W (i + 1) m' Hy) ∧
      ∀ x Hy, (Itl K a).yld i Hx x Hy → g x (wipe σ vs) Hy fun σ2 Hz => wipe σ2 vs = wipe σ vs ∧ te σ2 Hz fun y Hu => ∃ acc, Hu D = some (.lst acc) ∧ acc.length < sizeLine ∧ Nx (L2.upd Hu D (.lst (acc ++ [y])))) := by
  refine ⟨fun i m H => m + i = xs.length ∧ Pv i H, ⟨xs.length, rfl, h0⟩, ?_⟩
  rintro i m H ⟨le, p⟩
  have sq := hl i H (by omega) p
  rcases Nat.lt_or_ge i xs.length with lt | ge
  · refine .inr ⟨⟨xs, xs[i], sq, List.getElem?_eq_getElem lt⟩, Pv (i + 1), fun H' p' => ⟨m - 1, by omega, by omega, p'⟩, fun x H' ⟨e, y⟩ => ?_⟩
    subst e
    exact hs i x _ (y xs sq) p
  · have ei : i = xs.length := by omega
    exact .inl ⟨⟨xs, sq, ge⟩, hd H (ei ▸ p)⟩
/-- n lambdas in the list at D -/
def AskL (X : Cx) (C : Addr) (PP : L2.St → Hp → Prop) (k n : Nat) (H : Hp) (D : Addr) : Prop := ∃ fs : List Addr, H D = some (.lst (fs.map V.ref)) ∧ fs.length = n ∧ ∀ f ∈ fs, LamAt X C PP k H f
theorem AskL.fr {H' : Hp} {D : Addr} (a : AskL X C PP k n H D) (g : So.Fr X.K [] H H') : AskL X C PP k n H' D := by
  obtain ⟨fs, e, l, h⟩ := a
  exact ⟨fs, g.at e, l, fun f m => (h f m).fr g⟩
theorem askl_new {H1 : Hp} {D f : Addr} (tb : Tb X.K H1) (l : LamAt X C PP k H1 f) (nD : H1 D = none) : AskL X C PP k 1 (L2.upd H1 D (.lst [.ref f])) D :=
  ⟨[f], upd_same, rfl, fun g m => by rw [List.mem_singleton.mp m]; exact l.fr (Fr.new (E := []) tb nD)⟩
theorem LamAt.ext {H' : Hp} {f : Addr} (a : LamAt X C PP k H f) (g : ∀ p φ, H p = some (.ext φ) → H' p = some (.ext φ)) : LamAt X C PP k H' f := by
  obtain ⟨params, body, scope, c', pm, ctv, A, e1, e2⟩ := a
  exact ⟨params, body, scope, c', pm, ctv, A, g _ _ e1, g _ _ e2⟩
/-- xs.append(lambda: ..) -/
theorem app_lam {i : Nat} {Hs : Hp} {D : Addr} {Qn : V → Hp → Prop} (hσ : σ[i]? = some (some (.ref D))) (F : So.Fr X.K [D] Hs H) (a : AskL X C PP k n H D) (hn : n < 1000) (rest : ∀ H3, So.Fr X.K [D] Hs H3 → AskL X C PP k (n + 1) H3 D → Qn .non H3) :
    tBM X.K "list" rAppend (tVar i) (tCons (fun _ H Q => Tb X.K H ∧ ∀ f H1, So.Fr X.K [] H H1 → LamAt X C PP k H1 f → Q (.ref f) H1) tNil) σ H Qn := by
  obtain ⟨fs, e, l, h⟩ := a
  refine ⟨_, hσ, .inl ⟨rfl, _, SqL.of e⟩, F.2, fun f H1 g la => ?_⟩
  have e1 := g.at e
  refine ⟨D, _, _, rfl, rfl, e1, by rw [List.length_map, l]; exact Nat.lt_trans hn (by decide), ?_⟩
  have p : So.Fr X.K [D] H1 (L2.upd H1 D (.lst (fs.map V.ref ++ [.ref f]))) := Fr.put g.2 e1 (by intro _ z; cases z) (List.mem_singleton.mpr rfl)
  refine rest _ (F.trans (g.nil.trans p)) ⟨fs ++ [f], by rw [upd_same, List.map_append]; rfl, by rw [List.length_append, l]; rfl, fun y m => ?_⟩
  rcases List.mem_append.mp m with m | m
  · exact ((h y m).fr g).ext p.4
  · rw [List.mem_singleton.mp m]
    exact la.ext p.4
/-- _law_is(x, j) in a comprehension's block of X -/
theorem pe_isB (T : Txt X.w X.K X.mg X.base) {scope : Scope} {ce : Env} {fp : List Addr} {j i kd : Nat} {x : Str} {p p1 p2 pos : Pos} (I : Inv X pins σ H s) (hf : ∀ b ∈ fp, FpOk X pins H b) (KO : KindOk X.K C j) (hj : j < 7) (hr : Room (k + 3) X.A)
    (hg : Gl (X.blk s H scope ce fp) "_law_is") (hx : PE (X.blk s H scope ce fp) (.Name x p1) (tVar i)) :
    PE (X.blk s H scope ce fp) (.Call (.Name "_law_is" p) [.Name x p1, .Constant (.int j) kd p2] [] pos)
      (fun σ2 Hx Q => ∃ f, σ2[i]? = some (some (.ref f)) ∧ AskAt X σ C PP k Hx f ∧ Tb X.K Hx ∧ ∀ H', So.Fr X.K [] Hx H' → Q (.bl true) H') := by
  obtain ⟨fd, F⟩ := id T.f_law_is
  refine ⟨fun pinsB sB σB HB Q IB ⟨f, hσ, ask, tb, q⟩ => ?_⟩
  refine wpAny_Call_Name_kw (ld_glob IB hg T.g_law_is ?_ (by decide))
  have ha : PA (X.blk s H scope ce fp) [.Name x p1, .Constant (.int j) kd p2] (tCons (tVar i) (tCons (tC (.int j)) tNil)) := pa_cons hx (pa_cons pe_int pa_nil)
  refine PySem.W.callWith_K (h₀ := X.base) IB.ok.mod.kin F.kp (thn (ha.run pos pinsB sB σB HB (fun vs Ha => vs = [.ref f, .int j] ∧ Ha = HB) IB ⟨_, hσ, rfl, rfl⟩) fun us s1 ⟨vs, Ha, I1, r, ev, eH⟩ => ⟨I1.kIn, ?_⟩) (by rfl) (by rfl)
  subst ev
  subst eH
  have IX : Inv X pins σ Ha s1 := I.call' (ch := fp) I1.os I1.base I1.hok I1.bare fun b m =>
    have z := (hf b m).2
    ⟨z.2.2.1, z.1, z.2.2.2.1, z.2.2.2.2⟩
  refine wpAny_call (codeAny_mono (run_is T IX (Y := X.blk s H scope ce fp) rfl rfl rfl rfl rfl I1 Un.refl (fun b m => .inl m) (Nat.le_refl _) KO hj hr r ask tb q) fun r s' hq => ?_)
  cases r with
  | error e => exact (show False from hq).elim
  | ok fl =>
    cases fl with
    | ret u => exact I1.after hq
    | next => exact False.elim hq
    | brk => exact False.elim hq
    | cont => exact False.elim hq
/-- a lambda's turn in a comprehension -/
abbrev tIsB (X : Cx) (C : Addr) (PP : L2.St → Hp → Prop) (k l : Nat) : L2.St → TE := fun σ0 σ2 Hx Q => ∃ f, σ2[l]? = some (some (.ref f)) ∧ AskAt X σ0 C PP k Hx f ∧ Tb X.K Hx ∧ ∀ H', So.Fr X.K [] Hx H' → Q (.bl true) H'
theorem rd_name {i : Nat} {v : V} {τ : L2.St} {Hx : Hp} {Q : L2.St → Hp → Prop} (h : Q (τ.set i (some v)) Hx) : gName i v τ Hx Q := h
theorem rd_exp {te : TE} {u : TS} {D : Ends} {τ : L2.St} {Hx : Hp} (h : te τ Hx fun _ H1 => u D τ H1) : tSeq (tDrop te) u D τ Hx := h
theorem rd_ifn {te : TE} {t u : TS} {D : Ends} {τ : L2.St} {Hx : Hp} (h : te τ Hx fun x H1 => ∃ c, x = .bl c ∧ if (!c) = true then t D τ H1 else u D τ H1) : tIfS (tNot (tB te)) t u D τ Hx := h
theorem rd_and {ta tb : TE} {τ : L2.St} {Hx : Hp} {Q : VK} (h : ta τ Hx fun x H1 => ∃ c, x = .bl c ∧ if c = true then tb τ H1 Q else Q (.bl false) H1) : tAndV ta tb τ Hx Q := h
theorem rd_ret {te : TE} {D : Ends} {τ : L2.St} {Hx : Hp} (h : te τ Hx D.rt) : tRet te D τ Hx := h
/-- all([_law_is(f, j) for f in asks]) -/
theorem all_asks {i l : Nat} {K : PySem.W.Frag} {D : Addr} {Qt : Bool → Hp → Prop} (eK : X.K = K) (hD : σ[i]? = some (some (.ref D))) (a : AskL X C PP k n H D) (hn : n ≤ 1000) (tb : Tb X.K H) (pp : ∀ H', So.Fr X.K [] H H' → PP σ H') (hl : l < σ.length)
    (rest : ∀ H', So.Fr X.K [] H H' → Qt true H') :
    tCB (rAll K) (tCons (tLcW (iList K (tVar i)) (gName l) (tIsB X C PP k l) [l]) tNil) σ H (fun x H' => ∃ b, x = .bl b ∧ Qt b H') := by
  subst eK
  obtain ⟨fs, e, ln, h⟩ := a
  refine ⟨_, hD, D, rfl, ⟨_, SqL.of e⟩, fun L nL => ?_⟩
  have g0 : So.Fr X.K [] H (L2.upd H L (.lst [])) := Fr.new tb nL
  refine lc_listW (K := X.K) (g := gName l) (te := fun σ2 Hx Q => ∃ f, σ2[l]? = some (some (.ref f)) ∧ AskAt X σ C PP k Hx f ∧ Tb X.K Hx ∧ ∀ H', So.Fr X.K [] Hx H' → Q (.bl true) H') (vs := [l]) (σ := σ) (xs := fs.map V.ref) (fun m Hx => So.Fr X.K [] H Hx ∧ Hx L = some (.lst ((List.replicate m true).map V.bl))) ⟨g0, upd_same⟩ (fun m Hx _ ⟨g, _⟩ => SqL.of (g.at e)) (fun m y Hx hy ⟨g, hL⟩ => ?_) (fun Hx ⟨g, hL⟩ => ?_)
  · have hm : m < 1000 := by
      have := (List.getElem?_eq_some_iff.mp hy).1
      rw [List.length_map] at this
      omega
    rw [List.getElem?_map] at hy
    obtain ⟨f, hf, rfl⟩ := Option.map_eq_some_iff.mp hy
    refine ⟨wipe_set, f, ?_, ⟨(h f (List.mem_of_getElem? hf)).fr g, fun H' g2 => pp H' (g.trans g2)⟩, g.2, fun H' g2 => ?_⟩
    · rw [List.getElem?_set_self (by rw [wipe_length]; exact hl)]
    · refine ⟨_, g2.at hL, by rw [List.length_map, List.length_replicate]; exact Nat.lt_trans hm (by decide), (g.trans g2).upNew tb nL (nt := NotT.lst (g2.at hL)), ?_⟩
      rw [upd_same, List.replicate_succ', List.map_append]
      rfl
  · refine ⟨L, _, rfl, SqL.of hL, true, ?_, rest Hx g⟩
    refine congrArg V.bl ?_
    exact List.all_eq_true.mpr fun b mb => (List.mem_replicate.mp mb).2
end
end So
end

section
set_option Elab.async false
set_option linter.all false
set_option maxRecDepth 100000
set_option maxHeartbeats 4000000
/-! _law_names_right -/
namespace So
open PySem PySem.Spec PyProof.Rows L2 GxA TL
open GxR (TabB TabG Tabbed)
section
variable {P : Program} {w : World} {K : PySem.W.Frag} {mg : Str → Option Value} {base : Heap}
abbrev zNam (P : Program) (w : World) (K : PySem.W.Frag) (mg : Str → Option Value) (base : Heap) (A : Around) (outer : List Env) (s : Shared) (H : Hp) (E : XK) : Cx := cxOf CX0 P w K mg base N_law_names_right "_law_names_right" (defScope s_law_names_right) (a_law_names_right K) (.ref (He.codeOf K ("_law_names_right", none))) A outer s H E
def PNam (K : PySem.W.Frag) (R : HR) (σ : L2.St) (H : Hp) : Prop := (∃ v, σ[2]? = some (some v) ∧ Nm8 H v false) ∧ σ[0]? = some (some (.ref R.r)) ∧ ∃ O M b, HAt K O H R M b ∧ ("a" : Str) ∈ M.na ∧ ("b" : Str) ∉ M.na
def PNam2 (K : PySem.W.Frag) (R : HR) (σ : L2.St) (H : Hp) : Prop := σ[0]? = some (some (.ref R.r)) ∧ ∃ O M b, HAt K O H R M b ∧ ("a" : Str) ∈ M.na ∧ ("b" : Str) ∉ M.na
def PWay (K : PySem.W.Frag) (R : HR) (σ : L2.St) (H : Hp) : Prop := (∃ v, σ[2]? = some (some v) ∧ No8 H 1 v) ∧ σ[0]? = some (some (.ref R.r)) ∧ ∃ O M b, HAt K O H R M b ∧ M.ws.length = 1
theorem No8.fr {H H' : Hp} {n : Nat} {v : V} (p : No8 H n v) (f : So.Fr K [] H H') : No8 H' n v := by
  cases p with
  | int i h => exact .int i h
  | bl b => exact .bl b
  | no p h => exact .no (p.fr f) h
theorem st_no {n : Nat} : Stays K (fun H v => No8 H n v) := fun _ _ _ h f => h.fr f
theorem hs_a : HsOk [("a", "")] (fun _ => []) [] := ⟨by decide, by decide, fun q m => by rw [List.mem_singleton.mp m]; exact nm_sa, by decide, fun q m => ⟨[none], by rw [List.mem_singleton.mp m]; exact txt_empty, rfl⟩, by decide⟩
/-- ring of the house {"a": ""} that stands at p -/
theorem ring_read {H : Hp} {p : Addr} {v : V} {E : XK} (t : Tb K H) (np : H p = none) (c : Nm8 H v false ∨ ∃ n, v = .str n ∧ Nm n ∧ n ∉ ([("a", "")] : List (Str × Str)).map (·.1)) (k : ∀ H', So.Fr K [] H H' → E (.ref (C_BadName K)) none H') {Q : VK} :
    spRingN K [.ref p, v] (L2.upd (L2.upd H p (.dK [])) p (.dK (mergeK [] [(Sum.inr "a", .str "")]))) Q E := by
  rw [upd_upd]
  have f : So.Fr K [] H (L2.upd H p (.dK (mergeK [] [(Sum.inr "a", .str "")]))) := Fr.new t np
  exact ⟨p, [("a", "")], fun _ => [], [], v, rfl, by rw [upd_same]; rfl, hs_a, c.imp (fun z => z.fr f) fun z => z, f.2, fun H' g => k H' (f.trans g)⟩
def spNamesR (K : PySem.W.Frag) : Sp := fun vs H Q _ => ∃ (O : List Addr) (R : HR) (M : HM) (b : Nat) (n : Nat), vs = [.ref R.r, .int n] ∧ HAt K O H R M b ∧ M.na = [("a" : Str)] ∧ M.ws.length = 1 ∧ M.fil "a" (repS 10 "b") = [] ∧ M.out "b" = [] ∧ Tb K H ∧ ∀ H', Fr K [] H H' → Q (.bl true) H'
theorem R_namesR (T : Txt w K mg base) (KN : Knds K) : FnR P w K mg base CX0 95 (a_law_names_right K) (spNamesR K) := by
  refine mkRC (p := ("_law_names_right", none)) rfl T.f_law_names_right sc_law_names_right bd_law_names_right ?_ ?_
  · rintro vs H Q E ⟨O, R, M, b, n, rfl, _⟩; rfl
  rintro A outer s H vs Q E hr ⟨O, R, M, b, n, rfl, hA, na, hw, hfil, hout, tb, k⟩
  have nd := sc_law_names_right.nd
  have ha : ("a" : Str) ∈ M.na := by rw [na]; decide
  have hb : ("b" : Str) ∉ M.na := by rw [na]; decide +kernel
  obtain ⟨_, F1⟩ := T.f_reaching
  obtain ⟨_, F2⟩ := T.f_ring
  refine ⟨_, PSs.nox <| pss_cons (ps_for PassesOwn.never rfl (pi_tup (pe_tup (pa_cons (pe_str) (pa_cons (pe_str) (pa_cons (pe_str) (pa_cons (pe_op (op_mulS (n := 11) (by decide)) pe_str pe_int) (pa_cons (pe_non) (pa_cons (pe_int) (pa_cons (pe_bl) (pa_cons (pe_lst (pa_cons (pe_str) pa_nil)) (pa_cons (pe_tup (pa_cons (pe_str) pa_nil)) (pa_cons (pe_str) pa_nil)))))))))))) (pg_name (i := 2) nd rfl (.inr rfl)) (pss_cons (ps_set (i := 3) nd rfl (.inl rfl) (pe_lst (pa_cons (pe_lamA (X := (zNam P w K mg base A outer s H E).nox) (C := C_BadName K) (k := 91) T.t_law_names_right rfl (by exact List.Mem.tail _ (List.Mem.head _))
          (ask_mk (PP := PNam K R) (te := fun E => tCX (spReach8 K) E (tCons (tC (.str "")) (tCons (tVar 2) tNil))) (LamX.lamS_by (sc := defScope s_law_names_right) (by decide +kernel)) (by intros; rfl) (by rfl)
            (fun _ _ _ _ _ _ _ h => pe_cX (R_reach8 T) (h.mono (by decide)) (passX (takes_of rfl rfl rfl rfl) fun _ _ _ _ z => z) (by rfl) T.g_reaching F1.kp (pa_cons (pe_str) (pa_cons (pe_var (i := 2) rfl (.inr (.inr rfl))) pa_nil)))
            (fun E σ Hx Qx ⟨⟨v, e, l⟩, e0, O, M, b, hA, ha, hb⟩ t kk => ⟨v, e, _, _, _, _, rfl, txt_empty, l, t, fun H' f => kk H' none f trivial⟩))) pa_nil)))
    (pss_cons (ps_expr (pe_bm PySem.F.plainAttrs_list PySem.F.slot_list_append PySem.F.type_list_append mt_append (pv 3) (pa_cons (pe_lamA (X := (zNam P w K mg base A outer s H E).nox) (C := C_BadName K) (k := 91) T.t_law_names_right rfl (by exact List.Mem.tail _ (List.Mem.head _))
          (ask_mk (PP := PNam K R) (te := fun E => tMethR (C_House K) "deliver" (spDel8a K) E (tVar 0) (tCons (tVar 2) (tCons (tC (.int 5)) tNil))) (LamX.lamS_by (sc := defScope s_law_names_right) (by decide +kernel)) (by intros; rfl) (by rfl)
            (fun _ _ _ _ _ _ _ h => pe_methR (pe_var (i := 0) rfl (.inr (.inr rfl))) T.c_House T.m_House_deliver (R_deliver8a T) (h.mono (by decide)) (passX (takes_of rfl rfl rfl rfl) fun _ _ _ _ z => z) (pa_cons (pe_var (i := 2) rfl (.inr (.inr rfl))) (pa_cons (pe_int) pa_nil)))
            (fun E σ Hx Qx ⟨⟨v, e, l⟩, e0, O, M, b, hA, ha, hb⟩ t kk => ⟨_, e0, R.r, R.dx, _, rfl, hA.ob, rfl, v, e, O, R, M, b, v, _, rfl, hA, .inl l, t, fun H' f => kk H' none f trivial⟩))) pa_nil)))
    (pss_cons (ps_expr (pe_bm PySem.F.plainAttrs_list PySem.F.slot_list_append PySem.F.type_list_append mt_append (pv 3) (pa_cons (pe_lamA (X := (zNam P w K mg base A outer s H E).nox) (C := C_BadName K) (k := 91) T.t_law_names_right rfl (by exact List.Mem.tail _ (List.Mem.head _))
          (ask_mk (PP := PNam K R) (te := fun E => tMethR (C_House K) "filed" (spFil8a K) E (tVar 0) (tCons (tVar 2) (tCons (tC (.int 5)) tNil))) (LamX.lamS_by (sc := defScope s_law_names_right) (by decide +kernel)) (by intros; rfl) (by rfl)
            (fun _ _ _ _ _ _ _ h => pe_methR (pe_var (i := 0) rfl (.inr (.inr rfl))) T.c_House T.m_House_filed (R_filed8a T) (h.mono (by decide)) (passX (takes_of rfl rfl rfl rfl) fun _ _ _ _ z => z) (pa_cons (pe_var (i := 2) rfl (.inr (.inr rfl))) (pa_cons (pe_int) pa_nil)))
            (fun E σ Hx Qx ⟨⟨v, e, l⟩, e0, O, M, b, hA, ha, hb⟩ t kk => ⟨_, e0, R.r, R.dx, _, rfl, hA.ob, rfl, v, e, O, R, M, b, v, _, rfl, hA, .inl l, t, fun H' f => kk H' none f trivial⟩))) pa_nil)))
    (pss_cons (ps_expr (pe_bm PySem.F.plainAttrs_list PySem.F.slot_list_append PySem.F.type_list_append mt_append (pv 3) (pa_cons (pe_lamA (X := (zNam P w K mg base A outer s H E).nox) (C := C_BadName K) (k := 91) T.t_law_names_right rfl (by exact List.Mem.tail _ (List.Mem.head _))
          (ask_mk (PP := PNam K R) (te := fun E => tMethR (C_House K) "filed" (spFil8b K) E (tVar 0) (tCons (tC (.str "a")) (tCons (tVar 2) tNil))) (LamX.lamS_by (sc := defScope s_law_names_right) (by decide +kernel)) (by intros; rfl) (by rfl)
            (fun _ _ _ _ _ _ _ h => pe_methR (pe_var (i := 0) rfl (.inr (.inr rfl))) T.c_House T.m_House_filed (R_filed8b T) (h.mono (by decide)) (passX (takes_of rfl rfl rfl rfl) fun _ _ _ _ z => z) (pa_cons (pe_str) (pa_cons (pe_var (i := 2) rfl (.inr (.inr rfl))) pa_nil)))
            (fun E σ Hx Qx ⟨⟨v, e, l⟩, e0, O, M, b, hA, ha, hb⟩ t kk => ⟨_, e0, R.r, R.dx, _, rfl, hA.ob, rfl, v, e, O, R, M, b, "a", v, rfl, hA, nm_sa, ha, l, t, fun H' f => kk H' none f trivial⟩))) pa_nil)))
    (pss_cons (ps_expr (pe_bm PySem.F.plainAttrs_list PySem.F.slot_list_append PySem.F.type_list_append mt_append (pv 3) (pa_cons (pe_lamA (X := (zNam P w K mg base A outer s H E).nox) (C := C_BadName K) (k := 91) T.t_law_names_right rfl (by exact List.Mem.tail _ (List.Mem.head _))
          (ask_mk (PP := PNam K R) (te := fun E => tMethR (C_House K) "outside" (spOut8 K) E (tVar 0) (tCons (tVar 2) tNil)) (LamX.lamS_by (sc := defScope s_law_names_right) (by decide +kernel)) (by intros; rfl) (by rfl)
            (fun _ _ _ _ _ _ _ h => pe_methR (pe_var (i := 0) rfl (.inr (.inr rfl))) T.c_House T.m_House_outside (R_outside8 T) (h.mono (by decide)) (passX (takes_of rfl rfl rfl rfl) fun _ _ _ _ z => z) (pa_cons (pe_var (i := 2) rfl (.inr (.inr rfl))) pa_nil))
            (fun E σ Hx Qx ⟨⟨v, e, l⟩, e0, O, M, b, hA, ha, hb⟩ t kk => ⟨_, e0, R.r, R.dx, _, rfl, hA.ob, rfl, v, e, O, R, M, b, v, rfl, hA, .inl l, t, fun H' f => kk H' none f trivial⟩))) pa_nil)))
    (pss_cons (ps_expr (pe_bm PySem.F.plainAttrs_list PySem.F.slot_list_append PySem.F.type_list_append mt_append (pv 3) (pa_cons (pe_lamA (X := (zNam P w K mg base A outer s H E).nox) (C := C_BadName K) (k := 91) T.t_law_names_right rfl (by exact List.Mem.tail _ (List.Mem.head _))
          (ask_mk (PP := PNam K R) (te := fun E => tMethR (C_House K) "teach" (spTeach8 K) E (tVar 0) (tCons (tVar 2) (tCons (tC (.int 5)) tNil))) (LamX.lamS_by (sc := defScope s_law_names_right) (by decide +kernel)) (by intros; rfl) (by rfl)
            (fun _ _ _ _ _ _ _ h => pe_methR (pe_var (i := 0) rfl (.inr (.inr rfl))) T.c_House T.m_House_teach (R_teach8 T) (h.mono (by decide)) (passX (takes_of rfl rfl rfl rfl) fun _ _ _ _ z => z) (pa_cons (pe_var (i := 2) rfl (.inr (.inr rfl))) (pa_cons (pe_int) pa_nil)))
            (fun E σ Hx Qx ⟨⟨v, e, l⟩, e0, O, M, b, hA, ha, hb⟩ t kk => ⟨_, e0, R.r, R.dx, _, rfl, hA.ob, rfl, v, e, _, v, _, rfl, l, t, fun H' f => kk H' none f trivial⟩))) pa_nil)))
    (pss_cons (ps_expr (pe_bm PySem.F.plainAttrs_list PySem.F.slot_list_append PySem.F.type_list_append mt_append (pv 3) (pa_cons (pe_lamA (X := (zNam P w K mg base A outer s H E).nox) (C := C_BadName K) (k := 91) T.t_law_names_right rfl (by exact List.Mem.tail _ (List.Mem.head _))
          (ask_mk (PP := PNam K R) (te := fun E => tMethR (C_House K) "rules" (spCheck8 K) E (tVar 0) (tCons (tVar 2) tNil)) (LamX.lamS_by (sc := defScope s_law_names_right) (by decide +kernel)) (by intros; rfl) (by rfl)
            (fun _ _ _ _ _ _ _ h => pe_methR (pe_var (i := 0) rfl (.inr (.inr rfl))) T.c_House T.m_House_rules (R_rules8 T) (h.mono (by decide)) (passX (takes_of rfl rfl rfl rfl) fun _ _ _ _ z => z) (pa_cons (pe_var (i := 2) rfl (.inr (.inr rfl))) pa_nil))
            (fun E σ Hx Qx ⟨⟨v, e, l⟩, e0, O, M, b, hA, ha, hb⟩ t kk => ⟨_, e0, R.r, R.dx, _, rfl, hA.ob, rfl, v, e, O, R, M, b, v, rfl, hA, .inl l, t, fun H' f => kk H' none f trivial⟩))) pa_nil)))
    (pss_cons (ps_expr (pe_bm PySem.F.plainAttrs_list PySem.F.slot_list_append PySem.F.type_list_append mt_append (pv 3) (pa_cons (pe_lamA (X := (zNam P w K mg base A outer s H E).nox) (C := C_BadName K) (k := 91) T.t_law_names_right rfl (by exact List.Mem.tail _ (List.Mem.head _))
          (ask_mk (PP := PNam K R) (te := fun E => tCX (spRingN K) E (tCons (tDisp [(tC (.str "a"), tC (.str ""))]) (tCons (tVar 2) tNil))) (LamX.lamS_by (sc := defScope s_law_names_right) (by decide +kernel)) (by intros; rfl) (by rfl)
            (fun _ _ _ _ _ _ _ h => pe_cX (R_ringN T) (h.mono (by decide)) (passX (takes_of rfl rfl rfl rfl) fun _ _ _ _ z => z) (by rfl) T.g_ring F2.kp (pa_cons (pe_disp (pps_cons pe_str pe_str pps_nil) (by rfl) (by rfl) (fun z => by cases z) (by decide)) (pa_cons (pe_var (i := 2) rfl (.inr (.inr rfl))) pa_nil)))
            (fun E σ Hx Qx ⟨⟨v, e, l⟩, e0, O, M, b, hA, ha, hb⟩ t kk => fun p np => ⟨upd_same, [(Sum.inr "a", .str "")], rfl, by decide, v, e, ring_read (Q := Qx) t np (.inl l) fun H' f => kk H' none f trivial⟩))) pa_nil)))
    (pss_one (ps_if (pt_not (pt_val (pe_callB (cr_all rfl) (by rfl) T.z_all (by decide +kernel) (pa_cons (pe_lcW (X := (zNam P w K mg base A outer s H E).nox) (own := [("_law_ask", 4)]) (g := gName 4) (te := tIsB (zNam P w K mg base A outer s H E).nox (C_BadName K) (PNam K R) 91 4) rfl nd (pi_list (pv 3)) (blkOk_by (own := [("_law_ask", 4)]) (N := N_law_names_right) (sc := defScope s_law_names_right) (by decide +kernel))
      (fun _ _ _ _ _ => pg_name (i := 4) nd rfl (Or.inl rfl)) (fun _ _ _ _ _ _ _ I hf => pe_isB (X := (zNam P w K mg base A outer s H E).nox) (PP := PNam K R) (k := 91) T I hf KN.name (by decide) hr (by rfl) (pv 4))) pa_nil)))) (pss_one ps_never) pss_nil)))))))))))
    (pss_cons (ps_set (i := 3) nd rfl (.inl rfl) (pe_lst (pa_cons (pe_lamA (X := (zNam P w K mg base A outer s H E).nox) (C := C_BadName K) (k := 91) T.t_law_names_right rfl (by exact List.Mem.tail _ (List.Mem.head _))
          (ask_mk (PP := PNam2 K R) (te := fun E => tMethR (C_House K) "filed" (spFil8a K) E (tVar 0) (tCons (tC (.str "b")) (tCons (tC (.str "a")) tNil))) (LamX.lamS_by (sc := defScope s_law_names_right) (by decide +kernel)) (by intros; rfl) (by rfl)
            (fun _ _ _ _ _ _ _ h => pe_methR (pe_var (i := 0) rfl (.inr (.inr rfl))) T.c_House T.m_House_filed (R_filed8a T) (h.mono (by decide)) (passX (takes_of rfl rfl rfl rfl) fun _ _ _ _ z => z) (pa_cons (pe_str) (pa_cons (pe_str) pa_nil)))
            (fun E σ Hx Qx ⟨e0, O, M, b, hA, ha, hb⟩ t kk => ⟨_, e0, R.r, R.dx, _, rfl, hA.ob, rfl, O, R, M, b, .str "b", _, rfl, hA, .inr ⟨"b", rfl, nm_sb, hb⟩, t, fun H' f => kk H' none f trivial⟩))) pa_nil)))
    (pss_cons (ps_expr (pe_bm PySem.F.plainAttrs_list PySem.F.slot_list_append PySem.F.type_list_append mt_append (pv 3) (pa_cons (pe_lamA (X := (zNam P w K mg base A outer s H E).nox) (C := C_BadName K) (k := 91) T.t_law_names_right rfl (by exact List.Mem.tail _ (List.Mem.head _))
          (ask_mk (PP := PNam2 K R) (te := fun E => tMethR (C_House K) "outside" (spOut8 K) E (tVar 0) (tCons (tC (.str "a")) tNil)) (LamX.lamS_by (sc := defScope s_law_names_right) (by decide +kernel)) (by intros; rfl) (by rfl)
            (fun _ _ _ _ _ _ _ h => pe_methR (pe_var (i := 0) rfl (.inr (.inr rfl))) T.c_House T.m_House_outside (R_outside8 T) (h.mono (by decide)) (passX (takes_of rfl rfl rfl rfl) fun _ _ _ _ z => z) (pa_cons (pe_str) pa_nil))
            (fun E σ Hx Qx ⟨e0, O, M, b, hA, ha, hb⟩ t kk => ⟨_, e0, R.r, R.dx, _, rfl, hA.ob, rfl, O, R, M, b, .str "a", rfl, hA, .inr ⟨"a", rfl, nm_sa, ha⟩, t, fun H' f => kk H' none f trivial⟩))) pa_nil)))
    (pss_cons (ps_expr (pe_bm PySem.F.plainAttrs_list PySem.F.slot_list_append PySem.F.type_list_append mt_append (pv 3) (pa_cons (pe_lamA (X := (zNam P w K mg base A outer s H E).nox) (C := C_BadName K) (k := 91) T.t_law_names_right rfl (by exact List.Mem.tail _ (List.Mem.head _))
          (ask_mk (PP := PNam2 K R) (te := fun E => tMethR (C_House K) "rules" (spCheck8 K) E (tVar 0) (tCons (tC (.str "b")) tNil)) (LamX.lamS_by (sc := defScope s_law_names_right) (by decide +kernel)) (by intros; rfl) (by rfl)
            (fun _ _ _ _ _ _ _ h => pe_methR (pe_var (i := 0) rfl (.inr (.inr rfl))) T.c_House T.m_House_rules (R_rules8 T) (h.mono (by decide)) (passX (takes_of rfl rfl rfl rfl) fun _ _ _ _ z => z) (pa_cons (pe_str) pa_nil))
            (fun E σ Hx Qx ⟨e0, O, M, b, hA, ha, hb⟩ t kk => ⟨_, e0, R.r, R.dx, _, rfl, hA.ob, rfl, O, R, M, b, .str "b", rfl, hA, .inr ⟨"b", rfl, nm_sb, hb⟩, t, fun H' f => kk H' none f trivial⟩))) pa_nil)))
    (pss_cons (ps_expr (pe_bm PySem.F.plainAttrs_list PySem.F.slot_list_append PySem.F.type_list_append mt_append (pv 3) (pa_cons (pe_lamA (X := (zNam P w K mg base A outer s H E).nox) (C := C_BadName K) (k := 91) T.t_law_names_right rfl (by exact List.Mem.tail _ (List.Mem.head _))
          (ask_mk (PP := PNam2 K R) (te := fun E => tCX (spRingN K) E (tCons (tDisp [(tC (.str "a"), tC (.str ""))]) (tCons (tC (.str "b")) tNil))) (LamX.lamS_by (sc := defScope s_law_names_right) (by decide +kernel)) (by intros; rfl) (by rfl)
            (fun _ _ _ _ _ _ _ h => pe_cX (R_ringN T) (h.mono (by decide)) (passX (takes_of rfl rfl rfl rfl) fun _ _ _ _ z => z) (by rfl) T.g_ring F2.kp (pa_cons (pe_disp (pps_cons pe_str pe_str pps_nil) (by rfl) (by rfl) (fun z => by cases z) (by decide)) (pa_cons (pe_str) pa_nil)))
            (fun E σ Hx Qx ⟨e0, O, M, b, hA, ha, hb⟩ t kk => fun p np => ⟨upd_same, [(Sum.inr "a", .str "")], rfl, by decide,  ring_read (Q := Qx) t np (.inr ⟨"b", rfl, nm_sb, by decide +kernel⟩) fun H' f => kk H' none f trivial⟩))) pa_nil)))
    (pss_cons (ps_for PassesOwn.never rfl (pi_tup (pe_tup (pa_cons (pe_non) (pa_cons (pe_str) (pa_cons (pe_bl) (pa_cons (pe_bl) (pa_cons (pe_un un_neg pe_int) (pa_cons (pe_op op_sub (pe_un un_neg pe_int) (pv 1)) (pa_cons (pe_int) (pa_cons (pe_op op_add pe_int (pv 1)) (pa_cons (pe_lst (pa_cons (pe_int) pa_nil)) (pa_cons (pe_tup (pa_cons (pe_int) pa_nil)) pa_nil)))))))))))) (pg_name (i := 2) nd rfl (.inr rfl)) (pss_one (ps_if (pt_not (pt_val (pe_ask (X := (zNam P w K mg base A outer s H E).nox) (k := 91) T (by rfl) T.t_law_names_right rfl (by exact List.Mem.tail _ (List.Mem.head _)) KN.none_ (by decide) hr
          (ask_mk (PP := PWay K R) (te := fun E => tMethR (C_House K) "way" (spWay8 K) E (tVar 0) (tCons (tVar 2) tNil)) (LamX.lamS_by (sc := defScope s_law_names_right) (by decide +kernel)) (by intros; rfl) (by rfl)
            (fun _ _ _ _ _ _ _ h => pe_methR (pe_var (i := 0) rfl (.inr (.inr rfl))) T.c_House T.m_House_way (R_way8 T) (h.mono (by decide)) (passX (takes_of rfl rfl rfl rfl) fun _ _ _ _ z => z) (pa_cons (pe_var (i := 2) rfl (.inr (.inr rfl))) pa_nil))
            (fun E σ Hx Qx ⟨⟨v, e, l⟩, e0, O, M, b, hA, hw⟩ t kk => ⟨_, e0, R.r, R.dx, _, rfl, hA.ob, rfl, v, e, O, R, M, b, v, rfl, hA, (by rw [hw]; exact l), t, fun H' f => kk H' none f trivial⟩))))) (pss_one ps_never) pss_nil)))
    (pss_one (ps_ret (pe_and (pe_callB (cr_all rfl) (by rfl) T.z_all (by decide +kernel) (pa_cons (pe_lcW (X := (zNam P w K mg base A outer s H E).nox) (own := [("_law_ask", 4)]) (g := gName 4) (te := tIsB (zNam P w K mg base A outer s H E).nox (C_BadName K) (PNam2 K R) 91 4) rfl nd (pi_list (pv 3)) (blkOk_by (own := [("_law_ask", 4)]) (N := N_law_names_right) (sc := defScope s_law_names_right) (by decide +kernel))
      (fun _ _ _ _ _ => pg_name (i := 4) nd rfl (Or.inl rfl)) (fun _ _ _ _ _ _ _ I hf => pe_isB (X := (zNam P w K mg base A outer s H E).nox) (PP := PNam2 K R) (k := 91) T I hf KN.name (by decide) hr (by rfl) (pv 4))) pa_nil)) (pe_and (pe_cmpR (op_eqD hr.units) (pe_methR (pv 0) T.c_House T.m_House_filed (R_filed T) (hr.mono (by decide)) pass0 (pa_cons (pe_str) (pa_cons (pe_op (op_mulS (n := 10) (by decide)) pe_str pe_int) pa_nil))) (pe_lst pa_nil) (nomark _)) (pe_one (pe_cmpR (op_eqD hr.units) (pe_methR (pv 0) T.c_House T.m_House_outside (R_outside T) (hr.mono (by decide)) pass0 (pa_cons (pe_str) pa_nil)) (pe_lst pa_nil) (nomark _)))))))))))), ?_⟩
  have sj0 : StayJ K (fun _ => True) := fun _ _ _ _ => trivial
  have l11 : (repS 11 "a").length = ("a" : Str).length * 11 := by decide +kernel
  have la : 0 < ("a" : Str).length ∧ ("a" : Str).length ≤ 1000 := by decide +kernel
  have lb : 0 < ("b" : Str).length ∧ ("b" : Str).length ≤ 1000 := by decide +kernel
  have m10 : (repS 10 "b").length = ("b" : Str).length * 10 := by decide +kernel
  have no : ∀ x : Str, nmB x = false → x.length ≤ 1000 → ∀ H, Nm8 H (.str x) false := fun x h l H => nm_no H h (Nat.le_trans l (by decide))
  -- the bad names
  refine rd_seq ?_
  unfold tFor
  refine rd_iT (it_tupN (J := fun _ => True) (G := fun H v => Nm8 H v false) (its_cons sj0 st_nm (it_c (no "" (by decide +kernel) (by decide +kernel))) (its_cons sj0 st_nm (it_c (no "A" (by decide +kernel) (by decide +kernel))) (its_cons sj0 st_nm (it_c (no "a b" (by decide +kernel) (by decide +kernel)))
    (its_cons sj0 st_nm (it_mul la l11 (no (repS 11 "a") (by decide +kernel) (by decide +kernel))) (its_cons sj0 st_nm (it_c fun _ => .no .non (by decide +kernel)) (its_cons sj0 st_nm (it_c fun _ => .no (.int 5) (by decide +kernel)) (its_cons sj0 st_nm (it_c fun _ => .no (.bl true) (by decide +kernel))
    (its_cons sj0 st_nm (it_lst (G := fun _ _ => True) (its_cons sj0 st_true (it_c fun _ => trivial) its_nil) (by decide) st_true fun _ _ _ e _ _ => .no (.lst e) (by decide +kernel))
    (its_cons sj0 st_nm (it_tup1 (G1 := fun _ _ => True) st_true (it_c fun _ => trivial) fun _ _ _ e _ => .no (.tup e) (by decide +kernel)) (its_cons sj0 st_nm (it_c (no "a1" (by decide +kernel) (by decide +kernel))) its_nil)))))))))) (by decide) st_nm H _ tb trivial fun v H1 f1 ⟨D0, xs, ev, et, xl, xg⟩ => ?_)
  subst ev
  refine ⟨D0, rfl, ⟨_, .inl (.inl et)⟩, ?_⟩
  refine for_tup (xs := xs) (fun i σ Hx => (∃ y2 y3, σ = [some (V.ref R.r), some (.int n), y2, y3, none]) ∧ Fr K [] H1 Hx) ⟨⟨_, _, rfl⟩, Fr.refl f1.2⟩ (fun i σ Hx _ ⟨_, f⟩ => .inl (.inl (f.at et))) (fun i v σ Hx hv ⟨⟨y2, y3, es⟩, f⟩ => ?_) (fun σ Hx ⟨⟨y2, y3, es⟩, f⟩ => ?_)
  · subst es
    have bad := xg v (List.mem_of_getElem? hv)
    refine rd_name (rd_set ⟨f.2, fun f0 Ha ga lf => ⟨by show 1 ≤ sizeLine; decide, fun D nD => ?_⟩⟩)
    have a1 := askl_new (X := (zNam P w K mg base A outer s H E).nox) (C := C_BadName K) (PP := PNam K R) (k := 91) ga.2 lf nD
    have g1 : Fr K [D] Hx (L2.upd Ha D (.lst [.ref f0])) := ga.nil.trans (Fr.new ga.2 nD)
    have nD0 := ga.3 _ nD
    refine rd_exp (app_lam rfl g1 a1 (by decide) fun H2 g2 a2 => ?_)
    refine rd_exp (app_lam rfl g2 a2 (by decide) fun H3 g3 a3 => ?_)
    refine rd_exp (app_lam rfl g3 a3 (by decide) fun H4 g4 a4 => ?_)
    refine rd_exp (app_lam rfl g4 a4 (by decide) fun H5 g5 a5 => ?_)
    refine rd_exp (app_lam rfl g5 a5 (by decide) fun H6 g6 a6 => ?_)
    refine rd_exp (app_lam rfl g6 a6 (by decide) fun H7 g7 a7 => ?_)
    refine rd_exp (app_lam rfl g7 a7 (by decide) fun H8 g8 a8 => ?_)
    have F8 : Fr K [] Hx H8 := Fr.drop1 (E := []) g8 nD0
    have FH := f1.trans (f.trans F8)
    refine rd_ifn (all_asks (X := (zNam P w K mg base A outer s H E).nox) (k := 91) (PP := PNam K R) (C := C_BadName K) rfl rfl a8 (by decide) F8.2 (fun H' g => ⟨⟨v, rfl, bad.fr (f.trans (F8.trans g))⟩, rfl, O, M, b, hA.fr0 (FH.trans g), ha, hb⟩) (by show 4 < 5; decide) fun H' g => iteF ?_)
    exact ⟨⟨_, _, rfl⟩, f.trans (F8.trans g)⟩
  · subst es
    dsimp only
    refine rd_set ⟨f.2, fun f0 Ha ga lf => ⟨by show 1 ≤ sizeLine; decide, fun D nD => ?_⟩⟩
    have a1 := askl_new (X := (zNam P w K mg base A outer s H E).nox) (C := C_BadName K) (PP := PNam2 K R) (k := 91) ga.2 lf nD
    have g1 : Fr K [D] Hx (L2.upd Ha D (.lst [.ref f0])) := ga.nil.trans (Fr.new ga.2 nD)
    have nD0 := ga.3 _ nD
    refine rd_exp (app_lam rfl g1 a1 (by decide) fun H2 g2 a2 => ?_)
    refine rd_exp (app_lam rfl g2 a2 (by decide) fun H3 g3 a3 => ?_)
    refine rd_exp (app_lam rfl g3 a3 (by decide) fun H4 g4 a4 => ?_)
    have F4 : Fr K [] Hx H4 := Fr.drop1 (E := []) g4 nD0
    have G4 := f1.trans (f.trans F4)
    -- numbers that no letter has
    refine rd_seq ?_
    refine rd_iT (it_tupN (J := fun _ => True) (G := fun H v => No8 H 1 v) (its_cons sj0 st_no (it_c fun _ => .no .non (by decide +kernel)) (its_cons sj0 st_no (it_c fun _ => .no (.str "0") (by decide +kernel)) (its_cons sj0 st_no (it_c fun _ => .bl true) (its_cons sj0 st_no (it_c fun _ => .bl false)
      (its_cons sj0 st_no (fun Hy Qy ty _ ky => ⟨_, rfl, ky _ Hy (Fr.refl ty) (.int _ (by omega))⟩) (its_cons sj0 st_no (fun Hy Qy ty _ ky => ⟨_, rfl, _, rfl, _, _, rfl, rfl, ky _ Hy (Fr.refl ty) (.int _ (by omega))⟩) (its_cons sj0 st_no (it_c fun _ => .int 1 (by omega))
      (its_cons sj0 st_no (fun Hy Qy ty _ ky => ⟨_, rfl, _, _, rfl, rfl, ky _ Hy (Fr.refl ty) (.int _ (by omega))⟩)
      (its_cons sj0 st_no (it_lst (G := fun _ _ => True) (its_cons sj0 st_true (it_c fun _ => trivial) its_nil) (by decide) st_true fun _ _ _ e _ _ => .no (.lst e) (by decide +kernel))
      (its_cons sj0 st_no (it_tup1 (G1 := fun _ _ => True) st_true (it_c fun _ => trivial) fun _ _ _ e _ => .no (.tup e) (by decide +kernel)) its_nil)))))))))) (by decide) st_no H4 _ F4.2 trivial fun v H5 f5 ⟨D5, zs, ev, et5, zl, zg⟩ => ?_)
    subst ev
    refine ⟨D5, rfl, ⟨_, .inl (.inl et5)⟩, ?_⟩
    refine for_tup (xs := zs) (fun i σ Hy => (∃ y2, σ = [some (V.ref R.r), some (.int n), y2, some (.ref D), none]) ∧ Fr K [] H5 Hy) ⟨⟨_, rfl⟩, Fr.refl f5.2⟩ (fun i σ Hy _ ⟨_, g⟩ => .inl (.inl (g.at et5))) (fun i v σ Hy hv ⟨⟨y2, es⟩, g⟩ => ?_) (fun σ Hy ⟨⟨y2, es⟩, g⟩ => ?_)
    · subst es
      have bad := zg v (List.mem_of_getElem? hv)
      have GH := G4.trans (f5.trans g)
      refine ⟨g.2, fun H' g' => ⟨⟨v, rfl, bad.fr (g.trans g')⟩, rfl, O, M, b, hA.fr0 (GH.trans g'), hw⟩, fun Hz gz => ⟨true, rfl, iteF ?_⟩⟩
      exact ⟨⟨_, rfl⟩, g.trans gz⟩
    · subst es
      have F5 := f5.trans g
      have GH := G4.trans F5
      refine rd_ret (rd_and (all_asks (X := (zNam P w K mg base A outer s H E).nox) (k := 91) (PP := PNam2 K R) (C := C_BadName K) rfl rfl (a4.fr F5) (by decide) F5.2 (fun H' g' => ⟨rfl, O, M, b, hA.fr0 (GH.trans g'), ha, hb⟩) (by show 4 < 5; decide) fun H6 g6 => iteT ?_))
      have G6 := GH.trans g6
      have A6 := hA.fr0 G6
      refine ⟨_, rfl, R.r, R.dx, _, rfl, A6.ob, rfl, _, rfl, rfl, lb.1, lb.2, m10, O, R, M, b, "a", repS 10 "b", rfl, A6, nm_sa, nm1 (by decide +kernel), ha, g6.2, fun H7 D7 f7 nD7 e7 => ?_⟩
      rw [hfil] at e7
      refine ⟨Nat.zero_le _, fun q nq => ?_⟩
      have h7 := Fr.new (K := K) (E := []) (o := .lst []) f7.2 nq
      refine ⟨.list [], .list [], .lst (SqL.of (h7.at e7)) .nil, .lst (SqL.of upd_same) .nil, by decide +kernel, by decide +kernel, _, rfl, iteB (by decide +kernel) ?_⟩
      have G7 := G6.trans (f7.trans h7)
      have A7 := hA.fr0 G7
      refine ⟨_, rfl, R.r, R.dx, _, rfl, A7.ob, rfl, O, R, M, b, "b", rfl, A7, nm_sb, hb, h7.2, fun H8 D8 f8 nD8 e8 => ?_⟩
      rw [hout] at e8
      refine ⟨Nat.zero_le _, fun q2 nq2 => ?_⟩
      have h8 := Fr.new (K := K) (E := []) (o := .lst []) f8.2 nq2
      refine ⟨.list [], .list [], .lst (SqL.of (h8.at e8)) .nil, .lst (SqL.of upd_same) .nil, by decide +kernel, by decide +kernel, ?_⟩
      rw [show PyData.eqv (.list []) (.list []) = true from by decide +kernel]
      exact k _ (G7.trans (f8.trans h8))
end
end So
end

section
set_option Elab.async false
set_option linter.all false
set_option maxRecDepth 100000
set_option maxHeartbeats 4000000
/-! for _law_houses_right: who knows which rules; teach with no text; texts walked -/
namespace So
open PySem PySem.Spec PyProof.Rows L2 GxA TL
open GxR (TabB TabG Tabbed)
/-! ### people and rules -/
section
variable {α : Type} {ps : List (Str × α)} {n m : Str} {u v : α}
theorem putN_self : (n, v) ∈ putN ps n v := by
  unfold putN
  split
  · rename_i h
    obtain ⟨q, mq, e⟩ := List.any_eq_true.mp h
    have e := of_decide_eq_true e
    exact List.mem_map.mpr ⟨q, mq, by rw [if_pos e, ← e]⟩
  · exact List.mem_append_right _ List.mem_cons_self
theorem putN_other (h : (m, u) ∈ ps) (ne : m ≠ n) : (m, u) ∈ putN ps n v := by
  unfold putN
  split
  · exact List.mem_map.mpr ⟨_, h, by rw [if_neg ne]⟩
  · exact List.mem_append_left _ h
theorem putN_mem {q : Str × α} (h : q ∈ putN ps n v) : q = (n, v) ∨ q ∈ ps := by
  unfold putN at h
  split at h
  · obtain ⟨p, mp, e⟩ := List.mem_map.mp h
    split at e
    · rename_i en
      left
      rw [← e, en]
    · right
      rw [← e]; exact mp
  · rcases List.mem_append.mp h with h | h
    · exact .inr h
    · exact .inl (List.mem_singleton.mp h)
theorem putN_names (h : n ∈ ps.map (·.1)) : (putN ps n v).map (·.1) = ps.map (·.1) := by
  unfold putN
  obtain ⟨q, mq, e⟩ := List.mem_map.mp h
  rw [if_pos (List.any_eq_true.mpr ⟨q, mq, decide_eq_true e⟩), List.map_map]
  refine List.map_congr_left fun p _ => ?_
  show (if p.1 = n then (p.1, v) else p).1 = p.1
  split <;> rfl
theorem putN_new (h : n ∉ ps.map (·.1)) : putN ps n v = ps ++ [(n, v)] := by
  unfold putN
  rw [if_neg fun z => ?_]
  obtain ⟨q, mq, e⟩ := List.any_eq_true.mp z
  exact h (List.mem_map.mpr ⟨q, mq, of_decide_eq_true e⟩)
end
/-- people with at most one rule each, whose names are known -/
structure Ppl1 (W : List Str) (ps : List (Str × List RuleD)) : Prop where
  nm : ∀ q ∈ ps, Nm q.1
  nd : (ps.map (·.1)).Nodup
  one : ∀ q ∈ ps, q.2.length ≤ 1
  rw : ∀ q ∈ ps, ∀ r ∈ q.2, RWf W r
theorem few1 : ∀ {ps : List (Str × List RuleD)}, (∀ q ∈ ps, q.2.length ≤ 1) → (ps.flatMap (·.2)).length ≤ ps.length
  | [], _ => Nat.le_refl _
  | q :: ps, h => by
    have h1 := h q List.mem_cons_self
    have h2 := few1 fun p m => h p (List.mem_cons_of_mem _ m)
    rw [List.flatMap_cons, List.length_append, List.length_cons]
    omega
theorem Ppl1.pwf {W : List Str} {ps : List (Str × List RuleD)} (p : Ppl1 W ps) (h5 : ps.length ≤ 5) (h4 : W.length ≤ 4) : PWf W ps :=
  ⟨p.nm, p.nd, p.rw, Nat.le_trans (few1 p.one) (by omega), h5, h4⟩
/-- somebody taught -/
theorem Ppl1.put {W : List Str} {ps : List (Str × List RuleD)} {n : Str} {rs : List RuleD} (p : Ppl1 W ps) (hn : Nm n) (l : rs.length ≤ 1) (hr : ∀ r ∈ rs, RWf W r) : Ppl1 W (putN ps n rs) := by
  refine ⟨fun q m => ?_, ?_, fun q m => ?_, fun q m => ?_⟩
  · rcases putN_mem m with rfl | m
    · exact hn
    · exact p.nm q m
  · by_cases h : n ∈ ps.map (·.1)
    · rw [putN_names h]; exact p.nd
    · rw [putN_new h, List.map_append]
      refine List.nodup_append.mpr ⟨p.nd, by simp, fun x mx y my => ?_⟩
      have ey : y = n := by simpa using my
      exact fun z => h (by rw [← ey, ← z]; exact mx)
  · rcases putN_mem m with rfl | m
    · exact l
    · exact p.one q m
  · rcases putN_mem m with rfl | m
    · exact hr
    · exact p.rw q m
/-! ### more than four names -/
theorem addKs_in {κ : Type} [DecidableEq κ] : ∀ (l ks : List κ) (x : κ), (x ∈ ks ∨ x ∈ l) → x ∈ l.foldl addK ks
  | [], ks, x, h => h.elim id fun z => nomatch z
  | a :: l, ks, x, h => addKs_in l (addK ks a) x (by
    rcases h with h | h
    · left
      unfold addK
      split
      · exact h
      · exact List.mem_append_left _ h
    · rcases List.mem_cons.mp h with rfl | h
      · left
        unfold addK
        split
        · assumption
        · exact List.mem_append_right _ List.mem_cons_self
      · exact .inr h)
theorem names_in {rs : List RuleD} {r : RuleD} {k : List Key} {x : Key} (h : r ∈ rs) (hk : k ∈ r.1.fk) (hx : x ∈ namesK k) : x ∈ namesR rs :=
  addKs_in _ _ _ (.inr (List.mem_flatMap.mpr ⟨k, addKs_in _ _ _ (.inr (List.mem_flatMap.mpr ⟨r, h, hk⟩)), hx⟩))
theorem sub_len {α : Type} [DecidableEq α] : ∀ (l m : List α), l.Nodup → (∀ x ∈ l, x ∈ m) → l.length ≤ m.length
  | [], _, _, _ => Nat.zero_le _
  | a :: l, m, nd, h => by
    have ha := h a List.mem_cons_self
    have e := List.length_erase_of_mem ha
    have pos : 0 < m.length := List.length_pos_of_mem ha
    have nd := List.nodup_cons.mp nd
    have := sub_len l (m.erase a) nd.2 fun x mx => (List.mem_erase_of_ne (fun z => nd.1 (by rw [← z]; exact mx))).mpr (h x (List.mem_cons_of_mem _ mx))
    rw [List.length_cons]
    omega
def five5 : List Key := [.inr "x", .inr "y", .inr "z", .inr "w", .inr "v"]
theorem many5 {rs : List RuleD} (h1 : (cXY, stopD) ∈ rs) (h2 : (cZW, stopD) ∈ rs) (h3 : (cV, stopD) ∈ rs) : 4 < (namesR rs).length := by
  refine sub_len five5 (namesR rs) (by decide +kernel) fun x m => ?_
  unfold five5 at m
  simp only [List.mem_cons, List.not_mem_nil, or_false] at m
  rcases m with rfl | rfl | rfl | rfl | rfl
  · exact names_in (k := [.inr "has", .inr "x"]) h1 (List.Mem.head _) (by rw [namesK_fact, if_pos (by decide +kernel)]; exact List.Mem.head _)
  · exact names_in (k := [.inr "has", .inr "y"]) h1 (List.Mem.tail _ (List.Mem.head _)) (by rw [namesK_fact, if_pos (by decide +kernel)]; exact List.Mem.head _)
  · exact names_in (k := [.inr "has", .inr "z"]) h2 (List.Mem.head _) (by rw [namesK_fact, if_pos (by decide +kernel)]; exact List.Mem.head _)
  · exact names_in (k := [.inr "first", .inr "w"]) h2 (List.Mem.tail _ (List.Mem.head _)) (by rw [namesK_fact, if_pos (by decide +kernel)]; exact List.Mem.head _)
  · exact names_in (k := [.inr "last", .inr "v"]) h3 (List.Mem.head _) (by rw [namesK_fact, if_pos (by decide +kernel)]; exact List.Mem.head _)
/-! ### teach with what is no text, or no rules -/
section
variable {P : Program} {w : World} {K : PySem.W.Frag} {mg : Str → Option Value} {base : Heap}
def spTeachV (sp : Sp) (K : PySem.W.Frag) : Sp := fun vs H _ E => ∃ (O : List Addr) (R : HR) (M : HM) (b : Nat) (n : Str) (v : V), vs = [.ref R.r, .str n, v] ∧ HAt K O H R M b ∧ Nm n ∧ Tb K H ∧ ∀ H', Fr K [] H H' → ∃ Q', sp [v] H' Q' E
theorem R_teachV {sp : Sp} (T : Txt w K mg base) (hsp : FnE P w K mg base 48 (a_read K) sp) (mono : ∀ vs H Q Q' E, sp vs H Q E → sp vs H Q' E) : FnE P w K mg base 52 (a_House_teach K) (spTeachV sp K) := by
  refine mkE T.f_House_teach sc_House_teach bd_House_teach ?_ ?_
  · rintro vs H Q E ⟨O, R, M, b, n, v, rfl, _⟩; rfl
  rintro cdv A outer s H vs Q E hr ⟨O, R, M, b, n, v, rfl, hA, hn, tb, k⟩
  have nd := sc_House_teach.nd
  obtain ⟨_, F1⟩ := T.f_is_name
  obtain ⟨_, F2⟩ := T.f_read
  refine ⟨_, pss_cons (ps_if (pt_not (pt_val (pe_cF (R_is_name T) (hr.mono (by decide)) (by rfl) T.g_is_name F1.kp (pa_cons (pv 1) pa_nil)))) (pss_one ps_never) pss_nil)
    (pss_cons (ps_set (i := 3) nd rfl (.inl rfl) (pe_callTy call_dictC (by rfl) T.z_dict (by decide +kernel) (pa_cons (pe_fld (pv 0) rfl) pa_nil)))
    (pss_cons (ps_dput (hu_of hr) (pv 3) (pv 1) (pe_cX hsp (hr.mono (by decide)) (passX (takes_of rfl rfl rfl rfl) fun _ _ _ _ z => z) (by rfl) T.g_read F2.kp (pa_cons (pv 2) pa_nil)) (by rfl))
    (pss_cons ps_never (pss_cons ps_never (pss_cons ps_never (pss_one ps_never)))))), ?_⟩
  refine ⟨_, rfl, n, rfl, hn, tb, fun H1 f1 => ⟨true, rfl, iteF ?_⟩⟩
  have A1 := hA.fr0 f1
  obtain ⟨p0, kvs, e1, e2, e3⟩ := A1.ppl
  refine ⟨_, rfl, R.r, _, R.dx, _, _, rfl, A1.ob, T.c_House, T.n_House_people, hfs_people R, R.p, kvs, rfl, .inl e1, fun pd npd => ?_⟩
  obtain ⟨Q', h⟩ := k _ (f1.trans (Fr.new (E := []) (o := .dK kvs) f1.2 npd))
  exact ⟨_, rfl, mono _ _ _ _ _ h⟩
end
/-! ### a def without parameters; a text walked -/
section
variable {X : Cx} {k : Nat} {f : Addr} {sp : Sp} {x : Str} {p pos : Pos}
theorem pe_c0F (F : FnR X.prog X.w X.K X.mg X.base CX0 k f sp) (hr : Room k X.A) (hg : Gl X x) (hm : X.mg x = some (.ref f)) (hk : PySem.W.keepIn X.K (.ref f) = true) (hdb : (x == ("__debug__" : Str)) = false := by decide) :
    PE X (.Call (.Name x p) [] [] pos) (tCF sp tNil) := by
  refine ⟨fun pins s σ H Q I h => ?_⟩
  refine wpAny_Call_Name_kw (ld_glob I hg hm ?_ hdb)
  exact PySem.W.callWith_K0 (first := []) I.kIn hk (wpAny_call (run_fnR (us := []) (vs := []) F hr pass0 I .nil h))
end
theorem lc_txt {x : Str} {g : TG} {te : TE} {vs : List Nat} {σ : L2.St} {H1 : Hp} {D : Addr} {Qd : Hp → Prop} (Pv : Nat → Hp → Prop) (h0 : Pv 0 (L2.upd H1 D (.lst [])))
    (hs : ∀ i c H, x.cps[i]? = some c → Pv i H → g (.str ⟨#[c]⟩) (wipe σ vs) H fun σ2 H2 => wipe σ2 vs = wipe σ vs ∧ tYes σ2 H2 fun b H3 => if b = true then te σ2 H3 fun y H4 => ∃ acc, H4 D = some (.lst acc) ∧ acc.length < sizeLine ∧ Pv (i + 1) (L2.upd H4 D (.lst (acc ++ [y]))) else Pv (i + 1) H3)
    (hd : ∀ H, Pv x.cps.size H → Qd H) :
    ∃ W : Nat → Nat → Hp → Prop, (∃ m, W 0 m (L2.upd H1 D (.lst []))) ∧ ∀ i m Hx, W i m Hx → ((L2.Its x).stop i Hx ∧ Qd Hx) ∨ ((L2.Its x).go i Hx ∧ ∃ Nx : Hp → Prop, (∀ Hy, Nx Hy → ∃ m', m' < m ∧ W (i + 1) m' Hy) ∧
      ∀ y Hy, (L2.Its x).yld i Hx y Hy → g y (wipe σ vs) Hy fun σ2 Hz => wipe σ2 vs = wipe σ vs ∧ tYes σ2 Hz fun b Hb => if b = true then te σ2 Hb fun z Hu => ∃ acc, Hu D = some (.lst acc) ∧ acc.length < sizeLine ∧ Nx (L2.upd Hu D (.lst (acc ++ [z]))) else Nx Hb) := by
  refine ⟨fun i m H => m + i = x.cps.size ∧ Pv i H, ⟨x.cps.size, rfl, h0⟩, ?_⟩
  rintro i m H ⟨le, p⟩
  rcases Nat.lt_or_ge i x.cps.size with lt | ge
  · refine .inr ⟨lt, Pv (i + 1), fun H' p' => ⟨m - 1, by omega, by omega, p'⟩, fun y H' ⟨e, c, hc, ey⟩ => ?_⟩
    subst e
    subst ey
    exact hs i c _ hc p
  · have ei : i = x.cps.size := by omega
    exact .inl ⟨ge, hd H (ei ▸ p)⟩
section
variable {K : PySem.W.Frag} {J : Hp → Prop} {σ : L2.St} {G : Hp → V → Prop}
theorem it_disp {trs : List (TE × TE)} {kvs : List (Key × V)} (hp : ∀ (H : Hp) (Q : List (V × V) → Hp → Prop), Q (kvs.map fun kv => (kV kv.1, kv.2)) H → tPairs trs σ H Q) (hl : kvs.length ≤ 15) (hg : ∀ H D, H D = some (.dK (mergeK [] kvs)) → G H (.ref D)) : It K J σ G (tDisp trs) := fun H Q tb j k => fun p np =>
  hp _ _ ⟨upd_same, kvs, rfl, hl, by
    rw [upd_upd]
    exact k _ _ (Fr.new tb np) (hg _ p upd_same)⟩
end
end So
end

section
set_option Elab.async false
set_option linter.all false
set_option maxRecDepth 100000
set_option maxHeartbeats 4000000
/-! _law_houses_right -/
namespace So
open PySem PySem.Spec PyProof.Rows L2 GxA TL
open GxR (TabB TabG Tabbed)
theorem nm_sc : Nm "c" := nm1 (by decide +kernel)
theorem nm_sd : Nm "d" := nm1 (by decide +kernel)
theorem nm_se : Nm "e" := nm1 (by decide +kernel)
theorem nm_sf : Nm "f" := nm1 (by decide +kernel)
def W5 : List Str := ["x", "y", "z", "w", "v"]
def W4 : List Str := ["x", "y", "z", "w"]
def W4b : List Str := ["x", "y", "v", "u"]
section
variable {P : Program} {w : World} {K : PySem.W.Frag} {mg : Str → Option Value} {base : Heap}
abbrev zHou (P : Program) (w : World) (K : PySem.W.Frag) (mg : Str → Option Value) (base : Heap) (A : Around) (outer : List Env) (s : Shared) (H : Hp) (E : XK) : Cx := cxOf CX0 P w K mg base N_law_houses_right "_law_houses_right" (defScope s_law_houses_right) (a_law_houses_right K) (.ref (He.codeOf K ("_law_houses_right", none))) A outer s H E
def PHou (K : PySem.W.Frag) (σ : L2.St) (H : Hp) : Prop := ∃ v, σ[3]? = some (some v) ∧ Hs8 H v false
def PTea (K : PySem.W.Frag) (σ : L2.St) (H : Hp) : Prop := ∃ R : HR, σ[5]? = some (some (.ref R.r)) ∧ ∃ O M b, HAt K O H R M b ∧ Live O H ∧ Ppl1 [] M.ps ∧ M.ps.length = 5 ∧ ("f" : Str) ∉ M.ps.map (·.1)
def PTea2 (K : PySem.W.Frag) (σ : L2.St) (H : Hp) : Prop := ∃ R : HR, σ[5]? = some (some (.ref R.r)) ∧ ∃ O M b, HAt K O H R M b ∧ Live O H ∧ Ppl1 W5 M.ps ∧ M.ps.length = 5 ∧ (("a" : Str), [(cXY, stopD)]) ∈ M.ps ∧ (("b" : Str), [(cZW, stopD)]) ∈ M.ps
theorem putN_len {α : Type} {ps : List (Str × α)} {n : Str} {v : α} : (putN ps n v).length ≤ ps.length + 1 := by
  unfold putN
  split
  · rw [List.length_map]; omega
  · rw [List.length_append]; exact Nat.le_refl _
theorem stop_any : ∀ r ∈ ([some (Cnd.any, stopD)] : List (Option RuleD)).filterMap id, RWf [] r := (txt_stop.wf).1
section
variable {ps : List (Str × List RuleD)}
theorem few6 (p : Ppl1 [] ps) (l : ps.length = 5) : ((putN ps "f" (([some (Cnd.any, stopD)] : List (Option RuleD)).filterMap id)).flatMap (·.2)).length ≤ 20 := by
  have h := few1 (p.put (n := "f") (rs := ([some (Cnd.any, stopD)] : List (Option RuleD)).filterMap id) nm_sf (Nat.le_refl 1) stop_any).one
  have h2 := putN_len (ps := ps) (n := "f") (v := ([some (Cnd.any, stopD)] : List (Option RuleD)).filterMap id)
  omega
theorem put_stop (p : Ppl1 [] ps) : ∀ q ∈ putN ps "f" (([some (Cnd.any, stopD)] : List (Option RuleD)).filterMap id), ∀ r ∈ q.2, RWf [] r := (p.put (n := "f") (rs := ([some (Cnd.any, stopD)] : List (Option RuleD)).filterMap id) nm_sf (Nat.le_refl 1) stop_any).rw
theorem six (p : Ppl1 [] ps) (l : ps.length = 5) (nf : ("f" : Str) ∉ ps.map (·.1)) : 5 < (putN ps "f" (([some (Cnd.any, stopD)] : List (Option RuleD)).filterMap id)).length := by
  rw [putN_new nf, List.length_append, l]
  decide
theorem wf_v {W : List Str} (h : ("v" : Str) ∈ W) (l : W.length ≤ 4 ∨ W = W5) : ∀ r ∈ ([some (cV, stopD)] : List (Option RuleD)).filterMap id, RWf W r := fun r m => by
  rw [List.mem_singleton.mp m]
  exact ⟨fact_wf (by decide +kernel) (nm1 (by decide +kernel)) h, by decide, by decide, by decide, by decide, stop_wf, by decide, by decide +kernel⟩
theorem few_c (p : Ppl1 W5 ps) (l : ps.length = 5) : ((putN ps "c" (([some (cV, stopD)] : List (Option RuleD)).filterMap id)).flatMap (·.2)).length ≤ 20 := by
  have h := few1 (p.put (n := "c") (rs := ([some (cV, stopD)] : List (Option RuleD)).filterMap id) nm_sc (Nat.le_refl 1) (wf_v (by decide +kernel) (.inr rfl))).one
  have h2 := putN_len (ps := ps) (n := "c") (v := ([some (cV, stopD)] : List (Option RuleD)).filterMap id)
  omega
theorem put_v (p : Ppl1 W5 ps) : ∀ q ∈ putN ps "c" (([some (cV, stopD)] : List (Option RuleD)).filterMap id), ∀ r ∈ q.2, RWf W5 r := (p.put (n := "c") (rs := ([some (cV, stopD)] : List (Option RuleD)).filterMap id) nm_sc (Nat.le_refl 1) (wf_v (by decide +kernel) (.inr rfl))).rw
theorem many_c (m1 : (("a" : Str), [(cXY, stopD)]) ∈ ps) (m2 : (("b" : Str), [(cZW, stopD)]) ∈ ps) : 4 < (namesR ((putN ps "c" (([some (cV, stopD)] : List (Option RuleD)).filterMap id)).flatMap (·.2))).length :=
  many5 (List.mem_flatMap.mpr ⟨_, putN_other m1 (by decide +kernel), List.mem_singleton.mpr rfl⟩) (List.mem_flatMap.mpr ⟨_, putN_other m2 (by decide +kernel), List.mem_singleton.mpr rfl⟩) (List.mem_flatMap.mpr ⟨_, putN_self, List.mem_singleton.mpr rfl⟩)
end
/-- House of what is none -/
theorem house_no {H : Hp} {x dx : Addr} {v : V} {E : XK} {Q : VK} (t : Tb K H) (nx : H x = none) (ndx : H dx = none) (ne : dx ≠ x) (l : Hs8 H v false) (k : ∀ H', So.Fr K [] H H' → E (.ref (C_BadHouse K)) none H') :
    spInit8 K [.ref x, v] (L2.upd (L2.upd H dx (.own x)) x (.ins (C_House K) dx [])) Q E := by
  have f1 : So.Fr K [] H (L2.upd H dx (.own x)) := Fr.new t ndx
  have f := f1.trans (Fr.new (o := .ins (C_House K) dx []) f1.2 (by rw [upd_ne ne.symm]; exact nx))
  exact ⟨_, v, rfl, l.fr f, f.2, fun H' g => k H' (f.trans g)⟩
/-- the pairs (c, "") of a text's signs -/
def keysT (x : Str) (i : Nat) : List (Key × V) := (x.cps.toList.take i).map fun c => (Sum.inr ⟨#[c]⟩, V.str "")
theorem pr_app {α β : Type} {R : α → β → Prop} : ∀ {xs us : List α} {ys vs : List β}, Paired R xs ys → Paired R us vs → Paired R (xs ++ us) (ys ++ vs)
  | _, _, _, _, .nil, s => s
  | _, _, _, _, .cons h t, s => .cons h (pr_app t s)
theorem pairs_read {x : Str} {σ : L2.St} {H : Hp} {Q : VK} (hx : x.cps.size ≤ 1000) (hl : 1 < σ.length) (tb : Tb K H) (k : ∀ H' D (ps : List Addr), So.Fr K [] H H' → H' D = some (.lst (ps.map V.ref)) → Paired (fun p kv => SqT K H' p [kV kv.1, kv.2]) ps (keysT x x.cps.size) → Q (.ref D) H') :
    tLc (iStr (tC (.str x))) (gName 1) tYes (tTup (tCons (tVar 1) (tCons (tC (.str "")) tNil))) [1] σ H Q := by
  refine ⟨x, rfl, fun D nD => ?_⟩
  have f0 : So.Fr K [] H (L2.upd H D (.lst [])) := Fr.new tb nD
  refine lc_txt (fun i Hx => So.Fr K [] H Hx ∧ ∃ ps : List Addr, Hx D = some (.lst (ps.map V.ref)) ∧ Paired (fun p (kv : Key × V) => Hx p = some (.tup [kV kv.1, kv.2])) ps (keysT x i)) ⟨f0, [], upd_same, .nil⟩ (fun i c Hx hc ⟨f, ps, e, pr⟩ => ?_) (fun Hx ⟨f, ps, e, pr⟩ => ?_)
  · have hi : i < 1000 := Nat.lt_of_lt_of_le (Array.getElem?_eq_some_iff.mp hc).1 hx
    have pl : ps.length = i := by
      rw [Paired.length pr]
      unfold keysT
      rw [List.length_map, List.length_take, Array.length_toList]
      have := (Array.getElem?_eq_some_iff.mp hc).1
      omega
    refine ⟨wipe_set, .str ⟨#[c]⟩, by rw [List.getElem?_set_self (by rw [wipe_length]; exact hl)], by show 2 ≤ sizeLine; decide, fun p np => ?_⟩
    have g : So.Fr K [] Hx (L2.upd Hx p (.tup [.str ⟨#[c]⟩, .str ""])) := Fr.new f.2 np
    refine ⟨_, g.at e, by rw [List.length_map, pl]; exact Nat.lt_trans hi (by decide), (f.trans g).upNew tb nD (nt := NotT.lst (g.at e)), ps ++ [p], by rw [upd_same, List.map_append]; rfl, ?_⟩
    have ek : keysT x (i + 1) = keysT x i ++ [(Sum.inr ⟨#[c]⟩, V.str "")] := by
      unfold keysT
      rw [List.take_add_one, List.map_append]
      have : x.cps.toList[i]? = some c := by rw [Array.getElem?_toList]; exact hc
      rw [this]
      rfl
    rw [ek]
    have dp : D ≠ p := ne_of_none e np
    refine pr_app (paired_imp pr fun q kv h => ?_) (.cons ?_ .nil)
    · have qD : q ≠ D := ne_of h e (by intro z; cases z)
      rw [upd_ne qD]
      exact g.at h
    · rw [upd_ne dp.symm]
      exact upd_same
  · exact k Hx D ps f e (paired_imp pr fun p kv h => .inl (.inl h))
theorem putN_map {ns : List Str} {ro : Str → List RuleD} {m : Str} {rs : List RuleD} (h : m ∈ ns) : putN (ns.map fun n => (n, ro n)) m rs = ns.map fun n => (n, if n = m then rs else ro n) := by
  unfold putN
  rw [if_pos (List.any_eq_true.mpr ⟨(m, ro m), List.mem_map.mpr ⟨m, h, rfl⟩, decide_eq_true rfl⟩), List.map_map]
  refine List.map_congr_left fun n _ => ?_
  show (if n = m then (n, rs) else (n, ro n)) = _
  split <;> rfl
def abcde : List Str := ["a", "b", "c", "d", "e"]
def ts5 : List (Str × Str) := [("a", ""), ("b", ""), ("c", ""), ("d", ""), ("e", "")]
theorem five_nm : ∀ n ∈ abcde, Nm n := fun n m => by
  simp only [abcde, List.mem_cons, List.not_mem_nil, or_false] at m
  rcases m with rfl | rfl | rfl | rfl | rfl
  · exact nm_sa
  · exact nm_sb
  · exact nm_sc
  · exact nm_sd
  · exact nm_se
theorem hs_5 : HsOk ts5 (fun _ => []) [] := ⟨by decide, by decide, fun q m => five_nm _ (List.mem_map_of_mem (f := (·.1)) m), by decide +kernel, fun q m => ⟨[none], by
    have : q.2 = "" := by
      simp only [ts5, List.mem_cons, List.not_mem_nil, or_false] at m
      rcases m with rfl | rfl | rfl | rfl | rfl <;> rfl
    rw [this]; exact txt_empty, rfl⟩, by decide +kernel⟩
/-- the five people, with these rules -/
theorem ppl_ns {ns : List Str} {ro : Str → List RuleD} {W : List Str} (pm : ns.Perm abcde) (one : ∀ n, (ro n).length ≤ 1) (h : ∀ n, ∀ r ∈ ro n, RWf W r) : Ppl1 W (ns.map fun n => (n, ro n)) := by
  refine ⟨fun q m => ?_, ?_, fun q m => ?_, fun q m => ?_⟩
  · obtain ⟨n, mn, rfl⟩ := List.mem_map.mp m
    exact five_nm n (pm.mem_iff.mp mn)
  · rw [List.map_map]
    have e : (fun (q : Str × List RuleD) => q.1) ∘ (fun n => (n, ro n)) = id := rfl
    rw [e, List.map_id]
    exact pm.symm.nodup (by decide +kernel)
  · obtain ⟨n, mn, rfl⟩ := List.mem_map.mp m
    exact one n
  · obtain ⟨n, mn, rfl⟩ := List.mem_map.mp m
    exact h n
def dk6 : List (Key × V) := [(Sum.inr "a", .str ""), (Sum.inr "b", .str ""), (Sum.inr "c", .str ""), (Sum.inr "d", .str ""), (Sum.inr "e", .str ""), (Sum.inr "f", .str "")]
theorem merge6 : mergeK [] (keysT "abcdef" ("abcdef" : Str).cps.size) = dk6 := by decide +kernel
theorem merge5 : mergeK [] (keysT "abcde" ("abcde" : Str).cps.size) = txK ts5 := by decide +kernel
def ts5b : List (Str × Str) := [("a", "if has x and has y then stop"), ("b", "if has z and first w then stop"), ("c", ""), ("d", ""), ("e", "")]
def dkAB : List (Key × V) := [(Sum.inr "a", .str ""), (Sum.inr "b", .non)]
theorem mergeAB : mergeK [] dkAB = dkAB := by decide +kernel
theorem hs_bad {H : Hp} {a : Addr} {kvs : List (Key × V)} {bs : List Bool} (e : H a = some (.dK kvs)) (p : Paired (fun (kv : Key × V) (b : Bool) => ∃ b1 t c, (∀ H, Nm8 H (kV kv.1) b1) ∧ (∀ H, Pl H kv.2 t) ∧ kitB t "str" = some c ∧ b = (b1 && c)) kvs bs)
    (hb : (decide (1 ≤ kvs.length) && (decide (kvs.length ≤ 5) && bs.all id)) = false) : Hs8 H (.ref a) false := by
  have h := Hs8.dic e p
  rwa [hb] at h
theorem kvS {x y : Str} (l : x.length ≤ 1000) : ∃ b1 t c, (∀ H, Nm8 H (kV (Sum.inr x : Key)) b1) ∧ (∀ H, Pl H (V.str y) t) ∧ kitB t "str" = some c ∧ (nmB x && true) = (b1 && c) :=
  ⟨nmB x, _, true, fun _ => .str x (Nat.le_trans l (by decide)), fun _ => .str y, by decide +kernel, rfl⟩
theorem kvI {x : Str} {i : Int} (l : x.length ≤ 1000) : ∃ b1 t c, (∀ H, Nm8 H (kV (Sum.inr x : Key)) b1) ∧ (∀ H, Pl H (V.int i) t) ∧ kitB t "str" = some c ∧ (nmB x && false) = (b1 && c) :=
  ⟨nmB x, _, false, fun _ => .str x (Nat.le_trans l (by decide)), fun _ => .int i, by decide +kernel, rfl⟩
theorem kvN {x : Str} (l : x.length ≤ 1000) : ∃ b1 t c, (∀ H, Nm8 H (kV (Sum.inr x : Key)) b1) ∧ (∀ H, Pl H V.non t) ∧ kitB t "str" = some c ∧ (nmB x && false) = (b1 && c) :=
  ⟨nmB x, _, false, fun _ => .str x (Nat.le_trans l (by decide)), fun _ => .non, by decide +kernel, rfl⟩
theorem kvK {i : Int} {y : Str} : ∃ b1 t c, (∀ H, Nm8 H (kV (Sum.inl i : Key)) b1) ∧ (∀ H, Pl H (V.str y) t) ∧ kitB t "str" = some c ∧ (false && true) = (b1 && c) :=
  ⟨false, _, true, fun _ => .no (.int i) (by decide +kernel), fun _ => .str y, by decide +kernel, rfl⟩
theorem hs_six {H : Hp} {a : Addr} (e : H a = some (.dK dk6)) : Hs8 H (.ref a) false :=
  hs_bad e (.cons (kvS (by decide +kernel)) (.cons (kvS (by decide +kernel)) (.cons (kvS (by decide +kernel)) (.cons (kvS (by decide +kernel)) (.cons (kvS (by decide +kernel)) (.cons (kvS (by decide +kernel)) .nil)))))) (by decide +kernel)
theorem rd_cons {ta : TE} {tr : TA} {σ : L2.St} {H : Hp} {Q : List V → Hp → Prop} (h : ta σ H fun x H1 => tr σ H1 fun xs H2 => Q (x :: xs) H2) : tCons ta tr σ H Q := h
def spHousesR (K : PySem.W.Frag) : Sp := fun vs H Q _ => vs = [] ∧ Tb K H ∧ ∀ H', Fr K [] H H' → Q (.bl true) H'
theorem R_housesR (pk : BrX.POk P) (T : Txt w K mg base) (KN : Knds K) : FnR P w K mg base CX0 95 (a_law_houses_right K) (spHousesR K) := by
  refine mkRC (p := ("_law_houses_right", none)) rfl T.f_law_houses_right sc_law_houses_right bd_law_houses_right ?_ ?_
  · rintro vs H Q E ⟨rfl, _⟩; rfl
  rintro A outer s H vs Q E hr ⟨rfl, tb, k⟩
  have nd := sc_law_houses_right.nd
  obtain ⟨_, F1⟩ := T.f_ring
  refine ⟨_, PSs.nox <| pss_cons (ps_set (i := 0) nd rfl (.inl rfl) (pe_callTy (call_dictP rfl) (by rfl) T.z_dict (by decide +kernel) (pa_cons (pe_lc (own := [("_law_name", 1)]) (g := gName 1) (tt := tYes) (te := tTup (tCons (tVar 1) (tCons (tC (.str "")) tNil))) rfl nd (pi_str pe_str) (blkOk_by (own := [("_law_name", 1)]) (N := N_law_houses_right) (sc := defScope s_law_houses_right) (by decide +kernel))
      (fun _ _ _ _ _ => pg_name (i := 1) nd rfl (Or.inl rfl)) (fun _ _ _ _ _ => pts_nil) (fun _ _ _ _ _ => pe_tup (pa_cons (pv 1) (pa_cons pe_str pa_nil)))) pa_nil)))
    (pss_cons (ps_set (i := 2) nd rfl (.inl rfl) (pe_lst (pa_cons (pe_non) (pa_cons (pe_int) (pa_cons (pe_lst pa_nil) (pa_cons (pe_str) (pa_cons (pe_dnewK) (pa_cons (pv 0) (pa_cons (pe_disp (pps_cons (pe_str) (pe_str) pps_nil) (by rfl) (by rfl) (fun z => by cases z) (by decide)) (pa_cons (pe_disp (pps_cons (pe_str) (pe_int) pps_nil) (by rfl) (by rfl) (fun z => by cases z) (by decide)) (pa_cons (pe_disp (pps_cons (pe_int) (pe_str) pps_nil) (by rfl) (by rfl) (fun z => by cases z) (by decide)) (pa_cons (pe_disp (pps_cons (pe_str) (pe_str) pps_nil) (by rfl) (by rfl) (fun z => by cases z) (by decide)) (pa_cons (pe_disp (pps_cons (pe_str) (pe_str) (pps_cons (pe_str) (pe_non) pps_nil)) (by rfl) (by rfl) (fun z => by cases z) (by decide)) (pa_cons (pe_tup pa_nil) (pa_cons (pe_bl) pa_nil)))))))))))))))
    (pss_cons (ps_for PassesOwn.never rfl (pi_list (pe_op op_cat (pv 2) (pe_lst (pa_cons (pe_disp (pps_cons (pe_op (op_mulS (n := 11) (by decide)) pe_str pe_int) (pe_str) pps_nil) (by rfl) (by rfl) (fun z => by cases z) (by decide)) pa_nil)))) (pg_name (i := 3) nd rfl (.inr rfl)) (pss_cons (ps_if (pt_not (pt_val (pe_ask (X := (zHou P w K mg base A outer s H E).nox) (k := 91) T (by rfl) T.t_law_houses_right rfl (by exact List.Mem.tail _ (List.Mem.tail _ (List.Mem.head _))) KN.house (by decide) hr
          (ask_mk (PP := PHou K) (te := fun E => StX.tMakeR (C_House K) (spInit8 K) E (tCons (tVar 3) tNil)) (LamX.lamS_by (sc := defScope s_law_houses_right) (by decide +kernel)) (by intros; rfl) (by rfl)
            (fun _ _ _ _ _ _ _ h => StX.pe_makeR T.mk_House (R_init8 T) (h.mono (by decide)) (by rfl) T.g_House (passX (takes_of rfl rfl rfl rfl) fun _ _ _ _ z => z) (pa_cons (pe_var (i := 3) rfl (.inr (.inr rfl))) pa_nil))
            (fun E σ Hx Qx ⟨v, e, l⟩ t kk => ⟨v, e, fun x dx nx ndx ne => house_no t nx ndx ne l (Q := fun v H2 => v = .non ∧ Qx (.ref x) H2) fun H' f => kk H' none f trivial⟩))))) (pss_one ps_never) pss_nil)
    (pss_one (ps_if (pt_not (pt_val (pe_ask (X := (zHou P w K mg base A outer s H E).nox) (k := 91) T (by rfl) T.t_law_houses_right rfl (by exact List.Mem.tail _ (List.Mem.tail _ (List.Mem.head _))) KN.house (by decide) hr
          (ask_mk (PP := PHou K) (te := fun E => tCX (spRingH K) E (tCons (tVar 3) (tCons (tC (.int 5)) tNil))) (LamX.lamS_by (sc := defScope s_law_houses_right) (by decide +kernel)) (by intros; rfl) (by rfl)
            (fun _ _ _ _ _ _ _ h => pe_cX (R_ringH T) (h.mono (by decide)) (passX (takes_of rfl rfl rfl rfl) fun _ _ _ _ z => z) (by rfl) T.g_ring F1.kp (pa_cons (pe_var (i := 3) rfl (.inr (.inr rfl))) (pa_cons (pe_int) pa_nil)))
            (fun E σ Hx Qx ⟨v, e, l⟩ t kk => ⟨v, e, v, _, rfl, l, t, fun H' f => kk H' none f trivial⟩))))) (pss_one ps_never) pss_nil))))
    (pss_cons (ps_set (i := 4) nd rfl (.inl rfl) (pe_callTy (call_dictP rfl) (by rfl) T.z_dict (by decide +kernel) (pa_cons (pe_lc (own := [("_law_name", 1)]) (g := gName 1) (tt := tYes) (te := tTup (tCons (tVar 1) (tCons (tC (.str "")) tNil))) rfl nd (pi_str pe_str) (blkOk_by (own := [("_law_name", 1)]) (N := N_law_houses_right) (sc := defScope s_law_houses_right) (by decide +kernel))
      (fun _ _ _ _ _ => pg_name (i := 1) nd rfl (Or.inl rfl)) (fun _ _ _ _ _ => pts_nil) (fun _ _ _ _ _ => pe_tup (pa_cons (pv 1) (pa_cons pe_str pa_nil)))) pa_nil)))
    (pss_cons (ps_set (i := 5) nd rfl (.inr rfl) (StX.pe_makeR T.mk_House (R_House_init T) (hr.mono (by decide)) (by rfl) T.g_House pass0 (pa_cons (pv 4) pa_nil)))
    (pss_cons (ps_if (pt_not (pt_val (pe_ask (X := (zHou P w K mg base A outer s H E).nox) (k := 91) T (by rfl) T.t_law_houses_right rfl (by exact List.Mem.tail _ (List.Mem.tail _ (List.Mem.head _))) KN.many (by decide) hr
          (ask_mk (PP := PTea K) (te := fun E => tMethR (C_House K) "teach" (spTeachPeople K) E (tVar 5) (tCons (tC (.str "f")) (tCons (tC (.str "if any then stop")) tNil))) (LamX.lamS_by (sc := defScope s_law_houses_right) (by decide +kernel)) (by intros; rfl) (by rfl)
            (fun _ _ _ _ _ _ _ h => pe_methR (pe_var (i := 5) rfl (.inr (.inr rfl))) T.c_House T.m_House_teach (R_TeachPeople T) (h.mono (by decide)) (passX (takes_of rfl rfl rfl rfl) fun _ _ _ _ z => z) (pa_cons (pe_str) (pa_cons (pe_str) pa_nil)))
            (fun E σ Hx Qx ⟨R, e0, O, M, b, hA, lv, p1, l5, nf⟩ t kk => ⟨_, e0, R.r, R.dx, _, rfl, hA.ob, rfl, O, R, M, b, "f", _, _, [], [], rfl, hA, lv, nm_sf, txt_stop, few6 p1 l5, put_stop p1, by decide, Nat.le_of_eq l5, six p1 l5 nf, t, fun H' f => kk H' none f trivial⟩))))) (pss_one ps_never) pss_nil)
    (pss_cons (ps_if (pt_not (pt_val (pe_ask (X := (zHou P w K mg base A outer s H E).nox) (k := 91) T (by rfl) T.t_law_houses_right rfl (by exact List.Mem.tail _ (List.Mem.tail _ (List.Mem.head _))) KN.rule (by decide) hr
          (ask_mk (PP := PTea K) (te := fun E => tMethR (C_House K) "teach" (spTeachV (spReadIf K) K) E (tVar 5) (tCons (tC (.str "f")) (tCons (tC (.str "if")) tNil))) (LamX.lamS_by (sc := defScope s_law_houses_right) (by decide +kernel)) (by intros; rfl) (by rfl)
            (fun _ _ _ _ _ _ _ h => pe_methR (pe_var (i := 5) rfl (.inr (.inr rfl))) T.c_House T.m_House_teach (R_teachV T (R_read_if pk T) (fun _ _ _ _ _ z => z)) (h.mono (by decide)) (passX (takes_of rfl rfl rfl rfl) fun _ _ _ _ z => z) (pa_cons (pe_str) (pa_cons (pe_str) pa_nil)))
            (fun E σ Hx Qx ⟨R, e0, O, M, b, hA, lv, p1, l5, nf⟩ t kk => ⟨_, e0, R.r, R.dx, _, rfl, hA.ob, rfl, O, R, M, b, "f", _, rfl, hA, nm_sf, t, fun H1 f1 => ⟨fun _ _ => False, rfl, f1.2, fun H2 d f2 n e2 => kk H2 (some d) (f1.trans f2) ⟨_, e2⟩⟩⟩))))) (pss_one ps_never) pss_nil)
    (pss_cons (ps_if (pt_not (pt_val (pe_ask (X := (zHou P w K mg base A outer s H E).nox) (k := 91) T (by rfl) T.t_law_houses_right rfl (by exact List.Mem.tail _ (List.Mem.tail _ (List.Mem.head _))) KN.text (by decide) hr
          (ask_mk (PP := PTea K) (te := fun E => tMethR (C_House K) "teach" (spTeachV (spReadText K) K) E (tVar 5) (tCons (tC (.str "f")) (tCons (tC (.int 5)) tNil))) (LamX.lamS_by (sc := defScope s_law_houses_right) (by decide +kernel)) (by intros; rfl) (by rfl)
            (fun _ _ _ _ _ _ _ h => pe_methR (pe_var (i := 5) rfl (.inr (.inr rfl))) T.c_House T.m_House_teach (R_teachV T (R_read_text T) (fun _ _ _ _ _ z => z)) (h.mono (by decide)) (passX (takes_of rfl rfl rfl rfl) fun _ _ _ _ z => z) (pa_cons (pe_str) (pa_cons (pe_int) pa_nil)))
            (fun E σ Hx Qx ⟨R, e0, O, M, b, hA, lv, p1, l5, nf⟩ t kk => ⟨_, e0, R.r, R.dx, _, rfl, hA.ob, rfl, O, R, M, b, "f", _, rfl, hA, nm_sf, t, fun H1 f1 => ⟨fun _ _ => False, _, _, rfl, .int 5, by decide +kernel, f1.2, fun H2 f2 => kk H2 none (f1.trans f2) trivial⟩⟩))))) (pss_one ps_never) pss_nil)
    (pss_cons (ps_expr (pe_methR (pv 5) T.c_House T.m_House_teach (R_teach T) (hr.mono (by decide)) pass0 (pa_cons (pe_str) (pa_cons (pe_str) pa_nil))))
    (pss_cons (ps_expr (pe_methR (pv 5) T.c_House T.m_House_teach (R_teach T) (hr.mono (by decide)) pass0 (pa_cons (pe_str) (pa_cons (pe_str) pa_nil))))
    (pss_cons (ps_if (PW.pt (pw_or (pt_not (pt_val (pe_ask (X := (zHou P w K mg base A outer s H E).nox) (k := 91) T (by rfl) T.t_law_houses_right rfl (by exact List.Mem.tail _ (List.Mem.tail _ (List.Mem.head _))) KN.many (by decide) hr
          (ask_mk (PP := PTea2 K) (te := fun E => tMethR (C_House K) "teach" (spTeachNames K) E (tVar 5) (tCons (tC (.str "c")) (tCons (tC (.str "if last v then stop")) tNil))) (LamX.lamS_by (sc := defScope s_law_houses_right) (by decide +kernel)) (by intros; rfl) (by rfl)
            (fun _ _ _ _ _ _ _ h => pe_methR (pe_var (i := 5) rfl (.inr (.inr rfl))) T.c_House T.m_House_teach (R_TeachNames T) (h.mono (by decide)) (passX (takes_of rfl rfl rfl rfl) fun _ _ _ _ z => z) (pa_cons (pe_str) (pa_cons (pe_str) pa_nil)))
            (fun E σ Hx Qx ⟨R, e0, O, M, b, hA, lv, p1, l5, m1, m2⟩ t kk => ⟨_, e0, R.r, R.dx, _, rfl, hA.ob, rfl, O, R, M, b, "c", _, _, ["v"], W5, rfl, hA, lv, nm_sc, txt_v (by decide +kernel) (by decide), few_c p1 l5, put_v p1, many_c m1 m2, Nat.le_of_eq l5, t, fun H' f => kk H' none f trivial⟩))))) (pw_or1 (pt_cmpR op_ne (pe_methR (pv 5) T.c_House T.m_House_rules (R_textOf T) (hr.mono (by decide)) pass0 (pa_cons (pe_str) pa_nil)) pe_str (nomark _))))) (pss_one ps_never) pss_nil)
    (pss_one (ps_ret (pe_and (pe_cmpR op_isN (pe_methR (pv 5) T.c_House T.m_House_teach (R_teach T) (hr.mono (by decide)) pass0 (pa_cons (pe_str) (pa_cons (pe_str) pa_nil))) pe_non (nomark _)) (pe_one (pe_cmpR op_isN (pe_methR (pv 5) T.c_House T.m_House_teach (R_teach T) (hr.mono (by decide)) pass0 (pa_cons (pe_str) (pa_cons (pe_str) pa_nil))) pe_non (nomark _)))))))))))))))), ?_⟩
  have la : 0 < ("a" : Str).length ∧ ("a" : Str).length ≤ 1000 := by decide +kernel
  have l11 : (repS 11 "a").length = ("a" : Str).length * 11 := by decide +kernel
  -- six people
  refine rd_set (rd_cb (rd_cons (pairs_read (x := "abcdef") (by decide +kernel) (by show 1 < 6; decide) tb fun H1 D1 ps1 f1 e1 p1 => ?_)))
  refine ⟨D1, ps1, _, rfl, SqL.of e1, p1, fun Ds nDs => ?_⟩
  have f2 : Fr K [] H1 (L2.upd H1 Ds (.dK (mergeK [] (keysT "abcdef" ("abcdef" : Str).cps.size)))) := Fr.new f1.2 nDs
  have e6 : (L2.upd H1 Ds (.dK (mergeK [] (keysT "abcdef" ("abcdef" : Str).cps.size)))) Ds = some (.dK dk6) := by rw [upd_same, merge6]
  generalize L2.upd H1 Ds (.dK (mergeK [] (keysT "abcdef" ("abcdef" : Str).cps.size))) = H2 at f2 e6 ⊢
  have F2 := f1.trans f2
  -- no houses
  have sj : StayJ K (fun H => H Ds = some (.dK dk6)) := fun _ _ h f => f.at h
  refine rd_set (it_row (its_cons sj st_hs (it_c fun _ => .no .non (by decide +kernel)) (its_cons sj st_hs (it_c fun _ => .no (.int 5) (by decide +kernel)) (its_cons sj st_hs (it_imp it_nil fun H v ⟨D, ev, e⟩ => by subst ev; exact .no (.lst e) (by decide +kernel))
    (its_cons sj st_hs (it_c fun _ => .no (.str "a") (by decide +kernel)) (its_cons sj st_hs (fun Hx Qx tx _ kx => fun d nd => kx _ _ (Fr.new tx nd) (hs_bad (bs := []) upd_same .nil (by decide)))
    (its_cons sj st_hs (it_var rfl fun _ j => hs_six j)
    (its_cons sj st_hs (it_disp (kvs := [(Sum.inr "A", .str "")]) (by exact fun H Q q => q) (by decide) fun _ _ e => hs_bad (kvs := [(Sum.inr "A", .str "")]) e (.cons (kvS (by decide +kernel)) .nil) (by decide +kernel))
    (its_cons sj st_hs (it_disp (kvs := [(Sum.inr "a", .int 5)]) (by exact fun H Q q => q) (by decide) fun _ _ e => hs_bad (kvs := [(Sum.inr "a", .int 5)]) e (.cons (kvI (by decide +kernel)) .nil) (by decide +kernel))
    (its_cons sj st_hs (it_disp (kvs := [(Sum.inl 5, .str "")]) (by exact fun H Q q => q) (by decide) fun _ _ e => hs_bad (kvs := [(Sum.inl 5, .str "")]) e (.cons kvK .nil) (by decide +kernel))
    (its_cons sj st_hs (it_disp (kvs := [(Sum.inr "", .str "")]) (by exact fun H Q q => q) (by decide) fun _ _ e => hs_bad (kvs := [(Sum.inr "", .str "")]) e (.cons (kvS (by decide +kernel)) .nil) (by decide +kernel))
    (its_cons sj st_hs (it_disp (kvs := dkAB) (by exact fun H Q q => q) (by decide) fun _ _ e => hs_bad (kvs := dkAB) (by rw [e, mergeAB]) (.cons (kvS (by decide +kernel)) (.cons (kvN (by decide +kernel)) .nil)) (by decide +kernel))
    (its_cons sj st_hs (it_tup0 fun _ _ e => .no (.tup e) (by decide +kernel)) (its_cons sj st_hs (it_c fun _ => .no (.bl true) (by decide +kernel)) its_nil))))))))))))) (by decide) st_hs H2 _ F2.2 e6 fun v H3 f3 ⟨D3, ev, r3⟩ => ?_)
  subst ev
  have F3 := F2.trans f3
  refine rd_seq ?_
  unfold tFor
  refine rd_iL (rd_op ⟨_, rfl, it_row (J := fun _ => True) (G := fun H v => Hs8 H v false) (its_cons (fun _ _ _ _ => trivial) st_hs (it_disp (kvs := [(Sum.inr (repS 11 "a"), .str "")]) (by exact fun H Q q => ⟨"a", rfl, rfl, la.1, la.2, l11, q⟩) (by decide) fun _ _ e => hs_bad (kvs := [(Sum.inr (repS 11 "a"), .str "")]) e (.cons (kvS (by decide +kernel)) .nil) (by decide +kernel)) its_nil) (by decide) st_hs H3 _ F3.2 trivial fun v H4 f4 ⟨D4, ev, r4⟩ => ?_⟩)
  subst ev
  refine row_cat st_hs f4.2 (r3.fr st_hs f4) r4 (by decide) fun H5 D5 f5 r5 => ?_
  have F5 := F3.trans (f4.trans f5)
  obtain ⟨xs, ex, xl, xb⟩ := r5
  refine ⟨D5, rfl, ⟨_, SqL.of ex⟩, ?_⟩
  refine for_list (xs := xs) (fun i σ Hx => (∃ y, σ = [some (V.ref Ds), none, some (.ref D3), y, none, none]) ∧ Fr K [] H5 Hx) ⟨⟨_, rfl⟩, Fr.refl F5.2⟩ (fun i σ Hx _ ⟨_, f⟩ => SqL.of (f.at ex)) (fun i v σ Hx hv ⟨⟨y, es⟩, f⟩ => ?_) (fun σ Hx ⟨⟨y, es⟩, f⟩ => ?_)
  · subst es
    have bad : Hs8 H5 v false := xb v (List.mem_of_getElem? hv)
    refine ⟨f.2, fun H' g => ⟨v, rfl, bad.fr (f.trans g)⟩, fun Ha ga => ⟨true, rfl, iteF ?_⟩⟩
    refine ⟨ga.2, fun H' g => ⟨v, rfl, bad.fr (f.trans (ga.trans g))⟩, fun Hb gb => ⟨true, rfl, iteF ?_⟩⟩
    exact ⟨⟨_, rfl⟩, f.trans (ga.trans gb)⟩
  subst es
  dsimp only
  have F6 := F5.trans f
  clear f5 f4 r4 r3 F5 F3 f3 F2 f2 e6 sj xb ex
  -- five people
  refine rd_set (rd_cb (rd_cons (pairs_read (x := "abcde") (by decide +kernel) (by show 1 < 6; decide) f.2 fun H7 D7 ps7 f7 e7 p7 => ?_)))
  refine ⟨D7, ps7, _, rfl, SqL.of e7, p7, fun D8 nD8 => ?_⟩
  have f8 : Fr K [] H7 (L2.upd H7 D8 (.dK (mergeK [] (keysT "abcde" ("abcde" : Str).cps.size)))) := Fr.new f7.2 nD8
  have e8 : (L2.upd H7 D8 (.dK (mergeK [] (keysT "abcde" ("abcde" : Str).cps.size)))) D8 = some (.dK (txK ts5)) := by rw [upd_same, merge5]
  generalize L2.upd H7 D8 (.dK (mergeK [] (keysT "abcde" ("abcde" : Str).cps.size))) = H8 at f8 e8 ⊢
  have F8 := F6.trans (f7.trans f8)
  refine rd_set ⟨_, rfl, fun a dx na ndx ne => ?_⟩
  have f9 : Fr K [] H8 (L2.upd (L2.upd H8 dx (.own a)) a (.ins (C_House K) dx [])) := (Fr.new (o := .own a) F8.2 ndx).trans (Fr.new (o := .ins (C_House K) dx []) (Fr.new (E := []) (o := .own a) F8.2 ndx).2 (by rw [upd_ne ne.symm]; exact na))
  refine ⟨a, dx, D8, ts5, fun _ => [], [], rfl, upd_same, f9.at e8, hs_5, f9.2, fun H10 R ns f10 er own pm hA => ⟨rfl, ?_⟩⟩
  subst er
  have pm : ns.Perm abcde := pm
  have RO : ∀ x ∈ R.own, H8 x = none := fun x m => by
    rcases own x m with z | z
    · rw [z]; exact na
    · exact upd_live _ (upd_live _ z)
  have f11 : Fr K [] H8 H10 := Fr.drop1 (E := []) ((f9.mono (E' := [] ++ [R.r]) (by simp)).trans f10) na
  have A0 := hA [] (fun _ m => nomatch m) (by simp)
  have lv : ∀ Hx : Hp, Live [] Hx := fun _ _ m => nomatch m
  have ms : ∀ {n : Str}, n ∈ abcde → n ∈ ns := fun m => pm.mem_iff.mpr m
  have ia := ms (n := "a") (by decide +kernel)
  have ib := ms (n := "b") (by decide +kernel)
  have ic := ms (n := "c") (by decide +kernel)
  have ln : ∀ ro : Str → List RuleD, (ns.map fun n => (n, ro n)).length = 5 := fun ro => by rw [List.length_map, pm.length_eq]; rfl
  have nn : ∀ ro : Str → List RuleD, (ns.map fun n => (n, ro n)).map (·.1) = ns := fun ro => by
    rw [List.map_map]
    have e : (fun (q : Str × List RuleD) => q.1) ∘ (fun n => (n, ro n)) = id := rfl
    rw [e, List.map_id]
  have pp : ∀ (τ : L2.St) (Hx : Hp), τ[5]? = some (some (.ref R.r)) → Fr K [] H10 Hx → PTea K τ Hx := fun τ Hx e g => ⟨R, e, [], _, 0, A0.fr0 g, lv _, ppl_ns (ro := fun _ => []) pm (fun _ => Nat.zero_le _) (fun n r m => nomatch m), ln fun _ => [], fun m => by
    rw [show (HM0 (ns.map fun n => (n, ([] : List RuleD))) ts5).ps = ns.map fun n => (n, (fun _ => []) n) from rfl, nn] at m
    exact absurd (pm.mem_iff.mp m) (by decide +kernel)⟩
  -- too many people, no rules, no text
  refine ⟨f11.2, fun H' g => pp _ H' rfl g, fun Ha ga => ⟨true, rfl, iteF ?_⟩⟩
  refine ⟨ga.2, fun H' g => pp _ H' rfl (ga.trans g), fun Hb gb => ⟨true, rfl, iteF ?_⟩⟩
  have gab := ga.trans gb
  refine ⟨gab.2, fun H' g => pp _ H' rfl (gab.trans g), fun Hc gc => ⟨true, rfl, iteF ?_⟩⟩
  have gabc := gab.trans gc
  have A1 := A0.fr0 gabc
  have F1' := f11.trans gabc
  -- two of them taught
  have wXY : ∀ W : List Str, ("x" : Str) ∈ W → ("y" : Str) ∈ W → RWf W (cXY, stopD) := fun W h1 h2 => ⟨⟨by decide, fact_wf (by decide +kernel) (nm1 (by decide +kernel)) h1, fact_wf (by decide +kernel) (nm1 (by decide +kernel)) h2⟩, by decide, by decide, by decide, by decide, stop_wf, by decide, by decide +kernel⟩
  have wZW : ∀ W : List Str, ("z" : Str) ∈ W → ("w" : Str) ∈ W → RWf W (cZW, stopD) := fun W h1 h2 => ⟨⟨by decide, fact_wf (by decide +kernel) (nm1 (by decide +kernel)) h1, fact_wf (by decide +kernel) (nm1 (by decide +kernel)) h2⟩, by decide, by decide, by decide, by decide, stop_wf, by decide, by decide +kernel⟩
  have wV : ∀ W : List Str, ("v" : Str) ∈ W → RWf W (cV, stopD) := fun W h1 => ⟨fact_wf (by decide +kernel) (nm1 (by decide +kernel)) h1, by decide, by decide, by decide, by decide, stop_wf, by decide, by decide +kernel⟩
  have wVU : ∀ W : List Str, ("v" : Str) ∈ W → ("u" : Str) ∈ W → RWf W (cVU, stopD) := fun W h1 h2 => ⟨⟨nm1 (by decide +kernel), nm1 (by decide +kernel), h1, h2⟩, by decide, by decide, by decide, by decide, stop_wf, by decide, by decide +kernel⟩
  let ro1 : Str → List RuleD := fun n => if n = "a" then [(cXY, stopD)] else []
  let ro2 : Str → List RuleD := fun n => if n = "b" then [(cZW, stopD)] else ro1 n
  let ro3 : Str → List RuleD := fun n => if n = "b" then [(cV, stopD)] else ro2 n
  let ro4 : Str → List RuleD := fun n => if n = "c" then [(cVU, stopD)] else ro3 n
  have q1 : putN (ns.map fun n => (n, ([] : List RuleD))) "a" [(cXY, stopD)] = ns.map fun n => (n, ro1 n) := putN_map (ro := fun _ => []) ia
  have q2 : putN (ns.map fun n => (n, ro1 n)) "b" [(cZW, stopD)] = ns.map fun n => (n, ro2 n) := putN_map ib
  have q3 : putN (ns.map fun n => (n, ro2 n)) "b" [(cV, stopD)] = ns.map fun n => (n, ro3 n) := putN_map ib
  have q4 : putN (ns.map fun n => (n, ro3 n)) "c" [(cVU, stopD)] = ns.map fun n => (n, ro4 n) := putN_map ic
  have o1 : ∀ n, (ro1 n).length ≤ 1 := fun n => by show (if n = "a" then [(cXY, stopD)] else []).length ≤ 1; split <;> decide
  have o2 : ∀ n, (ro2 n).length ≤ 1 := fun n => by show (if n = "b" then [(cZW, stopD)] else ro1 n).length ≤ 1; split; (· decide); exact o1 n
  have o3 : ∀ n, (ro3 n).length ≤ 1 := fun n => by show (if n = "b" then [(cV, stopD)] else ro2 n).length ≤ 1; split; (· decide); exact o2 n
  have o4 : ∀ n, (ro4 n).length ≤ 1 := fun n => by show (if n = "c" then [(cVU, stopD)] else ro3 n).length ≤ 1; split; (· decide); exact o3 n
  have w1 : ∀ W : List Str, ("x" : Str) ∈ W → ("y" : Str) ∈ W → ∀ n, ∀ r ∈ ro1 n, RWf W r := fun W h1 h2 n r m => by
    have m : r ∈ (if n = "a" then [(cXY, stopD)] else []) := m
    split at m
    · rw [List.mem_singleton.mp m]; exact wXY W h1 h2
    · cases m
  have w2 : ∀ W : List Str, ("x" : Str) ∈ W → ("y" : Str) ∈ W → ("z" : Str) ∈ W → ("w" : Str) ∈ W → ∀ n, ∀ r ∈ ro2 n, RWf W r := fun W h1 h2 h3 h4 n r m => by
    have m : r ∈ (if n = "b" then [(cZW, stopD)] else ro1 n) := m
    split at m
    · rw [List.mem_singleton.mp m]; exact wZW W h3 h4
    · exact w1 W h1 h2 n r m
  have w3 : ∀ n, ∀ r ∈ ro3 n, RWf W4b r := fun n r m => by
    have m : r ∈ (if n = "b" then [(cV, stopD)] else ro2 n) := m
    split at m
    · rw [List.mem_singleton.mp m]; exact wV W4b (by decide +kernel)
    · rename_i nb
      have m : r ∈ (if n = "b" then [(cZW, stopD)] else ro1 n) := m
      rw [if_neg nb] at m
      exact w1 W4b (by decide +kernel) (by decide +kernel) n r m
  have w4 : ∀ n, ∀ r ∈ ro4 n, RWf W4b r := fun n r m => by
    have m : r ∈ (if n = "c" then [(cVU, stopD)] else ro3 n) := m
    split at m
    · rw [List.mem_singleton.mp m]; exact wVU W4b (by decide +kernel) (by decide +kernel)
    · exact w3 n r m
  try dsimp only [tNext]
  refine rd_exp ⟨_, rfl, R.r, R.dx, _, rfl, A1.ob, rfl, [], R, _, 0, "a", _, [some (cXY, stopD)], W4, rfl, A1, lv _, nm_sa, txt_xy (by decide +kernel) (by decide +kernel) (by decide), ?_, Nat.le_of_eq (ln fun _ => []), (by show ts5.length ≤ 5; decide), F1'.2, fun H12 p12 f12 A2 => ?_⟩
  · show PWf W4 (putN (ns.map fun n => (n, ([] : List RuleD))) "a" [(cXY, stopD)])
    rw [q1]
    exact (ppl_ns pm o1 (w1 W4 (by decide +kernel) (by decide +kernel))).pwf (Nat.le_of_eq (ln ro1)) (by decide)
  have G12 : Fr K [] H8 H12 := (F1'.nil.trans f12).drop RO
  have A2 : HAt K [] H12 { R with p := p12 } ⟨putN (ns.map fun n => (n, ([] : List RuleD))) "a" [(cXY, stopD)], putN ts5 "a" "if has x and has y then stop", [], fun _ _ => [], fun _ => []⟩ 0 := A2
  rw [q1] at A2
  refine rd_exp ⟨_, rfl, R.r, R.dx, _, rfl, A2.ob, rfl, [], { R with p := p12 }, _, 0, "b", _, [some (cZW, stopD)], W4, rfl, A2, lv _, nm_sb, txt_zw (by decide +kernel) (by decide +kernel) (by decide), ?_, Nat.le_of_eq (ln ro1), (by show (putN ts5 "a" "if has x and has y then stop").length ≤ 5; decide +kernel), G12.2, fun H13 p13 f13 A3 => ?_⟩
  · show PWf W4 (putN (ns.map fun n => (n, ro1 n)) "b" [(cZW, stopD)])
    rw [q2]
    exact (ppl_ns pm o2 (w2 W4 (by decide +kernel) (by decide +kernel) (by decide +kernel) (by decide +kernel))).pwf (Nat.le_of_eq (ln ro2)) (by decide)
  have G13 : Fr K [] H8 H13 := (G12.nil.trans f13).drop RO
  have A3 : HAt K [] H13 { R with p := p13 } ⟨putN (ns.map fun n => (n, ro1 n)) "b" [(cZW, stopD)], putN (putN ts5 "a" "if has x and has y then stop") "b" "if has z and first w then stop", [], fun _ _ => [], fun _ => []⟩ 0 := A3
  rw [q2] at A3
  -- a fifth name
  refine ⟨G13.2, fun H' g => ⟨{ R with p := p13 }, rfl, [], _, 0, A3.fr0 g, lv _, ppl_ns pm o2 (w2 W5 (by decide +kernel) (by decide +kernel) (by decide +kernel) (by decide +kernel)), ln ro2, ?_, ?_⟩, fun Hd gd => ⟨true, rfl, iteF ?_⟩⟩
  · exact List.mem_map.mpr ⟨"a", ia, by
      show (("a" : Str), (if ("a" : Str) = "b" then [(cZW, stopD)] else if ("a" : Str) = "a" then [(cXY, stopD)] else [])) = _
      rw [if_neg (by decide +kernel), if_pos rfl]⟩
  · exact List.mem_map.mpr ⟨"b", ib, by
      show (("b" : Str), (if ("b" : Str) = "b" then [(cZW, stopD)] else ro1 "b")) = _
      rw [if_pos rfl]⟩
  have A4 := A3.fr0 gd
  have G14 := G13.trans gd
  have t2 : putN (putN ts5 "a" "if has x and has y then stop") "b" "if has z and first w then stop" = ts5b := by decide +kernel
  refine ⟨_, rfl, R.r, R.dx, _, rfl, A4.ob, rfl, [], { R with p := p13 }, _, 0, "c", "", rfl, A4, nm_sc, ?_, ?_, ?_, G14.2, fun He ge => ⟨rfl, _, rfl, iteNB (by decide +kernel) ?_⟩⟩
  · show ("c" : Str) ∈ (ns.map fun n => (n, ro2 n)).map (·.1)
    rw [nn]; exact ic
  · show ((putN (putN ts5 "a" "if has x and has y then stop") "b" "if has z and first w then stop").map (·.1)).Nodup
    rw [t2]; decide +kernel
  · show (("c" : Str), ("" : Str)) ∈ putN (putN ts5 "a" "if has x and has y then stop") "b" "if has z and first w then stop"
    rw [t2]; exact List.Mem.tail _ (List.Mem.tail _ (List.Mem.head _))
  have A5 := A4.fr0 ge
  have G15 := G14.trans ge
  -- four names
  try dsimp only [tNext]
  refine rd_ret (rd_and ⟨_, rfl, R.r, R.dx, _, rfl, A5.ob, rfl, [], { R with p := p13 }, _, 0, "b", _, [some (cV, stopD)], W4b, rfl, A5, lv _, nm_sb, txt_v (by decide +kernel) (by decide), ?_, Nat.le_of_eq (ln ro2), by
    show (putN (putN ts5 "a" "if has x and has y then stop") "b" "if has z and first w then stop").length ≤ 5
    rw [t2]; decide, G15.2, fun H16 p16 f16 A6 => ⟨rfl, _, rfl, iteB (by decide) ?_⟩⟩)
  · show PWf W4b (putN (ns.map fun n => (n, ro2 n)) "b" [(cV, stopD)])
    rw [q3]
    exact (ppl_ns pm o3 w3).pwf (Nat.le_of_eq (ln ro3)) (by decide)
  have G16 : Fr K [] H8 H16 := (G15.nil.trans f16).drop RO
  have A6 : HAt K [] H16 { R with p := p16 } ⟨putN (ns.map fun n => (n, ro2 n)) "b" [(cV, stopD)], putN (putN (putN ts5 "a" "if has x and has y then stop") "b" "if has z and first w then stop") "b" "if last v then stop", [], fun _ _ => [], fun _ => []⟩ 0 := A6
  rw [q3] at A6
  refine ⟨_, rfl, R.r, R.dx, _, rfl, A6.ob, rfl, [], { R with p := p16 }, _, 0, "c", _, [some (cVU, stopD)], W4b, rfl, A6, lv _, nm_sc, txt_vu (by decide +kernel) (by decide +kernel) (by decide), ?_, Nat.le_of_eq (ln ro3), by
    show (putN (putN (putN ts5 "a" "if has x and has y then stop") "b" "if has z and first w then stop") "b" "if last v then stop").length ≤ 5
    rw [t2]; decide +kernel, G16.2, fun H17 p17 f17 A7 => ⟨rfl, ?_⟩⟩
  · show PWf W4b (putN (ns.map fun n => (n, ro3 n)) "c" [(cVU, stopD)])
    rw [q4]
    exact (ppl_ns pm o4 w4).pwf (Nat.le_of_eq (ln ro4)) (by decide)
  have G17 : Fr K [] H8 H17 := (G16.nil.trans f17).drop RO
  rw [decide_eq_true rfl]
  exact k _ (F8.trans G17)
end
end So
end

section
set_option Elab.async false
set_option linter.all false
set_option maxRecDepth 100000
set_option maxHeartbeats 4000000
/-! the law -/
namespace So
open PySem PySem.Spec PyProof.Rows L2 GxA TL
open GxR (TabB TabG Tabbed)
theorem cut_ints (ns : List Int) (a b : Option Int) : ∃ ms : List Int, cutV (ns.map V.int) a b = ms.map V.int := ⟨_, by unfold cutV; rw [← List.map_drop, ← List.map_take]⟩
def tsL : List (Str × Str) := [("a", "if any then file c")]
def psL : List (Str × List RuleD) := [("a", [(Cnd.any, fileC)])]
def lL : Ltr := ⟨"a", [], 0⟩
def mL : HM := (HM0 psL tsL).delivered "a" lL
theorem mL_ps : mL.ps = psL := rfl
theorem mL_ts : mL.ts = tsL := rfl
theorem mL_ws : mL.ws = [[("a" : Str)]] := by decide +kernel
theorem mL_fc : mL.fil "a" "c" = [0] := by decide +kernel
theorem mL_fb : mL.fil "a" (repS 10 "b") = [] := by decide +kernel
theorem mL_out : mL.out "b" = [] := by decide +kernel
theorem file_wf : RWf [] (Cnd.any, fileC) := (txt_file.wf).1 _ (List.Mem.head _)
theorem pwf_L : PWf [] psL := ⟨fun q m => by rw [List.mem_singleton.mp m]; exact nm_sa, by decide, fun q m r mr => by
  rw [List.mem_singleton.mp m] at mr
  rw [List.mem_singleton.mp mr]
  exact file_wf, by decide, by decide, by decide⟩
theorem hs_L : HsOk tsL (fun _ => [(Cnd.any, fileC)]) [] := ⟨by decide, by decide, fun q m => by rw [List.mem_singleton.mp m]; exact nm_sa, by decide, fun q m => ⟨[some (.any, fileC)], by rw [List.mem_singleton.mp m]; exact txt_file, rfl⟩, by decide⟩
theorem l_L : LWf lL := ⟨nm_sa, fun _ m => (nomatch m), by decide, by decide⟩
section
variable {P : Program} {w : World} {K : PySem.W.Frag} {mg : Str → Option Value} {base : Heap}
def spLaw (K : PySem.W.Frag) : Sp := fun vs H Q _ => ∃ (a : Addr) (ns : List Int), vs = [.ref a] ∧ SqL K H a (ns.map V.int) ∧ ns.length ≤ sizeLine ∧ Tb K H ∧ ∀ H', Q (.bl true) H'
theorem mkOk {x qual : Str} {st : Stmt} {N ps : List Str} {k : Nat} {sp : Sp} {f : Addr} (F : FD K x qual st f) (S : FnScope N ps (defScope st))
    (hb : ∀ (kV doc pm : Value) (an : Option Addr) (cdv ct : Value) (us : List Value), us.length = ps.length → bindArgs (PySem.W.fnOf x qual (defArgs st) (defBody st) (defScope st) .none kV doc pm an cdv ct) ⟨us, []⟩ = pure (ps.zip us))
    (len : ∀ vs H Q E, sp vs H Q E → vs.length = ps.length)
    (hbody : ∀ (cdv : Value) (A : Around) (outer : List Env) (s : Shared) (H : Hp) (vs : List V) (Q : VK) (E : XK), Room k (A.deeper (envOfC qual (defScope st) s.heap.objs.size f cdv)) → sp vs H Q E →
      ∃ t, PSs (cxOf CX0 P w K mg base N qual (defScope st) f cdv A outer s H E) (defBody st) t ∧ t { nx := fun _ H' => Q .non H', rt := Q } (start N vs) H) : ∃ fd, FunD K x qual (defArgs st) (defBody st) (defScope st) [] [] f fd ∧ FnOk P w K mg base CX0 (k + 1) f fd ps sp ∧ Binds K fd ps [] := by
  obtain ⟨fd, F⟩ := F
  exact ⟨fd, F, F.ok S len hbody, F.bindsN hb⟩
theorem R_law (pk : BrX.POk P) (T : Txt w K mg base) (KN : Knds K) : ∃ fd, FunD K "law" "law" (defArgs s_law) (defBody s_law) (defScope s_law) [] [] (a_law K) fd ∧ FnOk P w K mg base CX0 97 (a_law K) fd ["_law_script"] (spLaw K) ∧ Binds K fd ["_law_script"] [] := by
  refine mkOk T.f_law sc_law bd_law ?_ ?_
  · rintro vs H Q E ⟨a, ns, rfl, _⟩; rfl
  rintro cdv A outer s H vs Q E hr ⟨a, ns, rfl, ha, hns, tb, kk⟩
  have nd := sc_law.nd
  obtain ⟨_, F1⟩ := T.f_law_digits
  obtain ⟨_, F2⟩ := T.f_law_letters_right
  obtain ⟨_, F3⟩ := T.f_law_names_right
  obtain ⟨_, F4⟩ := T.f_law_houses_right
  refine ⟨_, pss_cons (ps_set (i := 0) nd rfl (.inl rfl) (pe_slice sl_list (pv 0) po_none (po_some pe_int)))
    (pss_cons (ps_set (i := 1) nd rfl (.inl rfl) (pe_ix ix_list (pe_cF (R_digits T) (hr.mono (by decide)) (by rfl) T.g_law_digits F1.kp (pa_cons (pv 0) (pa_cons (pe_int) (pa_cons (pe_int) (pa_cons (pe_int) pa_nil))))) pe_int (fun _ _ => rfl)))
    (pss_cons (ps_set (i := 2) nd rfl (.inl rfl) (StX.pe_makeR T.mk_House (R_House_init T) (hr.mono (by decide)) (by rfl) T.g_House pass0 (pa_cons (pe_disp (pps_cons pe_str pe_str pps_nil) (by rfl) (by rfl) (fun z => by cases z) (by decide)) pa_nil)))
    (pss_cons (ps_if (PW.pt (pw_or (pt_cmpR op_ne (pe_methR (pv 2) T.c_House T.m_House_deliver (R_deliver T) (hr.mono (by decide)) pass0 (pa_cons (pe_str) (pa_cons (pe_tup (pa_cons (pe_str) (pa_cons (pe_lst pa_nil) (pa_cons (pe_int) pa_nil)))) pa_nil))) pe_int (nomark _)) (pw_or1 (pt_not (pt_val (pe_cF (R_lettersR T KN) (hr.mono (by decide)) (by rfl) T.g_law_letters_right F2.kp (pa_cons (pv 2) (pa_cons (pv 1) pa_nil)))))))) (pss_one ps_never) pss_nil)
    (pss_cons (ps_if (PW.pt (pw_or (pt_not (pt_val (pe_cF (R_namesR T KN) (hr.mono (by decide)) (by rfl) T.g_law_names_right F3.kp (pa_cons (pv 2) (pa_cons (pv 1) pa_nil))))) (pw_or1 (pt_not (pt_val (pe_c0F (R_housesR pk T KN) (hr.mono (by decide)) (by rfl) T.g_law_houses_right F4.kp)))))) (pss_one ps_never) pss_nil)
    (pss_one (ps_ret (pe_and (pe_cmpR (op_eqD hr.units) (pe_methR (pv 2) T.c_House T.m_House_way (R_way T) (hr.mono (by decide)) pass0 (pa_cons (pe_int) pa_nil)) (pe_lst (pa_cons (pe_str) pa_nil)) (nomark _)) (pe_and (pe_cmpR (op_eqD hr.units) (pe_methR (pv 2) T.c_House T.m_House_filed (R_filed T) (hr.mono (by decide)) pass0 (pa_cons (pe_str) (pa_cons (pe_str) pa_nil))) (pe_lst (pa_cons (pe_int) pa_nil)) (nomark _)) (pe_one (pe_cmpR op_eq (pe_methR (pv 2) T.c_House T.m_House_rules (R_textOf T) (hr.mono (by decide)) pass0 (pa_cons (pe_str) pa_nil)) pe_str (nomark _))))))))))), ?_⟩
  refine ⟨_, rfl, 63, rfl, a, _, rfl, ha, fun S nS => ?_⟩
  obtain ⟨ms, ems⟩ := cut_ints ns none (some 63)
  rw [ems]
  have g1 : Fr K [] H (L2.upd H S (.lst (ms.map V.int))) := Fr.new tb nS
  refine ⟨_, rfl, S, ms, 0, 1, 1000003, rfl, SqL.of upd_same, by decide, by decide, by decide, g1.2, fun H2 D2 xs f2 nD2 e2 dr => ?_⟩
  obtain ⟨xl, xb⟩ := dr
  obtain ⟨x, rfl⟩ : ∃ x, xs = [x] := by
    match xs, xl with
    | [x], _ => exact ⟨x, rfl⟩
  obtain ⟨x0, x1⟩ := xb x (List.Mem.head _)
  obtain ⟨n, rfl⟩ := Int.eq_ofNat_of_zero_le x0
  refine ⟨D2, _, _, .int n, rfl, rfl, SqL.of e2, rfl, ?_⟩
  have G2 := g1.trans f2
  -- the house
  refine fun p np => ⟨upd_same, [(Sum.inr "a", .str "if any then file c")], rfl, by decide, fun h dx nh ndx ne => ?_⟩
  have eH : L2.upd (L2.upd H2 p (.dK [])) p (.dK (mergeK [] [(Sum.inr "a", V.str "if any then file c")])) = L2.upd H2 p (.dK (txK tsL)) := by rw [upd_upd]; rfl
  rw [eH] at nh ndx ⊢
  have f3 : Fr K [] H2 (L2.upd H2 p (.dK (txK tsL))) := Fr.new f2.2 np
  have ep : (L2.upd H2 p (.dK (txK tsL))) p = some (.dK (txK tsL)) := upd_same
  generalize L2.upd H2 p (.dK (txK tsL)) = H3 at nh ndx f3 ep ⊢
  clear eH
  have G3 := G2.trans f3
  have f9 : Fr K [] H3 (L2.upd (L2.upd H3 dx (.own h)) h (.ins (C_House K) dx [])) := (Fr.new (o := .own h) G3.2 ndx).trans (Fr.new (o := .ins (C_House K) dx []) (Fr.new (E := []) (o := .own h) G3.2 ndx).2 (by rw [upd_ne ne.symm]; exact nh))
  refine ⟨h, dx, p, tsL, fun _ => [(Cnd.any, fileC)], [], rfl, upd_same, f9.at ep, hs_L, f9.2, fun H4 R ns' f4 er own pm hA => ⟨rfl, ?_⟩⟩
  subst er
  have ens : ns' = [("a" : Str)] := List.perm_singleton.mp pm
  subst ens
  have RO : ∀ x ∈ R.own, H3 x = none := fun x m => by
    rcases own x m with z | z
    · rw [z]; exact nh
    · exact upd_live _ (upd_live _ z)
  have f11 : Fr K [] H3 H4 := Fr.drop1 (E := []) ((f9.mono (E' := [] ++ [R.r]) (by simp)).trans f4) nh
  have A4 := hA [] (fun _ m => nomatch m) (by simp)
  -- a letter
  refine ⟨_, rfl, R.r, R.dx, _, rfl, A4.ob, rfl, Nat.zero_le _, fun l nl => ⟨by show 3 ≤ sizeLine; decide, fun lt nlt => ?_⟩⟩
  have f5 : Fr K [] H4 (L2.upd H4 l (.lst [])) := Fr.new f11.2 nl
  have f6 : Fr K [] H4 (L2.upd (L2.upd H4 l (.lst [])) lt (.tup [.str "a", .ref l, .int 0])) := f5.trans (Fr.new f5.2 nlt)
  have el : (L2.upd (L2.upd H4 l (.lst [])) lt (.tup [.str "a", .ref l, .int 0])) l = some (.lst []) := by rw [upd_ne (ne_of_none upd_same nlt)]; exact upd_same
  have elt : (L2.upd (L2.upd H4 l (.lst [])) lt (.tup [.str "a", .ref l, .int 0])) lt = some (.tup [.str "a", .ref l, .int 0]) := upd_same
  have nlt4 : H4 lt = none := upd_live _ nlt
  generalize L2.upd (L2.upd H4 l (.lst [])) lt (.tup [.str "a", .ref l, .int 0]) = H6 at f6 el elt ⊢
  have A6 := A4.go (N := [lt, l]) (fun x m => by
    rcases List.mem_cons.mp m with rfl | m
    · exact nlt4
    · rw [List.mem_singleton.mp m]; exact nl) f6 fun _ m => nomatch m
  refine ⟨_, R, _, 0, "a", lt, l, lL, [], rfl, A6, fun x m => ?_, pwf_L, List.Mem.head _, List.Mem.head _, List.Mem.tail _ (List.Mem.head _), elt, el, l_L, by decide, Nat.zero_le _, f6.2, fun H7 gr => ⟨rfl, _, rfl, iteNB (by decide +kernel) ?_⟩⟩
  · rcases List.mem_cons.mp m with rfl | m
    · rw [elt]; intro z; cases z
    · rcases List.mem_cons.mp m with rfl | m
      · rw [el]; intro z; cases z
      · cases m
  obtain ⟨f7, fl, sl, A7, own7⟩ := gr
  have A7 : HAt K _ H7 (R.gr fl sl) mL 20000 := A7
  have A7 : HAt K [] H7 (R.gr fl sl) mL 20000 := A7.sub fun _ m => nomatch m
  have G7 : Fr K [] H3 H7 := ((f11.trans f6).nil.trans f7).drop RO
  have na : mL.na = [("a" : Str)] := rfl
  have ia : ("a" : Str) ∈ mL.na := by rw [na]; exact List.Mem.head _
  have ib : ("b" : Str) ∉ mL.na := by rw [na]; decide +kernel
  refine ⟨_, rfl, _, rfl, [], R.gr fl sl, mL, 20000, n, rfl, A7, ia, ib, by omega, G7.2, fun H8 f8 => ⟨true, rfl, iteF ?_⟩⟩
  have A8 := A7.fr0 f8
  refine ⟨_, rfl, _, rfl, [], R.gr fl sl, mL, 20000, n, rfl, A8, na, by rw [mL_ws]; rfl, mL_fb, mL_out, f8.2, fun H9 f9' => ⟨true, rfl, iteF ?_⟩⟩
  refine ⟨rfl, f9'.2, fun H10 f10 => ⟨true, rfl, iteF ?_⟩⟩
  have A10 := A8.fr0 (f9'.trans f10)
  -- what the house still tells
  refine ⟨_, rfl, R.r, R.dx, _, rfl, A10.ob, rfl, [], R.gr fl sl, mL, 20000, 0, ["a"], rfl, A10, by rw [mL_ws]; rfl, f10.2, fun H11 D11 f11' nD11 e11 => ⟨by show 1 ≤ sizeLine; decide, fun q nq => ?_⟩⟩
  have h11 := Fr.new (K := K) (E := []) (o := .lst [.str "a"]) f11'.2 nq
  refine ⟨.list [.str "a"], .list [.str "a"], .lst (SqL.of (h11.at e11)) (.cons (.str _) .nil), .lst (SqL.of upd_same) (.cons (.str _) .nil), by decide +kernel, by decide +kernel, _, rfl, iteB (by decide +kernel) ?_⟩
  have A12 := A10.fr0 (f11'.trans h11)
  refine ⟨_, rfl, R.r, R.dx, _, rfl, A12.ob, rfl, [], R.gr fl sl, mL, 20000, "a", "c", rfl, A12, nm_sa, nm_sc, ia, h11.2, fun H13 D13 f13 nD13 e13 => ⟨by show 1 ≤ sizeLine; decide, fun q2 nq2 => ?_⟩⟩
  rw [mL_fc] at e13
  have h13 := Fr.new (K := K) (E := []) (o := .lst [.int 0]) f13.2 nq2
  refine ⟨.list [.int 0], .list [.int 0], .lst (SqL.of (h13.at e13)) (.cons (.int _) .nil), .lst (SqL.of upd_same) (.cons (.int _) .nil), by decide +kernel, by decide +kernel, _, rfl, iteB (by decide +kernel) ?_⟩
  have A14 := A12.fr0 (f13.trans h13)
  refine ⟨_, rfl, R.r, R.dx, _, rfl, A14.ob, rfl, [], R.gr fl sl, mL, 20000, "a", "if any then file c", rfl, A14, nm_sa, ia, ?_, ?_, h13.2, fun H15 f15 => ⟨rfl, ?_⟩⟩
  · show (tsL.map (·.1)).Nodup
    decide
  · show (("a" : Str), ("if any then file c" : Str)) ∈ tsL
    exact List.Mem.head _
  rw [decide_eq_true rfl]
  exact kk _
end
end So
end

section
set_option Elab.async false
set_option linter.all false
set_option maxRecDepth 100000
set_option maxHeartbeats 4000000
namespace So
open PySem PySem.Spec PyProof.Rows L2 GxA
open GxR (TabG Tabbed)
section
variable {w : World} {K : PySem.W.Frag}
theorem exc_of (F : Facts w K) : ExcT K := ⟨F.ex_SortError, F.ex_BadText, F.ex_BadLetter, F.ex_BadName, F.ex_BadHouse, F.ex_TooMany, F.ex_NoLetter, F.ek_SortError, F.es_SortError, F.ey_SortError, F.ek_BadRule, F.es_BadRule, F.ey_BadRule, F.ek_BadText, F.es_BadText, F.ey_BadText, F.ek_BadLetter, F.es_BadLetter, F.ey_BadLetter, F.ek_BadName, F.es_BadName, F.ey_BadName, F.ek_BadHouse, F.es_BadHouse, F.ey_BadHouse, F.ek_TooMany, F.es_TooMany, F.ey_TooMany, F.ek_NoLetter, F.es_NoLetter, F.ey_NoLetter⟩
theorem bcls_of (h : brClsB K = true) : ∃ nm q N bs bm sn sub ab col dd k0 k1 k2 k3 k5, K.lookup (C_BadRule K) = some (excClassObj nm q (C_BadRule K) N bs bm true sn sub ab col dd k0 k1 k2 k3 k5 "ValueError.__new__") ∧ PySem.HandSPX.refsVE bm = true := by
  unfold brClsB at h
  split at h
  · rename_i t od cd sl lk
    split at h
    · rename_i c bm k0 k1 k2 k3 n k5 em es
      obtain ⟨a1, b1⟩ := Bool.and_eq_true_iff.mp h
      obtain ⟨a2, b2⟩ := Bool.and_eq_true_iff.mp b1
      obtain ⟨a3, b3⟩ := Bool.and_eq_true_iff.mp b2
      obtain ⟨a4, b4⟩ := Bool.and_eq_true_iff.mp b3
      obtain ⟨h5, b5⟩ := Bool.and_eq_true_iff.mp b4
      have h6 := of_decide_eq_true b5
      have h1 := beq_iff_eq.mp a1
      have h2 := beq_iff_eq.mp a2
      clear h b1 b2 b3 b4 b5 a1 a2
      obtain ⟨nm, bs, mro, ns, qn, hd, sn, sub, ab, col, del⟩ := cd
      have h3 : hd = true := a3
      have h4 : del = false := by
        cases del with
        | true => cases a4
        | false => rfl
      have em : mro = .ref c :: bm := em
      clear a3 a4
      subst em h1 h2 h3 h4 h6
      have hsl : sl = #[k0, k1, k2, k3, some (.builtin "ValueError.__new__"), k5] := by
        cases sl with
        | mk l =>
          have es : l = [k0, k1, k2, k3, some (.builtin "ValueError.__new__"), k5] := es
          rw [es]
      subst hsl
      exact ⟨nm, qn, ns, bs, bm, sn, sub, ab, col, od, k0, k1, k2, k3, k5, lk, h5⟩
    · cases h
  · cases h
theorem br_of (F : Facts w K) : BrT K := by
  refine ⟨bcls_of F.b_cls, F.b_sa, F.b_ga, F.b_gg, F.b_nR, F.b_nW, F.b_iC, F.b_tC, F.b_hd, F.b_te, F.b_su, F.b_sV, F.b_mr, F.b_tp, ?_⟩
  have hb := F.b_fnB
  have hw : (match K.lookup (a_BadRule_init K) with
    | some ⟨_, _, .func fd, _⟩ => some (fd.name, fd.qualname, fd.params, fd.body, fd.scope, fd.globals, fd.closure, fd.builtins)
    | _ => none) = some (("__init__" : Str), ("BadRule.__init__" : Str), defArgs s_BadRule_init, FuncBody.stmts (defBody s_BadRule_init), defScope s_BadRule_init, mainGlobals, [(("__class__" : Str), brCell K)], builtinsNs) := F.b_fnW
  unfold brFnB at hb
  split at hb
  · rename_i oc od fd osl lk
    rw [lk] at hw
    obtain ⟨n1, n2, n3, n4, n5, n6, n7, n8, n9, n10, n11, n12, n13, n14, n15⟩ := fd
    simp only [Option.some.injEq, Prod.mk.injEq] at hw
    obtain ⟨h1, h2, h3, h4, h5, h6, h7, h8⟩ := hw
    simp only at hb
    obtain ⟨d1, hb1⟩ := Bool.and_eq_true_iff.mp hb
    obtain ⟨d2, hb2⟩ := Bool.and_eq_true_iff.mp hb1
    obtain ⟨d3, hb3⟩ := Bool.and_eq_true_iff.mp hb2
    obtain ⟨d4, d5⟩ := Bool.and_eq_true_iff.mp hb3
    clear hb hb1 hb2 hb3
    have e8 : n8 = .none := by cases n8 <;> first | rfl | cases d1
    have e9 : n9 = .none := by cases n9 <;> first | rfl | cases d2
    split at d4
    · rename_i cda
      split at d4
      · rename_i ccl cdd vs ccs lk2
        split at d4
        · rename_i file tf ev
          split at d5
          · rename_i cl cld c csl lk3
            have d6 := beq_iff_eq.mp d5
            subst d6
            subst h1 h2 h3 h4 h5 h6 h8 e8 e9
            refine ⟨oc, od, n10, n11, n12, cda, n14, osl, brCell K, vs, file, tf, ccl, cdd, ccs, cl, cld, csl, ?_, d3, lk2, ev, d4, lk3⟩
            rw [lk, h7]
          · cases d5
        · cases d4
      · cases d4
    · cases d4
  · cases hb
theorem knds_of (F : Facts w K) : Knds K := ⟨⟨⟨F.h0g, F.h0k, F.es_BadLetter, F.h0d, F.h0a, F.h_hn, F.h_ht, F.h0m⟩, F.h0s, F.h0_0, F.h0_1, F.h0_2, F.h0_3, F.h0_4, F.h0_5, F.h0_6, F.h0v⟩,
  ⟨⟨F.h1g, F.h1k, F.es_BadName, F.h1d, F.h1a, F.h_hn, F.h_ht, F.h1m⟩, F.h1s, F.h1_0, F.h1_1, F.h1_2, F.h1_3, F.h1_4, F.h1_5, F.h1_6, F.h1v⟩,
  ⟨⟨F.h2g, F.h2k, F.es_BadHouse, F.h2d, F.h2a, F.h_hn, F.h_ht, F.h2m⟩, F.h2s, F.h2_0, F.h2_1, F.h2_2, F.h2_3, F.h2_4, F.h2_5, F.h2_6, F.h2v⟩,
  ⟨⟨F.h3g, F.h3k, F.es_NoLetter, F.h3d, F.h3a, F.h_hn, F.h_ht, F.h3m⟩, F.h3s, F.h3_0, F.h3_1, F.h3_2, F.h3_3, F.h3_4, F.h3_5, F.h3_6, F.h3v⟩,
  ⟨⟨F.h4g, F.h4k, F.es_TooMany, F.h4d, F.h4a, F.h_hn, F.h_ht, F.h4m⟩, F.h4s, F.h4_0, F.h4_1, F.h4_2, F.h4_3, F.h4_4, F.h4_5, F.h4_6, F.h4v⟩,
  ⟨⟨F.h5g, F.h5k, F.es_BadText, F.h5d, F.h5a, F.h_hn, F.h_ht, F.h5m⟩, F.h5s, F.h5_0, F.h5_1, F.h5_2, F.h5_3, F.h5_4, F.h5_5, F.h5_6, F.h5v⟩,
  ⟨⟨F.h6g, F.h6k, F.es_BadRule, F.h6d, F.h6a, F.h_hn, F.h_ht, F.h6m⟩, F.h6s, F.h6_0, F.h6_1, F.h6_2, F.h6_3, F.h6_4, F.h6_5, F.h6_6, F.h6v⟩⟩
theorem mkTxt {mg : Str → Option Value} {h : Heap} (F : Facts w K) (X : K.In h) (G : h.Ns mainGlobals mg)
    (Tb_is_name : GxR.TabB h mg (cc_is_name K) (tb_is_name K)) (Tb_is_letter : GxR.TabB h mg (cc_is_letter K) (tb_is_letter K)) (Tb_is_number : GxR.TabB h mg (cc_is_number K) (tb_is_number K)) (Tb_Way_holds : GxR.TabB h mg (cc_Way_holds K) (tb_Way_holds K)) (Tb_is_house : GxR.TabB h mg (cc_is_house K) (tb_is_house K)) (Tb_law_letters_right : GxR.TabB h mg (cc_law_letters_right K) (tb_law_letters_right K)) (Tb_law_names_right : GxR.TabB h mg (cc_law_names_right K) (tb_law_names_right K)) (Tb_law_houses_right : GxR.TabB h mg (cc_law_houses_right K) (tb_law_houses_right K)) : Txt w K mg h where
  f_is_name := He.DefD.funD F.z_is_name F.y_is_name
  g_is_name := He.glo_ok X G F.g_is_name
  f_is_size := He.DefD.funD F.z_is_size F.y_is_size
  g_is_size := He.glo_ok X G F.g_is_size
  f_is_letter := He.DefD.funD F.z_is_letter F.y_is_letter
  g_is_letter := He.glo_ok X G F.g_is_letter
  f_name_key := He.DefD.funD F.z_name_key F.y_name_key
  g_name_key := He.glo_ok X G F.g_name_key
  f_in_order := He.DefD.funD F.z_in_order F.y_in_order
  g_in_order := He.glo_ok X G F.g_in_order
  f_Rule_init := He.DefD.funD F.z_Rule_init F.y_Rule_init
  f_Reader_init := He.DefD.funD F.z_Reader_init F.y_Reader_init
  f_Reader_fail := He.DefD.funD F.z_Reader_fail F.y_Reader_fail
  m_Reader_fail := He.meth_ok F.m_Reader_fail
  f_Reader_peek := He.DefD.funD F.z_Reader_peek F.y_Reader_peek
  m_Reader_peek := He.meth_ok F.m_Reader_peek
  f_Reader_take := He.DefD.funD F.z_Reader_take F.y_Reader_take
  m_Reader_take := He.meth_ok F.m_Reader_take
  f_Reader_skip := He.DefD.funD F.z_Reader_skip F.y_Reader_skip
  m_Reader_skip := He.meth_ok F.m_Reader_skip
  f_Reader_take_name := He.DefD.funD F.z_Reader_take_name F.y_Reader_take_name
  m_Reader_take_name := He.meth_ok F.m_Reader_take_name
  f_Reader_take_number := He.DefD.funD F.z_Reader_take_number F.y_Reader_take_number
  m_Reader_take_number := He.meth_ok F.m_Reader_take_number
  f_Reader_read_rule := He.DefD.funD F.z_Reader_read_rule F.y_Reader_read_rule
  m_Reader_read_rule := He.meth_ok F.m_Reader_read_rule
  f_Reader_read_condition := He.DefD.funD F.z_Reader_read_condition F.y_Reader_read_condition
  m_Reader_read_condition := He.meth_ok F.m_Reader_read_condition
  f_Reader_read_joined := He.DefD.funD F.z_Reader_read_joined F.y_Reader_read_joined
  m_Reader_read_joined := He.meth_ok F.m_Reader_read_joined
  f_Reader_read_single := He.DefD.funD F.z_Reader_read_single F.y_Reader_read_single
  m_Reader_read_single := He.meth_ok F.m_Reader_read_single
  f_Reader_read_fact := He.DefD.funD F.z_Reader_read_fact F.y_Reader_read_fact
  m_Reader_read_fact := He.meth_ok F.m_Reader_read_fact
  f_Reader_read_deed := He.DefD.funD F.z_Reader_read_deed F.y_Reader_read_deed
  m_Reader_read_deed := He.meth_ok F.m_Reader_read_deed
  f_is_number := He.DefD.funD F.z_is_number F.y_is_number
  g_is_number := He.glo_ok X G F.g_is_number
  f_words_of := He.DefD.funD F.z_words_of F.y_words_of
  g_words_of := He.glo_ok X G F.g_words_of
  f_rule_of := He.DefD.funD F.z_rule_of F.y_rule_of
  g_rule_of := He.glo_ok X G F.g_rule_of
  f_read := He.DefD.funD F.z_read F.y_read
  g_read := He.glo_ok X G F.g_read
  f_check_names := He.DefD.funD F.z_check_names F.y_check_names
  g_check_names := He.glo_ok X G F.g_check_names
  f_word_names := He.DefD.funD F.z_word_names F.y_word_names
  g_word_names := He.glo_ok X G F.g_word_names
  f_facts_of := He.DefD.funD F.z_facts_of F.y_facts_of
  g_facts_of := He.glo_ok X G F.g_facts_of
  f_add_facts := He.DefD.funD F.z_add_facts F.y_add_facts
  g_add_facts := He.glo_ok X G F.g_add_facts
  f_sort := He.DefD.funD F.z_sort F.y_sort
  g_sort := He.glo_ok X G F.g_sort
  f_acting := He.DefD.funD F.z_acting F.y_acting
  g_acting := He.glo_ok X G F.g_acting
  f_check_letter := He.DefD.funD F.z_check_letter F.y_check_letter
  g_check_letter := He.glo_ok X G F.g_check_letter
  f_way_through := He.DefD.funD F.z_way_through F.y_way_through
  g_way_through := He.glo_ok X G F.g_way_through
  f_Way_init := He.DefD.funD F.z_Way_init F.y_Way_init
  f_Way_outcome := He.DefD.funD F.z_Way_outcome F.y_Way_outcome
  m_Way_outcome := He.meth_ok F.m_Way_outcome
  f_Way_act := He.DefD.funD F.z_Way_act F.y_Way_act
  m_Way_act := He.meth_ok F.m_Way_act
  f_Way_holds := He.DefD.funD F.z_Way_holds F.y_Way_holds
  m_Way_holds := He.meth_ok F.m_Way_holds
  f_Way_fact_holds := He.DefD.funD F.z_Way_fact_holds F.y_Way_fact_holds
  m_Way_fact_holds := He.meth_ok F.m_Way_fact_holds
  f_Way_has_pair := He.DefD.funD F.z_Way_has_pair F.y_Way_has_pair
  m_Way_has_pair := He.meth_ok F.m_Way_has_pair
  f_ring := He.DefD.funD F.z_ring F.y_ring
  g_ring := He.glo_ok X G F.g_ring
  f_is_house := He.DefD.funD F.z_is_house F.y_is_house
  g_is_house := He.glo_ok X G F.g_is_house
  f_read_house := He.DefD.funD F.z_read_house F.y_read_house
  g_read_house := He.glo_ok X G F.g_read_house
  f_all_rules := He.DefD.funD F.z_all_rules F.y_all_rules
  g_all_rules := He.glo_ok X G F.g_all_rules
  f_House_init := He.DefD.funD F.z_House_init F.y_House_init
  f_House_deliver := He.DefD.funD F.z_House_deliver F.y_House_deliver
  m_House_deliver := He.meth_ok F.m_House_deliver
  f_House_sort_at := He.DefD.funD F.z_House_sort_at F.y_House_sort_at
  m_House_sort_at := He.meth_ok F.m_House_sort_at
  f_House_way := He.DefD.funD F.z_House_way F.y_House_way
  m_House_way := He.meth_ok F.m_House_way
  f_House_filed := He.DefD.funD F.z_House_filed F.y_House_filed
  m_House_filed := He.meth_ok F.m_House_filed
  f_House_outside := He.DefD.funD F.z_House_outside F.y_House_outside
  m_House_outside := He.meth_ok F.m_House_outside
  f_House_teach := He.DefD.funD F.z_House_teach F.y_House_teach
  m_House_teach := He.meth_ok F.m_House_teach
  f_House_rules := He.DefD.funD F.z_House_rules F.y_House_rules
  m_House_rules := He.meth_ok F.m_House_rules
  f_House_check_person := He.DefD.funD F.z_House_check_person F.y_House_check_person
  m_House_check_person := He.meth_ok F.m_House_check_person
  f_reaching := He.DefD.funD F.z_reaching F.y_reaching
  g_reaching := He.glo_ok X G F.g_reaching
  f_law_draw := He.DefD.funD F.z_law_draw F.y_law_draw
  g_law_draw := He.glo_ok X G F.g_law_draw
  f_law_cell_at := He.DefD.funD F.z_law_cell_at F.y_law_cell_at
  g_law_cell_at := He.glo_ok X G F.g_law_cell_at
  f_law_digits := He.DefD.funD F.z_law_digits F.y_law_digits
  g_law_digits := He.glo_ok X G F.g_law_digits
  f_law_kinds := He.DefD.funD F.z_law_kinds F.y_law_kinds
  g_law_kinds := He.glo_ok X G F.g_law_kinds
  f_law_is := He.DefD.funD F.z_law_is F.y_law_is
  g_law_is := He.glo_ok X G F.g_law_is
  f_law_letters_right := He.DefD.funD F.z_law_letters_right F.y_law_letters_right
  g_law_letters_right := He.glo_ok X G F.g_law_letters_right
  f_law_names_right := He.DefD.funD F.z_law_names_right F.y_law_names_right
  g_law_names_right := He.glo_ok X G F.g_law_names_right
  f_law_houses_right := He.DefD.funD F.z_law_houses_right F.y_law_houses_right
  g_law_houses_right := He.glo_ok X G F.g_law_houses_right
  f_law := He.DefD.funD F.z_law F.y_law
  g_law := He.glo_ok X G F.g_law
  c_Rule := He.cls_ok F.c_Rule
  mk_Rule := He.mkr_ok F.mk_Rule
  g_Rule := He.glo_ok X G F.g_Rule
  n_Rule_words := He.noat_ok F.n_Rule_words
  n_Rule_condition := He.noat_ok F.n_Rule_condition
  n_Rule_deeds := He.noat_ok F.n_Rule_deeds
  c_Reader := He.cls_ok F.c_Reader
  mk_Reader := He.mkr_ok F.mk_Reader
  g_Reader := He.glo_ok X G F.g_Reader
  n_Reader_words := He.noat_ok F.n_Reader_words
  n_Reader_row := He.noat_ok F.n_Reader_row
  n_Reader_at := He.noat_ok F.n_Reader_at
  c_Way := He.cls_ok F.c_Way
  mk_Way := He.mkr_ok F.mk_Way
  g_Way := He.glo_ok X G F.g_Way
  n_Way_words := He.noat_ok F.n_Way_words
  n_Way_marks := He.noat_ok F.n_Way_marks
  n_Way_folders := He.noat_ok F.n_Way_folders
  n_Way_receivers := He.noat_ok F.n_Way_receivers
  n_Way_acts := He.noat_ok F.n_Way_acts
  n_Way_stopped := He.noat_ok F.n_Way_stopped
  n_Way_sender := He.noat_ok F.n_Way_sender
  n_Way_size := He.noat_ok F.n_Way_size
  c_House := He.cls_ok F.c_House
  mk_House := He.mkr_ok F.mk_House
  g_House := He.glo_ok X G F.g_House
  n_House_people := He.noat_ok F.n_House_people
  n_House_texts := He.noat_ok F.n_House_texts
  n_House_ways := He.noat_ok F.n_House_ways
  n_House_filings := He.noat_ok F.n_House_filings
  n_House_sent := He.noat_ok F.n_House_sent
  g_SortError := He.glo_ok X G F.g_SortError
  g_BadRule := He.glo_ok X G F.g_BadRule
  g_BadText := He.glo_ok X G F.g_BadText
  g_BadLetter := He.glo_ok X G F.g_BadLetter
  g_BadName := He.glo_ok X G F.g_BadName
  g_BadHouse := He.glo_ok X G F.g_BadHouse
  g_TooMany := He.glo_ok X G F.g_TooMany
  g_NoLetter := He.glo_ok X G F.g_NoLetter
  z_all := He.free_ok X G F.fr_all
  z_isinstance := He.free_ok X G F.fr_isinstance
  z_str := He.free_ok X G F.fr_str
  z_len := He.free_ok X G F.fr_len
  z_bool := He.free_ok X G F.fr_bool
  z_int := He.free_ok X G F.fr_int
  z_tuple := He.free_ok X G F.fr_tuple
  z_list := He.free_ok X G F.fr_list
  z_sorted := He.free_ok X G F.fr_sorted
  z_min := He.free_ok X G F.fr_min
  z_range := He.free_ok X G F.fr_range
  z_enumerate := He.free_ok X G F.fr_enumerate
  z_any := He.free_ok X G F.fr_any
  z_dict := He.free_ok X G F.fr_dict
  z_abs := He.free_ok X G F.fr_abs
  z_sum := He.free_ok X G F.fr_sum
  z_ValueError := He.free_ok X G F.fr_ValueError
  i_NONE := He.int_ok X G F.i_NONE
  i_ALL := He.int_ok X G F.i_ALL
  i_SIGNS := He.str_ok X G F.i_SIGNS
  i_LONGEST_NAME := He.int_ok X G F.i_LONGEST_NAME
  i_BIGGEST_SIZE := He.int_ok X G F.i_BIGGEST_SIZE
  i_MOST_WORDS := He.int_ok X G F.i_MOST_WORDS
  i_MOST_NAMES := He.int_ok X G F.i_MOST_NAMES
  i_LONGEST_NUMBER := He.int_ok X G F.i_LONGEST_NUMBER
  i_DIGITS := He.str_ok X G F.i_DIGITS
  g_FACTS := He.glo_ok X G F.g_FACTS
  g_DEEDS := He.glo_ok X G F.g_DEEDS
  g_WORD_FACTS := He.glo_ok X G F.g_WORD_FACTS
  g_TOLD := He.glo_ok X G F.g_TOLD
  i_FOLDERS := He.int_ok X G F.i_FOLDERS
  i_RECEIVERS := He.int_ok X G F.i_RECEIVERS
  i_MOST_PEOPLE := He.int_ok X G F.i_MOST_PEOPLE
  t_FACTS := He.dicW_ok F.t_FACTS
  v_FACTS := fun q hq => by
    simp only [List.mem_cons, List.not_mem_nil, or_false] at hq
    rcases hq with rfl | rfl | rfl | rfl | rfl | rfl
    · exact He.valsB_ok F.v_FACTS (q := ("from", .int 1)) (by simp)
    · exact He.valsB_ok F.v_FACTS (q := ("has", .int 1)) (by simp)
    · exact He.valsB_ok F.v_FACTS (q := ("first", .int 1)) (by simp)
    · exact He.valsB_ok F.v_FACTS (q := ("last", .int 1)) (by simp)
    · exact He.valsB_ok F.v_FACTS (q := ("pair", .int 2)) (by simp)
    · exact He.valsB_ok F.v_FACTS (q := ("marked", .int 1)) (by simp)
  t_DEEDS := fun H => He.tupB_ok F.t_DEEDS H
  n_FACTS := F.n_FACTS
  t_WORD_FACTS := fun H => He.tupB_ok F.t_WORD_FACTS H
  t_is_name := Tb_is_name
  t_is_letter := Tb_is_letter
  t_is_number := Tb_is_number
  t_Way_holds := Tb_Way_holds
  t_is_house := Tb_is_house
  t_law_letters_right := Tb_law_letters_right
  t_law_names_right := Tb_law_names_right
  t_law_houses_right := Tb_law_houses_right
  exc := exc_of F
  bad := br_of F
  z_super := He.free_ok X G F.fr_super
end
end So
end

section
set_option Elab.async false
set_option linter.all false
set_option maxRecDepth 100000
set_option maxHeartbeats 4000000
/-! the facts of the top, told by one run -/
namespace So
open PySem PySem.Spec PyProof.Rows L2 GxA
open GxR (TabG Tabbed)
theorem endY {l : PySem.W.OpenLaw} {q : Program} {loose : List Str} {XP : (Str → Option Value) → Heap → Prop} {YP : World → Heap → Prop} {d : DefRec} (hn : l.most = some 63) (pk : BrX.POk l.prog) (hdf : d.params.defaults = []) (hd : d.name = "law")
    (hY : ∀ (w : World) (h : Heap), YP w h → ∃ K : PySem.W.Frag, K.In h ∧ SaysY w h K) : PySem.W.WalkO q loose XP YP l.row.toRowW d [] (fun f vs => PySem.call f vs) := by
  refine LamX.walk_ofTsE (n := 63) (k := 97) (CX := fun _ => CX0) (x := "_law_script") hn (by decide) hdf ⟨rfl, by decide, by decide⟩ (fun w mg fa h Y G hmg => ?_) (fun _ _ _ _ _ z => z)
  obtain ⟨K, X, cY⟩ := hY w h Y
  have s := saidY cY
  have XT : ∀ P ∈ (tfT.map fun p => (He.cT K p).2), h.get? P = some (PySem.W.tabObj #[]) := fun P m => by
    obtain ⟨p, hp, rfl⟩ := List.mem_map.mp m
    exact cY.emp p hp
  refine ⟨K, X, ?_⟩
  have hc : ∀ p ∈ tfT, PySem.W.codeHdIn K (He.cT K p).1 (He.cT K p).2 = true ∧ K.lookup (He.cT K p).2 = none := fun p m => by
    obtain ⟨a, b⟩ := Bool.and_eq_true_iff.mp (List.all_eq_true.mp s.code p m)
    exact ⟨a, Option.isNone_iff_eq_none.mp b⟩
  have hE : ∀ p ∈ tfT, h.get? (He.cT K p).2 = some (PySem.W.tabObj #[]) := fun p m => XT _ (List.mem_map.mpr ⟨p, m, rfl⟩)
  have fax : fa = a_law K := by
    have := He.glo_ok X G s.f.g_law
    rw [hd, this] at hmg
    injection hmg with z
    injection z with z
    exact z.symm
  subst fax
  obtain ⟨fd, FD0⟩ := (He.DefD.funD s.f.z_law s.f.y_law : FD K "law" "law" s_law (a_law K))
  refine ⟨fd, tfT.map (He.cT K), spLaw K, ?_, ?_, ?_, lawB FD0, ?_, ?_⟩
  · intro p m
    obtain ⟨t, ht, rfl⟩ := List.mem_map.mp m
    exact hE t ht
  · intro p m
    obtain ⟨t, ht, rfl⟩ := List.mem_map.mp m
    exact (hc t ht).2
  · intro p m
    obtain ⟨t, ht, rfl⟩ := List.mem_map.mp m
    exact PySem.W.codeHd_of_K X (hc t ht).1
  · intro H a ns hl _ hT hS
    have ap := apart8 (of_decide_eq_true s.apart)
    have at_ : ∀ t ∈ tfT, H (He.cT K t).2 = some (.tbl #[]) := fun t ht => hT _ (List.mem_map.mpr ⟨t, ht, rfl⟩)
    refine ⟨a, ns, rfl, hS, Nat.le_trans hl (by decide), ⟨fun p m => ?_, ap, fun p m => ?_⟩, fun H' => rfl⟩
    · have hp : ∃ t ∈ tfT, p = (He.cT K t).2 := by
        simp only [tabs, List.mem_cons, List.not_mem_nil, or_false] at m
        rcases m with rfl | rfl | rfl | rfl | rfl
        · exact ⟨("is_name", none), by simp [tfT], rfl⟩
        · exact ⟨("is_letter", none), by simp [tfT], rfl⟩
        · exact ⟨("is_number", none), by simp [tfT], rfl⟩
        · exact ⟨("Way", some "holds"), by simp [tfT], rfl⟩
        · exact ⟨("is_house", none), by simp [tfT], rfl⟩
      obtain ⟨t, ht, rfl⟩ := hp
      exact ⟨#[], at_ t ht, by first | trivial | exact .nil | (unfold TriplesOk; trivial) | (intro _ m; cases m)⟩
    · simp only [ltabs, List.mem_cons, List.not_mem_nil, or_false] at m
      rcases m with rfl | rfl | rfl
      · exact LamX.TabS.nil (at_ ("_law_letters_right", none) (by simp [tfT]))
      · exact LamX.TabS.nil (at_ ("_law_names_right", none) (by simp [tfT]))
      · exact LamX.TabS.nil (at_ ("_law_houses_right", none) (by simp [tfT]))
  · intro base X2 G2 hB
    have tb : ∀ t ∈ tfT, GxR.TabB base mg (He.cT K t).1 (He.cT K t).2 := fun t ht => by
      have z := hB _ (List.mem_map.mpr ⟨t, ht, rfl⟩)
      exact ⟨z.code, z.bm, z.gP⟩
    have T : Txt w K mg base := mkTxt s.f X2 G2 (tb _ (by simp [tfT])) (tb _ (by simp [tfT])) (tb _ (by simp [tfT])) (tb _ (by simp [tfT])) (tb _ (by simp [tfT])) (tb _ (by simp [tfT])) (tb _ (by simp [tfT])) (tb _ (by simp [tfT]))
    obtain ⟨fd', F', ok, _⟩ := R_law (P := l.prog) pk T (knds_of s.f)
    obtain rfl := one_fd FD0 F'
    exact ok
end So
end

section
open PySem PySem.W PyProof.Rows
set_option Elab.async false
set_option linter.all false
set_option maxRecDepth 100000 in
set_option maxHeartbeats 0 in
theorem PySem.Challenge.cw_sortpost_k08_refused_holds : PySem.Challenge.rw_sortpost_k08_refused.Holds := by
  w_on; o_law
  refine HandSHeadRun.head_any (r := So.lawR) (q := So.qv) (H := So.hk) (ob := So.obY) (M := 12000) (loose := So.nms) (d := HandSHeadRun.topDef So.lawR.prog 93) (kwd := []) So.obY_eq (by kernel_rfl) (fun s => by kernel_rfl) So.run (by kernel_rfl) (by kernel_rfl) (by kernel_rfl) (by rfl) (by first | assumption | decide +kernel) (by decide +kernel) ⟨rfl, rfl, rfl, rfl, rfl, by decide +kernel⟩ ?hw ?hc
  case hw => w_witness2
  case hc => exact So.endY (l := PySem.Challenge.rw_sortpost_k08_refused) rfl ⟨rfl, rfl⟩ (by kernel_rfl) (by kernel_rfl) (fun w h Y => Y)
end
