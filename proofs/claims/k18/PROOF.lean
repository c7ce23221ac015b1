import PyProof.Rows.All
import Wide.All
import OpenK.AllK
import Wide.FinOn
import HandS.ForMost
import HandS.Wide
import HandS.IsInst
import HandS.Style
import HandS.Defaults
import HandS.Walk
import HandS.Zip
import HandS.ExcOwn
import HandS.ExcField
import HandS.ExcIs
import HandS.ExcInit
import HandS.WordsExc
import HandS.Exc
import HandS.CallSlots
import KE.KExcSuper
import KE.KExcLine
import KE.RegKSuper
import KE.GoesEnum
import HandS.More
import HandS.Deep
import HandS.Small
import HandS.Conv
import HandS.TupLen
import HandS.TupMul
import HandS.TupAny
import HandS.Star
import HandS.DictComp
import KE.DataMinKey
import HandS.DictTup
import KE.KDictCopyH
import KE.KDictPairs
import KE.KDictOf
import HandS.Small
import HandS.Head0
import HandS.Head1
import HandS.Head2
import HandS.HeadEnd
import HandS.HeadHook1
import HandS.HeadHook2
import PySem.Challenge.RW_causehall_k18_whole_one_row_told
set_option Elab.async false
set_option linter.all false
set_option maxRecDepth 100000
set_option maxHeartbeats 4000000
namespace CH
open PySem PySem.Spec PyProof.Rows L2
def topS (i : Nat) : Stmt := PySem.Challenge.pw_causehall_k18_whole_one_row_told.main.body.getD i (.Pass ⟨0, 0, 0, 0⟩)

abbrev s_is_whole : Stmt := topS 21
theorem sc_is_whole : FnScope ["thing", "low", "high"] ["thing", "low", "high"] (defScope s_is_whole) := ⟨rfl, rfl, rfl, by decide +kernel, rfl, by decide +kernel, by decide +kernel⟩
abbrev s_is_text_of : Stmt := topS 23
theorem sc_is_text_of : FnScope ["thing", "first", "last", "most", "sign"] ["thing", "first", "last", "most"] (defScope s_is_text_of) := ⟨rfl, rfl, rfl, by decide +kernel, rfl, by decide +kernel, by decide +kernel⟩
abbrev s_is_word : Stmt := topS 22
theorem sc_is_word : FnScope ["thing"] ["thing"] (defScope s_is_word) := ⟨rfl, rfl, rfl, by decide +kernel, rfl, by decide +kernel, by decide +kernel⟩
abbrev s_is_list : Stmt := topS 28
theorem sc_is_list : FnScope ["thing"] ["thing"] (defScope s_is_list) := ⟨rfl, rfl, rfl, by decide +kernel, rfl, by decide +kernel, by decide +kernel⟩
abbrev s_is_member : Stmt := topS 29
theorem sc_is_member : FnScope ["thing", "members"] ["thing", "members"] (defScope s_is_member) := ⟨rfl, rfl, rfl, by decide +kernel, rfl, by decide +kernel, by decide +kernel⟩
abbrev s_is_ident : Stmt := topS 30
theorem sc_is_ident : FnScope ["thing", "members", "high"] ["thing", "members", "high"] (defScope s_is_ident) := ⟨rfl, rfl, rfl, by decide +kernel, rfl, by decide +kernel, by decide +kernel⟩
abbrev s_check_members : Stmt := topS 32
theorem sc_check_members : FnScope ["members"] ["members"] (defScope s_check_members) := ⟨rfl, rfl, rfl, by decide +kernel, rfl, by decide +kernel, by decide +kernel⟩
abbrev s_is_row : Stmt := topS 58
theorem sc_is_row : FnScope ["thing", "members"] ["thing", "members"] (defScope s_is_row) := ⟨rfl, rfl, rfl, by decide +kernel, rfl, by decide +kernel, by decide +kernel⟩
abbrev s_is_history : Stmt := topS 49
theorem sc_is_history : FnScope ["members", "rows", "row"] ["members", "rows"] (defScope s_is_history) := ⟨rfl, rfl, rfl, by decide +kernel, rfl, by decide +kernel, by decide +kernel⟩
abbrev s_check_history : Stmt := topS 57
theorem sc_check_history : FnScope ["members", "rows"] ["members", "rows"] (defScope s_check_history) := ⟨rfl, rfl, rfl, by decide +kernel, rfl, by decide +kernel, by decide +kernel⟩
abbrev s_law_cell_at : Stmt := topS 61
theorem sc_law_cell_at : FnScope ["script", "k"] ["script", "k"] (defScope s_law_cell_at) := ⟨rfl, rfl, rfl, by decide +kernel, rfl, by decide +kernel, by decide +kernel⟩
abbrev s_law_take : Stmt := topS 63
theorem sc_law_take : FnScope ["pool", "size", "found"] ["pool", "size"] (defScope s_law_take) := ⟨rfl, rfl, rfl, by decide +kernel, rfl, by decide +kernel, by decide +kernel⟩
abbrev s_law_pool : Stmt := topS 62
theorem sc_law_pool : FnScope ["cell", "number", "k", "mix"] ["cell"] (defScope s_law_pool) := ⟨rfl, rfl, rfl, by decide +kernel, rfl, by decide +kernel, by decide +kernel⟩
abbrev s_law_word : Stmt := topS 71
theorem sc_law_word : FnScope ["pool", "word", "k"] ["pool"] (defScope s_law_word) := ⟨rfl, rfl, rfl, by decide +kernel, rfl, by decide +kernel, by decide +kernel⟩
abbrev s_check_member : Stmt := topS 33
theorem sc_check_member : FnScope ["member", "members"] ["member", "members"] (defScope s_check_member) := ⟨rfl, rfl, rfl, by decide +kernel, rfl, by decide +kernel, by decide +kernel⟩
abbrev s_are_changes : Stmt := topS 31
theorem sc_are_changes : FnScope ["thing", "members", "low", "high", "changed", "change", "member", "count"] ["thing", "members", "low", "high"] (defScope s_are_changes) := ⟨rfl, rfl, rfl, by decide +kernel, rfl, by decide +kernel, by decide +kernel⟩
abbrev s_Counts_init : Stmt := inClass (topS 35) 0
theorem sc_Counts_init : FnScope ["self", "numbers", "number"] ["self", "numbers"] (defScope s_Counts_init) := ⟨rfl, rfl, rfl, by decide +kernel, rfl, by decide +kernel, by decide +kernel⟩
abbrev s_Counts_len : Stmt := inClass (topS 35) 1
theorem sc_Counts_len : FnScope ["self"] ["self"] (defScope s_Counts_len) := ⟨rfl, rfl, rfl, by decide +kernel, rfl, by decide +kernel, by decide +kernel⟩
abbrev s_Counts_told : Stmt := inClass (topS 35) 5
theorem sc_Counts_told : FnScope ["self"] ["self"] (defScope s_Counts_told) := ⟨rfl, rfl, rfl, by decide +kernel, rfl, by decide +kernel, by decide +kernel⟩
abbrev s_Counts_of : Stmt := inClass (topS 35) 6
theorem sc_Counts_of : FnScope ["self", "member"] ["self", "member"] (defScope s_Counts_of) := ⟨rfl, rfl, rfl, by decide +kernel, rfl, by decide +kernel, by decide +kernel⟩
abbrev s_Counts_changed : Stmt := inClass (topS 35) 14
theorem sc_Counts_changed : FnScope ["self", "changes", "numbers", "member", "count"] ["self", "changes"] (defScope s_Counts_changed) := ⟨rfl, rfl, rfl, by decide +kernel, rfl, by decide +kernel, by decide +kernel⟩
abbrev s_Counts_raised : Stmt := inClass (topS 35) 12
theorem sc_Counts_raised : FnScope ["self", "member", "by"] ["self", "member", "by"] (defScope s_Counts_raised) := ⟨rfl, rfl, rfl, by decide +kernel, rfl, by decide +kernel, by decide +kernel⟩
abbrev s_Counts_check_like : Stmt := inClass (topS 35) 15
theorem sc_Counts_check_like : FnScope ["self", "other"] ["self", "other"] (defScope s_Counts_check_like) := ⟨rfl, rfl, rfl, by decide +kernel, rfl, by decide +kernel, by decide +kernel⟩
abbrev s_Counts_changes_from : Stmt := inClass (topS 35) 13
theorem sc_Counts_changes_from : FnScope ["self", "other", "member", "number"] ["self", "other"] (defScope s_Counts_changes_from) := ⟨rfl, rfl, rfl, by decide +kernel, rfl, by decide +kernel, by decide +kernel⟩
abbrev s_Counts_covers : Stmt := inClass (topS 35) 10
theorem sc_Counts_covers : FnScope ["self", "other", "own", "its"] ["self", "other"] (defScope s_Counts_covers) := ⟨rfl, rfl, rfl, by decide +kernel, rfl, by decide +kernel, by decide +kernel⟩
abbrev s_check_number_and_word : Stmt := topS 38
theorem sc_check_number_and_word : FnScope ["number", "word"] ["number", "word"] (defScope s_check_number_and_word) := ⟨rfl, rfl, rfl, by decide +kernel, rfl, by decide +kernel, by decide +kernel⟩
abbrev s_Letter_init : Stmt := inClass (topS 37) 0
theorem sc_Letter_init : FnScope ["self", "sender", "number", "word", "causes"] ["self", "sender", "number", "word", "causes"] (defScope s_Letter_init) := ⟨rfl, rfl, rfl, by decide +kernel, rfl, by decide +kernel, by decide +kernel⟩
abbrev s_Letter_sender : Stmt := inClass (topS 37) 3
theorem sc_Letter_sender : FnScope ["self"] ["self"] (defScope s_Letter_sender) := ⟨rfl, rfl, rfl, by decide +kernel, rfl, by decide +kernel, by decide +kernel⟩
abbrev s_Letter_number : Stmt := inClass (topS 37) 4
theorem sc_Letter_number : FnScope ["self"] ["self"] (defScope s_Letter_number) := ⟨rfl, rfl, rfl, by decide +kernel, rfl, by decide +kernel, by decide +kernel⟩
abbrev s_Letter_causes : Stmt := inClass (topS 37) 6
theorem sc_Letter_causes : FnScope ["self"] ["self"] (defScope s_Letter_causes) := ⟨rfl, rfl, rfl, by decide +kernel, rfl, by decide +kernel, by decide +kernel⟩
abbrev s_Letter_id_of : Stmt := inClass (topS 37) 8
theorem sc_Letter_id_of : FnScope ["self"] ["self"] (defScope s_Letter_id_of) := ⟨rfl, rfl, rfl, by decide +kernel, rfl, by decide +kernel, by decide +kernel⟩
abbrev s_is_letter_ahead : Stmt := topS 41
theorem sc_is_letter_ahead : FnScope ["thing", "sender", "number", "members"] ["thing", "sender", "number", "members"] (defScope s_is_letter_ahead) := ⟨rfl, rfl, rfl, by decide +kernel, rfl, by decide +kernel, by decide +kernel⟩
abbrev s_row_ahead : Stmt := topS 42
theorem sc_row_ahead : FnScope ["ahead", "members"] ["ahead", "members"] (defScope s_row_ahead) := ⟨rfl, rfl, rfl, by decide +kernel, rfl, by decide +kernel, by decide +kernel⟩
abbrev s_changes_of : Stmt := topS 40
theorem sc_changes_of : FnScope ["letter", "ahead", "row", "base", "change"] ["letter", "ahead"] (defScope s_changes_of) := ⟨rfl, rfl, rfl, by decide +kernel, rfl, by decide +kernel, by decide +kernel⟩
abbrev s_ids_beyond : Stmt := topS 46
theorem sc_ids_beyond : FnScope ["counts", "row", "members", "member", "number"] ["counts", "row"] (defScope s_ids_beyond) := ⟨rfl, rfl, rfl, by decide +kernel, rfl, by decide +kernel, by decide +kernel⟩
abbrev s_Book_init : Stmt := inClass (topS 45) 0
theorem sc_Book_init : FnScope ["self", "members", "_"] ["self", "members"] (defScope s_Book_init) := ⟨rfl, rfl, rfl, by decide +kernel, rfl, by decide +kernel, by decide +kernel⟩
abbrev s_Book_len : Stmt := inClass (topS 45) 1
theorem sc_Book_len : FnScope ["self"] ["self"] (defScope s_Book_len) := ⟨rfl, rfl, rfl, by decide +kernel, rfl, by decide +kernel, by decide +kernel⟩
abbrev s_Book_counts : Stmt := inClass (topS 45) 3
theorem sc_Book_counts : FnScope ["self"] ["self"] (defScope s_Book_counts) := ⟨rfl, rfl, rfl, by decide +kernel, rfl, by decide +kernel, by decide +kernel⟩
abbrev s_Book_letter : Stmt := inClass (topS 45) 5
theorem sc_Book_letter : FnScope ["self", "ident"] ["self", "ident"] (defScope s_Book_letter) := ⟨rfl, rfl, rfl, by decide +kernel, rfl, by decide +kernel, by decide +kernel⟩
abbrev s_Book_ahead : Stmt := inClass (topS 45) 6
theorem sc_Book_ahead : FnScope ["self", "ident"] ["self", "ident"] (defScope s_Book_ahead) := ⟨rfl, rfl, rfl, by decide +kernel, rfl, by decide +kernel, by decide +kernel⟩
abbrev s_Book_check_new : Stmt := inClass (topS 45) 14
theorem sc_Book_check_new : FnScope ["self", "letter", "ident"] ["self", "letter"] (defScope s_Book_check_new) := ⟨rfl, rfl, rfl, by decide +kernel, rfl, by decide +kernel, by decide +kernel⟩
abbrev s_Book_covers_its_causes : Stmt := inClass (topS 45) 15
theorem sc_Book_covers_its_causes : FnScope ["self", "row", "last", "member", "count", "ident"] ["self", "row"] (defScope s_Book_covers_its_causes) := ⟨rfl, rfl, rfl, by decide +kernel, rfl, by decide +kernel, by decide +kernel⟩
abbrev s_Book_keep : Stmt := inClass (topS 45) 2
theorem sc_Book_keep : FnScope ["self", "letter", "row", "lacking", "changes", "member", "count"] ["self", "letter"] (defScope s_Book_keep) := ⟨rfl, rfl, rfl, by decide +kernel, rfl, by decide +kernel, by decide +kernel⟩
abbrev s_is_told_otherwise : Stmt := topS 59
theorem sc_is_told_otherwise : FnScope ["row", "place", "ident"] ["row", "place", "ident"] (defScope s_is_told_otherwise) := ⟨rfl, rfl, rfl, by decide +kernel, rfl, by decide +kernel, by decide +kernel⟩
abbrev s_Course_init : Stmt := inClass (topS 55) 0
theorem sc_Course_init : FnScope ["self", "members", "_"] ["self", "members"] (defScope s_Course_init) := ⟨rfl, rfl, rfl, by decide +kernel, rfl, by decide +kernel, by decide +kernel⟩
abbrev s_Course_deliver : Stmt := inClass (topS 55) 10
theorem sc_Course_deliver : FnScope ["self", "member", "ident"] ["self", "member", "ident"] (defScope s_Course_deliver) := ⟨rfl, rfl, rfl, by decide +kernel, rfl, by decide +kernel, by decide +kernel⟩
abbrev s_Course_send : Stmt := inClass (topS 55) 9
theorem sc_Course_send : FnScope ["self", "member", "word", "counts", "letter"] ["self", "member", "word"] (defScope s_Course_send) := ⟨rfl, rfl, rfl, by decide +kernel, rfl, by decide +kernel, by decide +kernel⟩
abbrev s_Course_happen : Stmt := inClass (topS 55) 8
theorem sc_Course_happen : FnScope ["self", "row", "member"] ["self", "row"] (defScope s_Course_happen) := ⟨rfl, rfl, rfl, by decide +kernel, rfl, by decide +kernel, by decide +kernel⟩
abbrev s_Course_why_not_got : Stmt := inClass (topS 55) 6
theorem sc_Course_why_not_got : FnScope ["self", "member", "ident", "sender", "number"] ["self", "member", "ident"] (defScope s_Course_why_not_got) := ⟨rfl, rfl, rfl, by decide +kernel, rfl, by decide +kernel, by decide +kernel⟩
abbrev s_Course_why_not_told : Stmt := inClass (topS 55) 7
theorem sc_Course_why_not_told : FnScope ["self", "member", "place", "ident", "told", "row", "cause"] ["self", "member", "place", "ident"] (defScope s_Course_why_not_told) := ⟨rfl, rfl, rfl, by decide +kernel, rfl, by decide +kernel, by decide +kernel⟩
abbrev s_Course_why_not : Stmt := inClass (topS 55) 5
theorem sc_Course_why_not : FnScope ["self", "row"] ["self", "row"] (defScope s_Course_why_not) := ⟨rfl, rfl, rfl, by decide +kernel, rfl, by decide +kernel, by decide +kernel⟩
abbrev s_Course_follow : Stmt := inClass (topS 55) 1
theorem sc_Course_follow : FnScope ["self", "rows", "place", "row", "word"] ["self", "rows"] (defScope s_Course_follow) := ⟨rfl, rfl, rfl, by decide +kernel, rfl, by decide +kernel, by decide +kernel⟩
abbrev s_first_wrong : Stmt := topS 50
theorem sc_first_wrong : FnScope ["members", "rows"] ["members", "rows"] (defScope s_first_wrong) := ⟨rfl, rfl, rfl, by decide +kernel, rfl, by decide +kernel, by decide +kernel⟩
abbrev s_law_model : Stmt := topS 64
theorem sc_law_model : FnScope ["members", "got", "later", "k"] ["members"] (defScope s_law_model) := ⟨rfl, rfl, rfl, by decide +kernel, rfl, by decide +kernel, by decide +kernel⟩
abbrev s_law_otherwise : Stmt := topS 65
theorem sc_law_otherwise : FnScope ["model", "member", "place", "ident", "k", "row"] ["model", "member", "place", "ident"] (defScope s_law_otherwise) := ⟨rfl, rfl, rfl, by decide +kernel, rfl, by decide +kernel, by decide +kernel⟩
abbrev s_law_has : Stmt := topS 66
theorem sc_law_has : FnScope ["model", "rows", "ident", "cause"] ["model", "rows", "ident"] (defScope s_law_has) := ⟨rfl, rfl, rfl, by decide +kernel, rfl, by decide +kernel, by decide +kernel⟩
abbrev s_law_why_got : Stmt := topS 67
theorem sc_law_why_got : FnScope ["model", "member", "ident", "rows"] ["model", "member", "ident"] (defScope s_law_why_got) := ⟨rfl, rfl, rfl, by decide +kernel, rfl, by decide +kernel, by decide +kernel⟩
abbrev s_law_why : Stmt := topS 68
theorem sc_law_why : FnScope ["model", "row", "member", "ident", "rows"] ["model", "row"] (defScope s_law_why) := ⟨rfl, rfl, rfl, by decide +kernel, rfl, by decide +kernel, by decide +kernel⟩
abbrev s_law_go : Stmt := topS 69
theorem sc_law_go : FnScope ["model", "row", "member", "ident", "word", "sent"] ["model", "row"] (defScope s_law_go) := ⟨rfl, rfl, rfl, by decide +kernel, rfl, by decide +kernel, by decide +kernel⟩
abbrev s_law_may : Stmt := topS 70
theorem sc_law_may : FnScope ["model", "member", "place", "rows", "sender", "number", "row"] ["model", "member"] (defScope s_law_may) := ⟨rfl, rfl, rfl, by decide +kernel, rfl, by decide +kernel, by decide +kernel⟩
abbrev s_law_new_row : Stmt := topS 72
theorem sc_law_new_row : FnScope ["model", "members", "wild", "pool", "way", "odd", "member", "pick", "ident", "rows", "row"] ["model", "members", "wild", "pool"] (defScope s_law_new_row) := ⟨rfl, rfl, rfl, by decide +kernel, rfl, by decide +kernel, by decide +kernel⟩
abbrev s_law_rows : Stmt := topS 73
theorem sc_law_rows : FnScope ["script", "start", "wild", "members", "model", "rows", "cell", "row", "good"] ["script", "start", "wild"] (defScope s_law_rows) := ⟨rfl, rfl, rfl, by decide +kernel, rfl, by decide +kernel, by decide +kernel⟩
abbrev s_Book_twin : Stmt := inClass (topS 45) 9
theorem sc_Book_twin : FnScope ["self", "twin", "ident", "letter", "waits"] ["self"] (defScope s_Book_twin) := ⟨rfl, rfl, rfl, by decide +kernel, rfl, by decide +kernel, by decide +kernel⟩
abbrev s_Course_book : Stmt := inClass (topS 55) 2
theorem sc_Course_book : FnScope ["self"] ["self"] (defScope s_Course_book) := ⟨rfl, rfl, rfl, by decide +kernel, rfl, by decide +kernel, by decide +kernel⟩
abbrev s_Course_got : Stmt := inClass (topS 55) 3
theorem sc_Course_got : FnScope ["self", "member"] ["self", "member"] (defScope s_Course_got) := ⟨rfl, rfl, rfl, by decide +kernel, rfl, by decide +kernel, by decide +kernel⟩
abbrev s_Course_told : Stmt := inClass (topS 55) 4
theorem sc_Course_told : FnScope ["self", "member"] ["self", "member"] (defScope s_Course_told) := ⟨rfl, rfl, rfl, by decide +kernel, rfl, by decide +kernel, by decide +kernel⟩
abbrev s_course_of : Stmt := topS 56
theorem sc_course_of : FnScope ["members", "rows", "course", "wrong"] ["members", "rows"] (defScope s_course_of) := ⟨rfl, rfl, rfl, by decide +kernel, rfl, by decide +kernel, by decide +kernel⟩
abbrev s_book_of : Stmt := topS 51
theorem sc_book_of : FnScope ["members", "rows"] ["members", "rows"] (defScope s_book_of) := ⟨rfl, rfl, rfl, by decide +kernel, rfl, by decide +kernel, by decide +kernel⟩
abbrev s_got_by : Stmt := topS 52
theorem sc_got_by : FnScope ["members", "rows", "member", "course"] ["members", "rows", "member"] (defScope s_got_by) := ⟨rfl, rfl, rfl, by decide +kernel, rfl, by decide +kernel, by decide +kernel⟩
abbrev s_told_by : Stmt := topS 53
theorem sc_told_by : FnScope ["members", "rows", "member", "course"] ["members", "rows", "member"] (defScope s_told_by) := ⟨rfl, rfl, rfl, by decide +kernel, rfl, by decide +kernel, by decide +kernel⟩
abbrev s_longest_told : Stmt := topS 54
theorem sc_longest_told : FnScope ["members", "rows", "course", "member"] ["members", "rows"] (defScope s_longest_told) := ⟨rfl, rfl, rfl, by decide +kernel, rfl, by decide +kernel, by decide +kernel⟩
abbrev s_Book_is_order : Stmt := inClass (topS 45) 12
theorem sc_Book_is_order : FnScope ["self", "thing", "counts", "ident", "letter"] ["self", "thing"] (defScope s_Book_is_order) := ⟨rfl, rfl, rfl, by decide +kernel, rfl, by decide +kernel, by decide +kernel⟩
abbrev s_law_left : Stmt := topS 74
theorem sc_law_left : FnScope ["members", "rows", "wrong"] ["members", "rows"] (defScope s_law_left) := ⟨rfl, rfl, rfl, by decide +kernel, rfl, by decide +kernel, by decide +kernel⟩
abbrev s_law_keeps : Stmt := topS 75
theorem sc_law_keeps : FnScope ["book", "idents", "k", "numbers", "ident"] ["book", "idents"] (defScope s_law_keeps) := ⟨rfl, rfl, rfl, by decide +kernel, rfl, by decide +kernel, by decide +kernel⟩
abbrev s_law : Stmt := topS 76
theorem sc_law : FnScope ["script", "members", "rows", "book", "longest", "most", "member", "got", "row", "ident"] ["script"] (defScope s_law) := ⟨rfl, rfl, rfl, by decide +kernel, rfl, by decide +kernel, by decide +kernel⟩
def dd_is_whole : He.DefD := ⟨("is_whole", none), "is_whole", "is_whole", defArgs s_is_whole, defBody s_is_whole, defScope s_is_whole, [.non], []⟩
def dd_is_text_of : He.DefD := ⟨("is_text_of", none), "is_text_of", "is_text_of", defArgs s_is_text_of, defBody s_is_text_of, defScope s_is_text_of, [], []⟩
def dd_is_word : He.DefD := ⟨("is_word", none), "is_word", "is_word", defArgs s_is_word, defBody s_is_word, defScope s_is_word, [], []⟩
def dd_is_list : He.DefD := ⟨("is_list", none), "is_list", "is_list", defArgs s_is_list, defBody s_is_list, defScope s_is_list, [], []⟩
def dd_is_member : He.DefD := ⟨("is_member", none), "is_member", "is_member", defArgs s_is_member, defBody s_is_member, defScope s_is_member, [], []⟩
def dd_is_ident : He.DefD := ⟨("is_ident", none), "is_ident", "is_ident", defArgs s_is_ident, defBody s_is_ident, defScope s_is_ident, [.non], []⟩
def dd_check_members : He.DefD := ⟨("check_members", none), "check_members", "check_members", defArgs s_check_members, defBody s_check_members, defScope s_check_members, [], []⟩
def dd_is_row : He.DefD := ⟨("is_row", none), "is_row", "is_row", defArgs s_is_row, defBody s_is_row, defScope s_is_row, [], []⟩
def dd_is_history : He.DefD := ⟨("is_history", none), "is_history", "is_history", defArgs s_is_history, defBody s_is_history, defScope s_is_history, [], []⟩
def dd_check_history : He.DefD := ⟨("check_history", none), "check_history", "check_history", defArgs s_check_history, defBody s_check_history, defScope s_check_history, [], []⟩
def dd_law_cell_at : He.DefD := ⟨("_law_cell_at", none), "_law_cell_at", "_law_cell_at", defArgs s_law_cell_at, defBody s_law_cell_at, defScope s_law_cell_at, [], []⟩
def dd_law_take : He.DefD := ⟨("_law_take", none), "_law_take", "_law_take", defArgs s_law_take, defBody s_law_take, defScope s_law_take, [], []⟩
def dd_law_pool : He.DefD := ⟨("_law_pool", none), "_law_pool", "_law_pool", defArgs s_law_pool, defBody s_law_pool, defScope s_law_pool, [], []⟩
def dd_law_word : He.DefD := ⟨("_law_word", none), "_law_word", "_law_word", defArgs s_law_word, defBody s_law_word, defScope s_law_word, [], []⟩
def dd_check_member : He.DefD := ⟨("check_member", none), "check_member", "check_member", defArgs s_check_member, defBody s_check_member, defScope s_check_member, [], []⟩
def dd_are_changes : He.DefD := ⟨("are_changes", none), "are_changes", "are_changes", defArgs s_are_changes, defBody s_are_changes, defScope s_are_changes, [.non], []⟩
def dd_Counts_init : He.DefD := ⟨("Counts", some "__init__"), "__init__", "Counts.__init__", defArgs s_Counts_init, defBody s_Counts_init, defScope s_Counts_init, [], []⟩
def dd_Counts_len : He.DefD := ⟨("Counts", some "__len__"), "__len__", "Counts.__len__", defArgs s_Counts_len, defBody s_Counts_len, defScope s_Counts_len, [], []⟩
def dd_Counts_told : He.DefD := ⟨("Counts", some "told"), "told", "Counts.told", defArgs s_Counts_told, defBody s_Counts_told, defScope s_Counts_told, [], []⟩
def dd_Counts_of : He.DefD := ⟨("Counts", some "of"), "of", "Counts.of", defArgs s_Counts_of, defBody s_Counts_of, defScope s_Counts_of, [], []⟩
def dd_Counts_changed : He.DefD := ⟨("Counts", some "changed"), "changed", "Counts.changed", defArgs s_Counts_changed, defBody s_Counts_changed, defScope s_Counts_changed, [], []⟩
def dd_Counts_raised : He.DefD := ⟨("Counts", some "raised"), "raised", "Counts.raised", defArgs s_Counts_raised, defBody s_Counts_raised, defScope s_Counts_raised, [.int 1], []⟩
def dd_Counts_check_like : He.DefD := ⟨("Counts", some "_check_like"), "_check_like", "Counts._check_like", defArgs s_Counts_check_like, defBody s_Counts_check_like, defScope s_Counts_check_like, [], []⟩
def dd_Counts_changes_from : He.DefD := ⟨("Counts", some "changes_from"), "changes_from", "Counts.changes_from", defArgs s_Counts_changes_from, defBody s_Counts_changes_from, defScope s_Counts_changes_from, [], []⟩
def dd_Counts_covers : He.DefD := ⟨("Counts", some "covers"), "covers", "Counts.covers", defArgs s_Counts_covers, defBody s_Counts_covers, defScope s_Counts_covers, [], []⟩
def dd_check_number_and_word : He.DefD := ⟨("check_number_and_word", none), "check_number_and_word", "check_number_and_word", defArgs s_check_number_and_word, defBody s_check_number_and_word, defScope s_check_number_and_word, [], []⟩
def dd_Letter_init : He.DefD := ⟨("Letter", some "__init__"), "__init__", "Letter.__init__", defArgs s_Letter_init, defBody s_Letter_init, defScope s_Letter_init, [], []⟩
def dd_Letter_sender : He.DefD := ⟨("Letter", some "sender"), "sender", "Letter.sender", defArgs s_Letter_sender, defBody s_Letter_sender, defScope s_Letter_sender, [], []⟩
def dd_Letter_number : He.DefD := ⟨("Letter", some "number"), "number", "Letter.number", defArgs s_Letter_number, defBody s_Letter_number, defScope s_Letter_number, [], []⟩
def dd_Letter_causes : He.DefD := ⟨("Letter", some "causes"), "causes", "Letter.causes", defArgs s_Letter_causes, defBody s_Letter_causes, defScope s_Letter_causes, [], []⟩
def dd_Letter_id_of : He.DefD := ⟨("Letter", some "id_of"), "id_of", "Letter.id_of", defArgs s_Letter_id_of, defBody s_Letter_id_of, defScope s_Letter_id_of, [], []⟩
def dd_is_letter_ahead : He.DefD := ⟨("is_letter_ahead", none), "is_letter_ahead", "is_letter_ahead", defArgs s_is_letter_ahead, defBody s_is_letter_ahead, defScope s_is_letter_ahead, [], []⟩
def dd_row_ahead : He.DefD := ⟨("row_ahead", none), "row_ahead", "row_ahead", defArgs s_row_ahead, defBody s_row_ahead, defScope s_row_ahead, [], []⟩
def dd_changes_of : He.DefD := ⟨("changes_of", none), "changes_of", "changes_of", defArgs s_changes_of, defBody s_changes_of, defScope s_changes_of, [.non], []⟩
def dd_ids_beyond : He.DefD := ⟨("ids_beyond", none), "ids_beyond", "ids_beyond", defArgs s_ids_beyond, defBody s_ids_beyond, defScope s_ids_beyond, [], []⟩
def dd_Book_init : He.DefD := ⟨("Book", some "__init__"), "__init__", "Book.__init__", defArgs s_Book_init, defBody s_Book_init, defScope s_Book_init, [], []⟩
def dd_Book_len : He.DefD := ⟨("Book", some "__len__"), "__len__", "Book.__len__", defArgs s_Book_len, defBody s_Book_len, defScope s_Book_len, [], []⟩
def dd_Book_counts : He.DefD := ⟨("Book", some "counts"), "counts", "Book.counts", defArgs s_Book_counts, defBody s_Book_counts, defScope s_Book_counts, [], []⟩
def dd_Book_letter : He.DefD := ⟨("Book", some "letter"), "letter", "Book.letter", defArgs s_Book_letter, defBody s_Book_letter, defScope s_Book_letter, [], []⟩
def dd_Book_ahead : He.DefD := ⟨("Book", some "ahead"), "ahead", "Book.ahead", defArgs s_Book_ahead, defBody s_Book_ahead, defScope s_Book_ahead, [], []⟩
def dd_Book_check_new : He.DefD := ⟨("Book", some "_check_new"), "_check_new", "Book._check_new", defArgs s_Book_check_new, defBody s_Book_check_new, defScope s_Book_check_new, [], []⟩
def dd_Book_covers_its_causes : He.DefD := ⟨("Book", some "_covers_its_causes"), "_covers_its_causes", "Book._covers_its_causes", defArgs s_Book_covers_its_causes, defBody s_Book_covers_its_causes, defScope s_Book_covers_its_causes, [], []⟩
def dd_Book_keep : He.DefD := ⟨("Book", some "keep"), "keep", "Book.keep", defArgs s_Book_keep, defBody s_Book_keep, defScope s_Book_keep, [], []⟩
def dd_is_told_otherwise : He.DefD := ⟨("is_told_otherwise", none), "is_told_otherwise", "is_told_otherwise", defArgs s_is_told_otherwise, defBody s_is_told_otherwise, defScope s_is_told_otherwise, [], []⟩
def dd_Course_init : He.DefD := ⟨("Course", some "__init__"), "__init__", "Course.__init__", defArgs s_Course_init, defBody s_Course_init, defScope s_Course_init, [], []⟩
def dd_Course_deliver : He.DefD := ⟨("Course", some "_deliver"), "_deliver", "Course._deliver", defArgs s_Course_deliver, defBody s_Course_deliver, defScope s_Course_deliver, [], []⟩
def dd_Course_send : He.DefD := ⟨("Course", some "_send"), "_send", "Course._send", defArgs s_Course_send, defBody s_Course_send, defScope s_Course_send, [], []⟩
def dd_Course_happen : He.DefD := ⟨("Course", some "_happen"), "_happen", "Course._happen", defArgs s_Course_happen, defBody s_Course_happen, defScope s_Course_happen, [], []⟩
def dd_Course_why_not_got : He.DefD := ⟨("Course", some "_why_not_got"), "_why_not_got", "Course._why_not_got", defArgs s_Course_why_not_got, defBody s_Course_why_not_got, defScope s_Course_why_not_got, [], []⟩
def dd_Course_why_not_told : He.DefD := ⟨("Course", some "_why_not_told"), "_why_not_told", "Course._why_not_told", defArgs s_Course_why_not_told, defBody s_Course_why_not_told, defScope s_Course_why_not_told, [], []⟩
def dd_Course_why_not : He.DefD := ⟨("Course", some "_why_not"), "_why_not", "Course._why_not", defArgs s_Course_why_not, defBody s_Course_why_not, defScope s_Course_why_not, [], []⟩
def dd_Course_follow : He.DefD := ⟨("Course", some "follow"), "follow", "Course.follow", defArgs s_Course_follow, defBody s_Course_follow, defScope s_Course_follow, [], []⟩
def dd_first_wrong : He.DefD := ⟨("first_wrong", none), "first_wrong", "first_wrong", defArgs s_first_wrong, defBody s_first_wrong, defScope s_first_wrong, [], []⟩
def dd_law_model : He.DefD := ⟨("_law_model", none), "_law_model", "_law_model", defArgs s_law_model, defBody s_law_model, defScope s_law_model, [], []⟩
def dd_law_otherwise : He.DefD := ⟨("_law_otherwise", none), "_law_otherwise", "_law_otherwise", defArgs s_law_otherwise, defBody s_law_otherwise, defScope s_law_otherwise, [], []⟩
def dd_law_has : He.DefD := ⟨("_law_has", none), "_law_has", "_law_has", defArgs s_law_has, defBody s_law_has, defScope s_law_has, [], []⟩
def dd_law_why_got : He.DefD := ⟨("_law_why_got", none), "_law_why_got", "_law_why_got", defArgs s_law_why_got, defBody s_law_why_got, defScope s_law_why_got, [], []⟩
def dd_law_why : He.DefD := ⟨("_law_why", none), "_law_why", "_law_why", defArgs s_law_why, defBody s_law_why, defScope s_law_why, [], []⟩
def dd_law_go : He.DefD := ⟨("_law_go", none), "_law_go", "_law_go", defArgs s_law_go, defBody s_law_go, defScope s_law_go, [], []⟩
def dd_law_may : He.DefD := ⟨("_law_may", none), "_law_may", "_law_may", defArgs s_law_may, defBody s_law_may, defScope s_law_may, [], []⟩
def dd_law_new_row : He.DefD := ⟨("_law_new_row", none), "_law_new_row", "_law_new_row", defArgs s_law_new_row, defBody s_law_new_row, defScope s_law_new_row, [], []⟩
def dd_law_rows : He.DefD := ⟨("_law_rows", none), "_law_rows", "_law_rows", defArgs s_law_rows, defBody s_law_rows, defScope s_law_rows, [], []⟩
def dd_Book_twin : He.DefD := ⟨("Book", some "twin"), "twin", "Book.twin", defArgs s_Book_twin, defBody s_Book_twin, defScope s_Book_twin, [], []⟩
def dd_Course_book : He.DefD := ⟨("Course", some "book"), "book", "Course.book", defArgs s_Course_book, defBody s_Course_book, defScope s_Course_book, [], []⟩
def dd_Course_got : He.DefD := ⟨("Course", some "got"), "got", "Course.got", defArgs s_Course_got, defBody s_Course_got, defScope s_Course_got, [], []⟩
def dd_Course_told : He.DefD := ⟨("Course", some "told"), "told", "Course.told", defArgs s_Course_told, defBody s_Course_told, defScope s_Course_told, [], []⟩
def dd_course_of : He.DefD := ⟨("course_of", none), "course_of", "course_of", defArgs s_course_of, defBody s_course_of, defScope s_course_of, [], []⟩
def dd_book_of : He.DefD := ⟨("book_of", none), "book_of", "book_of", defArgs s_book_of, defBody s_book_of, defScope s_book_of, [], []⟩
def dd_got_by : He.DefD := ⟨("got_by", none), "got_by", "got_by", defArgs s_got_by, defBody s_got_by, defScope s_got_by, [], []⟩
def dd_told_by : He.DefD := ⟨("told_by", none), "told_by", "told_by", defArgs s_told_by, defBody s_told_by, defScope s_told_by, [], []⟩
def dd_longest_told : He.DefD := ⟨("longest_told", none), "longest_told", "longest_told", defArgs s_longest_told, defBody s_longest_told, defScope s_longest_told, [], []⟩
def dd_Book_is_order : He.DefD := ⟨("Book", some "is_order"), "is_order", "Book.is_order", defArgs s_Book_is_order, defBody s_Book_is_order, defScope s_Book_is_order, [], []⟩
def dd_law_left : He.DefD := ⟨("_law_left", none), "_law_left", "_law_left", defArgs s_law_left, defBody s_law_left, defScope s_law_left, [], []⟩
def dd_law_keeps : He.DefD := ⟨("_law_keeps", none), "_law_keeps", "_law_keeps", defArgs s_law_keeps, defBody s_law_keeps, defScope s_law_keeps, [], []⟩
def dd_law : He.DefD := ⟨("law", none), "law", "law", defArgs s_law, defBody s_law, defScope s_law, [], []⟩
def hfn : List He.DefD := ([dd_is_whole, dd_is_text_of, dd_is_word, dd_is_list, dd_is_member, dd_is_ident, dd_check_members, dd_is_row, dd_is_history, dd_check_history, dd_law_cell_at, dd_law_take, dd_law_pool, dd_law_word, dd_check_member, dd_are_changes] : List He.DefD) ++ ([dd_Counts_init, dd_Counts_len, dd_Counts_told, dd_Counts_of, dd_Counts_changed, dd_Counts_raised, dd_Counts_check_like, dd_Counts_changes_from, dd_Counts_covers, dd_check_number_and_word, dd_Letter_init, dd_Letter_sender, dd_Letter_number, dd_Letter_causes, dd_Letter_id_of, dd_is_letter_ahead] : List He.DefD) ++ ([dd_row_ahead, dd_changes_of, dd_ids_beyond, dd_Book_init, dd_Book_len, dd_Book_counts, dd_Book_letter, dd_Book_ahead, dd_Book_check_new, dd_Book_covers_its_causes, dd_Book_keep, dd_is_told_otherwise, dd_Course_init, dd_Course_deliver, dd_Course_send, dd_Course_happen] : List He.DefD) ++ ([dd_Course_why_not_got, dd_Course_why_not_told, dd_Course_why_not, dd_Course_follow, dd_first_wrong, dd_law_model, dd_law_otherwise, dd_law_has, dd_law_why_got, dd_law_why, dd_law_go, dd_law_may, dd_law_new_row, dd_law_rows, dd_Book_twin, dd_Course_book] : List He.DefD) ++ ([dd_Course_got, dd_Course_told, dd_course_of, dd_book_of, dd_got_by, dd_told_by, dd_longest_told, dd_Book_is_order, dd_law_left, dd_law_keeps, dd_law] : List He.DefD)
def hfa : List He.Fa := ([.glo "Book", .cls "Book", .mkr "Book", .meth "Book" "__len__", .meth "Book" "counts", .meth "Book" "letter", .meth "Book" "ahead", .meth "Book" "_check_new", .meth "Book" "_covers_its_causes", .meth "Book" "keep", .meth "Book" "twin", .meth "Book" "is_order", .glo "Counts", .cls "Counts", .mkr "Counts", .meth "Counts" "__len__"] : List He.Fa) ++ ([.meth "Counts" "told", .meth "Counts" "of", .meth "Counts" "changed", .meth "Counts" "raised", .meth "Counts" "_check_like", .meth "Counts" "changes_from", .meth "Counts" "covers", .glo "Course", .cls "Course", .mkr "Course", .meth "Course" "_deliver", .meth "Course" "_send", .meth "Course" "_happen", .meth "Course" "_why_not_got", .meth "Course" "_why_not_told", .meth "Course" "_why_not"] : List He.Fa) ++ ([.meth "Course" "follow", .meth "Course" "book", .meth "Course" "got", .meth "Course" "told", .glo "Letter", .cls "Letter", .mkr "Letter", .meth "Letter" "sender", .meth "Letter" "number", .meth "Letter" "causes", .meth "Letter" "id_of", .glo "is_whole", .glo "is_text_of", .glo "is_word", .glo "is_list", .glo "is_member"] : List He.Fa) ++ ([.glo "is_ident", .glo "check_members", .glo "is_row", .glo "is_history", .glo "check_history", .glo "_law_cell_at", .glo "_law_take", .glo "_law_pool", .glo "_law_word", .glo "check_member", .glo "are_changes", .glo "check_number_and_word", .glo "is_letter_ahead", .glo "row_ahead", .glo "changes_of", .glo "ids_beyond"] : List He.Fa) ++ ([.glo "is_told_otherwise", .glo "first_wrong", .glo "_law_model", .glo "_law_otherwise", .glo "_law_has", .glo "_law_why_got", .glo "_law_why", .glo "_law_go", .glo "_law_may", .glo "_law_new_row", .glo "_law_rows", .glo "course_of", .glo "book_of", .glo "got_by", .glo "told_by", .glo "longest_told"] : List He.Fa) ++ ([.glo "_law_left", .glo "_law_keeps", .glo "law", .noat "Book" "_members", .noat "Book" "_letters", .noat "Book" "_counts", .noat "Book" "_waits", .noat "Counts" "_numbers", .noat "Course" "_book", .noat "Course" "_counts", .noat "Course" "_got", .noat "Course" "_told", .noat "Letter" "_sender", .noat "Letter" "_number", .noat "Letter" "_word", .noat "Letter" "_causes"] : List He.Fa) ++ ([.free "all", .free "any", .free "bool", .free "enumerate", .free "int", .free "isinstance", .free "len", .free "list", .free "max", .free "range", .free "str", .free "sum", .free "tuple", .free "zip", .int "BITS" 5, .int "LEAST_MEMBERS" 2] : List He.Fa) ++ ([.int "MOST_LETTERS" 30, .int "MOST_MEMBERS" 5, .int "MOST_ROWS" 400, .int "MOST_SIGNS" 8] : List He.Fa)
abbrev XVal : Type := Option (Str × Str × Arguments × FuncBody × Scope × Addr × List Str × Value × Addr)
def xObs (K : PySem.W.Frag) (C : Str) : XVal := match K.lookup (He.ma K (He.ga K C) "__init__") with
  | some ⟨_, _, .func fd, _⟩ => some (fd.name, fd.qualname, fd.params, fd.body, fd.scope, fd.globals, fd.closure.map (·.1), fd.defaults, fd.builtins)
  | _ => none
def xChk (K : PySem.W.Frag) (C q : Str) : Bool := match K.lookup (He.ma K (He.ga K C) "__init__") with
  | some ⟨_, _, .func fd, _⟩ => (match fd.code with
    | .ref cd => PySem.W.codeIn K (.ref cd) q && (match K.lookup cd with
      | some ⟨_, _, .fields vs, _⟩ => (match (vs[2]? : Option Value) with
        | some (Value.str z _) => decide (z = "/claim/cut.py")
        | _ => false)
      | _ => false)
    | _ => false) && (match fd.closure with
    | [(_, cc)] => (match K.lookup cc with
      | some ⟨_, _, .cell (some (.ref D)), _⟩ => decide (D = He.ga K C)
      | _ => false)
    | _ => false)
  | _ => false
def xMk (q : Str) (st : Stmt) : XVal := some (("__init__" : Str), q, defArgs st, FuncBody.stmts (defBody st), defScope st, mainGlobals, [("__class__" : Str)], Value.none, builtinsNs)
theorem xfn {K : PySem.W.Frag} {C q : Str} {st : Stmt} (e : xObs K C = xMk q st) (c : xChk K C q = true) :
    ∃ (cda cc : Addr) (od an : Option Addr) (sl ccs csl : Array (Option Value)) (oc kV dc pm ct ccl cl : Value) (cdd cld : Option Addr) (vs : Array Value) (tf : Tok),
      K.lookup (He.ma K (He.ga K C) "__init__") = some ⟨oc, od, .func (PySem.W.ksFn "__init__" q (defArgs st) (defBody st) (defScope st) .none kV dc pm an (.ref cda) ct cc), sl⟩ ∧ PySem.W.codeIn K (.ref cda) q = true ∧
      K.lookup cda = some ⟨ccl, cdd, .fields vs, ccs⟩ ∧ vs[2]? = some (.str (Str.ofString "/claim/cut.py") tf) ∧ K.lookup cc = some ⟨cl, cld, .cell (some (.ref (He.ga K C))), csl⟩ := by
  unfold xObs at e
  unfold xChk at c
  cases h : K.lookup (He.ma K (He.ga K C) "__init__") with
  | none => rw [h] at c; cases c
  | some o =>
    obtain ⟨oc, od, dt, osl⟩ := o
    rw [h] at c e
    cases dt with
    | func fd =>
      obtain ⟨n1, n2, n3, n4, n5, n6, n7, n8, n9, n10, n11, n12, n13, n14, n15⟩ := fd
      have e2 : (some (n1, n2, n3, n4, n5, n6, n7.map (·.1), n8, n15) : XVal) = some (("__init__" : Str), q, defArgs st, FuncBody.stmts (defBody st), defScope st, mainGlobals, [("__class__" : Str)], Value.none, builtinsNs) := e
      simp only [Option.some.injEq, Prod.mk.injEq] at e2
      obtain ⟨h1, h2, h3, h4, h5, h6, h7, h8, h9⟩ := e2
      subst h1 h2 h3 h4 h5 h6 h8 h9
      obtain ⟨c4, c5⟩ := He.ba c
      dsimp only at c4 c5
      cases n13 with
      | ref cd =>
        obtain ⟨k1, k2⟩ := He.ba c4
        cases h10 : K.lookup cd with
        | none => rw [h10] at k2; cases k2
        | some o2 =>
          obtain ⟨ccl, cdd, dt2, ccs⟩ := o2
          rw [h10] at k2
          cases dt2 with
          | fields vs =>
            dsimp only at k2
            cases h11 : vs[2]? with
            | none => rw [h11] at k2; cases k2
            | some v =>
              rw [h11] at k2
              cases v with
              | str z tf =>
                have hz : z = Str.ofString "/claim/cut.py" := of_decide_eq_true k2
                subst hz
                cases n7 with
                | nil => simp at h7
                | cons p t =>
                  obtain ⟨x, cc⟩ := p
                  cases t with
                  | cons _ _ => simp at h7
                  | nil =>
                    have hx : x = Str.ofString "__class__" := by simpa using h7
                    subst hx
                    dsimp only at c5
                    cases h12 : K.lookup cc with
                    | none => rw [h12] at c5; cases c5
                    | some o3 =>
                      obtain ⟨cl, cld, dt3, csl⟩ := o3
                      rw [h12] at c5
                      cases dt3 with
                      | cell v =>
                        cases v with
                        | none => cases c5
                        | some v =>
                          cases v with
                          | ref D =>
                            have hD : D = He.ga K C := of_decide_eq_true c5
                            subst hD
                            exact ⟨cd, cc, od, n12, osl, ccs, csl, oc, n9, n10, n11, n14, ccl, cl, cdd, cld, vs, tf, rfl, k1, h10, h11, h12⟩
                          | _ => cases c5
                      | _ => cases c5
              | _ => cases k2
          | _ => cases k2
      | _ => cases c4
    | _ => cases c
def hxs : List (Str × XVal) := []
def hfb (K : PySem.W.Frag) : List Bool := [decide (PySem.W.hasDictIn K (He.ga K "Counts") = true), decide (PySem.W.hasDictIn K (He.ga K "Letter") = true), decide (PySem.W.findIn K (.ref (He.ga K "Book")) "__class__" = some (some (.builtin "object.__class__"))), decide (PySem.W.mroIn K (He.ga K "Book") (.type "object") = some true), decide (PySem.W.findIn K (.ref (He.ga K "Counts")) "__class__" = some (some (.builtin "object.__class__"))), decide (PySem.W.mroIn K (He.ga K "Counts") (.type "object") = some true), decide (PySem.W.typeIn K (.ref (He.ga K "Counts")) = some (.type "type")), decide (PySem.W.subIn K (.type "NoneType") (.ref (He.ga K "Counts")) = some false), decide (PySem.W.subIn K (.type "bool") (.ref (He.ga K "Counts")) = some false), decide (PySem.W.subIn K (.type "int") (.ref (He.ga K "Counts")) = some false), decide (PySem.W.subIn K (.type "str") (.ref (He.ga K "Counts")) = some false), decide (PySem.W.subIn K (.type "list") (.ref (He.ga K "Counts")) = some false), decide (PySem.W.subIn K (.type "tuple") (.ref (He.ga K "Counts")) = some false), decide (PySem.W.subIn K (.type "dict") (.ref (He.ga K "Counts")) = some false), decide (PySem.W.findIn K (.ref (He.ga K "Course")) "__class__" = some (some (.builtin "object.__class__"))), decide (PySem.W.mroIn K (He.ga K "Course") (.type "object") = some true), decide (PySem.W.findIn K (.ref (He.ga K "Letter")) "__class__" = some (some (.builtin "object.__class__"))), decide (PySem.W.mroIn K (He.ga K "Letter") (.type "object") = some true), decide (PySem.W.typeIn K (.ref (He.ga K "Letter")) = some (.type "type")), decide (PySem.W.subIn K (.type "NoneType") (.ref (He.ga K "Letter")) = some false), decide (PySem.W.subIn K (.type "bool") (.ref (He.ga K "Letter")) = some false), decide (PySem.W.subIn K (.type "int") (.ref (He.ga K "Letter")) = some false), decide (PySem.W.subIn K (.type "str") (.ref (He.ga K "Letter")) = some false), decide (PySem.W.subIn K (.type "list") (.ref (He.ga K "Letter")) = some false), decide (PySem.W.subIn K (.type "tuple") (.ref (He.ga K "Letter")) = some false), decide (PySem.W.subIn K (.type "dict") (.ref (He.ga K "Letter")) = some false), decide (PySem.W.specialIn K (.builtin "object.__class__") "__get__" = some (some (.builtin "getset_descriptor.__get__"))), decide (PySem.W.takesIn K (.builtin "object.__class__") = some true), decide (PySem.W.subIn K (.ref (He.ga K "Counts")) (.type "int") = some false), decide (PySem.W.subIn K (.ref (He.ga K "Counts")) (.type "list") = some false), decide (PySem.W.subIn K (.ref (He.ga K "Counts")) (.type "tuple") = some false)]
def hn0 : List PySem.Str := ["_wall", "HallError", "Missing", "Barred", "NoNumber", "NoWord", "NoMember", "NoCounts", "Unlike", "NoLetter", "NoCauses", "Forged", "NoHistory", "NoRow", "NotThere", "Lacks"]
def hn1 : List PySem.Str := ["Known", "Full", "MOST_SIGNS", "is_whole", "is_word", "is_text_of", "LEAST_MEMBERS", "MOST_MEMBERS", "MOST_LETTERS", "is_list", "is_member", "is_ident", "are_changes", "check_members", "check_member", "Counts"]
def hn2 : List PySem.Str := ["Letter", "check_number_and_word", "changes_of", "is_letter_ahead", "row_ahead", "BITS", "Book", "ids_beyond", "MOST_ROWS", "is_history", "first_wrong", "book_of", "got_by", "told_by", "longest_told", "Course"]
def hn3 : List PySem.Str := ["course_of", "check_history", "is_row", "is_told_otherwise", "_law_cell_at", "_law_pool", "_law_take", "_law_model", "_law_otherwise", "_law_has", "_law_why_got", "_law_why", "_law_go", "_law_may", "_law_word", "_law_new_row"]
def hn4 : List PySem.Str := ["_law_rows", "_law_left", "_law_keeps"]
def hnames : List PySem.Str := hn0 ++ hn1 ++ hn2 ++ hn3 ++ hn4
/-- forced -/
def frN {α : Type} (n : Nat) (k : Nat → α) : α := match n with
  | 0 => k 0
  | m + 1 => k (m + 1)
theorem frN_eq {α : Type} (n : Nat) (k : Nat → α) : frN n k = k n := by cases n <;> rfl
def frA {α : Type} : List Nat → (List Nat → α) → α
  | [], k => k []
  | a :: t, k => frN a fun a => frA t fun t => k (a :: t)
theorem frA_eq {α : Type} : ∀ (l : List Nat) (k : List Nat → α), frA l k = k l
  | [], _ => rfl
  | a :: t, k => by
    show (frN a fun a => frA t fun t => k (a :: t)) = _
    rw [frN_eq, frA_eq]
def frK {α : Type} : List (Nat × Obj) → (List (Nat × Obj) → α) → α
  | [], k => k []
  | (a, o) :: t, k => frN a fun a => match o with
    | ⟨c, d, dt, sl⟩ => frK t fun t => k ((a, ⟨c, d, dt, sl⟩) :: t)
theorem frK_eq {α : Type} : ∀ (l : List (Nat × Obj)) (k : List (Nat × Obj) → α), frK l k = k l
  | [], _ => rfl
  | (a, ⟨c, d, dt, sl⟩) :: t, k => by
    show (frN a fun a => frK t fun t => k ((a, ⟨c, d, dt, sl⟩) :: t)) = _
    rw [frN_eq, frK_eq]
def hstp (g : Addr → Option Obj) (as : List Addr) : List Addr := as.flatMap fun a => match g a with
  | some o => He.refsD o
  | none => []
/-- off the names, level by level -/
def hobs (g : Addr → Option Obj) : He.AlD × Bool × List XVal :=
  frA (hstp g [mainGlobals]) fun l1 => frA (hstp g l1) fun l2 => frA (hstp g l2) fun l3 => frA (hstp g l3) fun l4 =>
    frK (He.frG g (mainGlobals :: PySem.cStatics :: (l1 ++ (l2 ++ (l3 ++ l4))))) fun K => (He.obsD hfa hfn K, (hfb K).all id, hxs.map fun x => xObs K x.1)
def hhk : PySem.W.Hook where
  α := He.AlD × Bool × List XVal
  obs := fun s => hobs s.heap.get?
  val := fun _ => (He.valD hfn, true, hxs.map (·.2))
  says := fun _ h => ∃ K : PySem.W.Frag, K.In h ∧ He.SaysD hfa hfn K ∧ (hfb K).all id = true ∧ (hxs.map fun x => xObs K x.1) = hxs.map (·.2)
  of := fun _ s e => by
    unfold hobs at e
    rw [frA_eq, frA_eq, frA_eq, frA_eq, frK_eq] at e
    exact ⟨_, He.frG_in, congrArg Prod.fst e, congrArg (fun z => z.2.1) e, congrArg (fun z => z.2.2) e⟩
  keeps := fun _ _ _ ⟨K, hK, c, c2, c3⟩ k => ⟨K, PySem.W.Frag.In.keeps hK k, c, c2, c3⟩
def hob (s : PySem.W.SharedT) : He.AlD × Bool × List XVal := hobs (HandSHeadRun.getT s)
theorem hob_eq (s : PySem.W.SharedT) : hob s = hhk.obs s.abs := by
  have e : HandSHeadRun.getT s = s.abs.heap.get? := funext (HandSHeadRun.getT_eq s)
  unfold hob
  rw [e]
  rfl
abbrev hR : PySem.W.OpenRow := PySem.W.OpenLaw.row PySem.Challenge.rw_causehall_k18_whole_one_row_told
theorem hrun (w : World) : HandSHeadRun.RunEq hR (PySem.W.view hR.prog [76]) hhk hob 60000 hnames w := by
  intro os
  kernel_rfl
theorem fun_of {K : PySem.W.Frag} {x qual : Str} {st : Stmt} {kws : List (Str × V)} {f : Addr} {fd : FuncData} (F : FunD K x qual (defArgs st) (defBody st) (defScope st) [] kws f fd) : Fun K x qual st f fd := by
  obtain ⟨oc, od, dV, kV, doc, pm, an, cdv, ct, osl, e, lk, hcd, hD, hK⟩ := F.ex
  rcases hD with ⟨_, rfl⟩ | ⟨n, _⟩
  · exact ⟨⟨oc, od, kV, doc, pm, an, cdv, ct, osl, e, lk, hcd⟩, F.kp⟩
  · exact absurd rfl n
end CH
namespace CH
open PySem PySem.Spec PyProof.Rows PySem.W PySem.Calls
/-! ### own exceptions whose __init__ says super().__init__('..') and keeps one field -/
abbrev veT : List Value := [.type "ValueError", .type "Exception", .type "BaseException", .type "object"]
abbrev leT : List Value := [.type "LookupError", .type "Exception", .type "BaseException", .type "object"]
/-- the program's file and top -/
class PF (P : Program) : Prop where
  file : (P.main.file : Str) = Str.ofString "/claim/cut.py"
  top : (P.main.scope.names.lookup ("super" : Str)).isSome = false
abbrev initBody (txt f : Str) (p0 p1 p2 p3 p4 p5 p6 p7 p8 p9 : Pos) (j : Nat) : List Stmt :=
  [.Expr (.Call (.Attribute (.Call (.Name "super" p0) [] [] p1) "__init__" p2) [.Constant (.str txt) j p3] [] p4) p5, .Assign [.Attribute (.Name "self" p6) f p7] (.Name f p8) p9]
abbrev initScope (f : Str) : Scope := { kind := .function, names := [(Str.ofString "self", .local), (f, .local), (Str.ofString "__class__", .free), (Str.ofString "super", .globalImplicit)], isGenerator := false, isCoroutine := false, more := [] }
/-- what super().__init__('..') is, line by line -/
def SupEv (txt : Str) (p0 p1 p2 p3 p4 : Pos) (j : Nat) : Prop := ∃ pl : Env → Sem Bool, ∀ env : Env, eval (.Call (.Attribute (.Call (.Name "super" p0) [] [] p1) "__init__" p2) [.Constant (.str txt) j p3] [] p4) env = (do
  let ov ← attributeBase (.Call (.Name "super" p0) [] [] p1) "__init__" env (eval (.Call (.Name "super" p0) [] [] p1) env)
  standAt p2.atName
  let (f, first) ← holding [ov] (getMethod ov "__init__" (pl env))
  callWith p4 f first (backTo p4 (starEach [.Constant (.str txt) j p3] env)) [])
/-- the function at fI is such an __init__ of the class at C -/
structure OexF (K : Frag) (C fI : Addr) (f : Str) : Prop where
  ex : ∃ (oc : Value) (od an : Option Addr) (osl : Array (Option Value)) (q : Str) (params : Arguments) (scope : Scope) (dV kV doc pm ct : Value) (cc cda : Addr) (txt : Str) (p0 p1 p2 p3 p4 p5 p6 p7 p8 p9 : Pos) (j : Nat) (ccl cl : Value) (cdd cld : Option Addr) (ccs csl : Array (Option Value)) (vs : Array Value) (tf : Tok) (ar : Arg),
    K.lookup fI = some ⟨oc, od, .func (ksFn "__init__" q params (initBody txt f p0 p1 p2 p3 p4 p5 p6 p7 p8 p9 j) scope dV kV doc pm an (.ref cda) ct cc), osl⟩ ∧
    codeIn K (.ref cda) q = true ∧ K.lookup cda = some ⟨ccl, cdd, .fields vs, ccs⟩ ∧ vs[2]? = some (.str (Str.ofString "/claim/cut.py") tf) ∧ K.lookup cc = some ⟨cl, cld, .cell (some (.ref C)), csl⟩ ∧
    (∀ s : Shared, ∀ a b : Value, BindsTo s (ksFn "__init__" q params (initBody txt f p0 p1 p2 p3 p4 p5 p6 p7 p8 p9 j) scope dV kV doc pm an (.ref cda) ct cc) ⟨[a, b], []⟩ [("self", a), (f, b)]) ∧
    (∀ s : Shared, ∀ a b : Value, BindsTo s (ksFn "__init__" q params (initBody txt f p0 p1 p2 p3 p4 p5 p6 p7 p8 p9 j) scope dV kV doc pm an (.ref cda) ct cc) ⟨[a], [(f, b)]⟩ [("self", a), (f, b)]) ∧
    SupEv txt p0 p1 p2 p3 p4 j ∧ (params.posonlyargs ++ params.args).head? = some ar ∧ ar.arg = Str.ofString "self" ∧ scope = initScope f ∧
    (f == Str.ofString "self") = false ∧ (f == Str.ofString "__debug__") = false ∧ (Str.ofString "self" == f) = false ∧ (Str.ofString "__class__" == f) = false ∧ (Str.ofString "super" == f) = false
/-- an own exception class at C, its __init__ at fI, its field f -/
structure OexS (K : Frag) (C fI : Addr) (B newId initId : String) (bmB : List Value) (f : Str) : Prop where
  base : ExcBaseFacts B newId initId bmB
  wrap : KxsFacts B initId
  stor : StoreFacts B bmB "object.__setattr__" "object"
  ini : excInitIn K C bmB newId = true
  over : excOver K C bmB = true
  hd : hasDictIn K C = true
  sa : findIn K (.ref C) "__setattr__" = some (some (.builtin "object.__setattr__"))
  nf : findIn K (.ref C) f = some none
  exC : subIn K (.ref C) (.type "BaseException") = some true
  sB : subIn K (.ref C) (.type B) = some true
  sC : mroIn K C (.ref C) = some true
  tyC : typeIn K (.ref C) = some (.type "type")
  kC : keepIn K (.ref C) = true
  ii : findIn K (.ref C) "__init__" = some (some (.ref fI))
  ti : typeIn K (.ref fI) = some (.type "function")
  sup : ks_superIn K C C "__init__" = some (some (.builtin initId))
  opq : nsIn K cStatics "thirdparty.any" = some none
  fn : OexF K C fI f
theorem cls_obj {K : Frag} {C : Addr} {q : Bool} (h : hasDictIn K C = true) : ∃ cd od dd sl, K.lookup C = some ⟨od, dd, .cls cd, sl⟩ ∧ clsIn K C = some cd := by
  obtain ⟨cd, hc, _⟩ := any_some h
  have hc' := hc
  unfold clsIn at hc'
  split at hc'
  · rename_i c d cd' sl ho
    cases hc'
    exact ⟨cd, c, d, sl, ho, hc⟩
  · cases hc'
section
variable {P : Program} {w : World} {A : Around} {R : Result → Shared → Prop} {h : Heap} {g : Array GenState} {d : Drawn} {t : Nat} {os : OsState} {K : Frag} {C fI e t0 : Addr} {B newId initId : String} {bmB : List Value} {f : Str} {u : Value} {mg mb : Str → Option Value} {args : Args}
theorem ns1_one {h : Heap} {dx : Addr} {f : Str} {u : Value} {hs : Int} {tk : Tok} {n : Nat} (e : h.get? dx = some (dictOf [⟨hs, .str f tk, u⟩] n)) : h.Ns1 dx (fun y => if y = f then some u else none) := by
  refine ⟨_, _, _, e, rfl, ?_, ?_, fun y => ?_⟩
  · intro z hz
    simp at hz
    subst hz
    exact ⟨f, tk, rfl⟩
  · exact List.pairwise_singleton ..
  · by_cases hy : y = f
    · subst hy
      simp [nsFind, findBy, Value.isStr]
    · have hy' : (f == y) = false := by simpa using fun z => hy z.symm
      simp [nsFind, findBy, Value.isStr, hy, hy']
theorem einit_run (hP : PF P) (T : OexS K C fI B newId initId bmB f) (X : K.In h) (hKe : K.lookup e = none) (hg : h.Ns mainGlobals mg) (hs : mg "super" = none) (hb : h.Ns builtinsNs mb) (hbs : mb "super" = some (.type "super")) (hlim : h.NoLimit) (hroom : A.depth < recursionLimit)
    (hge : mainGlobals ≠ e) (hbe : builtinsNs ≠ e) (he : h.get? e = some (excObj C t0 none .none)) (ha : args = ⟨[.ref e, u], []⟩ ∨ args = ⟨[.ref e], [(f, u)]⟩)
    (hq : ∀ h' t1 dx tk', (∀ b o, b ≠ e → h.get? b = some o → h'.get? b = some o) → h.objs.size ≤ dx → h'.get? e = some (excObj C t1 (some dx) .none) →
      h'.Ns1 dx (fun y => if y = f then some u else none) → R (.ok (.ret .none)) ⟨h', g, d, tk', os⟩) :
    codeAny (model P w) A (.call (.ref fI) args) R ⟨h, g, d, t, os⟩ := by
  obtain ⟨oc, od, an, osl, q, params, scope, dV, kV, doc, pm, ct, cc, cda, txt, p0, p1, p2, p3, p4, p5, p6, p7, p8, p9, j, ccl, cl, cdd, cld, ccs, csl, vs, tf, ar, lf, hcd, lcode, hvs, lcell, hb1, hb2, ⟨pl, hev⟩, hpar, har, rfl, n1, n2, n3, n4, n5⟩ := T.fn.ex
  obtain ⟨cdC, ocC, odC, slC, lC, hcC⟩ := cls_obj (q := true) T.hd
  have hbind : BindsTo ⟨h, g, d, t, os⟩ (ksFn "__init__" q params (initBody txt f p0 p1 p2 p3 p4 p5 p6 p7 p8 p9 j) (initScope f) dV kV doc pm an (.ref cda) ct cc) args [("self", .ref e), (f, u)] := by
    rcases ha with rfl | rfl
    · exact hb1 _ _ _
    · exact hb2 _ _ _
  have kf : List.lookup f [(Str.ofString "self", NameKind.local), (f, .local), (Str.ofString "__class__", .free), (Str.ofString "super", .globalImplicit)] = some .local := by
    simp [List.lookup, n1]
  have XX : K.In (hideAll h [e]) := fun a o z => hideAll_get _ (X a o z) (by
    intro y
    rw [List.mem_singleton.mp y, hKe] at z
    cases z)
  refine ks_codeAny_call_defAt hroom (X _ _ lf) rfl hlim (codeRec_of X hcd) rfl hbind ?_ ?_ (fun h₀ hns k0 => ?_)
  · intro x hx
    simp at hx
    rcases hx with rfl | rfl | rfl | rfl <;> simp
  · intro x hx
    simp at hx
    rcases hx with rfl | rfl
    · rfl
    · exact kf
  have F0 : Fr (hideAll h [e]) h.objs.size h₀ (fun x => [((f : Str), u), (Str.ofString "self", .ref e)].lookup x) := ⟨hns, fun b o z => k0 b o (of_hideAll _ z), Nat.le_of_eq (hideAll_size _ _)⟩
  have N0 : News (hideAll h [e]) h.objs.size h₀ [(e, excObj C t0 none .none)] := fun p hp => by
    rw [List.mem_singleton.mp hp]
    exact ⟨k0 _ _ he, Nat.ne_of_lt (Heap.lt_size he), hideAll_none _ (by simp)⟩
  have hself : (fun x => [((f : Str), u), (Str.ofString "self", Value.ref e)].lookup x) "self" = some (.ref e) := by
    show List.lookup (Str.ofString "self") _ = _
    simp [List.lookup, n3]
  have hfound : (fun x => [((f : Str), u), (Str.ofString "self", Value.ref e)].lookup x) f = some u := by simp [List.lookup]
  have X0 : K.In h₀ := X.keeps k0
  have ksu : (initScope f).names.lookup (Str.ofString "super") = some .globalImplicit := by
    show List.lookup (Str.ofString "super") [_, _, _, _] = _
    simp [List.lookup, n5, show (Str.ofString "super" == Str.ofString "self") = false by decide +kernel, show (Str.ofString "super" == Str.ofString "__class__") = false by decide +kernel]
  have kcl : (initScope f).names.lookup (Str.ofString "__class__") = some .free := by
    show List.lookup (Str.ofString "__class__") [_, _, _, _] = _
    simp [List.lookup, n4, show (Str.ofString "__class__" == Str.ofString "self") = false by decide +kernel]
  have kse : (initScope f).names.lookup (Str.ofString "self") = some .local := by rfl
  show _root_.PySem.wpAt (model P w) (A.deeper (ksEnv q (initScope f) h.objs.size fI (.ref cda) cc)) (.func (initBody txt f p0 p1 p2 p3 p4 p5 p6 p7 p8 p9 j) (ksEnv q (initScope f) h.objs.size fI (.ref cda) cc)) (execs (initBody txt f p0 p1 p2 p3 p4 p5 p6 p7 p8 p9 j) (ksEnv q (initScope f) h.objs.size fI (.ref cda) cc)) _ _ _
  -- super()
  refine ks_wpAt_execs_cons (ks_wpAt_Expr_any ?_)
  refine ks_wpAt_MethodCall (pl := pl (ksEnv q (initScope f) h.objs.size fI (.ref cda) cc)) ?_ (hev _)
  refine ks_wpAt_super_base (f := fI) ksu kcl (by decide) rfl (X0 _ _ lf) rfl hpar rfl (X0 _ _ lcode) rfl hvs (by rw [hP.file]; exact beq_self_eq_true _) hP.top ?_
  refine ks_loadName_global rfl ksu (loadGlobal_builtin (env := ksEnv q (initScope f) h.objs.size fI (.ref cda) cc) (hg.keeps k0) hs (hb.keeps k0) hbs ⟨rfl, ?_⟩)
  refine wpAny_loadName_free rfl kcl rfl ⟨_, X0 _ _ lcell, rfl⟩ ?_
  refine wpAny_loadName_local rfl (by rw [har]; exact kse) hns (by rw [har]; exact hself) ?_
  refine ks_wpAny_isType_cls (X0 _ _ lC) rfl ⟨rfl, ?_⟩
  refine ks_wpAny_call_super (X0 _ _ lC) rfl (k0 _ _ he) rfl (fun c z => by cases z) (looks_mroIn X0 T.sC) (fun h1 e1 k1 => ?_)
  obtain ⟨F1, N1, l1⟩ := ks_newsPush (s := ⟨h₀, g, d, 0, os⟩) (o := ks_superObj C e C) F0 N0 rfl e1 k1
  replace F1 : Fr (hideAll h [e]) h.objs.size h1 _ := F1
  refine kxs_method (odx := none) T.wrap F1 XX N1 (List.mem_cons_self ..) ⟨k1 _ _ (k0 _ _ he), rfl, rfl, trivial⟩ T.opq T.sup T.sB (by decide) (fun q2 h2 F2 N2 l2 => ?_)
  refine kxs_callWith1 N2 (List.mem_cons_self ..) ?_
  refine spliced_cons (Constant_str (k := j) (pos := p3) ?_)
  refine spliced_nil ⟨kxs_at N2 (List.mem_cons_self ..), ?_⟩
  refine kxs_call F2 XX N2 T.base T.ini (List.mem_cons_self ..) (.tail ?u1 (.tail ?u2 (.head ?u3))) (by rw [sizeLine_eq]; exact (by decide : 1 ≤ 16777216)) (fun t3 h3 F3 N3 l3 => ?_)
  case u1 => exact Nat.ne_of_gt (l2 _ (List.mem_cons_of_mem _ (List.mem_cons_self ..)))
  case u2 => exact Nat.ne_of_gt (l1 _ (List.mem_cons_self ..))
  case u3 => intro p hp; cases hp
  -- self.f = f
  refine ks_wpAt_execs_cons (ks_wpAt_Assign_Attr ?_)
  refine wpAt_of_wpAny (wpAny_Name (wpAny_loadName_local rfl kf F3.ns hfound ?_) n2)
  refine wpAny_Name (wpAny_loadName_local rfl kse F3.ns hself ?_)
  refine set_exc0 (es' := [⟨_, .str f _, u⟩]) (n' := 1) T.stor F3 XX N3 (.tail _ (.tail _ (.tail _ (.head _)))) T.sa T.over (by unfold takerIn; rw [T.nf]; rfl) T.hd rfl (.tail ?u1 (.tail ?u2 (.tail ?u3 (.head ?u4)))) (by exact (by decide : 1 ≤ 1000)) (fun dx h4 F4 N4 l4 => ?_)
  case u1 => exact Nat.ne_of_gt (l3 _ (.tail _ (.tail _ (.head _))))
  case u2 => exact Nat.ne_of_gt (l2 _ (List.mem_cons_of_mem _ (List.mem_cons_self ..)))
  case u3 => exact Nat.ne_of_gt (l1 _ (List.mem_cons_self ..))
  case u4 => intro p hp; cases hp
  refine wpAt_of_wpAny (wpAny_execs_nil ?_)
  refine hq h4 t3 dx _ (fun b o hb z => F4.keep b o (hideAll_get _ z (by simpa using hb))) ?_ (N4 _ (List.mem_of_getElem? (i := 4) rfl)).1 (ns1_one (N4 _ (List.mem_cons_self ..)).1)
  exact Nat.le_of_lt (Nat.lt_of_lt_of_le hns.lt (Nat.le_of_lt (l4 _ (List.mem_of_getElem? (i := 2) rfl))))
end

/-! ### such an exception, made for a raise -/
section
open L2
variable {X : Cx} {x f : Str} {e : Expr} {te : TE} {p pos : Pos} {C fI : Addr} {B newId initId : String} {bmB : List Value}
theorem K_new {X : Cx} {pins : List (Addr × Obj)} {σ : L2.St} {H : Hp} {s : Shared} {a : Addr} (I : Inv X pins σ H s) (h : s.heap.objs.size ≤ a) : X.K.lookup a = none := by
  cases z : X.K.lookup a with
  | none => rfl
  | some o => exact absurd (Nat.lt_of_lt_of_le (Heap.lt_size (I.kIn _ _ z)) h) (Nat.lt_irrefl _)
theorem exs_made (hP : PF X.prog) (T : OexS X.K C fI B newId initId bmB f) (hs : X.mg "super" = none) (hr : Room 2 X.A) {pins : List (Addr × Obj)} {σ : L2.St} {H1 : Hp} {s1 : Shared} {u : Value} {v : V} {Q : XK} (I1 : Inv X pins σ H1 s1) (r1 : RelV v u)
    (q : ∀ d, H1 d = none → Q (.ref C) (some d) (upd H1 d (.xd [(f, v)]))) : wpAny (model X.prog X.w) X.A (call (.ref C) [u]) (MkP X pins σ Q) X.xe s1 := by
  obtain ⟨nm, N, qn, bs, bm, hdct, sn, sub, ab, col, dd, k0, k1, k2, k3, k5, hC, hT⟩ := excInit_of I1.kIn T.ini
  obtain ⟨hp, g, dr, tk, os⟩ := s1
  have kk : ∀ b o, hp.get? b = some o → ((hp.push (kdv_tup [u])).push (HandSPX.excO C hp.objs.size)).get? b = some o := fun b o e => Heap.get?_push_of_some _ (Heap.get?_push_of_some _ e)
  have hget : ((hp.push (kdv_tup [u])).push (HandSPX.excO C hp.objs.size)).get? (hp.objs.size + 1) = some (excObj C hp.objs.size none .none) := by heap_get
  have hsz : ((hp.push (kdv_tup [u])).push (HandSPX.excO C hp.objs.size)).objs.size = hp.objs.size + 2 := by rw [Heap.size_push, Heap.size_push]
  obtain ⟨mb, b1, b2⟩ := I1.mod.blt
  have l1 : ([u] : List Value).length ≤ sizeLine := by
    rw [sizeLine_eq]
    exact (by decide : 1 ≤ 16777216)
  refine wpAny_call (HandSPX.call_own T.base hT hC (looks_findIn I1.kIn T.ii) (fun self => bind_fn I1.kIn self T.ti) l1 ?_)
  refine einit_run hP T (I1.kIn.keeps kk) (K_new I1 (Nat.le_succ _)) ((I1.mod.glob.keeps I1.bk).keeps kk) hs ((b1.keeps I1.bk).keeps kk) (b2 "super" (by decide)) (I1.nolimit.keeps kk) (hr.make C [u] []).depth ?_ ?_ hget (.inl rfl) ?_
  · exact fun z => absurd (Heap.Ns.lt (I1.mod.glob.keeps I1.bk)) (by rw [z]; exact Nat.not_lt_of_le (Nat.le_succ _))
  · exact fun z => absurd (Heap.Ns.lt (b1.keeps I1.bk)) (by rw [z]; exact Nat.not_lt_of_le (Nat.le_succ _))
  intro h' t1 dx tk' k hdx hx hns
  rw [hsz] at hdx
  obtain ⟨G, g1, g2⟩ := restrict h' fun b => decide (b ≠ hp.objs.size + 1)
  have ge : G.get? (hp.objs.size + 1) = none := g2 _ (by simp)
  have gk : ∀ b, b ≠ hp.objs.size + 1 → G.get? b = h'.get? b := fun b hb => g1 b (decide_eq_true hb)
  have nold : ∀ {b : Addr} {o : Obj}, hp.get? b = some o → b ≠ hp.objs.size + 1 := fun {b o} z => Nat.ne_of_lt (Nat.lt_succ_of_lt (Heap.lt_size z))
  have hd : dx ≠ hp.objs.size + 1 := Nat.ne_of_gt (Nat.lt_of_lt_of_le (Nat.lt_succ_self _) hdx)
  have na : H1 (hp.objs.size + 1) = none := I1.hok.fresh (Nat.le_succ _)
  have nd : H1 dx = none := I1.hok.fresh (Nat.le_trans (Nat.le_add_right _ 2) hdx)
  refine ⟨rfl, hp.objs.size + 1, _, _, ⟨G, g, dr, tk', os⟩, upd H1 dx (.xd [(f, v)]), .ref C, some dx, rfl, ?_, ?_, ge, hx, ⟨rfl, rfl⟩, rfl, rfl, ?_, rfl, I1.bare, raises_own T.exC T.tyC, q dx nd⟩
  · refine I1.laid (t' := tk') (h' := G) (fun b o z => ?_) (Nat.le_trans (Nat.le_add_right _ 2) hdx) ⟨_, hns.at fun o z => (gk dx hd).trans z, relO_put (fs := []) r1 fun _ => True.intro⟩
    exact (gk b (nold z)).trans (k b o (nold z) (kk b o z))
  · intro b o z
    by_cases hb : b = hp.objs.size + 1
    · rw [hb, ge] at z
      cases z
    · exact (gk b hb).symm.trans z
  · rw [upd_ne hd.symm]
    exact na
/-- raise C(e): the exception has a new dict with its field -/
theorem pmk_exs (hP : PF X.prog) (T : OexS X.K C fI B newId initId bmB f) (hs : X.mg "super" = none) (hr : Room 2 X.A) (hg : Gl X x) (gC : X.mg x = some (.ref C)) (he : PE X e te) (hdb : (x == ("__debug__" : Str)) = false := by decide)
    (hse : starEach [e] X.env = (false, eval e X.env) :: starEach [] X.env := by rfl) : PMk X (.Call (.Name x p) [e] [] pos) (fun σ H Q => te σ H fun v H1 => ∀ d, H1 d = none → Q (.ref C) (some d) (upd H1 d (.xd [(f, v)]))) := by
  intro pins s σ H Q I h
  refine wpAny_Call_Name_kw (ld_glob I hg gC ?_ hdb)
  refine callWith_K (h₀ := X.base) I.ok.mod.kin T.kC ?_ hse (by rfl)
  rw [hse]
  show wpAny _ _ (spliced ((false, eval e X.env) :: backTo pos (starEach [] X.env))) _ _ s
  refine spliced_cons (thn (he.run pins s σ H _ I h) fun u s1 ⟨v, H1, I1, r1, q1⟩ => ?_)
  exact spliced_nil ⟨I1.kIn, exs_made hP T hs hr I1 r1 q1⟩
end

end CH
/-! ### isinstance of a caught exception that has a dict; its fields; several clauses, tuples of classes -/
namespace CH
open PySem PySem.Spec PyProof.Rows PySem.W PySem.Calls
section
variable {prog : Program} {w : World} {A : Around} {E : Value → Shared → Prop} {s : Shared} {K : Frag} {x D : Addr} {ox : Obj} {od : Option Obj}
/-- a data descriptor of the class goes ahead of what the dict has -/
theorem found_data {C : Addr} {nm : Str} {a1 g1 : Value} (c1 : (clsIn K C).isSome = true) (c2 : findIn K (.ref C) nm = some (some a1)) (c3 : specialIn K a1 "__get__" = some (some g1)) (c4 : takesIn K a1 = some true) : findObj K C od nm = some (.bind g1 a1) := by
  rcases Option.isSome_iff_exists.mp c1 with ⟨cd, c1⟩
  show ((clsIn K C).bind _) = _
  rw [c1]
  simp only [Option.bind_some, c2, c3, c4]
theorem exc_class (T : L2.ExcC K D) {Q : Option Value → Shared → Prop} (X : K.In s.heap) (I : PySem.W.InstAt s.heap x ox D od) (q : Q (some (.ref D)) { s with toks := s.toks + 1 }) : wpAny (model prog w) A (getAttr? (.ref x) "__class__") Q E s := by
  have fnd : findObj K D od "__class__" = some (.bind (.builtin "getset_descriptor.__get__") (.builtin "object.__class__")) := found_data (by obtain ⟨c, e, _⟩ := any_some T.hd; rw [e]; rfl) T.ha T.hn T.ht
  obtain ⟨h0, g0, d0, t0, o0⟩ := s
  have ty := I.type (M := model prog w)
  have nx : (Value.builtin "BaseException.__getattribute__" == Value.builtin "object.__getattribute__") = false := by decide +kernel
  have k1 : (onTheHeap (Value.ref D) && Value.builtin "BaseException.__getattribute__" == Value.builtin "object.__getattribute__") = false := by simp only [nx, Bool.and_false]
  unfold getAttr? getAttrBy? getAttrBy
  refine wpAny_bind (wpAny_mkText (wpAny_bind (wpAny_attempt (wpAny_holding (wpAny_bind (ty.at (wpAny_bind ((looks_findIn (M := model prog w) X T.hg).at ?_))))))))
  show wpAny _ _ (if (onTheHeap (Value.ref D) && Value.builtin "BaseException.__getattribute__" == Value.builtin "object.__getattribute__") = true then _ else _) _ _ _
  rw [k1]
  rw [if_neg Bool.false_ne_true]
  unfold getAttrByItsOwn hookBefore
  refine wpAny_bind ?_
  rw [if_pos (show onTheHeap (Value.ref D) = true from rfl)]
  refine (looks_findIn (M := model prog w) X T.hk).at (wpAny_bind (wpAny_attempt (wpAny_holding ?_)))
  unfold callGetattribute
  have k0 : (false && onTheHeap (Value.builtin "BaseException.__getattribute__")) = false := Bool.false_and ..
  rw [k0]
  rw [if_neg Bool.false_ne_true]
  unfold boundAndCalled
  rw [PySem.F.excAttr_ValueError.ga.bind (.ref x)]
  refine wpAny_bind (wpAny_pure ?_)
  show wpAny _ _ (call (.builtin "BaseException.__getattribute__") [.ref x, .str "__class__" t0]) _ _ _
  refine wpAny_call (codeAny_call_builtin PySem.F.excAttr_ValueError.ga.plain PySem.F.entry_bexc_ga ?_)
  refine @check_slot (model prog w) _ _ ⟨h0, g0, d0, t0 + 1, o0⟩ "BaseException.__getattribute__" "BaseException" "__getattribute__" (.ref x) [.str "__class__" t0] [] _ (by decide +kernel) (by decide +kernel) (ty.andThen (looks_subIn X T.hs)) (PySem.F.args_bexc_ga (.ref x) (.str "__class__" t0)) ?_
  unfold Builtin.«object.__getattribute__»
  refine wpAny_bind (wpAny_of_eq (a := ((Value.ref x : Value), [Value.str "__class__" t0])) (by first | rfl | (simp only [slotArgs]; rfl)) ?_)
  refine wpAny_bind (wpAny_pure (wpAny_bind (ty.at (wpAny_bind ((looks_find (M := model prog w) X I fnd).at ?_)))))
  show wpAny _ _ (holding [Value.builtin "object.__class__"] (call (.builtin "getset_descriptor.__get__") [.builtin "object.__class__", .ref x, .ref D]) >>= ret) _ _ _
  refine wpAny_bind (wpAny_holding (wpAny_call (class_get (s := ⟨h0, g0, d0, t0 + 1, o0⟩) (ox := ox) (od := od) X I T.hm (wpAny_pure ?_))))
  show wpAny _ _ (handedOut (.ref D)) _ _ _
  rw [handedOut_of (v := .ref D) rfl]
  first
    | exact wpAny_pure (wpAny_pure q)
    | exact wpAny_pure q
    | exact wpAny_pure (wpAny_bind (wpAny_pure (wpAny_pure q)))
theorem exc_kitx (T : L2.ExcC K D) : KitX K (.ref x) (.ref D) (fun h => PySem.W.InstAt h x ox D od) := by
  obtain ⟨cd, hc, _⟩ := any_some T.hd
  unfold clsIn at hc
  split at hc
  · rename_i c1 d1 cd1 sl1 ho
    refine ⟨fun _ _ _ I => I.type, fun _ _ X _ => ?_, fun h tp dd its n sl X htp => ?_, fun X I k => exc_class T X I k⟩
    · intro A1 Q1 E1 s1 k1 q1
      unfold isType loadHead
      exact wpAny_bind (wpAny_loadPart (k1 _ _ (X _ _ ho)) (wpAny_pure q1))
    · refine Bool.eq_false_iff.mpr fun q => ?_
      obtain rfl : D = tp := Value.ref.inj (beq_iff_eq.mp q)
      have z := (X _ _ ho).symm.trans htp
      cases z
  · cases hc
end
end CH
namespace CH
open PySem PySem.Spec PyProof.Rows PySem.W PySem.Calls L2
/-- isinstance(e, C) in an except suite: a the exception, cls its class, d its dict -/
def rIsX (K : Frag) (a : Addr) (cls : Value) (d : Option Addr) : List V → Hp → VK → Prop := fun xs H Q =>
  ∃ (D dd : Addr) (fs : List (Str × V)) (c : V) (cv : Value) (b : Bool), xs = [.ref a, c] ∧ cls = .ref D ∧ d = some dd ∧ H dd = some (.xd fs) ∧ ExcC K D ∧ ClsV c cv ∧ kitOne K (.ref D) cv = some b ∧ Q (.bl b) H
theorem inst_caught {X : Cx} {a D dd : Addr} {oe : Obj} {pn pins : List (Addr × Obj)} {σ : L2.St} {H : Hp} {s : Shared} {fs : List (Str × V)} (I : Inv (X.suite a ((a, oe) :: pn)) pins σ H s) (hz : Zc (.ref D) (some dd) oe) (hf : ∃ vs, oe.data = .fields vs) (e : H dd = some (.xd fs)) : ∃ od, PySem.W.InstAt s.heap a oe D (some od) := by
  obtain ⟨ha, _⟩ := I.pin (a, oe) (List.mem_append_left _ List.mem_cons_self)
  obtain ⟨vs, hd⟩ := hf
  have hx : ObjOk X.prog X.w H s.heap dd (.xd fs) := I.hok dd _ e
  obtain ⟨mA, hns, hr⟩ := hx
  obtain ⟨od, ho, hl⟩ := lookIn_ns hns
  refine ⟨od, ha, hz.1, ?_, ?_⟩
  · unfold PySem.W.notCls
    rw [hd]
  · rw [hz.2]
    exact ho
theorem call_isX {X : Cx} {a : Addr} {oe : Obj} {cls : Value} {d : Option Addr} {pn : List (Addr × Obj)} (hz : Zc cls d oe) (hf : ∃ vs, oe.data = .fields vs) {K : Frag} (hK : X.K = K) : CallR (X.suite a ((a, oe) :: pn)) (.builtin "isinstance") (rIsX K a cls d) := by
  subst hK
  intro pins s σ H xs us Q I r h
  obtain ⟨D, dd, fs, c, cv, b, rfl, rfl, rfl, hd, T, hc, hk, q⟩ := h
  obtain ⟨od, J⟩ := inst_caught I hz hf hd
  rcases r with _ | ⟨rx, _ | ⟨rt, _ | _⟩⟩
  obtain rfl := hc.eq rt
  cases rx
  exact PySem.W.kia_one (exc_kitx T) I.kIn J hk (fun z => nomatch z) fun tk => ⟨.bl b, H, I.kept (t' := tk) fun _ _ z => z, rfl, q⟩
/-- e.f in an except suite -/
def tXg (K : Frag) (a : Addr) (cls : Value) (d : Option Addr) (f : Str) (te : TE) : TE := fun σ H Q => te σ H fun x H1 =>
  ∃ (D dd : Addr) (fs : List (Str × V)) (v : V), x = .ref a ∧ cls = .ref D ∧ d = some dd ∧ XfC K D ∧ findIn K (.ref D) f = some none ∧ H1 dd = some (.xd fs) ∧ fs.lookup f = some v ∧ Q v H1
theorem pe_xg {X : Cx} {a : Addr} {oe : Obj} {cls : Value} {d : Option Addr} {pn : List (Addr × Obj)} {e : Expr} {te : TE} {pos : Pos} {n : Str} {K : Frag} (hK : X.K = K) (hz : Zc cls d oe) (hf : ∃ vs, oe.data = .fields vs) (he : PE (X.suite a ((a, oe) :: pn)) e te) (hb : attributeBase e n X.env (eval e X.env) = eval e X.env := by rfl) :
    PE (X.suite a ((a, oe) :: pn)) (.Attribute e n pos) (tXg K a cls d n te) := by
  subst hK
  refine ⟨fun pins s σ H Q I h => attr_of hb (thn (he.run pins s σ H _ I h) fun u s1 hh => ?_)⟩
  obtain ⟨x, H1, I1, rx, D, dd, fs, v, rfl, rfl, rfl, T, hno, ea, l, q⟩ := hh
  obtain rfl : u = Value.ref a := rx
  obtain ⟨ha, _⟩ := I1.pin (a, oe) (List.mem_append_left _ List.mem_cons_self)
  obtain ⟨vs, hd⟩ := hf
  have hx : ObjOk X.prog X.w H1 s1.heap dd (.xd fs) := I1.hok dd _ ea
  obtain ⟨mA, hns, hr⟩ := hx
  obtain ⟨od, ho, hl⟩ := lookIn_ns hns
  obtain ⟨u, hu, ru⟩ := RelO.some_of (v := v) (o := mA n) (l ▸ hr n)
  have J : PySem.W.InstAt s1.heap a oe D (some od) := ⟨ha, hz.1, by unfold PySem.W.notCls; rw [hd], by rw [hz.2]; exact ho⟩
  exact HandSPX.exc_get I1.kIn J T.ga T.gg T.exC (PySem.W.findObj_own T.hdC hno rfl (by rw [hl, hu])) (handed_of ru) ⟨v, H1, I1.tok _, ru, q⟩
/-! ### the classes that a clause names -/
inductive TK (X : Cx) : Expr → (Value → Option Bool) → Prop
  | one {x1 : Str} {c1 : Value} {p1 : Pos} : Names X x1 c1 → TK X (.Name x1 p1) (fun cls => exmOne X.K cls c1)
  | two {x1 x2 : Str} {c1 c2 : Value} {p1 p2 tp : Pos} {kk : Nat} : Names X x1 c1 → Names X x2 c2 → TK X (.Tuple [.Name x1 p1, .Name x2 p2] kk tp) (fun cls => exmAny X.K cls [c1, c2])
  | three {x1 x2 x3 : Str} {c1 c2 c3 : Value} {p1 p2 p3 tp : Pos} {kk : Nat} : Names X x1 c1 → Names X x2 c2 → Names X x3 c3 → TK X (.Tuple [.Name x1 p1, .Name x2 p2, .Name x3 p3] kk tp) (fun cls => exmAny X.K cls [c1, c2, c3])
  | four {x1 x2 x3 x4 : Str} {c1 c2 c3 c4 : Value} {p1 p2 p3 p4 tp : Pos} {kk : Nat} : Names X x1 c1 → Names X x2 c2 → Names X x3 c3 → Names X x4 c4 → TK X (.Tuple [.Name x1 p1, .Name x2 p2, .Name x3 p3, .Name x4 p4] kk tp) (fun cls => exmAny X.K cls [c1, c2, c3, c4])
section
variable {X : Cx} {a : Addr} {oe : Obj} {pn : List (Addr × Obj)} {σ : L2.St} {H : Hp} {s : Shared} {E : Value → Shared → Prop}
theorem nm_eval {x : Str} {c : Value} {np : Pos} {Q : Value → Shared → Prop} (hc : Names X x c) (S : Inv (X.suite a ((a, oe) :: pn)) [] σ H s) (q : Q c s) : wpAny (model X.prog X.w) (X.A.mark (some (.ref a))) (eval (.Name x np) X.env) Q E s := by
  rcases hc with ⟨g1, g2, g3 | ⟨g3, g4, g5⟩⟩
  · exact ld_glob (X := X.suite a ((a, oe) :: pn)) S g1 g3 q g2
  · exact ld_blt (X := X.suite a ((a, oe) :: pn)) S g1 g3 g4 q g5 g2
theorem tk_run {te : Expr} {f : Value → Option Bool} {cls : Value} {b : Bool} {Q : Bool → Shared → Prop} (T : TK X te f) (S : Inv (X.suite a ((a, oe) :: pn)) [] σ H s) (ha : s.heap.get? a = some oe) (hc : oe.cls = cls) (hb : f cls = some b)
    (q : ∀ h', (∀ r o, s.heap.get? r = some o → h'.get? r = some o) → Q b { s with heap := h' }) :
    wpAny (model X.prog X.w) (X.A.mark (some (.ref a))) (eval te X.env) (fun c s₁ => wpAny (model X.prog X.w) (X.A.mark (some (.ref a))) (excMatches (.ref a) c) Q E s₁) E s := by
  have LT : Looks (model X.prog X.w) s.heap (typeOf (.ref a)) cls := fun A Q E s k q => wpAny_typeOf_ref (k _ _ ha) (hc ▸ q)
  have kp : ∀ {l : List Value} q o, s.heap.get? q = some o → (s.heap.push { cls := .type "tuple", data := .seq l.toArray }).get? q = some o := fun _ _ z => Heap.get?_push_of_some _ z
  cases T with
  | one n1 => exact nm_eval n1 S ((exm_one (M := model X.prog X.w) S.kIn LT hb).here (q s.heap fun _ _ z => z))
  | two n1 n2 => exact wpAny_Tuple (wpAny_items_cons (nm_eval n1 S (wpAny_items_cons (nm_eval n2 S (wpAny_items_nil ⟨by size_fits, (exm_tup2 (S.kIn.keeps kp) (LT.keeps kp) (Heap.get?_push_size s.heap rfl) hb).here (q _ kp)⟩)))))
  | three n1 n2 n3 => exact wpAny_Tuple (wpAny_items_cons (nm_eval n1 S (wpAny_items_cons (nm_eval n2 S (wpAny_items_cons (nm_eval n3 S (wpAny_items_nil ⟨by size_fits, (exm_tup3 (S.kIn.keeps kp) (LT.keeps kp) (Heap.get?_push_size s.heap rfl) hb).here (q _ kp)⟩)))))))
  | four n1 n2 n3 n4 => exact wpAny_Tuple (wpAny_items_cons (nm_eval n1 S (wpAny_items_cons (nm_eval n2 S (wpAny_items_cons (nm_eval n3 S (wpAny_items_cons (nm_eval n4 S (wpAny_items_nil ⟨by size_fits, (exm_tup4 (S.kIn.keeps kp) (LT.keeps kp) (Heap.get?_push_size s.heap rfl) hb).here (q _ kp)⟩)))))))))
end
theorem fly_on {B h h' : Heap} {l : List Env} {e : Addr} {Z : Obj → Prop} (R : HandSPX.FlyingZ B l e Z h) (k : ∀ b o, h.get? b = some o → h'.get? b = some o) : HandSPX.FlyingZ B l e Z h' := by
  rcases R with ⟨g1, g2, g3, o1, vs, T, oT, ts, q1, q2, q3, q4, q5, q6, q7, q8, q9⟩
  exact ⟨fun b o q => k b o (g1 b o q), g2, g3.of_keeps fun b o q _ => ⟨o, k b o q, rfl⟩, o1, vs, T, oT, ts, k _ _ q1, q2, q3, q4, q5, q6, k _ _ q7, q8, q9⟩
/-! ### try: body, except ..: suite, .. -/
abbrev Clause := (Value → Option Bool) × Option Nat × (Addr → Value → Option Addr → TS)
/-- behind a suite with a name the name is gone -/
def goneE (i : Nat) (D : Ends) : Ends := { nx := fun σ' H' => D.nx (σ'.set i none) H', rt := D.rt, bk := fun σ' H' => D.bk (σ'.set i none) H', ct := fun σ' H' => D.ct (σ'.set i none) H' }
def wTry (Wout : WX) (D : Ends) : List Clause → WX
  | [] => Wout
  | (f, none, ts) :: r => fun cls d σ H => ∃ b, f cls = some b ∧ if b = true then ∀ a, H a = none → ts a cls d D σ H else wTry Wout D r cls d σ H
  | (f, some i, ts) :: r => fun cls d σ H => ∃ b, f cls = some b ∧ if b = true then ∀ a, H a = none → ts a cls d (goneE i D) (σ.set i (some (.ref a))) H else wTry Wout D r cls d σ H
inductive ClsOk (X : Cx) : List ExceptHandler → List Clause → Prop
  | nil : ClsOk X [] []
  | plain {te : Expr} {f : Value → Option Bool} {ts : Addr → Value → Option Addr → TS} {b₀ : Stmt} {su : List Stmt} {pos : Pos} {hds : List ExceptHandler} {l : List Clause} (ht : TK X te f)
      (hsu : ∀ (a : Addr) (oe : Obj) (cls : Value) (d : Option Addr) (pn : List (Addr × Obj)), Zc cls d oe → (∃ vs, oe.data = .fields vs) → PSs (X.suite a ((a, oe) :: pn)) (b₀ :: su) (ts a cls d)) (r : ClsOk X hds l) :
      ClsOk X (.ExceptHandler (some te) none (b₀ :: su) pos :: hds) ((f, none, ts) :: l)
  | named {te : Expr} {f : Value → Option Bool} {n : Str} {i : Nat} {ts : Addr → Value → Option Addr → TS} {b₀ : Stmt} {su : List Stmt} {pos : Pos} {hds : List ExceptHandler} {l : List Clause} (ht : TK X te f) (hi : X.N[i]? = some n) (hln : X.env.kindOf n = some .local)
      (hsu : ∀ (a : Addr) (oe : Obj) (cls : Value) (d : Option Addr) (pn : List (Addr × Obj)), Zc cls d oe → (∃ vs, oe.data = .fields vs) → PSs (X.suite a ((a, oe) :: pn)) (b₀ :: su) (ts a cls d)) (r : ClsOk X hds l) :
      ClsOk X (.ExceptHandler (some te) (some n) (b₀ :: su) pos :: hds) ((f, some i, ts) :: l)
section
variable {X : Cx} {pins : List (Addr × Obj)} {σ : L2.St} {H : Hp} {D : Ends} {sI s' : Shared} {a : Addr} {B : Heap} {cls : Value} {d : Option Addr} {Wout : WX}
/-- the exception stands noted at the frame: the clauses, one behind the other -/
theorem clauses_run {hds : List ExceptHandler} {l : List Clause} (hk : ClsOk X hds l) : ∀ {h3 : Heap}, (ok : X.Ok) → X.A.frames = some (X.env :: X.outer) → X.stack = X.env :: X.outer → X.env.frame = some X.env.locals → X.N.Nodup → Takes X Wout → Inv X pins σ H sI → (∀ b o, sI.heap.get? b = some o → b ∉ frs X.stack → B.get? b = some o) → sI.heap.UpToSlots h3 → HandSPX.FlyingZ B (X.env :: X.outer) a (Zc cls d) h3 →
    H a = none → s'.os = sI.os → AllBare s'.gens → wTry Wout D l cls d σ H → wpAny (model X.prog X.w) X.A (handleBy (.ref a) X.env hds) (SP X pins D) X.xe { s' with heap := h3 } := by
  induction hk with
  | nil =>
    intro h3 ok hfr hs hf hN tk J nb up fl na os ag w
    refine wpAny_handleBy_nil ?_
    obtain ⟨_, _, _, oe, vs, T, oT, ts', he, hz, hd, h1, _⟩ := id fl
    unfold PySem.passOn
    refine wpAny_bind (wpAny_field he hd h1 ?_)
    rw [if_neg (show ¬ ((Value.ref T == Value.none) = true) from by simp)]
    have out : wpAny (model X.prog X.w) X.A (setFlight (.ref a) X.env.frame) (fun _ s4 => wpAny (model X.prog X.w) X.A (throw (.ref a) : Sem Flow) (SP X pins D) X.xe s4) X.xe { s' with heap := h3 } := by
      rw [hf]
      exact HandSPX.setFlight_upZ fl fun h4 hh4 up4 => wpAny_throw (tk _ _ ⟨a, B, sI, pins, σ, H, cls, d, rfl, J, nb, up.trans up4, .inr (.inr (hs ▸ hh4)), na, os, ag, w⟩)
    first
      | exact wpAny_bind (wpAny_pure (wpAny_bind out))
      | exact wpAny_bind out
  | @plain te f ts b₀ su pos hds l ht hsu r ih =>
    intro h3 ok hfr hs hf hN tk J nb up fl na os ag w
    obtain ⟨b, hb, w⟩ := w
    have J3 : Inv X pins σ H { s' with heap := h3 } := J.landed nb fl.1 up os ag
    obtain ⟨oe3, vs3, he3, hz3, hd3⟩ := fl.there
    have nfr : ∀ {h : Heap} {o : Obj} {vs : Array Value}, h.FunFrames B (X.env :: X.outer) → h.get? a = some o → o.data = .fields vs → a ∉ frs (X.env :: X.outer) := fun {h o vs} ff e dd hm => by
      obtain ⟨_, o2, e2, z⟩ := ff.mem hm
      cases e.symm.trans e2
      exact z _ dd
    have n1 := nfr fl.2.2.1 he3 hd3
    have nL : a ≠ X.env.locals := fun z => n1 (List.mem_filterMap.mpr ⟨X.env, List.mem_cons_self, by rw [hf, z]⟩)
    have nF : a ∉ X.fs := fun hm => by
      obtain ⟨e, he, q⟩ := List.mem_filterMap.mp hm
      exact n1 (List.mem_filterMap.mpr ⟨e, List.mem_cons_of_mem _ he, q⟩)
    refine wpAny_handleBy_cons (codeAny_handlers_test ?_) (by intro q; cases q)
    refine tk_run ht (J3.suite he3 hd3 na nL nF) he3 hz3.1 hb fun h5 k5 => ?_
    have fl5 := fly_on fl k5
    have up5 : sI.heap.UpToSlots h5 := up.trans (Heap.UpToSlots.of_keeps k5)
    cases b with
    | false => exact ih ok hfr hs hf hN tk J nb up5 fl5 na os ag w
    | true =>
      refine codeAny_handlers_suite (HandSPX.lands_againZ fl5 fun h4 fl4 up4 => ?_)
      obtain ⟨oe4, vs4, he4, hz4, hd4⟩ := fl4.there
      have S4 := (show Inv X pins σ H { s' with heap := h4 } from J.landed nb fl4.1 (up5.trans up4) os ag).suite he4 hd4 na nL nF
      refine wpAny_mono ((hsu a oe4 cls d (X.pn ++ pins) hz4 ⟨_, hd4⟩).run [] _ _ H _ S4 (w a na)) (fun fw s6 hsp => ?_) (fun _ _ z => False.elim z)
      cases fw with
      | next => exact let ⟨_, _, S6, q6⟩ := hsp; ⟨_, _, S6.unsuite ok, q6⟩
      | brk => exact let ⟨_, _, S6, q6⟩ := hsp; ⟨_, _, S6.unsuite ok, q6⟩
      | cont => exact let ⟨_, _, S6, q6⟩ := hsp; ⟨_, _, S6.unsuite ok, q6⟩
      | ret u => exact let ⟨_, _, _, S6, r6, q6⟩ := hsp; ⟨_, _, _, S6.unsuite ok, r6, q6⟩
  | @named te f n i ts b₀ su pos hds l ht hi hln hsu r ih =>
    intro h3 ok hfr hs hf hN tk J nb up fl na os ag w
    obtain ⟨b, hb, w⟩ := w
    have J3 : Inv X pins σ H { s' with heap := h3 } := J.landed nb fl.1 up os ag
    obtain ⟨oe3, vs3, he3, hz3, hd3⟩ := fl.there
    have nfr : ∀ {h : Heap} {o : Obj} {vs : Array Value}, h.FunFrames B (X.env :: X.outer) → h.get? a = some o → o.data = .fields vs → a ∉ frs (X.env :: X.outer) := fun {h o vs} ff e dd hm => by
      obtain ⟨_, o2, e2, z⟩ := ff.mem hm
      cases e.symm.trans e2
      exact z _ dd
    have n1 := nfr fl.2.2.1 he3 hd3
    have nL : a ≠ X.env.locals := fun z => n1 (List.mem_filterMap.mpr ⟨X.env, List.mem_cons_self, by rw [hf, z]⟩)
    have nF : a ∉ X.fs := fun hm => by
      obtain ⟨e, he, q⟩ := List.mem_filterMap.mp hm
      exact n1 (List.mem_filterMap.mpr ⟨e, List.mem_cons_of_mem _ he, q⟩)
    refine wpAny_handleBy_cons (codeAny_handlers_test ?_) (by intro q; cases q)
    refine tk_run ht (J3.suite he3 hd3 na nL nF) he3 hz3.1 hb fun h5 k5 => ?_
    have fl5 := fly_on fl k5
    have up5 : sI.heap.UpToSlots h5 := up.trans (Heap.UpToSlots.of_keeps k5)
    cases b with
    | false => exact ih ok hfr hs hf hN tk J nb up5 fl5 na os ag w
    | true =>
      refine codeAny_handlers_suite_as (HandSPX.lands_againZ fl5 fun h4 fl4 up4 => ?_)
      obtain ⟨oe4, vs4, he4, hz4, hd4⟩ := fl4.there
      have S4 := (show Inv X pins σ H { s' with heap := h4 } from J.landed nb fl4.1 (up5.trans up4) os ag).suite he4 hd4 na nL nF
      refine store_ok (X := X.suite a ((a, oe4) :: (X.pn ++ pins))) (v := .ref a) S4 hN hi (.inl hln) rfl (fun s5 S5 => ?_) (.inr hln)
      refine wpAny_mono ((hsu a oe4 cls d (X.pn ++ pins) hz4 ⟨_, hd4⟩).run [] s5 _ H _ S5 (w a na)) (fun fw s6 hsp => ?_) (fun _ _ z => False.elim z)
      have end_ : ∀ {σ6 : L2.St} {H6 : Hp} {Q : Shared → Prop}, Inv (X.suite a ((a, oe4) :: (X.pn ++ pins))) [] σ6 H6 s6 → (∀ s7, Inv X pins (σ6.set i none) H6 s7 → Q s7) →
          wpAny (model X.prog X.w) X.A (do bindName X.env n .none; unbindBehindTheSuite X.env n pos) (fun _ s7 => Q s7) X.xe s6 := fun {σ6 H6 Q} S6 hq => gone_ok (S6.unsuite ok) hN hi hln hq
      cases fw with
      | next => exact let ⟨_, _, S6, q6⟩ := hsp; end_ S6 fun s7 J7 => ⟨_, _, J7, q6⟩
      | brk => exact let ⟨_, _, S6, q6⟩ := hsp; end_ S6 fun s7 J7 => ⟨_, _, J7, q6⟩
      | cont => exact let ⟨_, _, S6, q6⟩ := hsp; end_ S6 fun s7 J7 => ⟨_, _, J7, q6⟩
      | ret u => exact let ⟨_, _, _, S6, r6, q6⟩ := hsp; end_ S6 fun s7 J7 => ⟨_, _, _, J7, r6, q6⟩
theorem ps_try_g {body : List Stmt} {h₀ : ExceptHandler} {hds : List ExceptHandler} {l : List Clause} {pos : Pos} {tb : WX → TS} (hs : X.stack = X.env :: X.outer) (hf : X.env.frame = some X.env.locals) (hN : X.N.Nodup) (tk : Takes X Wout)
    (hb : ∀ (W : WX) (pn : List (Addr × Obj)) (xe : Value → Shared → Prop), Takes (X.tr pn xe) W → PassesOwn (model X.prog X.w) X.A X.env xe → PSs (X.tr pn xe) body (tb W))
    (hh : ClsOk X (h₀ :: hds) l) : PS X (.Try body (h₀ :: hds) [] [] pos) (fun D σ H => tb (wTry Wout D l) D σ H) := by
  refine ⟨fun pins s σ H D I h => ?_⟩
  have ok := I.ok
  have hfr : X.A.frames = some (X.env :: X.outer) := hs ▸ ok.frames
  refine wpAny_Try_except (wpAny_mono ((hb (wTry Wout D l) (X.pn ++ pins) (fun e s₁ => wpAny (model X.prog X.w) X.A (noteFrame e X.env) (fun _ s₂ => wpAny (model X.prog X.w) X.A (setFlight e none) (fun _ s₃ =>
    wpAny (model X.prog X.w) X.A (handleBy e X.env (h₀ :: hds)) (SP X pins D) X.xe s₃) X.xe s₂) X.xe s₁) (fun u s1 xx => ?_) PassesOwn.looking).run [] s σ H D (I.toTry _) h) (fun fw s1 hsp => ?_) (fun e s1 he => he))
  · obtain ⟨a, B, sI, pins', σ', H', cls, d, rfl, J', nb, up, sky, na, os, ag, w⟩ := xx
    show wpAny (model X.prog X.w) X.A (noteFrame (.ref a) X.env) _ _ _
    refine Sky.land Zc.steady hfr hf (show Sky B (X.env :: X.outer) a (Zc cls d) X.env.locals s1.heap from hs ▸ sky) fun h3 fl3 up3 => ?_
    exact clauses_run hh ok hfr hs hf hN tk (J'.ofTry ok) nb (up.trans up3) fl3 na os ag w
  · cases fw with
    | next => exact let ⟨_, _, J', q⟩ := hsp; wpAny_execs_nil ⟨_, _, J'.ofTry ok, q⟩
    | brk => exact let ⟨_, _, J', q⟩ := hsp; ⟨_, _, J'.ofTry ok, q⟩
    | cont => exact let ⟨_, _, J', q⟩ := hsp; ⟨_, _, J'.ofTry ok, q⟩
    | ret u => exact let ⟨_, _, _, J', r, q⟩ := hsp; ⟨_, _, _, J'.ofTry ok, r, q⟩
end
end CH

/-! ### calls that may raise, at the caller's slots; len, == of own objects; == and != by items that are one -/
namespace CH
open PySem PySem.Spec PyProof.Rows PySem.W PySem.Calls L2
def tMethE (C : Addr) (m : Str) (sp : Sp) (dvs : List V) (E : L2.St → XK) (ta : TE) (t : TA) : TE := fun σ H Q => ta σ H fun x H1 => ∃ a dx fs, x = .ref a ∧ H1 a = some (.ins C dx fs) ∧ fs.lookup m = none ∧ t σ H1 fun vs H2 => sp (x :: (vs ++ dvs)) H2 Q (E σ)
def tMakeE (C : Addr) (sp : Sp) (dvs : List V) (E : L2.St → XK) (t : TA) : TE := fun σ H Q => t σ H fun vs H1 => ∀ x dx, H1 x = none → H1 dx = none → dx ≠ x → sp (.ref x :: (vs ++ dvs)) (upd (upd H1 dx (.own x)) x (.ins C dx [])) (fun v H2 => v = .non ∧ Q (.ref x) H2) (E σ)
section
variable {X : Cx} {CX : CXT} {k : Nat} {f C : Addr} {fd : FuncData} {ps : List Str} {sp : Sp} {dvs : List V} {ds : List Value} {E : L2.St → XK} {x m : Str} {p pos apos : Pos} {e o : Expr} {es : List Expr} {ta : TE} {t : TA}
theorem pe_methE {pl : Sem Bool} (he : PE X o ta) (c : Cls X.K C) (hm : Meth X.K C m f) (F : FnOk X.prog X.w X.K X.mg X.base CX k f fd ps sp) (hr : Room k X.A) (hb : Binds X.K fd ps ds) (hd : Vals dvs ds) (hx : ∀ σ, PassesAt CX X σ (E σ)) (ha : PA X (e :: es) t)
    (hst : starEach (e :: es) X.env = (false, eval e X.env) :: starEach es X.env := by rfl) (hpl : (backTo pos (starEach es X.env)).any (·.1) = false := by rfl)
    (ht : eval (.Call (.Attribute o m apos) (e :: es) [] pos) X.env = (eval o X.env >>= fun ov => standAt apos.atName >>= fun _ => holding [ov] (getMethod ov m pl) >>= fun r => callWith pos r.1 r.2 (backTo pos (starEach (e :: es) X.env)) (backToKw pos (keywordEach [] X.env))) := by rfl) :
    PE X (.Call (.Attribute o m apos) (e :: es) [] pos) (tMethE C m sp dvs E ta t) := by
  refine ⟨fun pins s σ H Q I h => PySem.W.methodCall_KW (pl := pl) (thn (he.run pins s σ H _ I h) fun u s1 hh => ?_) ht⟩
  obtain ⟨_, H1, I1, rx, a, dx, fs, rfl, ea, l, q⟩ := hh
  obtain rfl : u = Value.ref a := rx
  refine getmeth_ok I1 ea c hm l (PySem.W.callWith_K (first := [.ref a]) (h₀ := X.base) I.ok.mod.kin hm.kp (thn (ha.run pos pins s1 σ H1 _ I1 q) fun us s2 hh => ?_) hst hpl)
  obtain ⟨vs, H2, I2, r, q2⟩ := hh
  exact ⟨I2.kIn, run_fnSD (us := .ref a :: us) (vs := .ref a :: vs) F hr hb hd (hx σ) I2 (.cons rfl r) q2⟩
theorem pe_methE0 {pl : Sem Bool} (he : PE X o ta) (c : Cls X.K C) (hm : Meth X.K C m f) (F : FnOk X.prog X.w X.K X.mg X.base CX k f fd ps sp) (hr : Room k X.A) (hb : Binds X.K fd ps ds) (hd : Vals dvs ds) (hx : ∀ σ, PassesAt CX X σ (E σ))
    (ht : eval (.Call (.Attribute o m apos) [] [] pos) X.env = (eval o X.env >>= fun ov => standAt apos.atName >>= fun _ => holding [ov] (getMethod ov m pl) >>= fun r => callWith pos r.1 r.2 (backTo pos (starEach [] X.env)) (backToKw pos (keywordEach [] X.env))) := by rfl) :
    PE X (.Call (.Attribute o m apos) [] [] pos) (tMethE C m sp dvs E ta tNil) := by
  refine ⟨fun pins s σ H Q I h => PySem.W.methodCall_KW (pl := pl) (thn (he.run pins s σ H _ I h) fun u s1 hh => ?_) ht⟩
  obtain ⟨_, H1, I1, rx, a, dx, fs, rfl, ea, l, q⟩ := hh
  obtain rfl : u = Value.ref a := rx
  exact getmeth_ok I1 ea c hm l (PySem.W.callWith_K0 (first := [.ref a]) I1.kIn hm.kp (run_fnSD (us := [.ref a]) (vs := [.ref a]) F hr hb hd (hx σ) I1 (.cons rfl .nil) q))
theorem pe_call0E (F : FnOk X.prog X.w X.K X.mg X.base CX k f fd ps sp) (hr : Room k X.A) (hg : Gl X x) (hm : X.mg x = some (.ref f)) (hk : PySem.W.keepIn X.K (.ref f) = true) (hb : Binds X.K fd ps ds) (hd : Vals dvs ds) (hx : ∀ σ, PassesAt CX X σ (E σ))
    (hdb : (x == ("__debug__" : Str)) = false := by decide) : PE X (.Call (.Name x p) [] [] pos) (tCallSD sp dvs E tNil) :=
  ⟨fun _ _ σ _ _ I h => wpAny_Call_Name_kw (ld_glob I hg hm (PySem.W.callWith_K0 I.kIn hk (run_fnSD (us := []) F hr hb hd (hx σ) I .nil h)) hdb)⟩
theorem run_makeE {pins : List (Addr × Obj)} {σ : L2.St} {H : Hp} {s : Shared} {Q : VK} {us : List Value} {vs : List V} {E : XK} (M : Mk X.K C f) (F : FnOk X.prog X.w X.K X.mg X.base CX k f fd ps sp) (hr : Room (k + 1) X.A) (hb : Binds X.K fd ps ds) (hd : Vals dvs ds)
    (hx : ∀ (H1 : Hp) (s1 : Shared) (e : Value) (s' : Shared), Inv X pins σ H1 s1 → CX X.stack H1 s1 E e s' → X.xe e s') (I : Inv X pins σ H s) (r : Vals vs us)
    (h : ∀ x dx, H x = none → H dx = none → dx ≠ x → sp (.ref x :: (vs ++ dvs)) (upd (upd H dx (.own x)) x (.ins C dx [])) (fun v H2 => v = .non ∧ Q (.ref x) H2) E) :
    wpAny (model X.prog X.w) X.A (call (.ref C) us) (EP X pins σ Q) X.xe s := by
  have q := h (s.heap.objs.size + 1) s.heap.objs.size (I.hok.fresh (Nat.le_succ _)) (I.hok.fresh (Nat.le_refl _)) (Nat.ne_of_lt (Nat.lt_succ_self _))
  have I2 := Inv.made (C := C) I
  have r2 : Vals (V.ref (s.heap.objs.size + 1) :: (vs ++ dvs)) (Value.ref (s.heap.objs.size + 1) :: (us ++ ds)) := .cons rfl (r.append hd)
  have hl : (Value.ref (s.heap.objs.size + 1) :: us ++ ds).length = ps.length := by
    have z := r2.length
    rw [show Value.ref (s.heap.objs.size + 1) :: us ++ ds = Value.ref (s.heap.objs.size + 1) :: (us ++ ds) from rfl, ← z]
    exact F.len _ _ _ _ q
  refine wpAny_call (make_map (f := f) I.kIn M.makes M.init (beq_iff_eq.mp M.fn) (codeAny_mono (F.run _ X.stack _ _ ⟨Value.ref (s.heap.objs.size + 1) :: us, []⟩ (Value.ref (s.heap.objs.size + 1) :: (us ++ ds)) _ _ E (hr.make C us []) (I2.env0.make C us []) (hb _ (Value.ref (s.heap.objs.size + 1) :: us) I2.kIn hl) r2 q) fun rr s' hq => ?_))
  cases rr with
  | error e => exact hx _ _ e s' I2 hq
  | ok fl =>
    cases fl with
    | ret u =>
      obtain ⟨v, H', J, rv, e, q'⟩ := I2.after hq
      subst e
      obtain rfl : u = Value.none := rv
      exact ⟨rfl, .ref _, H', J, rfl, q'⟩
    | next => exact False.elim hq
    | brk => exact False.elim hq
    | cont => exact False.elim hq
theorem pe_makeE (M : Mk X.K C f) (F : FnOk X.prog X.w X.K X.mg X.base CX k f fd ps sp) (hr : Room (k + 1) X.A) (hg : Gl X x) (hm : X.mg x = some (.ref C)) (hb : Binds X.K fd ps ds) (hd : Vals dvs ds) (hx : ∀ σ, PassesAt CX X σ (E σ))
    (ha : PA X (e :: es) t) (hdb : (x == ("__debug__" : Str)) = false := by decide) (he : starEach (e :: es) X.env = (false, eval e X.env) :: starEach es X.env := by rfl) (hpl : (backTo pos (starEach es X.env)).any (·.1) = false := by rfl) :
    PE X (.Call (.Name x p) (e :: es) [] pos) (tMakeE C sp dvs E t) :=
  ⟨fun pins s σ H Q I h => wpAny_Call_Name_kw (ld_glob I hg hm (PySem.W.callWith_K (h₀ := X.base) I.ok.mod.kin M.kp (thn (ha.run pos pins s σ H _ I h) fun us s1 hh => let ⟨vs, H1, I1, r, q⟩ := hh; ⟨I1.kIn, run_makeE M F hr hb hd (fun H1 s1 e s' J c => hx σ pins H1 s1 e s' J c) I1 r q⟩) he hpl) hdb)⟩
end
/-! ### one's own objects: len, == -/
theorem inst_of {X : Cx} {pins : List (Addr × Obj)} {σ : L2.St} {H : Hp} {s : Shared} {a C dx : Addr} {fs : List (Str × V)} (I : Inv X pins σ H s) (e : H a = some (.ins C dx fs)) : ∃ ox od, PySem.W.InstAt s.heap a ox C (some od) := by
  obtain ⟨mA, ⟨ob, hns, _⟩, _⟩ := ins_get I.hok e
  obtain ⟨od, ho, _⟩ := lookIn_ns hns
  exact ⟨_, od, ob, rfl, rfl, ho⟩
section
variable {X : Cx} {CX : CXT} {k : Nat} {f C : Addr} {fd : FuncData} {ps : List Str} {sp : Sp} {E : XK}
theorem call_lenO {K : Frag} (hK : X.K = K) (hs : findIn K (.ref C) "__len__" = some (some (.ref f))) (hf : isFn K (.ref f) = true) (F : FnOk X.prog X.w X.K X.mg X.base CX k f fd ps sp) (hr : Room (k + 1) X.A) (hb : Binds X.K fd ps []) (hx : Passes CX X E) :
    CallR X (.builtin "len") (fun xs H Q => ∃ a dx fs, xs = [.ref a] ∧ H a = some (.ins C dx fs) ∧ sp [.ref a] H (fun v H' => ∃ n : Int, v = .int n ∧ 0 ≤ n ∧ n < 2 ^ 63 ∧ Q (.int n) H') E) := by
  subst hK
  intro pins s σ H xs us Q I r h
  obtain ⟨a, dx, fs, rfl, ea, q⟩ := h
  rw [Vals.ref1 r]
  obtain ⟨ox, od, J⟩ := inst_of I ea
  obtain ⟨m, hn, _⟩ := I.loc
  have Fr0 : Fr X.base X.env.locals s.heap m := ⟨hn, I.bk, Nat.le_trans I.ok.bsz I.ok.above⟩
  have hl : [Value.ref a].length = ps.length := by
    have z := F.len _ _ _ _ q
    exact z
  have b := hb s [.ref a] I.kIn (by rw [List.append_nil]; exact hl)
  rw [List.append_nil] at b
  refine PySem.W.len_K Fr0 I.ok.mod.kin J hs hf (wpAny_call (codeAny_mono (F.run X.A.in1 X.stack s H ⟨[.ref a], []⟩ [.ref a] [.ref a] _ E hr.in1 I.env0.in1 b (.cons rfl .nil) q) fun rr s' hq => ?_))
  cases rr with
  | error e => exact hx pins σ H s e s' I hq
  | ok fl =>
    cases fl with
    | ret u =>
      obtain ⟨v, H', J', rv, n, rfl, h0, h1, qq⟩ := I.after hq
      obtain ⟨t, rfl⟩ := rv
      exact ⟨⟨h0, h1⟩, .int n, H', J'.tok _, ⟨_, rfl⟩, qq⟩
    | next => exact False.elim hq
    | brk => exact False.elim hq
    | cont => exact False.elim hq
theorem rc_own {prog : Program} {w : World} {A : Around} {E : Value → Shared → Prop} {s : Shared} {K : Frag} {x y : Addr} {ox oy : Obj} {od od2 : Option Obj} {Q : Value → Shared → Prop} (hu : A.units < cLine) (XI : K.In s.heap) (I : PySem.W.InstAt s.heap x ox C od) (J : PySem.W.InstAt s.heap y oy C od2)
    (hs : findIn K (.ref C) "__eq__" = some (some (.ref f))) (hf : isFn K (.ref f) = true) (h : wpAny (model prog w) A (call (.ref f) [.ref x, .ref y]) (fun v s' => ∃ b, v = .bool b ∧ Q (.bool b) s') E s) : wpAny (model prog w) A (richCompare .Eq (.ref x) (.ref y)) Q E s := by
  unfold richCompare
  simp only [oneThing_ref]
  refine wpAny_holding (wpAny_bind (wpAny_cRoomFor hu ?_))
  rw [cmpInfo_Eq]
  dsimp only
  refine wpAny_bind (wpAny_typeOf_ref I.at_ (I.cls ▸ wpAny_bind (wpAny_typeOf_ref J.at_ ?_)))
  rw [J.cls]
  have e0 : (Value.ref C != Value.ref C) = false := by simp
  rw [e0]
  simp only [Bool.false_eq_true, if_false]
  refine wpAny_bind (wpAny_pure ?_)
  simp only [Bool.false_eq_true, if_false]
  unfold tryCompare
  refine wpAny_bind (wpAny_bind (ifBound_K XI I hs hf (wpAny_mono h (fun v s' hv => ?_) fun _ _ z => z)))
  obtain ⟨b, rfl, hq⟩ := hv
  exact wpAny_pure (wpAny_pure hq)
theorem op_eqO {K : Frag} (hK : X.K = K) (hs : findIn K (.ref C) "__eq__" = some (some (.ref f))) (hf : isFn K (.ref f) = true) (F : FnOk X.prog X.w X.K X.mg X.base CX k f fd ps sp) (hr : Room k X.A) (hb : Binds X.K fd ps []) (hx : Passes CX X E) :
    OpR X (compareOp .Eq) (fun x y H Q => ∃ a dx fs b dy gs, x = .ref a ∧ y = .ref b ∧ H a = some (.ins C dx fs) ∧ H b = some (.ins C dy gs) ∧ sp [.ref a, .ref b] H (fun v H' => ∃ z, v = .bl z ∧ Q (.bl z) H') E) := by
  subst hK
  intro pins s σ H x y v u Q I rx ry h
  obtain ⟨a, dx, fs, b, dy, gs, rfl, rfl, ea, eb, q⟩ := h
  obtain rfl : v = Value.ref a := rx
  obtain rfl : u = Value.ref b := ry
  obtain ⟨ox, od, J⟩ := inst_of I ea
  obtain ⟨oy, od2, J2⟩ := inst_of I eb
  refine PySem.W.cmp_ofEq (rc_own hr.units0 I.kIn J J2 hs hf ?_)
  have hd : Vals ([] : List V) ([] : List Value) := .nil
  refine wpAny_mono (run_fn (us := [.ref a, .ref b]) (vs := [.ref a, .ref b]) F hr hb hd hx I (.cons rfl (.cons rfl .nil)) (by rw [List.append_nil]; exact q)) (fun r s' hq => ?_) fun _ _ z => z
  obtain ⟨v, H', J', rv, z, rfl, qq⟩ := hq
  obtain rfl : r = Value.bool z := rv
  exact ⟨z, rfl, .bl z, H', J', rfl, qq⟩
end
/-! ### == and != of lists and tuples whose items are one and the same, or plain data -/
inductive E1 (K : Frag) (H : Hp) : V → V → Bool → Prop
  | same (a : Addr) : E1 K H (.ref a) (.ref a) true
  | str (a b : Str) : E1 K H (.str a) (.str b) (a == b)
  | dat {x y : V} {d e : PyData} : Dp K H x d → Dp K H y e → SeqAt.shaped d = true → SeqAt.shaped e = true → E1 K H x y (PyData.eqv d e)
inductive E1s (K : Frag) (H : Hp) : List V → List V → Bool → Prop
  | nil : E1s K H [] [] true
  | cons {x y : V} {xs ys : List V} {b c : Bool} : E1 K H x y b → E1s K H xs ys c → E1s K H (x :: xs) (y :: ys) (b && c)
def rEqX (K : Frag) : R2 := fun x y H Q => ∃ a b xs ys c, x = .ref a ∧ y = .ref b ∧ ((SqT K H a xs ∧ SqT K H b ys) ∨ (SqL K H a xs ∧ SqL K H b ys)) ∧ E1s K H xs ys c ∧ Q (.bl c) H
def rNeX (K : Frag) : R2 := fun x y H Q => ∃ a b xs ys c, x = .ref a ∧ y = .ref b ∧ ((SqT K H a xs ∧ SqT K H b ys) ∨ (SqL K H a xs ∧ SqL K H b ys)) ∧ E1s K H xs ys c ∧ Q (.bl (!c)) H
section
variable {X : Cx} {pins : List (Addr × Obj)} {σ : L2.St} {H : Hp} {s : Shared}
theorem E1.at (I : Inv X pins σ H s) {A : Around} (hu : A.units + 64 < cLine) {x y : V} {c : Bool} (h : E1 X.K H x y c) {u v : Value} (ru : RelV x u) (rv : RelV y v) : SeqAt.EqAt A s u v c := by
  cases h with
  | same a =>
    obtain rfl : u = Value.ref a := ru
    obtain rfl : v = Value.ref a := rv
    exact SeqAt.EqAt.same _
  | str a b =>
    obtain ⟨t, rfl⟩ := ru
    obtain ⟨t', rfl⟩ := rv
    exact SeqAt.EqAt.str_str _ _ _ _
  | @dat _ _ d e hd he sd se =>
    obtain ⟨as, r1⟩ := Dp.reads I d x u hd ru
    obtain ⟨bs, r2⟩ := Dp.reads I e y v he rv
    exact SeqAt.eqAt_reads d e A s u v as bs r1 r2 (SeqAt.canLay_of_shaped sd) (SeqAt.canLay_of_shaped se) (SeqAt.room_of_shaped sd hu)
theorem E1s.at (I : Inv X pins σ H s) {A : Around} (hu : A.units + 64 < cLine) {xs ys : List V} {c : Bool} (h : E1s X.K H xs ys c) : ∀ {us vs : List Value}, Vals xs us → Vals ys vs → us.length = vs.length ∧ ∃ e : Nat → Bool, (∀ j (h1 : j < us.length) (h2 : j < vs.length), SeqAt.EqAt A s us[j] vs[j] (e j)) ∧ ((List.range us.length).all e) = c := by
  induction h with
  | nil =>
    intro us vs r1 r2
    cases r1
    cases r2
    exact ⟨rfl, fun _ => true, fun j h1 => absurd h1 (Nat.not_lt_zero j), rfl⟩
  | @cons x y xs ys b c h1 _ ih =>
    intro us vs r1 r2
    cases r1 with
    | @cons _ u _ us ru rus =>
      cases r2 with
      | @cons _ v _ vs rv rvs =>
        obtain ⟨l, e, q, z⟩ := ih rus rvs
        refine ⟨congrArg (· + 1) l, fun j => match j with | 0 => b | j + 1 => e j, fun j h1' h2' => ?_, ?_⟩
        · cases j with
          | zero => exact h1.at I hu ru rv
          | succ j => exact q j (Nat.lt_of_succ_lt_succ h1') (Nat.lt_of_succ_lt_succ h2')
        · rw [List.length_cons, List.range_succ_eq_map, List.all_cons, List.all_map]
          exact congrArg (b && ·) z
theorem op_eqX {K : Frag} (hK : X.K = K) (hu : X.A.units + 128 < cLine) : OpR X (compareOp .Eq) (rEqX K) := by
  subst hK
  intro pins s σ H x y v u Q I rx ry h
  obtain ⟨a, b, xs, ys, c, rfl, rfl, hs, e1, q⟩ := h
  obtain rfl : v = Value.ref a := rx
  obtain rfl : u = Value.ref b := ry
  have hu1 : X.A.in1.units + 64 < cLine := by
    show X.A.units + 1 + 64 < cLine
    omega
  rcases hs with ⟨sa, sb⟩ | ⟨sa, sb⟩
  · obtain ⟨us, r1, ⟨o1, ho1, hc1, n1, hd1⟩, _⟩ := I.tuple sa
    obtain ⟨vs, r2, ⟨o2, ho2, hc2, n2, hd2⟩, _⟩ := I.tuple sb
    obtain ⟨l, e, he, z⟩ := e1.at I hu1 r1 r2
    refine SeqAt.eq_tupleAt (items := us.toArray) (items2 := vs.toArray) (e := e) ⟨o1, ho1, hc1, n1, hd1⟩ ⟨o2, ho2, hc2, n2, hd2⟩ (by omega) (fun j h1 h2 => he j h1 h2) ?_
    have w : ((List.range (min us.toArray.size vs.toArray.size)).all e && us.toArray.size == vs.toArray.size) = c := by
      rw [List.size_toArray, List.size_toArray, ← l, Nat.min_self, z, beq_self_eq_true, Bool.and_true]
    rw [w]
    exact ⟨.bl c, H, I, rfl, q⟩
  · obtain ⟨us, r1, ⟨o1, n1, ho1, hc1, _, hd1⟩, _⟩ := I.list sa
    obtain ⟨vs, r2, ⟨o2, n2, ho2, hc2, _, hd2⟩, _⟩ := I.list sb
    obtain ⟨l, e, he, z⟩ := e1.at I hu1 r1 r2
    refine SeqAt.eq_listAt (items := us.toArray) (items2 := vs.toArray) (e := e) ⟨o1, ho1, hc1, n1, hd1⟩ ⟨o2, ho2, hc2, n2, hd2⟩ (by rw [List.size_toArray, List.size_toArray]; exact l) (by omega) (fun j h1 h2 => he j h1 h2) ?_
    rw [List.size_toArray, z]
    exact ⟨.bl c, H, I, rfl, q⟩
theorem op_neX {K : Frag} (hK : X.K = K) (hu : X.A.units + 128 < cLine) : OpR X (compareOp .NotEq) (rNeX K) := by
  subst hK
  intro pins s σ H x y v u Q I rx ry h
  obtain ⟨a, b, xs, ys, c, rfl, rfl, hs, e1, q⟩ := h
  obtain rfl : v = Value.ref a := rx
  obtain rfl : u = Value.ref b := ry
  have hu1 : X.A.in1.units + 64 < cLine := by
    show X.A.units + 1 + 64 < cLine
    omega
  rcases hs with ⟨sa, sb⟩ | ⟨sa, sb⟩
  · obtain ⟨us, r1, ⟨o1, ho1, hc1, n1, hd1⟩, _⟩ := I.tuple sa
    obtain ⟨vs, r2, ⟨o2, ho2, hc2, n2, hd2⟩, _⟩ := I.tuple sb
    obtain ⟨l, e, he, z⟩ := e1.at I hu1 r1 r2
    refine PySem.W.cmp_ofNotEq (SeqAt.RcNeAt.tuples (items := us.toArray) (items2 := vs.toArray) (e := e) ⟨o1, ho1, hc1, n1, hd1⟩ ⟨o2, ho2, hc2, n2, hd2⟩ (by omega) (fun j h1 h2 => he j h1 h2) _ _ _ _ ?_)
    have w : ((List.range (min us.toArray.size vs.toArray.size)).all e && us.toArray.size == vs.toArray.size) = c := by
      rw [List.size_toArray, List.size_toArray, ← l, Nat.min_self, z, beq_self_eq_true, Bool.and_true]
    rw [w]
    exact ⟨.bl _, H, I, rfl, q⟩
  · obtain ⟨us, r1, ⟨o1, n1, ho1, hc1, _, hd1⟩, _⟩ := I.list sa
    obtain ⟨vs, r2, ⟨o2, n2, ho2, hc2, _, hd2⟩, _⟩ := I.list sb
    obtain ⟨l, e, he, z⟩ := e1.at I hu1 r1 r2
    refine PySem.W.cmp_ofNotEq (SeqAt.RcNeAt.lists (items := us.toArray) (items2 := vs.toArray) (e := e) ⟨o1, ho1, hc1, n1, hd1⟩ ⟨o2, ho2, hc2, n2, hd2⟩ (by rw [List.size_toArray, List.size_toArray]; exact l) (by omega) (fun j h1 h2 => he j h1 h2) _ _ _ _ ?_)
    rw [List.size_toArray, z]
    exact ⟨.bl _, H, I, rfl, q⟩
end
end CH

/-! ### != of own objects by their own ==; enumerate over a tuple; methods with keywords -/
namespace CH
open PySem PySem.Spec PyProof.Rows PySem.W PySem.Calls L2
section
variable {X : Cx} {CX : CXT} {k : Nat} {f C : Addr} {fd : FuncData} {ps : List Str} {sp : Sp} {E : XK}
theorem ne_entry {pg : Program} {w : World} {A : Around} {E : Value → Shared → Prop} {s : Shared} {K : Frag} {x y : Addr} {ox : Obj} {od : Option Obj} {Q : Fin → Shared → Prop} (hu : A.units < cLine) (XI : K.In s.heap) (I : PySem.W.InstAt s.heap x ox C od)
    (hs : findIn K (.ref C) "__eq__" = some (some (.ref f))) (hf : isFn K (.ref f) = true) (h : wpAny (model pg w) A (call (.ref f) [.ref x, .ref y]) (fun v s' => ∃ b, v = .bool b ∧ Q (.done (.ret (.bool (!b)))) s') E s) :
    wpAny (model pg w) A (Builtin.«object.__ne__» ⟨[.ref x, .ref y], []⟩) Q E s := by
  unfold Builtin.«object.__ne__»
  refine wpAny_bind (wpAny_of_eq (a := ((Value.ref x : Value), [Value.ref y])) (by first | rfl | (simp only [slotArgs]; rfl)) ?_)
  refine wpAny_bind (wpAny_cRoomFor hu ?_)
  refine wpAny_bind (ifBound_K XI I hs hf (wpAny_mono h (fun v s' hv => ?_) fun _ _ z => z))
  obtain ⟨b, rfl, hq⟩ := hv
  refine wpAny_bind (wpAny_truthy_bool ?_)
  exact wpAny_pure hq
theorem rn_own {pg : Program} {w : World} {A : Around} {E : Value → Shared → Prop} {s : Shared} {K : Frag} {x y : Addr} {ox oy : Obj} {od od2 : Option Obj} {Q : Value → Shared → Prop} (hu : A.units + 1 < cLine) (XI : K.In s.heap) (I : PySem.W.InstAt s.heap x ox C od) (J : PySem.W.InstAt s.heap y oy C od2)
    (hn : findIn K (.ref C) "__ne__" = some (some (.builtin "object.__ne__"))) (hm : mroIn K C (.type "object") = some true)
    (hs : findIn K (.ref C) "__eq__" = some (some (.ref f))) (hf : isFn K (.ref f) = true) (h : wpAny (model pg w) A.in1 (call (.ref f) [.ref x, .ref y]) (fun v s' => ∃ b, v = .bool b ∧ Q (.bool (!b)) s') E s) : wpAny (model pg w) A (richCompare .NotEq (.ref x) (.ref y)) Q E s := by
  unfold richCompare
  simp only [oneThing_ref]
  refine wpAny_holding (wpAny_bind (wpAny_cRoomFor (by omega) ?_))
  rw [cmpInfo_NotEq]
  dsimp only
  refine wpAny_bind (wpAny_typeOf_ref I.at_ (I.cls ▸ wpAny_bind (wpAny_typeOf_ref J.at_ ?_)))
  rw [J.cls]
  have e0 : (Value.ref C != Value.ref C) = false := by simp
  rw [e0]
  simp only [Bool.false_eq_true, if_false]
  refine wpAny_bind (wpAny_pure ?_)
  simp only [Bool.false_eq_true, if_false]
  unfold tryCompare
  refine wpAny_bind (wpAny_bind ?_)
  simp only [callSpecialIfBound?, bindSpecialIfBound?]
  refine wpAny_holding (wpAny_bind (wpAny_bind (wpAny_bind (I.type.here ((looks_findIn XI hn).here ?_)))))
  simp only [F.cmp_object.ne.bind]
  refine wpAny_bind (wpAny_askSetting (wpAny_ite ?_))
  have fin : wpAny (model pg w) A (call (.builtin "object.__ne__") ([.ref x] ++ [.ref y]) >>= fun v => pure (some v)) (fun r s' => ∃ b, r = some (.bool b) ∧ Q (.bool b) s') E s := by
    refine wpAny_bind (wpAny_call (codeAny_call_builtin F.cmp_object.ne.plain F.cmpEntry_ne (check_slot (rest := [.ref y]) F.cmpKind_ne F.cmpSplit_ne (I.type.andThen (looks_mroIn XI hm)) (F.cmpArgs_ne _ _) ?_)))
    refine ne_entry (A := A.in1) (by show A.units + 1 < cLine; exact hu) XI I hs hf (wpAny_mono h (fun v s' hv => ?_) fun _ _ z => z)
    obtain ⟨b, rfl, hq⟩ := hv
    exact ⟨b, rfl, wpAny_pure ⟨_, rfl, hq⟩⟩
  split
  · refine wpAny_bind (wpAny_pure (wpAny_pure (wpAny_mono fin (fun r s' hr => ?_) fun _ _ z => z)))
    obtain ⟨b, rfl, hq⟩ := hr
    exact wpAny_pure (wpAny_pure hq)
  · refine wpAny_tryCatch (wpAny_bind (wpAny_pure (wpAny_pure (wpAny_mono fin (fun r s' hr => ?_) fun _ _ z => z))))
    obtain ⟨b, rfl, hq⟩ := hr
    exact wpAny_pure (wpAny_pure hq)
theorem op_neO {K : Frag} (hK : X.K = K) (hn : findIn K (.ref C) "__ne__" = some (some (.builtin "object.__ne__"))) (hm : mroIn K C (.type "object") = some true) (hs : findIn K (.ref C) "__eq__" = some (some (.ref f))) (hf : isFn K (.ref f) = true) (F : FnOk X.prog X.w X.K X.mg X.base CX k f fd ps sp) (hr : Room (k + 1) X.A) (hb : Binds X.K fd ps []) (hx : Passes CX X E) :
    OpR X (compareOp .NotEq) (fun x y H Q => ∃ a dx fs b dy gs, x = .ref a ∧ y = .ref b ∧ H a = some (.ins C dx fs) ∧ H b = some (.ins C dy gs) ∧ sp [.ref a, .ref b] H (fun v H' => ∃ z, v = .bl z ∧ Q (.bl (!z)) H') E) := by
  subst hK
  intro pins s σ H x y v u Q I rx ry h
  obtain ⟨a, dx, fs, b, dy, gs, rfl, rfl, ea, eb, q⟩ := h
  obtain rfl : v = Value.ref a := rx
  obtain rfl : u = Value.ref b := ry
  obtain ⟨ox, od, J⟩ := inst_of I ea
  obtain ⟨oy, od2, J2⟩ := inst_of I eb
  refine PySem.W.cmp_ofNotEq (rn_own (by have := hr.un; omega) I.kIn J J2 hn hm hs hf ?_)
  have hl : [Value.ref a, Value.ref b].length = ps.length := F.len _ _ _ _ q
  have bd := hb s [.ref a, .ref b] I.kIn (by rw [List.append_nil]; exact hl)
  rw [List.append_nil] at bd
  refine wpAny_call (codeAny_mono (F.run X.A.in1 X.stack s H ⟨[.ref a, .ref b], []⟩ [.ref a, .ref b] [.ref a, .ref b] _ E hr.in1 I.env0.in1 bd (.cons rfl (.cons rfl .nil)) q) fun rr s' hq => ?_)
  cases rr with
  | error e => exact hx pins σ H s e s' I hq
  | ok fl =>
    cases fl with
    | ret u =>
      obtain ⟨v, H', J', rv, z, rfl, qq⟩ := I.after hq
      obtain rfl : u = Value.bool z := rv
      exact ⟨z, rfl, .bl (!z), H', J', rfl, qq⟩
    | next => exact False.elim hq
    | brk => exact False.elim hq
    | cont => exact False.elim hq
end
end CH
namespace CH
open PySem PySem.Spec PyProof.Rows PySem.W PySem.Calls L2
theorem meets_enum1 {v : Value} {o : Obj} {HH : Heap → Prop} (B : Begins v o HH) :
    Meets (Builtin.«enumerate.__new__» ⟨[.type "enumerate", v], []⟩) (fun _ R s => HH s.heap ∧
      R (.ok (.ret (.ref (s.heap.push o).objs.size))) { s with heap := (s.heap.push o).push { cls := .type "enumerate", data := .fields #[.none, .bool false, .ref s.heap.objs.size, rawInt 0, .none, .none] } }) :=
  .of_wp fun pg w A R s hh => by
    obtain ⟨hp, g, d, tk, os⟩ := s
    obtain ⟨h1, h2⟩ := hh
    have sb := sub_enumerate
    have q1 : ∀ {A1 : Around} {E1 : Value → Shared → Prop} {Q1 : Value → Shared → Prop}, Q1 (.ref hp.objs.size) ⟨hp.push o, g, d, tk, os⟩ → wpAny (model pg w) A1 (pyIter v) Q1 E1 ⟨hp, g, d, tk, os⟩ := fun q => B.iter pg w _ _ ⟨hp, g, d, tk, os⟩ _ h1 q
    wp_walk using q1
    refine wpAny_stack_any fun st => wpAny_pure ?_
    split
    · rename_i c _ _ _ _ _
      cases (c == Value.type "enumerate")
      all_goals wp_walk using q1
      all_goals exact ⟨_, rfl, h2⟩
    · wp_walk using q1
      exact ⟨_, rfl, h2⟩
theorem call_enum1 {pg : Program} {w : World} {A : Around} {E : Value → Shared → Prop} {s : Shared} {v : Value} {o : Obj} {HH : Heap → Prop} {Q : Value → Shared → Prop} (B : Begins v o HH) (h1 : HH s.heap)
    (h : ∀ h', IsEnum h' (s.heap.objs.size + 1) s.heap.objs.size 0 .none → h'.get? s.heap.objs.size = some o → h'.objs.size = s.heap.objs.size + 2 → (∀ b o, s.heap.get? b = some o → h'.get? b = some o) → Q (.ref (s.heap.objs.size + 1)) { s with heap := h' }) :
    wpAny (model pg w) A (call (.type "enumerate") [v]) Q E s := by
  refine callType_new F.called_enumerate (by decide) (F.typeCall_enumerate_1 _) (F.newCall_enumerate_1 _) (fun obj => F.args_object_init_2 obj _) F.entry_enumerate_new (meets_enum1 B) ⟨h1, ?_⟩
  have hz : (s.heap.push o).objs.size = s.heap.objs.size + 1 := Heap.size_push ..
  show _ ∧ _
  rw [hz]
  have he : IsEnum ((s.heap.push o).push { cls := .type "enumerate", data := .fields #[.none, .bool false, .ref s.heap.objs.size, rawInt 0, .none, .none] }) (s.heap.objs.size + 1) s.heap.objs.size 0 .none := by
    have z := Heap.get?_push_size (s.heap.push o) (o := { cls := .type "enumerate", data := .fields #[.none, .bool false, .ref s.heap.objs.size, rawInt 0, .none, .none] }) rfl
    rw [hz] at z
    exact z
  exact ⟨⟨_, he, rfl⟩, h _ he (Heap.get?_push_of_some _ (Heap.get?_push_size _ B.free)) (by rw [Heap.size_push, hz]) fun b o x => Heap.get?_push_of_some _ (Heap.get?_push_of_some _ x)⟩
def ItEt (K : Frag) (a : Addr) : It :=
  ⟨fun i H => ∃ (xs : List V) (x : V), SqT K H a xs ∧ xs[i]? = some x, fun i H v H' => ∃ T x, v = .ref T ∧ H T = none ∧ H' = upd H T (.tup [.int (i : Nat), x]) ∧ ∀ xs, SqT K H a xs → xs[i]? = some x, fun i H => ∃ xs : List V, SqT K H a xs ∧ xs.length = i⟩
theorem turn_enumT {P : Program} {w : World} {K : Frag} {elts : List Expr} {kk : Nat} {tp : Pos} (a e it : Addr) :
    Turn P w K (.Tuple elts kk tp) (ItEt K a) [e, it] e (fun i h => (∃ old, IsEnum h e it ((i : Nat) : Int) old) ∧ h.IsTupleIter it a i ∧ e ≠ it) where
  mem := by simp
  obj := fun i h st b hb => by
    obtain ⟨⟨old, he⟩, ⟨o, ho, hc, hd⟩, _⟩ := st
    have eb : b = e ∨ b = it := by simpa using hb
    rcases eb with z | z
    · rw [z]; exact ⟨_, he, fun v q => nomatch q⟩
    · rw [z]; exact ⟨o, ho, fun v q => by rw [hd] at q; cases q⟩
  keep := fun i h h' st k => ⟨⟨st.1.choose, k e (by simp) _ st.1.choose_spec⟩, st.2.1.at fun o q => k it (by simp) o q, st.2.2⟩
  item := by
    intro X hP hw hK hc i pins s σ H E I hf st hg
    subst hP hw hK
    obtain ⟨⟨old, he⟩, hit, hne⟩ := st
    obtain ⟨xs, x, hq, hx⟩ := hg
    obtain ⟨its, rv, p, hz⟩ := I.tuple hq
    obtain ⟨u, hu, ru⟩ := rv.get hx
    have hel : e < s.heap.objs.size := Heap.lt_size he
    have hil : it < s.heap.objs.size := by obtain ⟨_, q, _⟩ := hit; exact Heap.lt_size q
    have p' : s.heap.IsTuple a its.toArray := p
    have hai : a ≠ it := fun z => by
      obtain ⟨o1, q1, c1, _⟩ := p'
      obtain ⟨o2, q2, c2, _⟩ := hit
      rw [z, q2] at q1
      cases q1
      rw [c2] at c1
      exact absurd (Value.type.inj c1) (by decide)
    have hae : a ≠ e := fun z => by
      obtain ⟨o1, q1, c1, _⟩ := p'
      have q2 : s.heap.get? e = some _ := he
      rw [z, q2] at q1
      cases q1
      exact absurd (Value.type.inj c1) (by decide)
    have hi : i < its.toArray.size := by
      rw [List.size_toArray]
      exact (List.getElem?_eq_some_iff.mp hu).1
    refine wpAny_pyNext_enum_itemD (Draws.tuple (A := X.A.in1) (I.ok.hd hc) it a hai its.toArray) he ⟨hit, p'⟩ hi hne (by simp; exact ⟨hne, fun z => hae z.symm⟩) fun y h' tk hy ho hit' hT hsz hk => ?_
    have ey : y = u := by
      have z : its[i]? = some y := by simpa using hy
      rw [hu] at z
      exact (Option.some.inj z).symm
    subst ey
    refine ⟨_, rfl, wpAny_letOwnedTupleGo_enum (s := { s with heap := h', toks := tk + 1 }) ho fun h2 he2 sb => ?_⟩
    have hT2 : h2.get? s.heap.objs.size = some { cls := .type "tuple", data := .seq #[.int i tk, y] } := (sb.2 _ (Nat.ne_of_gt hel)).trans hT
    have new : ObjOk X.prog X.w (upd H s.heap.objs.size (.tup [.int (i : Nat), x])) h2 s.heap.objs.size (.tup [.int (i : Nat), x]) := ⟨by show 2 ≤ sizeLine; decide, [.int i tk, y], .cons ⟨_, rfl⟩ (.cons ru .nil), ⟨_, hT2, rfl, _, rfl⟩⟩
    have I1 : Inv X pins σ (upd H s.heap.objs.size (.tup [.int (i : Nat), x])) { s with heap := h2, toks := tk + 1 } :=
      I.turnedNew (ch := [e, it]) (fun b ob hb q => (sb.2 b (fun z => hb (by simp [z]))).trans (hk b ob (fun z => hb (by simp [z])) (fun z => hb (by simp [z])) q)) hf (Nat.le_refl _) new
    refine ⟨.ref s.heap.objs.size, _, I1, rfl, ⟨_, x, rfl, I.hok.fresh (Nat.le_refl _), rfl, fun ys hy => by rw [I.tuple_inj hy hq]; exact hx⟩, ⟨⟨y, ?_⟩, hit'.1.at fun o q => (sb.2 it (Ne.symm hne)).trans q, hne⟩, fun b hb => ?_⟩
    · have e1 : ((i + 1 : Nat) : Int) = (i : Int) + 1 := by omega
      rw [e1]
      exact he2
    · have hb' : b < s.heap.objs.size := by
        have eb : b = e ∨ b = it := by simpa using hb
        rcases eb with z | z
        · rw [z]; exact hel
        · rw [z]; exact hil
      rw [upd_ne (Nat.ne_of_lt hb')]
      exact (hf b hb).1
  done := by
    intro X hP hw hK hc i pins s σ H E I hf st hg
    subst hP hw hK
    obtain ⟨⟨old, he⟩, hit, hne⟩ := st
    obtain ⟨xs, hq, hx⟩ := hg
    obtain ⟨its, rv, p, hz⟩ := I.tuple hq
    obtain ⟨f0, f1, f2, f3, f4, f5⟩ := hf it (by simp)
    have hl := rv.length
    have p' : s.heap.IsTuple a its.toArray := p
    have hai : a ≠ it := fun z => by
      obtain ⟨o1, q1, c1, _⟩ := p'
      obtain ⟨o2, q2, c2, _⟩ := hit
      rw [z, q2] at q1
      cases q1
      rw [c2] at c1
      exact absurd (Value.type.inj c1) (by decide)
    have hi : i = its.toArray.size := by
      rw [List.size_toArray]
      omega
    subst hi
    exact wpAny_pyNext_enum_endD (Draws.tuple (A := X.A.in1) (I.ok.hd hc) it a hai its.toArray) he ⟨hit, p'⟩ fun h' eb => ⟨rfl, I.turned (t' := s.toks) (fun b o hb e => eb b o hb e) f0 f1 f3 f4 f5⟩
  self := fun A i s Q E st h => wpAny_pyIter_enum st.1.choose_spec h
def iEnumT (K : Frag) (ta : TA) : TI := fun σ H R => ta σ H fun vs H1 => ∃ a xs, vs = [.ref a] ∧ SqT K H1 a xs ∧ R (ItEt K a) H1
theorem pi_enumT {X : Cx} {K : Frag} {e : Expr} {ta : TA} {p pos tp : Pos} {elts : List Expr} {kk : Nat} (hK : X.K = K) (hg : Gl X "enumerate") (hm : X.mg "enumerate" = none) (ha : PA X [e] ta) (hs : starEach [e] X.env = [(false, eval e X.env)] := by rfl) :
    PI X (.Tuple elts kk tp) (.Call (.Name "enumerate" p) [e] [] pos) (iEnumT K ta) := by
  subst hK
  refine ⟨fun pins s σ H R I h => ?_⟩
  refine Call_ (ld_blt I hg hm boot_enumerate (PyProof.Rows.callWith_type1 (thn (ha.run pos pins s σ H _ I h) fun us s1 hh => ?_) hs rfl))
  obtain ⟨vs, H1, I1, r1, a, xs, ex, hq, q⟩ := hh
  subst ex
  cases r1 with
  | cons r rr =>
    cases rr
    cases r
    obtain ⟨its, rv, p', hz⟩ := I1.tuple hq
    refine call_enum1 (begins_tuple a its.toArray) p' fun h' he hit hsz hk => wpAny_pyIter_enum he ?_
    have I2 : Inv X pins σ H1 { s1 with heap := h' } := I1.kept (t' := s1.toks) hk
    refine ⟨s1.heap.objs.size + 1, [s1.heap.objs.size + 1, s1.heap.objs.size], _, _, H1, rfl, I2, turn_enumT a (s1.heap.objs.size + 1) s1.heap.objs.size, ⟨⟨.none, he⟩, ⟨_, hit, rfl, rfl⟩, Nat.succ_ne_self _⟩, fun b hb => ?_, q⟩
    have hle : s1.heap.objs.size ≤ b := by
      have eb : b = s1.heap.objs.size + 1 ∨ b = s1.heap.objs.size := by simpa using hb
      rcases eb with z | z
      · rw [z]; exact Nat.le_add_right _ _
      · rw [z]; exact Nat.le_refl _
    exact I1.fpOk hle (I1.hok.fresh hle)
theorem walk_enumT {K : Frag} {a : Addr} {xs : List V} : Walk (ItEt K a) xs.length (fun H => SqT K H a xs) (YPair (fun i => some (.int (i : Nat))) (fun i => xs[i]?)) := by
  refine ⟨fun i _ hi q => ⟨xs, xs[i], q, by simp [hi]⟩, fun _ q => ⟨xs, q, rfl⟩, fun i H v H' _ q y => ?_⟩
  obtain ⟨T, x, h1, h2, h3, h4⟩ := y
  exact ⟨T, .int (i : Nat), x, h1, h2, h3, rfl, h4 xs q⟩
end CH
namespace CH
open PySem PySem.Spec PyProof.Rows PySem.W PySem.Calls L2
/-- o.m(e, .., k = v, ..) -/
def tMethN (C : Addr) (m : Str) (n j : Nat) (sp : Sp) (gV : List V → List V → List V) (E : XK) (ta : TE) (t tk : TA) : TE := fun σ H Q => ta σ H fun x H1 => ∃ a dx fs, x = .ref a ∧ H1 a = some (.ins C dx fs) ∧ fs.lookup m = none ∧ t σ H1 fun vs H2 => tk σ H2 fun zs H3 => vs.length = n ∧ zs.length = j ∧ sp (gV (x :: vs) zs) H3 Q E
section
variable {X : Cx} {CX : CXT} {k n : Nat} {f C : Addr} {fd : FuncData} {ps ks : List Str} {sp : Sp} {E : XK} {m : Str} {pos apos : Pos} {e o : Expr} {es : List Expr} {kws : List Keyword} {ta : TE} {t tk : TA} {g : List Value → List Value → List Value} {gV : List V → List V → List V}
theorem pe_methN {pl : Sem Bool} (he : PE X o ta) (c : Cls X.K C) (hm : Meth X.K C m f) (F : FnOk X.prog X.w X.K X.mg X.base CX k f fd ps sp) (hr : Room k X.A) (hb : KBn X.K fd ps (n + 1) ks g gV) (hx : Passes CX X E)
    (ha : PA X (e :: es) t) (hkw : PK X kws tk) (hall : (backToKw pos (keywordEach kws X.env)).all (·.1.isSome) = true := by rfl) (hks : (backToKw pos (keywordEach kws X.env)).filterMap (·.1) = ks := by rfl)
    (hst : starEach (e :: es) X.env = (false, eval e X.env) :: starEach es X.env := by rfl)
    (hpl : ((backTo pos (starEach (e :: es) X.env)).any (·.1) || (backToKw pos (keywordEach kws X.env)).any (·.1.isNone)) = false := by rfl)
    (ht : eval (.Call (.Attribute o m apos) (e :: es) kws pos) X.env = (eval o X.env >>= fun ov => standAt apos.atName >>= fun _ => holding [ov] (getMethod ov m pl) >>= fun r => callWith pos r.1 r.2 (backTo pos (starEach (e :: es) X.env)) (backToKw pos (keywordEach kws X.env))) := by rfl) :
    PE X (.Call (.Attribute o m apos) (e :: es) kws pos) (tMethN C m n ks.length sp gV E ta t tk) := by
  refine ⟨fun pins s σ H Q I h => PySem.W.methodCall_KW (pl := pl) (thn (he.run pins s σ H _ I h) fun u s1 hh => ?_) ht⟩
  obtain ⟨_, H1, I1, rx, a, dx, fs, rfl, ea, l, q⟩ := hh
  obtain rfl : u = Value.ref a := rx
  refine getmeth_ok I1 ea c hm l (PySem.W.callWith_KW (first := [.ref a]) (h₀ := X.base) I1.ok.mod.kin hm.kp hall (thn (ha.run pos pins s1 σ H1 _ I1 q) fun us s2 hh => ?_) hpl hst)
  obtain ⟨vs, H2, I2, r, q2⟩ := hh
  refine thn (hkw.run pos pins s2 σ H2 _ I2 q2) fun ws s3 hh => ?_
  obtain ⟨zs, H3, I3, rz, l1, l2, q3⟩ := hh
  refine ⟨I3.kIn, ?_⟩
  rw [hks]
  exact run_fnN (us := .ref a :: us) (vs := .ref a :: vs) F hr hb hx I3 (.cons rfl r) rz (congrArg (· + 1) l1) l2 q3
end
end CH

/-! ### more == : own objects with others, dicts, several readings; in over data; += at a list's place -/
namespace CH
open PySem PySem.Spec PyProof.Rows PySem.W PySem.Calls L2
section
variable {X : Cx} {CX : CXT} {k : Nat} {f C : Addr} {fd : FuncData} {ps : List Str} {sp : Sp} {E : XK}
theorem op_or {c : CmpOp} {r r' : R2} (h : OpR X (compareOp c) r) (h' : OpR X (compareOp c) r') : OpR X (compareOp c) (fun x y H Q => r x y H Q ∨ r' x y H Q) := by
  intro pins s σ H x y v u Q I rx ry q
  rcases q with q | q
  · exact h pins s σ H x y v u Q I rx ry q
  · exact h' pins s σ H x y v u Q I rx ry q
theorem op_eqOther {K : Frag} (hK : X.K = K) (hs : findIn K (.ref C) "__eq__" = some (some (.ref f))) (hf : isFn K (.ref f) = true) (F : FnOk X.prog X.w X.K X.mg X.base CX k f fd ps sp) (hr : Room k X.A) (hb : Binds X.K fd ps []) (hx : Passes CX X E) :
    OpR X (compareOp .Eq) (fun x y H Q => ∃ a dx fs t, x = .ref a ∧ H a = some (.ins C dx fs) ∧ TyX K H y t ∧ subIn K t (.ref C) = some false ∧ sp [.ref a, y] H (fun v H' => ∃ z, v = .bl z ∧ Q (.bl z) H') E) := by
  subst hK
  intro pins s σ H x y v u Q I rx ry h
  obtain ⟨a, dx, fs, t, rfl, ea, ty, hn, q⟩ := h
  obtain rfl : v = Value.ref a := rx
  obtain ⟨ox, od, J⟩ := inst_of I ea
  obtain ⟨Pt, Kx, hP, _⟩ := kit_of I ry ty
  obtain ⟨m, hnn, _⟩ := I.loc
  have Fr0 : Fr X.base X.env.locals s.heap m := ⟨hnn, I.bk, Nat.le_trans I.ok.bsz I.ok.above⟩
  refine PySem.W.cmp_ofEq (PySem.W.cmp_K (op := .Eq) hr.units0 Fr0 I.ok.mod.kin J (Kx.ty _ _ I.kIn hP) (by unfold notFirst; rw [hn]; simp) hs hf ?_)
  have hd : Vals ([] : List V) ([] : List Value) := .nil
  refine wpAny_mono (run_fn (us := [.ref a, u]) (vs := [.ref a, y]) F hr hb hd hx I (.cons rfl (.cons ry .nil)) (by rw [List.append_nil]; exact q)) (fun r s' hq => ?_) fun _ _ z => z
  obtain ⟨v, H', J', rv, z, rfl, qq⟩ := hq
  obtain rfl : r = Value.bool z := rv
  exact ⟨.bl z, H', J', rfl, qq⟩
/-- == of two dicts of the same two keys -/
def rEqK2 (K : Frag) : R2 := fun x y H Q => ∃ a b k1 k2 x1 x2 y1 y2 b1 b2, x = .ref a ∧ y = .ref b ∧ H a = some (.dK [(k1, x1), (k2, x2)]) ∧ H b = some (.dK [(k1, y1), (k2, y2)]) ∧ k1 ≠ k2 ∧ E1 K H x1 y1 b1 ∧ E1 K H x2 y2 b2 ∧ Q (.bl (b1 && b2)) H
theorem op_eqK2 {K : Frag} (hK : X.K = K) (hu : X.A.units + 128 < cLine) : OpR X (compareOp .Eq) (rEqK2 K) := by
  subst hK
  intro pins s σ H x y v u Q I rx ry h
  obtain ⟨a, b, k1, k2, x1, x2, y1, y2, b1, b2, rfl, rfl, ea, eb, hne, e1, e2, q⟩ := h
  obtain rfl : v = Value.ref a := rx
  obtain rfl : u = Value.ref b := ry
  obtain ⟨_, ya, va, ra, da⟩ := (show ObjOk X.prog X.w H s.heap a (.dK [(k1, x1), (k2, x2)]) from I.hok a _ ea)
  obtain ⟨_, yb, vb, rb, db⟩ := (show ObjOk X.prog X.w H s.heap b (.dK [(k1, y1), (k2, y2)]) from I.hok b _ eb)
  have hu1 : X.A.in1.units + 64 < cLine := by
    show X.A.units + 1 + 64 < cLine
    omega
  have v1 : RelO (some y1) (valueAt vb k1) := by
    have z := rb.val k1
    rwa [valV_pos rfl] at z
  have v2 : RelO (some y2) (valueAt vb k2) := by
    have z := rb.val k2
    rwa [valV_neg hne, valV_pos rfl] at z
  obtain ⟨w1, hw1, rw1⟩ := v1.some_of
  obtain ⟨w2, hw2, rw2⟩ := v2.some_of
  have hits : PySem.W.KeqHits X.A.in1 s vb va (b1 && (b2 && true)) ∧ va.length = vb.length := by
    have hl : va.length = vb.length := ra.length.symm.trans rb.length
    refine ⟨?_, hl⟩
    unfold KV at ra
    cases ra with
    | @cons _ q1 _ _ h1 t1 =>
      cases t1 with
      | @cons _ q2 _ _ h2 t2 =>
        cases t2
        obtain ⟨c1, u1⟩ := q1
        obtain ⟨c2, u2⟩ := q2
        obtain ⟨g1, g2⟩ := h1
        obtain ⟨g3, g4⟩ := h2
        obtain rfl : k1 = c1 := g1
        obtain rfl : k2 = c2 := g3
        exact .hit hw1 (e1.at I hu1 g2 rw1) (.hit hw2 (e2.at I hu1 g4 rw2) .nil)
  refine PySem.W.keq_eq (knd := mixKind X.prog X.w) (r := b1 && (b2 && true)) ya yb da db (by omega) (fun _ => hits.1) ?_
  have e : (va.length == vb.length && (b1 && (b2 && true))) = (b1 && b2) := by
    rw [hits.2, beq_self_eq_true, Bool.true_and, Bool.and_true]
  rw [e]
  exact ⟨.bl (b1 && b2), H, I, rfl, q⟩
theorem ko_inD {K : Frag} (hK : X.K = K) (hu : X.A.units + 65 < cLine) : OpR X (compareOp .In) (rInD K) := by subst hK; exact op_inD hu
theorem ko_notInD {K : Frag} (hK : X.K = K) (hu : X.A.units + 65 < cLine) : OpR X (compareOp .NotIn) (rNotInD K) := by subst hK; exact op_notInD hu
/-- a list's item by a place from 0 on -/
def rGetL (K : Frag) : V → V → Hp → VK → Prop := fun x y H Q => ∃ p xs j v, x = .ref p ∧ y = .int (j : Nat) ∧ SqL K H p xs ∧ xs[j]? = some v ∧ Q v H
theorem get_list {K : Frag} (hK : X.K = K) : PGet X (rGetL K) := by
  subst hK
  intro pins s σ H o i ov iv Q I ro ri h
  obtain ⟨p, xs, j, v, rfl, rfl, hq, he, q⟩ := h
  cases ro
  obtain ⟨t, rfl⟩ := ri
  obtain ⟨its, r, pl, hz⟩ := I.list hq
  obtain ⟨w, ew, rw'⟩ := r.get he
  have hl := r.length
  have hn := line63
  have hj := (List.getElem?_eq_some_iff.mp ew).1
  exact wpAny_getItem_list pl.isList (by omega) (by omega) (by rw [Int.toNat_natCast]; simpa using ew) ⟨v, H, I, rw', q⟩
end
end CH

/-! ### range(n) as a value, walked; two clauses over ranges -/
namespace CH
open PySem PySem.Spec PyProof.Rows PySem.W PySem.Calls L2
section
variable {X : Cx} {tg e : Expr} {te : TE}
theorem cr_range1 : CallR X (.type "range") (fun vs H Q => ∃ j : Int, vs = [V.int j] ∧ ∀ p, H p = none → Q (.ref p) (upd H p (.rng 0 j))) := by
  intro pins s σ H vs us Q I r h
  obtain ⟨j, ev, q⟩ := h
  subst ev
  obtain ⟨u0, eu, t, et⟩ := vals1 r
  subst eu
  subst et
  apply call_range_1
  have new : H s.heap.objs.size = none := I.hok.fresh (Nat.le_refl _)
  refine ⟨.ref s.heap.objs.size, upd H s.heap.objs.size (.rng 0 j), ?_, rfl, q _ new⟩
  have lay := I.laid (a := s.heap.objs.size) (o := .rng 0 j) (t' := s.toks + 1 + 1) (h' := s.heap.push { cls := .type "range", data := .fields #[.int 0 s.toks, .int j t, .int 1 (s.toks + 1)] }) (fun b o z => Heap.get?_push_of_some _ z) (Nat.le_refl _)
  exact lay ⟨s.toks, t, s.toks + 1, Heap.get?_push_size _ rfl⟩
/-- for .. in r, r a range -/
def iRngV (te : TE) : TI := fun σ H R => te σ H fun x H1 => ∃ (a : Addr) (lo hi : Int), x = .ref a ∧ H1 a = some (.rng lo hi) ∧ (-(2 ^ 62) ≤ lo ∧ lo < 2 ^ 62 ∧ -(2 ^ 62) ≤ hi ∧ hi < 2 ^ 62) ∧ R (Itr lo (hi - lo).toNat) H1
theorem pi_rngV (he : PE X e te) : PI X tg e (iRngV te) := by
  constructor
  intro pins s σ H R I h
  refine thn (he.run pins s σ H _ I h) ?_
  rintro u s1 ⟨x, H1, I1, rx, a, lo, hi, ex, hr, ⟨b1, b2, b3, b4⟩, q⟩
  subst ex
  have ru : u = Value.ref a := rx
  subst ru
  have ob : ObjOk X.prog X.w H1 s1.heap a (.rng lo hi) := I1.hok a _ hr
  obtain ⟨t, u', v, hg⟩ := ob
  refine wpAny_pyIter_range hg (small_one b1 b2 b3 b4) ?_
  refine pi_one (tk := s1.toks) I1 _ (turn_range _ lo (hi - lo).toNat) ?_ q
  have e1 : lo + ((0 : Nat) : Int) * 1 = lo := by omega
  have e2 : (((hi - lo).toNat : Nat) : Int) - ((0 : Nat) : Int) = Builtin.Range.rangeSize lo hi 1 := by
    rw [rangeSize_one]
    by_cases c : lo < hi
    · rw [if_pos c]
      omega
    · rw [if_neg c]
      omega
  show IsRangeIter _ _ (lo + ((0 : Nat) : Int) * 1) ((((hi - lo).toNat : Nat) : Int) - ((0 : Nat) : Int)) 1
  rw [e1, e2]
  exact Heap.get?_push_size _ rfl
end
end CH

/-! ### max of a tuple of ints -/
namespace CH
open PySem PySem.Spec PyProof.Rows PySem.W PySem.Calls L2
section
variable {prog : Program} {w : World} {A : Around} {E : Value → Shared → Prop} {s : Shared} {l : Addr} {ns : List Int} {Q : Value → Shared → Prop}
theorem iter_tupT {its : Array Value} (hl : s.heap.IsTuple l its)
    (h : ∀ s₂ : Shared, s₂ = { s with heap := s.heap.push { cls := .type "tuple_iterator", data := .fields #[.ref l, .int 0 0] } } →
      (s₂.heap.IsTupleIter s.heap.objs.size l 0 ∧ s₂.heap.IsTuple l its) → (∀ b ∈ [s.heap.objs.size, l], b < s₂.heap.objs.size) → l ≠ s.heap.objs.size → Q (.ref s.heap.objs.size) s₂) :
    wpAny (model prog w) A (pyIter (.ref l)) Q E s := by
  have hlt : l < s.heap.objs.size := by obtain ⟨_, e, _⟩ := hl; exact Heap.lt_size e
  refine wpAny_pyIter_tuple hl (h _ rfl ⟨⟨_, Heap.get?_push_size _ rfl, rfl, rfl⟩, hl.at fun o e => Heap.get?_push_of_some _ e⟩ (fun b hb => ?_) (Nat.ne_of_lt hlt))
  show b < (s.heap.push _).objs.size
  rw [Heap.size_push]
  rcases List.mem_cons.mp hb with rfl | hb
  · exact Nat.lt_succ_self _
  · rcases List.mem_cons.mp hb with rfl | hb
    · exact Nat.lt_succ_of_lt hlt
    · cases hb
theorem max_rawT {its : List Value} (hh : A.handled = none) (hl : s.heap.IsTuple l its.toArray) (hi : IntsAre its ns) (hne : 0 < ns.length)
    (h : ∀ h' tk M t', (∀ b o, s.heap.get? b = some o → h'.get? b = some o) → M ∈ ns → (∀ a, a ∈ ns → a ≤ M) → Q (.int M t') { s with heap := h', toks := tk }) : wpAny (model prog w) A (call (.builtin "max") [.ref l]) Q E s := by
  obtain ⟨xs, e⟩ := hi.allInts.items
  have hn : numsOf (intItems xs).toList = ns := by rw [← e]; exact hi.numsOf
  rw [nums_intItems] at hn
  subst hn
  rw [e] at hl
  have hsz : 0 < xs.size := by simpa using hne
  refine call_max_walk (iter_tupT hl fun s₂ e st hfp hlI => ?_)
  subst e
  refine ⟨_, _, _, _, _, _, _, rfl, Walks.tuple (A := A.in1) hh _ l hlI (intItems xs), st, hfp, by simpa [intItems] using hsz, CmpOf.ints_gt (numAt xs) (fun _ _ => intItems_at), fun v h' tk hP hk => ?_⟩
  have hP : (intItems xs)[argBest (fun i j => decide (numAt xs i > numAt xs j)) (xs.size - 1)]? = some v := by simpa [intItems] using hP
  obtain ⟨t, rfl⟩ := intItems_at hP
  obtain ⟨h1, h2⟩ := argBest_gt (numAt xs) (xs.size - 1)
  refine h h' tk _ t (fun b o e => hk b o (fun z => by rw [List.mem_singleton.mp z] at e; exact absurd (Heap.lt_size e) (Nat.lt_irrefl _)) (Heap.get?_push_of_some _ e)) ?_ fun a ha => ?_
  · rw [numAt_eq]; exact PySem.getD_mem (by rw [List.length_map, Array.length_toList]; omega)
  · obtain ⟨j, hj, rfl⟩ := mem_getD ha
    rw [List.length_map, Array.length_toList] at hj
    rw [← numAt_eq]; exact h2 j (by omega)
end
section
variable {X : Cx} {K : PySem.W.Frag}
def rMaxT (K : PySem.W.Frag) : List V → Hp → VK → Prop := fun vs H Q => ∃ (a : Addr) (ns : List Int), vs = [V.ref a] ∧ SqT K H a (ns.map V.int) ∧ 0 < ns.length ∧ ∀ m, m ∈ ns → (∀ y, y ∈ ns → y ≤ m) → Q (.int m) H
theorem kx_maxT (hK : X.K = K) (hc : X.calm = true) : CallR X (.builtin "max") (rMaxT K) := by
  subst hK
  intro pins s σ H vs us Q I r h
  obtain ⟨a, ns, rfl, hs, hne, q⟩ := h
  obtain ⟨its, rv, hl, _⟩ := I.tuple hs
  rw [Vals.ref1 r]
  have hT : s.heap.IsTuple a its.toArray := by
    obtain ⟨o, h1, h2, n, h3⟩ := hl
    exact ⟨o, h1, h2, n, h3⟩
  exact max_rawT (I.ok.hd hc) hT rv.ints hne fun h' tk m t' hk h1 h2 => ⟨.int _, H, I.kept hk, ⟨_, rfl⟩, q m h1 h2⟩
theorem q_maxT {H : Hp} {Q : VK} {a : Addr} {ns : List Int} (h : SqT K H a (ns.map V.int)) (hn : 0 < ns.length) (q : ∀ m, m ∈ ns → (∀ y, y ∈ ns → y ≤ m) → Q (.int m) H) : rMaxT K [.ref a] H Q := ⟨a, ns, rfl, h, hn, q⟩
end
end CH
namespace CH
open PySem PySem.Spec PyProof.Rows PySem.W PySem.Calls L2
/-- enumerate over a list or a tuple -/
def iEnumS (K : Frag) (ta : TA) : TI := fun σ H R => iEnum K ta σ H R ∨ iEnumT K ta σ H R
theorem pi_enumS {X : Cx} {K : Frag} {e : Expr} {ta : TA} {p pos tp : Pos} {elts : List Expr} {kk : Nat} (hK : X.K = K) (hg : Gl X "enumerate") (hm : X.mg "enumerate" = none) (ha : PA X [e] ta) (hs : starEach [e] X.env = [(false, eval e X.env)] := by rfl) :
    PI X (.Tuple elts kk tp) (.Call (.Name "enumerate" p) [e] [] pos) (iEnumS K ta) := by
  subst hK
  refine ⟨fun pins s σ H R I h => ?_⟩
  rcases h with h | h
  · exact (pi_enum hg hm ha hs).run pins s σ H R I h
  · exact (pi_enumT rfl hg hm ha hs).run pins s σ H R I h
end CH

/-! ### defs that are promised where nothing is being written out -/
namespace CH
open PySem PySem.Spec PyProof.Rows PySem.W PySem.Calls L2
structure FnG (P : Program) (w : World) (K : Frag) (mg : Str → Option Value) (base : Heap) (CX : CXT) (k : Nat) (f : Addr) (fd : FuncData) (ps : List Str) (sp : Sp) : Prop where
  len : ∀ xs G R X, sp xs G R X → xs.length = ps.length
  run : ∀ (A : Around) (up : List Env) (s : Shared) (G : Hp) (as : Args) (us : List Value) (xs : List V) (R : VK) (X : XK), Room k A → A.guards = some [] → Env0 P w K mg base A up s G → BindsTo s fd as (ps.zip us) → Vals xs us → sp xs G R X → codeAny (model P w) A (.call (.ref f) as) (CR CX up P w G s R X) s
theorem gd_make {A : Around} {C : Addr} {us : List Value} (gd : A.guards = some []) : (A.under (.builtin "type.__call__" ⟨.ref C :: us, []⟩)).guards = some [] := by
  simp [Around.under, Code.guards, Code.isGuard, pushGuards, gd, guardIds]
section
variable {X : Cx} {CX : CXT} {k n : Nat} {f C : Addr} {fd : FuncData} {ps ks : List Str} {sp : Sp} {dvs : List V} {ds : List Value} {x m : Str} {p pos apos : Pos} {e o : Expr} {es : List Expr} {kws : List Keyword} {ta : TE} {t tk : TA} {g : List Value → List Value → List Value} {gV : List V → List V → List V} {pins : List (Addr × Obj)} {σ : L2.St} {H : Hp} {s : Shared} {Q : VK} {E : XK} {us ws : List Value} {vs zs : List V}
theorem g_end (hx : ∀ e s', CX X.stack H s E e s' → X.xe e s') (I : Inv X pins σ H s) : ∀ r s', CR CX X.stack X.prog X.w H s Q E r s' → (match r with | .ok (.ret v) => EP X pins σ Q v s' | .ok _ => False | .error e => X.xe e s')
  | .error _, _, h => hx _ _ h
  | .ok (.ret _), _, h => I.after h
  | .ok .next, _, h => h
  | .ok .brk, _, h => h
  | .ok .cont, _, h => h
theorem run_fnG (F : FnG X.prog X.w X.K X.mg X.base CX k f fd ps sp) (hr : Room k X.A) (gd : X.A.guards = some []) (hb : Binds X.K fd ps ds) (hd : Vals dvs ds) (hx : Passes CX X E) (I : Inv X pins σ H s) (r : Vals vs us) (h : sp (vs ++ dvs) H Q E) : wpAny (model X.prog X.w) X.A (call (.ref f) us) (EP X pins σ Q) X.xe s :=
  have r2 := r.append hd
  wpAny_call (codeAny_mono (F.run _ _ _ _ _ _ _ _ _ hr gd I.env0 (hb s us I.kIn (r2.length ▸ F.len _ _ _ _ h)) r2 h) (g_end (fun e s' => hx pins σ H s e s' I) I))
theorem run_fnSDG {E : L2.St → XK} (F : FnG X.prog X.w X.K X.mg X.base CX k f fd ps sp) (hr : Room k X.A) (gd : X.A.guards = some []) (hb : Binds X.K fd ps ds) (hd : Vals dvs ds) (hx : PassesAt CX X σ (E σ)) (I : Inv X pins σ H s) (r : Vals vs us) (h : sp (vs ++ dvs) H Q (E σ)) : wpAny (model X.prog X.w) X.A (call (.ref f) us) (EP X pins σ Q) X.xe s :=
  have r2 := r.append hd
  wpAny_call (codeAny_mono (F.run _ _ _ _ _ _ _ _ _ hr gd I.env0 (hb s us I.kIn (r2.length ▸ F.len _ _ _ _ h)) r2 h) (g_end (fun e s' => hx pins H s e s' I) I))
theorem run_fnNG (F : FnG X.prog X.w X.K X.mg X.base CX k f fd ps sp) (hr : Room k X.A) (gd : X.A.guards = some []) (hb : KBn X.K fd ps n ks g gV) (hx : Passes CX X E) (I : Inv X pins σ H s) (r : Vals vs us) (rz : Vals zs ws) (l1 : vs.length = n) (l2 : zs.length = ks.length) (h : sp (gV vs zs) H Q E) : wpAny (model X.prog X.w) X.A (call (.ref f) us (ks.zip ws)) (EP X pins σ Q) X.xe s :=
  wpAny_call (codeAny_mono (F.run _ _ _ _ _ _ _ _ _ hr gd I.env0 (hb.to s us ws I.kIn (r.length.symm.trans l1) (rz.length.symm.trans l2)) (hb.rel r rz) h) (g_end (fun e s' => hx pins σ H s e s' I) I))
theorem pe_callG (F : FnG X.prog X.w X.K X.mg X.base CX k f fd ps sp) (hr : Room k X.A) (gd : X.A.guards = some []) (hg : Gl X x) (hm : X.mg x = some (.ref f)) (hk : keepIn X.K (.ref f) = true) (hb : Binds X.K fd ps ds) (hd : Vals dvs ds) (hx : Passes CX X E)
    (ha : PA X (e :: es) t) (hdb : (x == ("__debug__" : Str)) = false := by decide) (he : starEach (e :: es) X.env = (false, eval e X.env) :: starEach es X.env := by rfl) (hpl : (backTo pos (starEach es X.env)).any (·.1) = false := by rfl) : PE X (.Call (.Name x p) (e :: es) [] pos) (tCall sp dvs E t) :=
  ⟨fun pins s σ H Q I h => wpAny_Call_Name_kw (ld_glob I hg hm (callWith_K (h₀ := X.base) I.ok.mod.kin hk (thn (ha.run pos pins s σ H _ I h) fun us s1 hh => let ⟨vs, H1, I1, r, q⟩ := hh; ⟨I1.kIn, run_fnG F hr gd hb hd hx I1 r q⟩) he hpl) hdb)⟩
theorem pe_call0G (F : FnG X.prog X.w X.K X.mg X.base CX k f fd ps sp) (hr : Room k X.A) (gd : X.A.guards = some []) (hg : Gl X x) (hm : X.mg x = some (.ref f)) (hk : keepIn X.K (.ref f) = true) (hb : Binds X.K fd ps ds) (hd : Vals dvs ds) (hx : Passes CX X E)
    (hdb : (x == ("__debug__" : Str)) = false := by decide) : PE X (.Call (.Name x p) [] [] pos) (tCall sp dvs E tNil) :=
  ⟨fun _ _ _ _ _ I h => wpAny_Call_Name_kw (ld_glob I hg hm (callWith_K0 I.kIn hk (run_fnG (us := []) F hr gd hb hd hx I .nil h)) hdb)⟩
theorem pe_callSDG {E : L2.St → XK} (F : FnG X.prog X.w X.K X.mg X.base CX k f fd ps sp) (hr : Room k X.A) (gd : X.A.guards = some []) (hg : Gl X x) (hm : X.mg x = some (.ref f)) (hk : keepIn X.K (.ref f) = true) (hb : Binds X.K fd ps ds) (hd : Vals dvs ds) (hx : ∀ σ, PassesAt CX X σ (E σ))
    (ha : PA X (e :: es) t) (hdb : (x == ("__debug__" : Str)) = false := by decide) (he : starEach (e :: es) X.env = (false, eval e X.env) :: starEach es X.env := by rfl) (hpl : (backTo pos (starEach es X.env)).any (·.1) = false := by rfl) : PE X (.Call (.Name x p) (e :: es) [] pos) (tCallSD sp dvs E t) :=
  ⟨fun pins s σ H Q I h => wpAny_Call_Name_kw (ld_glob I hg hm (callWith_K (h₀ := X.base) I.ok.mod.kin hk (thn (ha.run pos pins s σ H _ I h) fun us s1 hh => let ⟨vs, H1, I1, r, q⟩ := hh; ⟨I1.kIn, run_fnSDG F hr gd hb hd (hx σ) I1 r q⟩) he hpl) hdb)⟩
theorem pe_callNG (F : FnG X.prog X.w X.K X.mg X.base CX k f fd ps sp) (hr : Room k X.A) (gd : X.A.guards = some []) (hg : Gl X x) (hm : X.mg x = some (.ref f)) (hk : keepIn X.K (.ref f) = true) (hb : KBn X.K fd ps n ks g gV) (hx : Passes CX X E)
    (ha : PA X (e :: es) t) (hkw : PK X kws tk) (hall : (backToKw pos (keywordEach kws X.env)).all (·.1.isSome) = true := by rfl) (hks : (backToKw pos (keywordEach kws X.env)).filterMap (·.1) = ks := by rfl) (hdb : (x == ("__debug__" : Str)) = false := by decide) (he : starEach (e :: es) X.env = (false, eval e X.env) :: starEach es X.env := by rfl)
    (hpl : ((backTo pos (starEach (e :: es) X.env)).any (·.1) || (backToKw pos (keywordEach kws X.env)).any (·.1.isNone)) = false := by rfl) : PE X (.Call (.Name x p) (e :: es) kws pos) (tCallN n ks.length sp gV E t tk) :=
  ⟨fun pins s σ H Q I h => wpAny_Call_Name_kw (ld_glob I hg hm (callWith_KW (h₀ := X.base) I.ok.mod.kin hk hall (thn (ha.run pos pins s σ H _ I h) fun us s1 hh => let ⟨vs, H1, I1, r, q⟩ := hh; thn (hkw.run pos pins s1 σ H1 _ I1 q) fun ws s2 hh => let ⟨zs, H2, I2, rz, l1, l2, q2⟩ := hh; ⟨I2.kIn, hks ▸ run_fnNG F hr gd hb hx I2 r rz l1 l2 q2⟩) hpl he) hdb)⟩
theorem pe_methG {pl : Sem Bool} (he : PE X o ta) (c : Cls X.K C) (hm : Meth X.K C m f) (F : FnG X.prog X.w X.K X.mg X.base CX k f fd ps sp) (hr : Room k X.A) (gd : X.A.guards = some []) (hb : Binds X.K fd ps ds) (hd : Vals dvs ds) (hx : Passes CX X E) (ha : PA X (e :: es) t)
    (hst : starEach (e :: es) X.env = (false, eval e X.env) :: starEach es X.env := by rfl) (hpl : (backTo pos (starEach es X.env)).any (·.1) = false := by rfl)
    (ht : eval (.Call (.Attribute o m apos) (e :: es) [] pos) X.env = (eval o X.env >>= fun ov => standAt apos.atName >>= fun _ => holding [ov] (getMethod ov m pl) >>= fun r => callWith pos r.1 r.2 (backTo pos (starEach (e :: es) X.env)) (backToKw pos (keywordEach [] X.env))) := by rfl) : PE X (.Call (.Attribute o m apos) (e :: es) [] pos) (tMeth C m sp dvs E ta t) := by
  refine ⟨fun pins s σ H Q I h => methodCall_KW (pl := pl) (thn (he.run pins s σ H _ I h) fun u s1 hh => ?_) ht⟩
  obtain ⟨_, H1, I1, rx, a, dx, fs, rfl, ea, l, q⟩ := hh
  cases (show u = Value.ref a from rx)
  exact getmeth_ok I1 ea c hm l (callWith_K (first := [.ref a]) (h₀ := X.base) I.ok.mod.kin hm.kp (thn (ha.run pos pins s1 σ H1 _ I1 q) fun us s2 hh => let ⟨vs, H2, I2, r, q2⟩ := hh; ⟨I2.kIn, run_fnG (us := .ref a :: us) (vs := .ref a :: vs) F hr gd hb hd hx I2 (.cons rfl r) q2⟩) hst hpl)
theorem pe_meth0G {pl : Sem Bool} (he : PE X o ta) (c : Cls X.K C) (hm : Meth X.K C m f) (F : FnG X.prog X.w X.K X.mg X.base CX k f fd ps sp) (hr : Room k X.A) (gd : X.A.guards = some []) (hb : Binds X.K fd ps ds) (hd : Vals dvs ds) (hx : Passes CX X E)
    (ht : eval (.Call (.Attribute o m apos) [] [] pos) X.env = (eval o X.env >>= fun ov => standAt apos.atName >>= fun _ => holding [ov] (getMethod ov m pl) >>= fun r => callWith pos r.1 r.2 (backTo pos (starEach [] X.env)) (backToKw pos (keywordEach [] X.env))) := by rfl) : PE X (.Call (.Attribute o m apos) [] [] pos) (tMeth C m sp dvs E ta tNil) := by
  refine ⟨fun pins s σ H Q I h => methodCall_KW (pl := pl) (thn (he.run pins s σ H _ I h) fun u s1 hh => ?_) ht⟩
  obtain ⟨_, H1, I1, rx, a, dx, fs, rfl, ea, l, q⟩ := hh
  cases (show u = Value.ref a from rx)
  exact getmeth_ok I1 ea c hm l (callWith_K0 (first := [.ref a]) I1.kIn hm.kp (run_fnG (us := [.ref a]) (vs := [.ref a]) F hr gd hb hd hx I1 (.cons rfl .nil) q))
theorem run_makeEG {pins : List (Addr × Obj)} {σ : L2.St} {H : Hp} {s : Shared} {Q : VK} {us : List Value} {vs : List V} {E : XK} (M : Mk X.K C f) (F : FnG X.prog X.w X.K X.mg X.base CX k f fd ps sp) (hr : Room (k + 1) X.A) (gd : X.A.guards = some []) (hb : Binds X.K fd ps ds) (hd : Vals dvs ds)
    (hx : ∀ (H1 : Hp) (s1 : Shared) (e : Value) (s' : Shared), Inv X pins σ H1 s1 → CX X.stack H1 s1 E e s' → X.xe e s') (I : Inv X pins σ H s) (r : Vals vs us)
    (h : ∀ x dx, H x = none → H dx = none → dx ≠ x → sp (.ref x :: (vs ++ dvs)) (upd (upd H dx (.own x)) x (.ins C dx [])) (fun v H2 => v = .non ∧ Q (.ref x) H2) E) :
    wpAny (model X.prog X.w) X.A (call (.ref C) us) (EP X pins σ Q) X.xe s := by
  have q := h (s.heap.objs.size + 1) s.heap.objs.size (I.hok.fresh (Nat.le_succ _)) (I.hok.fresh (Nat.le_refl _)) (Nat.ne_of_lt (Nat.lt_succ_self _))
  have I2 := Inv.made (C := C) I
  have r2 : Vals (V.ref (s.heap.objs.size + 1) :: (vs ++ dvs)) (Value.ref (s.heap.objs.size + 1) :: (us ++ ds)) := .cons rfl (r.append hd)
  have hl : (Value.ref (s.heap.objs.size + 1) :: us ++ ds).length = ps.length := by
    have z := r2.length
    rw [show Value.ref (s.heap.objs.size + 1) :: us ++ ds = Value.ref (s.heap.objs.size + 1) :: (us ++ ds) from rfl, ← z]
    exact F.len _ _ _ _ q
  refine wpAny_call (make_map (f := f) I.kIn M.makes M.init (beq_iff_eq.mp M.fn) (codeAny_mono (F.run _ X.stack _ _ ⟨Value.ref (s.heap.objs.size + 1) :: us, []⟩ (Value.ref (s.heap.objs.size + 1) :: (us ++ ds)) _ _ E (hr.make C us []) (gd_make gd) (I2.env0.make C us []) (hb _ (Value.ref (s.heap.objs.size + 1) :: us) I2.kIn hl) r2 q) fun rr s' hq => ?_))
  cases rr with
  | error e => exact hx _ _ e s' I2 hq
  | ok fl =>
    cases fl with
    | ret u =>
      obtain ⟨v, H', J, rv, e, q'⟩ := I2.after hq
      subst e
      obtain rfl : u = Value.none := rv
      exact ⟨rfl, .ref _, H', J, rfl, q'⟩
    | next => exact False.elim hq
    | brk => exact False.elim hq
    | cont => exact False.elim hq
theorem pe_makeG (M : Mk X.K C f) (F : FnG X.prog X.w X.K X.mg X.base CX k f fd ps sp) (hr : Room (k + 1) X.A) (gd : X.A.guards = some []) (hg : Gl X x) (hm : X.mg x = some (.ref C)) (hb : Binds X.K fd ps ds) (hd : Vals dvs ds) (hx : Passes CX X E)
    (ha : PA X (e :: es) t) (hdb : (x == ("__debug__" : Str)) = false := by decide) (he : starEach (e :: es) X.env = (false, eval e X.env) :: starEach es X.env := by rfl) (hpl : (backTo pos (starEach es X.env)).any (·.1) = false := by rfl) : PE X (.Call (.Name x p) (e :: es) [] pos) (tMake C sp dvs E t) :=
  ⟨fun pins s σ H Q I h => wpAny_Call_Name_kw (ld_glob I hg hm (callWith_K (h₀ := X.base) I.ok.mod.kin M.kp (thn (ha.run pos pins s σ H _ I h) fun us s1 hh => let ⟨vs, H1, I1, r, q⟩ := hh; ⟨I1.kIn, run_makeEG M F hr gd hb hd (fun H1 s1 e s' J c => hx pins σ H1 s1 e s' J c) I1 r q⟩) he hpl) hdb)⟩
end
section
variable {X : Cx} {CX : CXT} {k : Nat} {f C : Addr} {fd : FuncData} {ps : List Str} {sp : Sp} {dvs : List V} {ds : List Value} {E : L2.St → XK} {x m : Str} {p pos apos : Pos} {e o : Expr} {es : List Expr} {ta : TE} {t : TA}
theorem pe_methEG {pl : Sem Bool} (he : PE X o ta) (c : Cls X.K C) (hm : Meth X.K C m f) (F : FnG X.prog X.w X.K X.mg X.base CX k f fd ps sp) (hr : Room k X.A) (gd : X.A.guards = some []) (hb : Binds X.K fd ps ds) (hd : Vals dvs ds) (hx : ∀ σ, PassesAt CX X σ (E σ)) (ha : PA X (e :: es) t)
    (hst : starEach (e :: es) X.env = (false, eval e X.env) :: starEach es X.env := by rfl) (hpl : (backTo pos (starEach es X.env)).any (·.1) = false := by rfl)
    (ht : eval (.Call (.Attribute o m apos) (e :: es) [] pos) X.env = (eval o X.env >>= fun ov => standAt apos.atName >>= fun _ => holding [ov] (getMethod ov m pl) >>= fun r => callWith pos r.1 r.2 (backTo pos (starEach (e :: es) X.env)) (backToKw pos (keywordEach [] X.env))) := by rfl) :
    PE X (.Call (.Attribute o m apos) (e :: es) [] pos) (tMethE C m sp dvs E ta t) := by
  refine ⟨fun pins s σ H Q I h => PySem.W.methodCall_KW (pl := pl) (thn (he.run pins s σ H _ I h) fun u s1 hh => ?_) ht⟩
  obtain ⟨_, H1, I1, rx, a, dx, fs, rfl, ea, l, q⟩ := hh
  obtain rfl : u = Value.ref a := rx
  refine getmeth_ok I1 ea c hm l (PySem.W.callWith_K (first := [.ref a]) (h₀ := X.base) I.ok.mod.kin hm.kp (thn (ha.run pos pins s1 σ H1 _ I1 q) fun us s2 hh => ?_) hst hpl)
  obtain ⟨vs, H2, I2, r, q2⟩ := hh
  exact ⟨I2.kIn, run_fnSDG (us := .ref a :: us) (vs := .ref a :: vs) F hr gd hb hd (hx σ) I2 (.cons rfl r) q2⟩
theorem pe_methE0G {pl : Sem Bool} (he : PE X o ta) (c : Cls X.K C) (hm : Meth X.K C m f) (F : FnG X.prog X.w X.K X.mg X.base CX k f fd ps sp) (hr : Room k X.A) (gd : X.A.guards = some []) (hb : Binds X.K fd ps ds) (hd : Vals dvs ds) (hx : ∀ σ, PassesAt CX X σ (E σ))
    (ht : eval (.Call (.Attribute o m apos) [] [] pos) X.env = (eval o X.env >>= fun ov => standAt apos.atName >>= fun _ => holding [ov] (getMethod ov m pl) >>= fun r => callWith pos r.1 r.2 (backTo pos (starEach [] X.env)) (backToKw pos (keywordEach [] X.env))) := by rfl) :
    PE X (.Call (.Attribute o m apos) [] [] pos) (tMethE C m sp dvs E ta tNil) := by
  refine ⟨fun pins s σ H Q I h => PySem.W.methodCall_KW (pl := pl) (thn (he.run pins s σ H _ I h) fun u s1 hh => ?_) ht⟩
  obtain ⟨_, H1, I1, rx, a, dx, fs, rfl, ea, l, q⟩ := hh
  obtain rfl : u = Value.ref a := rx
  exact getmeth_ok I1 ea c hm l (PySem.W.callWith_K0 (first := [.ref a]) I1.kIn hm.kp (run_fnSDG (us := [.ref a]) (vs := [.ref a]) F hr gd hb hd (hx σ) I1 (.cons rfl .nil) q))
theorem pe_call0EG (F : FnG X.prog X.w X.K X.mg X.base CX k f fd ps sp) (hr : Room k X.A) (gd : X.A.guards = some []) (hg : Gl X x) (hm : X.mg x = some (.ref f)) (hk : PySem.W.keepIn X.K (.ref f) = true) (hb : Binds X.K fd ps ds) (hd : Vals dvs ds) (hx : ∀ σ, PassesAt CX X σ (E σ))
    (hdb : (x == ("__debug__" : Str)) = false := by decide) : PE X (.Call (.Name x p) [] [] pos) (tCallSD sp dvs E tNil) :=
  ⟨fun _ _ σ _ _ I h => wpAny_Call_Name_kw (ld_glob I hg hm (PySem.W.callWith_K0 I.kIn hk (run_fnSDG (us := []) F hr gd hb hd (hx σ) I .nil h)) hdb)⟩
theorem pe_makeEG (M : Mk X.K C f) (F : FnG X.prog X.w X.K X.mg X.base CX k f fd ps sp) (hr : Room (k + 1) X.A) (gd : X.A.guards = some []) (hg : Gl X x) (hm : X.mg x = some (.ref C)) (hb : Binds X.K fd ps ds) (hd : Vals dvs ds) (hx : ∀ σ, PassesAt CX X σ (E σ))
    (ha : PA X (e :: es) t) (hdb : (x == ("__debug__" : Str)) = false := by decide) (he : starEach (e :: es) X.env = (false, eval e X.env) :: starEach es X.env := by rfl) (hpl : (backTo pos (starEach es X.env)).any (·.1) = false := by rfl) :
    PE X (.Call (.Name x p) (e :: es) [] pos) (tMakeE C sp dvs E t) :=
  ⟨fun pins s σ H Q I h => wpAny_Call_Name_kw (ld_glob I hg hm (PySem.W.callWith_K (h₀ := X.base) I.ok.mod.kin M.kp (thn (ha.run pos pins s σ H _ I h) fun us s1 hh => let ⟨vs, H1, I1, r, q⟩ := hh; ⟨I1.kIn, run_makeEG M F hr gd hb hd (fun H1 s1 e s' J c => hx σ pins H1 s1 e s' J c) I1 r q⟩) he hpl) hdb)⟩
end
section
variable {X : Cx} {CX : CXT} {k n : Nat} {f C : Addr} {fd : FuncData} {ps ks : List Str} {sp : Sp} {E : XK} {m : Str} {pos apos : Pos} {e o : Expr} {es : List Expr} {kws : List Keyword} {ta : TE} {t tk : TA} {g : List Value → List Value → List Value} {gV : List V → List V → List V}
theorem call_lenOG {K : Frag} (hK : X.K = K) (hs : findIn K (.ref C) "__len__" = some (some (.ref f))) (hf : isFn K (.ref f) = true) (F : FnG X.prog X.w X.K X.mg X.base CX k f fd ps sp) (hr : Room (k + 1) X.A) (gd : X.A.guards = some []) (hb : Binds X.K fd ps []) (hx : Passes CX X E) :
    CallR X (.builtin "len") (fun xs H Q => ∃ a dx fs, xs = [.ref a] ∧ H a = some (.ins C dx fs) ∧ sp [.ref a] H (fun v H' => ∃ n : Int, v = .int n ∧ 0 ≤ n ∧ n < 2 ^ 63 ∧ Q (.int n) H') E) := by
  subst hK
  intro pins s σ H xs us Q I r h
  obtain ⟨a, dx, fs, rfl, ea, q⟩ := h
  rw [Vals.ref1 r]
  obtain ⟨ox, od, J⟩ := inst_of I ea
  obtain ⟨m, hn, _⟩ := I.loc
  have Fr0 : Fr X.base X.env.locals s.heap m := ⟨hn, I.bk, Nat.le_trans I.ok.bsz I.ok.above⟩
  have hl : [Value.ref a].length = ps.length := by
    have z := F.len _ _ _ _ q
    exact z
  have b := hb s [.ref a] I.kIn (by rw [List.append_nil]; exact hl)
  rw [List.append_nil] at b
  refine PySem.W.len_K Fr0 I.ok.mod.kin J hs hf (wpAny_call (codeAny_mono (F.run X.A.in1 X.stack s H ⟨[.ref a], []⟩ [.ref a] [.ref a] _ E hr.in1 gd I.env0.in1 b (.cons rfl .nil) q) fun rr s' hq => ?_))
  cases rr with
  | error e => exact hx pins σ H s e s' I hq
  | ok fl =>
    cases fl with
    | ret u =>
      obtain ⟨v, H', J', rv, n, rfl, h0, h1, qq⟩ := I.after hq
      obtain ⟨t, rfl⟩ := rv
      exact ⟨⟨h0, h1⟩, .int n, H', J'.tok _, ⟨_, rfl⟩, qq⟩
    | next => exact False.elim hq
    | brk => exact False.elim hq
    | cont => exact False.elim hq
theorem op_eqOG {K : Frag} (hK : X.K = K) (hs : findIn K (.ref C) "__eq__" = some (some (.ref f))) (hf : isFn K (.ref f) = true) (F : FnG X.prog X.w X.K X.mg X.base CX k f fd ps sp) (hr : Room k X.A) (gd : X.A.guards = some []) (hb : Binds X.K fd ps []) (hx : Passes CX X E) :
    OpR X (compareOp .Eq) (fun x y H Q => ∃ a dx fs b dy gs, x = .ref a ∧ y = .ref b ∧ H a = some (.ins C dx fs) ∧ H b = some (.ins C dy gs) ∧ sp [.ref a, .ref b] H (fun v H' => ∃ z, v = .bl z ∧ Q (.bl z) H') E) := by
  subst hK
  intro pins s σ H x y v u Q I rx ry h
  obtain ⟨a, dx, fs, b, dy, gs, rfl, rfl, ea, eb, q⟩ := h
  obtain rfl : v = Value.ref a := rx
  obtain rfl : u = Value.ref b := ry
  obtain ⟨ox, od, J⟩ := inst_of I ea
  obtain ⟨oy, od2, J2⟩ := inst_of I eb
  refine PySem.W.cmp_ofEq (rc_own hr.units0 I.kIn J J2 hs hf ?_)
  have hd : Vals ([] : List V) ([] : List Value) := .nil
  refine wpAny_mono (run_fnG (us := [.ref a, .ref b]) (vs := [.ref a, .ref b]) F hr gd hb hd hx I (.cons rfl (.cons rfl .nil)) (by rw [List.append_nil]; exact q)) (fun r s' hq => ?_) fun _ _ z => z
  obtain ⟨v, H', J', rv, z, rfl, qq⟩ := hq
  obtain rfl : r = Value.bool z := rv
  exact ⟨z, rfl, .bl z, H', J', rfl, qq⟩
theorem op_neOG {K : Frag} (hK : X.K = K) (hn : findIn K (.ref C) "__ne__" = some (some (.builtin "object.__ne__"))) (hm : mroIn K C (.type "object") = some true) (hs : findIn K (.ref C) "__eq__" = some (some (.ref f))) (hf : isFn K (.ref f) = true) (F : FnG X.prog X.w X.K X.mg X.base CX k f fd ps sp) (hr : Room (k + 1) X.A) (gd : X.A.guards = some []) (hb : Binds X.K fd ps []) (hx : Passes CX X E) :
    OpR X (compareOp .NotEq) (fun x y H Q => ∃ a dx fs b dy gs, x = .ref a ∧ y = .ref b ∧ H a = some (.ins C dx fs) ∧ H b = some (.ins C dy gs) ∧ sp [.ref a, .ref b] H (fun v H' => ∃ z, v = .bl z ∧ Q (.bl (!z)) H') E) := by
  subst hK
  intro pins s σ H x y v u Q I rx ry h
  obtain ⟨a, dx, fs, b, dy, gs, rfl, rfl, ea, eb, q⟩ := h
  obtain rfl : v = Value.ref a := rx
  obtain rfl : u = Value.ref b := ry
  obtain ⟨ox, od, J⟩ := inst_of I ea
  obtain ⟨oy, od2, J2⟩ := inst_of I eb
  refine PySem.W.cmp_ofNotEq (rn_own (by have := hr.un; omega) I.kIn J J2 hn hm hs hf ?_)
  have hl : [Value.ref a, Value.ref b].length = ps.length := F.len _ _ _ _ q
  have bd := hb s [.ref a, .ref b] I.kIn (by rw [List.append_nil]; exact hl)
  rw [List.append_nil] at bd
  refine wpAny_call (codeAny_mono (F.run X.A.in1 X.stack s H ⟨[.ref a, .ref b], []⟩ [.ref a, .ref b] [.ref a, .ref b] _ E hr.in1 gd I.env0.in1 bd (.cons rfl (.cons rfl .nil)) q) fun rr s' hq => ?_)
  cases rr with
  | error e => exact hx pins σ H s e s' I hq
  | ok fl =>
    cases fl with
    | ret u =>
      obtain ⟨v, H', J', rv, z, rfl, qq⟩ := I.after hq
      obtain rfl : u = Value.bool z := rv
      exact ⟨z, rfl, .bl (!z), H', J', rfl, qq⟩
    | next => exact False.elim hq
    | brk => exact False.elim hq
    | cont => exact False.elim hq
theorem op_eqOtherG {K : Frag} (hK : X.K = K) (hs : findIn K (.ref C) "__eq__" = some (some (.ref f))) (hf : isFn K (.ref f) = true) (F : FnG X.prog X.w X.K X.mg X.base CX k f fd ps sp) (hr : Room k X.A) (gd : X.A.guards = some []) (hb : Binds X.K fd ps []) (hx : Passes CX X E) :
    OpR X (compareOp .Eq) (fun x y H Q => ∃ a dx fs t, x = .ref a ∧ H a = some (.ins C dx fs) ∧ TyX K H y t ∧ subIn K t (.ref C) = some false ∧ sp [.ref a, y] H (fun v H' => ∃ z, v = .bl z ∧ Q (.bl z) H') E) := by
  subst hK
  intro pins s σ H x y v u Q I rx ry h
  obtain ⟨a, dx, fs, t, rfl, ea, ty, hn, q⟩ := h
  obtain rfl : v = Value.ref a := rx
  obtain ⟨ox, od, J⟩ := inst_of I ea
  obtain ⟨Pt, Kx, hP, _⟩ := kit_of I ry ty
  obtain ⟨m, hnn, _⟩ := I.loc
  have Fr0 : Fr X.base X.env.locals s.heap m := ⟨hnn, I.bk, Nat.le_trans I.ok.bsz I.ok.above⟩
  refine PySem.W.cmp_ofEq (PySem.W.cmp_K (op := .Eq) hr.units0 Fr0 I.ok.mod.kin J (Kx.ty _ _ I.kIn hP) (by unfold notFirst; rw [hn]; simp) hs hf ?_)
  have hd : Vals ([] : List V) ([] : List Value) := .nil
  refine wpAny_mono (run_fnG (us := [.ref a, u]) (vs := [.ref a, y]) F hr gd hb hd hx I (.cons rfl (.cons ry .nil)) (by rw [List.append_nil]; exact q)) (fun r s' hq => ?_) fun _ _ z => z
  obtain ⟨v, H', J', rv, z, rfl, qq⟩ := hq
  obtain rfl : r = Value.bool z := rv
  exact ⟨.bl z, H', J', rfl, qq⟩
theorem pe_methNG {pl : Sem Bool} (he : PE X o ta) (c : Cls X.K C) (hm : Meth X.K C m f) (F : FnG X.prog X.w X.K X.mg X.base CX k f fd ps sp) (hr : Room k X.A) (gd : X.A.guards = some []) (hb : KBn X.K fd ps (n + 1) ks g gV) (hx : Passes CX X E)
    (ha : PA X (e :: es) t) (hkw : PK X kws tk) (hall : (backToKw pos (keywordEach kws X.env)).all (·.1.isSome) = true := by rfl) (hks : (backToKw pos (keywordEach kws X.env)).filterMap (·.1) = ks := by rfl)
    (hst : starEach (e :: es) X.env = (false, eval e X.env) :: starEach es X.env := by rfl)
    (hpl : ((backTo pos (starEach (e :: es) X.env)).any (·.1) || (backToKw pos (keywordEach kws X.env)).any (·.1.isNone)) = false := by rfl)
    (ht : eval (.Call (.Attribute o m apos) (e :: es) kws pos) X.env = (eval o X.env >>= fun ov => standAt apos.atName >>= fun _ => holding [ov] (getMethod ov m pl) >>= fun r => callWith pos r.1 r.2 (backTo pos (starEach (e :: es) X.env)) (backToKw pos (keywordEach kws X.env))) := by rfl) :
    PE X (.Call (.Attribute o m apos) (e :: es) kws pos) (tMethN C m n ks.length sp gV E ta t tk) := by
  refine ⟨fun pins s σ H Q I h => PySem.W.methodCall_KW (pl := pl) (thn (he.run pins s σ H _ I h) fun u s1 hh => ?_) ht⟩
  obtain ⟨_, H1, I1, rx, a, dx, fs, rfl, ea, l, q⟩ := hh
  obtain rfl : u = Value.ref a := rx
  refine getmeth_ok I1 ea c hm l (PySem.W.callWith_KW (first := [.ref a]) (h₀ := X.base) I1.ok.mod.kin hm.kp hall (thn (ha.run pos pins s1 σ H1 _ I1 q) fun us s2 hh => ?_) hpl hst)
  obtain ⟨vs, H2, I2, r, q2⟩ := hh
  refine thn (hkw.run pos pins s2 σ H2 _ I2 q2) fun ws s3 hh => ?_
  obtain ⟨zs, H3, I3, rz, l1, l2, q3⟩ := hh
  refine ⟨I3.kIn, ?_⟩
  rw [hks]
  exact run_fnNG (us := .ref a :: us) (vs := .ref a :: vs) F hr gd hb hx I3 (.cons rfl r) rz (congrArg (· + 1) l1) l2 q3
end
/-! ### a def by its body -/
section
variable {P : Program} {w : World} {K : Frag} {mg : Str → Option Value} {base : Heap} {CX : CXT} {k : Nat} {f : Addr} {x qual : Str} {N ps : List Str} {sp : Sp} {fd : FuncData}
theorem fn_ofG {params : Arguments} {body : List Stmt} {scope : Scope} {dV kV doc pm cdv ct oc : Value} {an od : Option Addr} {osl : Array (Option Value)} (lk : K.lookup f = some ⟨oc, od, .func (fnOf x qual params body scope dV kV doc pm an cdv ct), osl⟩) (hcd : codeIn K cdv qual = true) (S : FnScope N ps scope) (len : ∀ vs H Q E, sp vs H Q E → vs.length = ps.length)
    (hb : ∀ (A : Around) (up : List Env) (s : Shared) (H : Hp) (vs : List V) (Q : VK) (E : XK), Room k (A.deeper (envOfC qual scope s.heap.objs.size f cdv)) → A.guards = some [] → sp vs H Q E → ∃ t, PSs (cxOf CX P w K mg base N qual scope f cdv A up s H E) body t ∧ t { nx := fun _ H' => Q .non H', rt := Q } (L2.start N vs) H) :
    FnG P w K mg base CX (k + 1) f (fnOf x qual params body scope dV kV doc pm an cdv ct) ps sp where
  len := len
  run := fun A up s H as us vs Q E hr gd e0 bd r q => by
    have KX : K.In s.heap := e0.mod.kin.keeps fun b o e => (e0.bs b o e).1
    have lim := e0.mod.nolimit.keeps fun b o e => (e0.bs b o e).1
    have kinds : ∀ y ∈ ps.zip us, scope.names.lookup y.1 = some .local ∨ (scope.names.lookup y.1 = some .cell ∧ ((cellsFrom (s.heap.objs.size + 1) scope.names []).lookup y.1).isSome = true) := fun y hy => (S.par y.1 (List.of_mem_zip (show (y.1, y.2) ∈ ps.zip us from hy)).1).imp id fun z => ⟨z, cellsFrom_some _ _ _ (.inl z)⟩
    refine codeAny_call_function hr.depth (KX _ _ lk) rfl S.co S.gen rfl (codeRec_of KX hcd) (bd _ _ _ _ (wpAny_newFunctionEnv_cells S.kind kinds fun env he s1 c => ?_))
    obtain rfl := he
    obtain ⟨t, ht, hq⟩ := hb A up s H vs Q E (hr.deeper _) gd q
    have fin : ∀ {σ' : L2.St} {H' : Hp} {v : V} {u : Value} {s' : Shared}, Inv (cxOf CX P w K mg base N qual scope f cdv A up s H E) [] σ' H' s' → RelV v u → Q v H' → CE up P w H s Q u s' := fun J rv z => ⟨_, _, J.os, J.bare, J.base, J.hok, rv, z⟩
    refine ⟨lim.keeps c.toInCall.keep, codeAny_func (wpAny_mono (ht.run [] s1 _ H _ (inv_start S hr.hd e0 (len _ _ _ _ q) r c) hq) (fun fl s' hs => ?_) fun _ _ z => z)⟩
    match fl, hs with
    | .ret u, hs => exact let ⟨_, _, _, J, rv, z⟩ := hs; fin J rv z
    | .next, hs => exact let ⟨_, _, J, z⟩ := hs; fin (v := V.non) (u := Value.none) J rfl z
    | .brk, hs => exact let ⟨_, _, _, z⟩ := hs; z.elim
    | .cont, hs => exact let ⟨_, _, _, z⟩ := hs; z.elim
theorem _root_.L2.Fun.okG {st : Stmt} (F : L2.Fun K x qual st f fd) (S : FnScope N ps (defScope st)) (len : ∀ vs H Q E, sp vs H Q E → vs.length = ps.length)
    (hb : ∀ (cdv : Value) (A : Around) (up : List Env) (s : Shared) (H : Hp) (vs : List V) (Q : VK) (E : XK), Room k (A.deeper (envOfC qual (defScope st) s.heap.objs.size f cdv)) → A.guards = some [] → sp vs H Q E → ∃ t, PSs (cxOf CX0 P w K mg base N qual (defScope st) f cdv A up s H E).nox (defBody st) t ∧ t { nx := fun _ H' => Q .non H', rt := Q } (L2.start N vs) H) :
    FnG P w K mg base CX0 (k + 1) f fd ps sp :=
  let ⟨_, _, _, _, _, _, cdv, _, _, e, lk, hcd⟩ := F.ex
  by subst e; exact fn_ofG lk hcd S len fun A up s H vs Q E hr gd q => let ⟨t, h, z⟩ := hb cdv A up s H vs Q E hr gd q; ⟨t, h.nox, z⟩
theorem _root_.L2.Fun.okXG {st : Stmt} (F : L2.Fun K x qual st f fd) (S : FnScope N ps (defScope st)) (len : ∀ vs H Q E, sp vs H Q E → vs.length = ps.length)
    (hb : ∀ (cdv : Value) (A : Around) (up : List Env) (s : Shared) (H : Hp) (vs : List V) (Q : VK) (E : XK), Room k (A.deeper (envOfC qual (defScope st) s.heap.objs.size f cdv)) → A.guards = some [] → sp vs H Q E → ∃ t, PSs (cxOf (L2.CX P w) P w K mg base N qual (defScope st) f cdv A up s H E) (defBody st) t ∧ t { nx := fun _ H' => Q .non H', rt := Q } (L2.start N vs) H) :
    FnG P w K mg base (L2.CX P w) (k + 1) f fd ps sp :=
  let ⟨_, _, _, _, _, _, cdv, _, _, e, lk, hcd⟩ := F.ex
  by subst e; exact fn_ofG lk hcd S len fun A up s H vs Q E hr gd q => hb cdv A up s H vs Q E hr gd q
theorem _root_.L2.FunD.okG {params : Arguments} {body : List Stmt} {scope : Scope} {kws : List (Str × V)} {dvs : List V} (F : L2.FunD K x qual params body scope dvs kws f fd) (S : FnScope N ps scope) (len : ∀ vs H Q E, sp vs H Q E → vs.length = ps.length)
    (hb : ∀ (cdv : Value) (A : Around) (up : List Env) (s : Shared) (H : Hp) (vs : List V) (Q : VK) (E : XK), Room k (A.deeper (envOfC qual scope s.heap.objs.size f cdv)) → A.guards = some [] → sp vs H Q E → ∃ t, PSs (cxOf CX P w K mg base N qual scope f cdv A up s H E) body t ∧ t { nx := fun _ H' => Q .non H', rt := Q } (L2.start N vs) H) :
    FnG P w K mg base CX (k + 1) f fd ps sp :=
  let ⟨_, _, _, _, _, _, _, cdv, _, _, e, lk, hcd, _, _⟩ := F.ex
  by subst e; exact fn_ofG lk hcd S len fun A up s H vs Q E hr gd q => hb cdv A up s H vs Q E hr gd q
end
/-! ### repr and str: plain data, own objects -/
section
variable {X : Cx} {CX : CXT} {k : Nat} {f C : Addr} {fd : FuncData} {ps : List Str} {sp : Sp} {E : XK}
def rReprD (K : Frag) : List V → Hp → VK → Prop := fun xs H Q => ∃ (v : V) (d : PyData), xs = [v] ∧ Dp K H v d ∧ d.showable = true ∧ d.hasDict = false ∧ d.depth ≤ 60 ∧ d.shown.length ≤ sizeLine ∧ Q (.str d.shown) H
theorem call_reprD {K : Frag} (hK : X.K = K) (hu : X.A.units + 64 < cLine) (gd : X.A.guards = some []) : CallR X (.builtin "repr") (rReprD K) := by
  subst hK
  intro pins s σ H xs us Q I r h
  obtain ⟨v, d, rfl, hd, hs, hn, hp, hz, q⟩ := h
  obtain ⟨u, rfl, ru⟩ := vals1 r
  obtain ⟨as, rd⟩ := Dp.reads I d v u hd ru
  have go : ∀ a, u = Value.ref a → wpAny (model X.prog X.w) X.A (call (.builtin "repr") [u]) (EP X pins σ Q) X.xe s := by
    rintro a rfl
    exact repr_of_reads' rd hs (fun z => by rw [hn] at z; cases z) gd (by omega) (fun _ _ e => e) (fun h' u tk hk => ⟨.str d.shown, H, I.kept hk, ⟨u, rfl⟩, q⟩) hz
  cases hd with
  | non =>
    obtain rfl : u = Value.none := ru
    exact PySem.P.repr_of_none ⟨.str "None", H, I.tok _, ⟨_, rfl⟩, by simpa [PyData.shown] using q⟩
  | bl b =>
    obtain rfl : u = Value.bool b := ru
    exact PySem.P.repr_of_bool ⟨.str (if b then "True" else "False"), H, I.tok _, ⟨_, rfl⟩, by cases b <;> simpa [PyData.shown] using q⟩
  | int i =>
    obtain ⟨t, rfl⟩ := ru
    exact PySem.P.repr_of_int (by simpa [PyData.showable] using hs) ⟨.str (toString i), H, I.tok _, ⟨_, rfl⟩, by simpa [PyData.shown] using q⟩
  | str x =>
    obtain ⟨t, rfl⟩ := ru
    exact PySem.P.repr_of_str ⟨.str (reprText x), H, I.tok _, ⟨_, rfl⟩, by simpa [PyData.shown] using q⟩ (by simpa [PyData.shown] using hz)
  | lst => exact go _ ru
  | tup => exact go _ ru
/-- {e!r} of a list or a tuple of data -/
def tFmtRD (K : Frag) (te : TE) : TE := fun σ H Q => te σ H fun x H1 => ∃ (a : Addr) (d : PyData), x = .ref a ∧ Dp K H1 x d ∧ d.showable = true ∧ d.hasDict = false ∧ d.depth ≤ 60 ∧ d.shown.length ≤ sizeLine ∧ Q (.str d.shown) H1
theorem pe_fmtRD {K : Frag} {e : Expr} {te : TE} {pos : Pos} (hK : X.K = K) (hu : X.A.units + 64 < cLine) (gd : X.A.guards = some []) (he : PE X e te) : PE X (.FormattedValue e 114 none pos) (tFmtRD K te) := by
  subst hK
  refine ⟨fun pins s σ H Q I h => wpAny_FormattedValue_repr (thn (he.run pins s σ H _ I h) fun v s1 hv => ?_)⟩
  obtain ⟨_, H1, I1, r1, a, d, rfl, hd, hs, hn, hp, hz, q⟩ := hv
  obtain ⟨as, rd⟩ := Dp.reads I1 d _ v hd r1
  cases (show v = Value.ref a from r1)
  exact pyReprObj_of_reads rd hs (fun z => by rw [hn] at z; cases z) gd (by omega) (fun _ _ e => e) (fun h' u tk hk => wpAny_formatField_str ⟨.str d.shown, H1, I1.kept hk, ⟨u, rfl⟩, q⟩ ⟨.str d.shown, H1, (I1.kept hk).tok _, ⟨_, rfl⟩, q⟩ hz) hz
/-- repr(o), str(o) by the class's own method -/
def rStrO (C : Addr) (sp : Sp) (E : XK) : List V → Hp → VK → Prop := fun xs H Q => ∃ a dx fs, xs = [.ref a] ∧ H a = some (.ins C dx fs) ∧ sp [.ref a] H (fun v H' => ∃ z : Str, v = .str z ∧ Q (.str z) H') E
theorem call_reprOG {K : Frag} (hK : X.K = K) (hs : findIn K (.ref C) "__repr__" = some (some (.ref f))) (hf : isFn K (.ref f) = true) (F : FnG X.prog X.w X.K X.mg X.base CX k f fd ps sp) (hr : Room (k + 1) X.A) (gd : X.A.guards = some []) (hb : Binds X.K fd ps []) (hx : Passes CX X E) : CallR X (.builtin "repr") (rStrO C sp E) := by
  subst hK
  intro pins s σ H xs us Q I r h
  obtain ⟨a, dx, fs, rfl, ea, q⟩ := h
  rw [Vals.ref1 r]
  obtain ⟨ox, od, J⟩ := inst_of I ea
  obtain ⟨m, hn, _⟩ := I.loc
  have Fr0 : Fr X.base X.env.locals s.heap m := ⟨hn, I.bk, Nat.le_trans I.ok.bsz I.ok.above⟩
  have b := hb s [.ref a] I.kIn (by rw [List.append_nil]; exact F.len _ _ _ _ q)
  rw [List.append_nil] at b
  refine PySem.W.repr_K (by have := hr.in1.units0; exact this) Fr0 I.ok.mod.kin J hs hf (wpAny_mono (wpAny_call (codeAny_mono (F.run X.A.in1 X.stack s H ⟨[.ref a], []⟩ [.ref a] [.ref a] _ E hr.in1 gd I.env0.in1 b (.cons rfl .nil) q) (g_end (fun e s' => hx pins σ H s e s' I) I))) (fun v s' hq => ?_) fun _ _ z => z)
  obtain ⟨v, H', J', rv, z, rfl, qq⟩ := hq
  obtain ⟨t, rfl⟩ := rv
  exact ⟨.str z, H', J', ⟨t, rfl⟩, qq⟩
theorem call_strOG {K : Frag} (hK : X.K = K) (hs : findIn K (.ref C) "__str__" = some (some (.ref f))) (hf : isFn K (.ref f) = true) (F : FnG X.prog X.w X.K X.mg X.base CX k f fd ps sp) (hr : Room (k + 2) X.A) (gd : X.A.guards = some []) (hb : Binds X.K fd ps []) (hx : Passes CX X E) : CallR X (.type "str") (rStrO C sp E) := by
  subst hK
  intro pins s σ H xs us Q I r h
  obtain ⟨a, dx, fs, rfl, ea, q⟩ := h
  rw [Vals.ref1 r]
  obtain ⟨ox, od, J⟩ := inst_of I ea
  have b := hb s [.ref a] I.kIn (by rw [List.append_nil]; exact F.len _ _ _ _ q)
  rw [List.append_nil] at b
  refine kso_call (by have := hr.in1.in1.units0; exact this) I.kIn J hs hf (wpAny_mono (wpAny_call (codeAny_mono (F.run X.A.in1.in1 X.stack s H ⟨[.ref a], []⟩ [.ref a] [.ref a] _ E hr.in1.in1 gd I.env0.in1.in1 b (.cons rfl .nil) q) (g_end (fun e s' => hx pins σ H s e s' I) I))) (fun v s' hq => ?_) fun _ _ z => z)
  obtain ⟨v, H', J', rv, z, rfl, qq⟩ := hq
  obtain ⟨t, rfl⟩ := rv
  exact ⟨.str z, H', J', ⟨t, rfl⟩, qq⟩
end
end CH

/-! ### the end of a law whose defs are promised where nothing is being written out -/
namespace CH
open PySem PySem.Spec PyProof.Rows PySem.W PySem.Calls L2
section
variable {P : Program} {w : World} {K : Frag} {mg mb : Str → Option Value} {CX : CXT} {k : Nat} {fa a : Addr} {fd : FuncData} {x : Str} {sp : Sp} {s : Shared} {vs : List Value} {ns : List Int}
/-- at one abstract heap, which tracks the script at most -/
theorem lawG_at {H : Hp} (KX : K.In s.heap) (hns : s.heap.Ns mainGlobals mg) (hb : s.heap.Ns builtinsNs mb) (hbb : ∀ x : Str, x ≠ "__name__" → mb x = bootBuiltins x) (hlim : s.heap.NoLimit) (hg : s.gens = #[])
    (ha : s.heap.get? a = some { cls := .type "list", data := .seq vs.toArray }) (hr : Room k callerA) (F : ∀ base : Heap, K.In base → base.Ns mainGlobals mg → FnG P w K mg base CX k fa fd [x] sp) (hbind : ∀ (s : Shared) (u : Value), BindsTo s fd ⟨[u], []⟩ [(x, u)])
    (hCX : ∀ e s', CX [] H s (fun _ _ _ => False) e s' → False) (hO : Only H) (hq : sp [.ref a] H (fun v _ => v = .bl true) fun _ _ _ => False) (hok : HOk P w H s.heap) (hA : ∀ b, H b ≠ none → b = a) (hK : H a ≠ none → K.lookup a = none) :
    codeAny (model P w) callerA (.call (.ref fa) ⟨[.ref a], []⟩) (fun r s' => r = .ok (.ret (.bool true)) ∧ OldK s.heap s'.heap ∧ s'.os = s.os ∧ AllBare s'.gens) s := by
  have free : ∀ {b : Addr} {o : Obj}, s.heap.get? b = some o → (b = a → K.lookup a ≠ none ∨ ∃ es ep, o.data = .dict es ep) → H b = none := fun {b o} e n => by
    cases q : H b with
    | none => rfl
    | some u =>
      have hba : b = a := hA b (by rw [q]; exact nofun)
      rcases n hba with n | ⟨es, ep, hd⟩
      · exact absurd (hK (by rw [← hba, q]; exact nofun)) n
      · rw [hba, ha] at e
        rw [← Option.some.inj e] at hd
        cases hd
  have nsK : ∀ {b : Addr} {m : Str → Option Value}, s.heap.Ns b m → (hidT s.heap H).Ns b m := by
    rintro b m ⟨o, es, ep, e, d, r⟩
    exact ⟨o, es, ep, hidT_get e (free e fun _ => .inr ⟨es, ep, d⟩), d, r⟩
  have hKb : K.In (hidT s.heap H) := fun b o e => hidT_get (KX b o e) (free (KX b o e) fun z => .inl (by rw [← z, e]; exact nofun))
  obtain ⟨mc, h1, h2⟩ := hlim
  have e0 : Env0 P w K mg (hidT s.heap H) callerA [] s H :=
    ⟨rfl, ⟨hKb, nsK hns, ⟨mb, nsK hb, hbb⟩, ⟨mc, nsK h1, h2⟩⟩, fun b o e => of_hidT e, Nat.le_of_eq (hidT_size _ _), trivial, (fun b hb => nomatch (show b ∈ ([] : List Addr) from hb)), hok, .of_eq hg⟩
  refine codeAny_mono ((F _ hKb (nsK hns)).run callerA [] s H _ [.ref a] [.ref a] _ _ hr rfl e0 (hbind s _) (.cons rfl .nil) hq) fun r s' h => ?_
  match r, h with
  | .error e, h => exact (hCX e s' h).elim
  | .ok .next, h => exact h.elim
  | .ok .brk, h => exact h.elim
  | .ok .cont, h => exact h.elim
  | .ok (.ret u), h =>
    obtain ⟨_, H', os, bare, un, hok', rv, rfl⟩ := h
    obtain rfl : u = Value.bool true := rv
    refine ⟨rfl, OldK.of_keep fun b o e => ?_, os, bare⟩
    rcases hO b with q | ⟨ob, xs, q⟩
    · exact un.keep b o e q (fun z => nomatch z) (fun z => nomatch z)
    · have e1 := (hok b _ q).1
      rw [e] at e1
      rw [Option.some.inj e1]
      exact (hok' b _ (un.frzs b ob _ q)).1
theorem lawG (KX : K.In s.heap) (hns : s.heap.Ns mainGlobals mg) (hb : s.heap.Ns builtinsNs mb) (hbb : ∀ x : Str, x ≠ "__name__" → mb x = bootBuiltins x) (hlim : s.heap.NoLimit) (hg : s.gens = #[])
    (ha : s.heap.get? a = some { cls := .type "list", data := .seq vs.toArray }) (hi : IntsAre vs ns) (hl : ns.length ≤ sizeLine) (hr : Room k callerA) (F : ∀ base : Heap, K.In base → base.Ns mainGlobals mg → FnG P w K mg base CX k fa fd [x] sp) (hbind : ∀ (s : Shared) (u : Value), BindsTo s fd ⟨[u], []⟩ [(x, u)])
    (hsp : ∀ H : Hp, Only H → SqL K H a (ns.map V.int) → sp [.ref a] H (fun v _ => v = .bl true) fun _ _ _ => False) (hCX : ∀ H e s', CX [] H s (fun _ _ _ => False) e s' → False) :
    codeAny (model P w) callerA (.call (.ref fa) ⟨[.ref a], []⟩) (fun r s' => r = .ok (.ret (.bool true)) ∧ OldK s.heap s'.heap ∧ s'.os = s.os ∧ AllBare s'.gens) s := by
  have rv := vals_ints hi
  have lv := hi.length
  by_cases hk : K.lookup a = none
  · have hO : Only fun b => if b = a then some (.frz { cls := .type "list", data := .seq vs.toArray } (.lst (ns.map V.int))) else none := fun b => (Decidable.em (b = a)).elim (fun z => .inr ⟨_, _, if_pos z⟩) (fun z => .inl (if_neg z))
    refine lawG_at KX hns hb hbb hlim hg ha hr F hbind (hCX _) hO (hsp _ hO (.inl (.inr ⟨_, if_pos rfl⟩))) (fun b u z => ?_) (fun b z => Decidable.byContradiction fun n => z (if_neg n)) fun _ => hk
    by_cases n : b = a
    · subst n
      have z := (if_pos rfl).symm.trans z
      cases z
      exact ⟨ha, by rw [List.length_map]; exact hl, vs, _, rv, ha⟩
    · have z := (if_neg n).symm.trans z
      cases z
  · obtain ⟨o, hk⟩ := Option.ne_none_iff_exists'.mp hk
    have e := KX a o hk
    rw [ha] at e
    cases e
    exact lawG_at (H := fun _ => none) KX hns hb hbb hlim hg ha hr F hbind (hCX _) (fun _ => .inl rfl) (hsp _ (fun _ => .inl rfl) (.inr ⟨_, vs.toArray, _, hk, rfl, rfl, rfl, by rw [List.size_toArray, lv]; exact hl, by simpa using rv⟩)) (fun b u z => nomatch (show (none : Option HO) = some u from z)) (fun b z => absurd rfl z) fun z => absurd rfl z
end
theorem walk_ofG {l : PySem.W.OpenLaw} {n k : Nat} {q : Program} {loose : List Str} {XP : (Str → Option Value) → Heap → Prop} {YP : World → Heap → Prop} {d : DefRec} {CX : CXT} {x : Str} (hn : l.most = some n) (hn2 : n ≤ sizeLine) (hdf : d.params.defaults = []) (hr : Room k callerA)
    (F : ∀ (w : World) (mg : Str → Option Value) (fa : Addr) (h : Heap), YP w h → h.Ns mainGlobals mg → mg d.name = some (.ref fa) → ∃ (K : Frag) (fd : FuncData) (sp : Sp), K.In h ∧ (∀ (s : Shared) (u : Value), BindsTo s fd ⟨[u], []⟩ [(x, u)]) ∧ (∀ (H : Hp) (a : Addr) (ns : List Int), ns.length ≤ n → Only H → SqL K H a (ns.map V.int) → sp [.ref a] H (fun v _ => v = .bl true) fun _ _ _ => False) ∧ ∀ base : Heap, K.In base → base.Ns mainGlobals mg → FnG l.prog w K mg base CX k fa fd [x] sp)
    (hCX : ∀ (H : Hp) (s : Shared) (e : Value) (s' : Shared), CX [] H s (fun _ _ _ => False) e s' → False) : WalkO q loose XP YP l.row.toRowW d [] (fun f vs => PySem.call f vs) :=
  Att.attach_call hn hdf fun w s₀ s₁ mg mb fa o pm cd doc a vs ns G Y ho hd hcd hmg hobj hints hlen hg => by
    obtain ⟨K, fd, sp, KX, hb, hsp, hF⟩ := F w mg fa _ Y G.T.g hmg
    exact lawG KX G.T.g G.T.b G.T.builtins G.T.nolimit hg hobj hints (Nat.le_trans hlen hn2) hr hF hb (fun H hO hS => hsp H a ns hlen hO hS) fun H e s' => hCX H s₁ e s'
end CH

/-! ### dicts whose keys are tuples: comprehensions, update, dict(d) -/
namespace CH
open PySem PySem.Spec PyProof.Rows PySem.W PySem.Calls L2
section
variable {X : Cx} {pins : List (Addr × Obj)} {σ : L2.St} {H : Hp} {s : Shared} {E : Value → Shared → Prop} {D b : Addr} {kvs : List (List Key × V)} {k : List Key} {v : V} {r : Value}
/-- a dict whose keys are tuples is replaced -/
theorem dt_put {h' : Heap} {tk : Nat} {ms : List (List Key × V)} {xs : List (List Key × Addr × Value)} (I : Inv X pins σ H s) (e : H D = some (.dT kvs)) (hl : ms.length ≤ sizeLine) (hd : (D == sysModules) = false) (rel : KT H ms xs) (dd : h'.DictOfH (tupleKind (mixKind X.prog X.w)) D xs) (hs : Heap.SameBut D s.heap h') : Inv X pins σ (upd H D (.dT ms)) { s with heap := h', toks := tk } := by
  obtain ⟨q, es, ep, hq, h2, h3, h4, _, h5⟩ := dd
  refine d_write I (by rw [e]; exact True.intro) hs ⟨q, hq⟩ ⟨hl, hd, _, rel.keeps fun c ys ec => ?_, q, es, ep, hq, h2, h3, h4, h5⟩
  rw [upd_ne (fun z => by rw [z, e] at ec; cases ec)]
  exact ec
theorem d_dictSetT {Q : Unit → Shared → Prop} (hu : X.A.units < cLine) (I : Inv X pins σ H s) (e : H D = some (.dT kvs)) (hz : kvs.length < sizeLine) (eb : H b = some (.tup (k.map kV))) (rv : RelV v r) (h : ∀ s', Inv X pins σ (upd H D (.dT (putK kvs k v))) s' → Q () s') : wpAny (model X.prog X.w) X.A (dictSet D (.ref b) r) Q E s := by
  obtain ⟨z, hd, xs, rel, dd⟩ := dt_of I.hok e
  exact wpAny_dictSet_heap (hsz := by rw [← Paired.length rel]; exact z) hu (key_of I.hok eb) dd fun h' dd' hs => h _ (dt_put I e (by have := length_putK kvs k v; omega) hd (rel.put k eb rv) dd' hs)
end
section
variable {X : Cx}
/-- {k: v for target in iter if ..}, the keys tuples: D the new dict -/
def tDcT (wi : TI) (g : TG) (tt : TT) (tk tv : TE) (vs : List Nat) : TE := fun σ H Q => wi σ H fun J H1 => ∀ D, H1 D = none → ∃ W : Nat → Nat → Hp → Prop, (∃ m, W 0 m (upd H1 D (.dT []))) ∧ ∀ i m H, W i m H →
  (J.stop i H ∧ Q (.ref D) H) ∨ (J.go i H ∧ ∃ Nx : Hp → Prop, (∀ H', Nx H' → ∃ m', m' < m ∧ W (i + 1) m' H') ∧ ∀ x H', J.yld i H x H' → g x (wipe σ vs) H' fun σ2 H2 => wipe σ2 vs = wipe σ vs ∧ tt σ2 H2 fun b H3 =>
    if b = true then tk σ2 H3 fun y H4 => tv σ2 H4 fun z H5 => ∃ (kvs : List (List Key × V)) (k : List Key) (b : Addr), y = .ref b ∧ H5 b = some (.tup (k.map kV)) ∧ H5 D = some (.dT kvs) ∧ kvs.length < sizeLine ∧ Nx (upd H5 D (.dT (putK kvs k z))) else Nx H3)
theorem pe_dcT {kx vx tg iter : Expr} {ifs : List Expr} {scope : Scope} {own : List (Str × Nat)} {pos : Pos} {wi : TI} {g : TG} {tt : TT} {tk tv : TE} (hc : X.calm = true) (hN : X.N.Nodup) (hu : X.A.units + 64 < cLine) (hi : PI X tg iter wi) (ok : BlkOk X.N X.env.scope scope own)
    (hg : ∀ s H C cl fp, PG (X.blk s H scope (compEnvC scope cl C X.env) fp) tg g) (ht : ∀ s H C cl fp, PTs (X.blk s H scope (compEnvC scope cl C X.env) fp) ifs tt) (hk : ∀ s H C cl fp, PE (X.blk s H scope (compEnvC scope cl C X.env) fp) kx tk) (he : ∀ s H C cl fp, PE (X.blk s H scope (compEnvC scope cl C X.env) fp) vx tv)
    (hs : ∀ x, foldedSetIterable iter X.env x = pure x := by intro _; rfl) : PE X (.DictComp kx vx [⟨tg, iter, ifs, 0⟩] scope pos) (tDcT wi g tt tk tv (own.map (·.2))) := by
  refine ⟨fun pins s σ H Q I h => ?_⟩
  rw [arm_eval_DictComp]
  have free : ∀ y ∈ scope.names, y.2 = .free → ∃ c, X.env.cells.lookup y.1 = some c := fun y hy e => (ok.free y hy e).elim (fun k => I.ok.has _ (.inl k)) fun k => I.ok.has _ (.inr k)
  refine wpAny_comprehension_free rfl hs (closure_ok free) ok.kind (fun y hy e => (ok.uniq y hy).trans (congrArg some e)) (thn (hi.run pins s σ H _ I h) fun xv s1 hx => thn hx fun itv s2 h2 => ?_)
  obtain ⟨it, fp, tn, J, H2, rfl, I2, T, st2, f2, q⟩ := h2
  refine wpAny_newObj_type (newEnv_comp ?_)
  obtain ⟨D, hD⟩ : ∃ D, s2.heap.objs.size = D := ⟨_, rfl⟩
  rw [hD]
  obtain ⟨W, ⟨m0, w0⟩, turn⟩ := q D (I2.hok.fresh (Nat.le_of_eq hD))
  obtain ⟨s3, h3⟩ : ∃ s3 : Shared, { s2 with heap := s2.heap.push { cls := .type "dict", data := .dict #[] } } = s3 := ⟨_, rfl⟩
  rw [h3]
  have I3 : Inv X pins σ (upd H2 D (.dT [])) s3 := h3 ▸ I2.laid (t' := s2.toks) (fun b o e => Heap.get?_push_of_some _ e) (Nat.le_of_eq hD) (hD ▸ dt_empty s2.heap I2.big)
  have hp3 : s3.heap = s2.heap.push { cls := .type "dict", data := .dict #[] } := by rw [← h3]
  have f3 : ∀ b ∈ fp, FpOk X pins (upd H2 D (.dT [])) b ∧ b < s3.heap.objs.size := fun b hb => by
    obtain ⟨o, e, _⟩ := T.obj _ _ st2 b hb
    have lt : b < s2.heap.objs.size := Heap.lt_size e
    exact ⟨⟨(upd_ne (by rw [← hD]; exact Nat.ne_of_lt lt)).trans (f2 b hb).1, (f2 b hb).2⟩, by rw [hp3, Heap.size_push]; exact Nat.lt_succ_of_lt lt⟩
  have st3 : tn 0 s3.heap := T.keep _ _ _ st2 fun b _ o e => hp3 ▸ Heap.get?_push_of_some _ e
  have I4 := block_start I3 ok hN f3
  obtain ⟨cl, hcl⟩ : ∃ cl, cellsFrom (s3.heap.objs.size + 1) scope.names (cloFrom X.env.cells scope.names []) = cl := ⟨_, rfl⟩
  rw [hcl] at I4
  have pg := hg s3 (upd H2 D (.dT [])) s3.heap.objs.size cl fp
  have pt := ht s3 (upd H2 D (.dT [])) s3.heap.objs.size cl fp
  have pk := hk s3 (upd H2 D (.dT [])) s3.heap.objs.size cl fp
  have pv := he s3 (upd H2 D (.dT [])) s3.heap.objs.size cl fp
  obtain ⟨ce, hce⟩ : ∃ ce, compEnvC scope cl s3.heap.objs.size X.env = ce := ⟨_, rfl⟩
  rw [hce] at I4 pg pt pk pv
  have cL : ce.locals = s3.heap.objs.size := by rw [← hce]; rfl
  obtain ⟨s4, h4⟩ : ∃ s4 : Shared, { s3 with heap := pushCells (s3.heap.push { cls := .type "dict", data := .dict #[] }) scope.names } = s4 := ⟨_, rfl⟩
  show codeAny _ _ (.compStart (.DictComp kx vx [⟨tg, iter, ifs, 0⟩] scope pos) 0 (.ref it) (.ref D) (compEnvC scope (cellsFrom (s3.heap.objs.size + 1) scope.names (cloFrom X.env.cells scope.names [])) s3.heap.objs.size X.env)) _ { s3 with heap := pushCells (s3.heap.push { cls := .type "dict", data := .dict #[] }) scope.names }
  rw [hcl, hce, h4]
  rw [h4] at I4
  have nf : ∀ b ∈ fp, upd H2 D (.dT []) b = none := fun b hb => (f3 b hb).1.1
  generalize upd H2 D (.dT []) = H3 at I3 I4 pg pt pk pv w0 nf f3
  have st4 : tn 0 s4.heap := T.keep _ _ _ st3 fun b _ o e => h4 ▸ pushCells_keeps _ _ _ _ (Heap.get?_push_of_some _ e)
  have stat : ∀ {σ' : L2.St} {H' : Hp} {s' : Shared}, Inv (X.blk s3 H3 scope ce fp) [] σ' H' s' → (∀ b ∈ fp, H' b = none) → ∀ b ∈ fp, FpOk (X.blk s3 H3 scope ce fp) [] H' b := fun I' n b hb => ⟨n b hb, (I'.ok.exf b hb).1, I'.ok.exfs b hb, .inl hb, fun x c e => (I'.ok.exf b hb).2 x c e, fun p hp => absurd (show p ∈ ([] : List (Addr × Obj)) ++ [] from hp) (by simp)⟩
  refine codeAny_compStart_dict ?loop (T.self X.A 0 _ _ _ st4 ?loop)
  refine compLoop_anyD (fun n s' => ∃ i H', Inv (X.blk s3 H3 scope ce fp) [] (wipe σ (own.map (·.2))) H' s' ∧ tn i s'.heap ∧ (∀ b ∈ fp, H' b = none) ∧ W i n H') ?_ m0 ⟨0, H3, I4, st4, nf, w0⟩
  rintro n s5 ⟨i, H5, I5, st5, n5, w5⟩
  rcases turn i n H5 w5 with ⟨stop, qq⟩ | ⟨go, Nx, hNx, step⟩
  · refine thnF (T.done (X.blk s3 H3 scope ce fp) rfl rfl rfl hc i [] s5 _ H5 (fun _ _ => False) I5 (stat I5 n5) st5 stop) fun r s6 ⟨hr, I6⟩ => ?_
    subst hr
    have I7 : Inv X pins σ H5 s6 := I3.call' (ch := fp) I6.os I6.base I6.hok I6.bare fun b hb => let z := (f3 b hb).1.2; ⟨z.2.2.1, z.1, z.2.2.2.1, z.2.2.2.2⟩
    have nC : H5 s3.heap.objs.size = none := cL ▸ (show H5 ce.locals = none from I6.free)
    obtain ⟨m, hn, _⟩ := I6.loc
    have hn : s6.heap.Ns ce.locals m := hn
    have fz : FpOk X pins H5 s3.heap.objs.size := I3.fpOk (Nat.le_refl _) nC
    obtain ⟨f0, f1, f2, f4, f5, f6⟩ := fz
    exact ⟨m, cL ▸ hn, fun h'' sb => ⟨.ref D, H5, I7.turned (t' := s6.toks) (fun b o hb e => (sb.2 b hb).trans e) f0 f1 f4 f5 f6, rfl, qq⟩⟩
  · refine thnF (T.item (X.blk s3 H3 scope ce fp) rfl rfl rfl hc i [] s5 _ H5 (fun _ _ => False) I5 (stat I5 n5) st5 go) fun r s6 ⟨u, hr, h6⟩ => ?_
    subst hr
    refine thnF h6 fun _ s7 ⟨x, H7, I7, r7, y7, st7, n7⟩ => ?_
    refine thnF (pg.run _ s7 _ H7 x u _ (I7.pinned (stat I7 n7) (T.obj _ _ st7)) r7 (step x H7 y7)) fun _ s8 ⟨σ8, H8, I8, hw8, q8⟩ => ?_
    refine thnF (pt.run _ s8 σ8 H8 _ I8 q8) fun b s9 ⟨H9, I9, q9⟩ => ?_
    have fin : ∀ {s' : Shared} {H' : Hp}, Inv (X.blk s3 H3 scope ce fp) ([] ++ pinsAt fp s7.heap) σ8 H' s' → Nx H' → ∃ m, m < n ∧ ∃ i H', Inv (X.blk s3 H3 scope ce fp) [] (wipe σ (own.map (·.2))) H' s' ∧ tn i s'.heap ∧ (∀ b ∈ fp, H' b = none) ∧ W i m H' := fun {s' H'} I' nx => by
      obtain ⟨m', hm, w'⟩ := hNx H' nx
      have pin' : ∀ b ∈ fp, ∀ o, s7.heap.get? b = some o → s'.heap.get? b = some o ∧ H' b = none := fun b hb o e => let z := I'.pin (b, o) (List.mem_append_right _ (List.mem_append_right _ (mem_pinsAt hb e))); ⟨z.1, z.2.1⟩
      exact ⟨m', hm, i + 1, H', (I'.unpinned (pins := [])).weak (by rw [← hw8, wipe_length]) fun j v e => (wipe_some (hw8 ▸ e)).1, T.keep _ _ _ st7 fun b hb o e => (pin' b hb o e).1, fun b hb => let ⟨o, e, _⟩ := T.obj _ _ st7 b hb; (pin' b hb o e).2, w'⟩
    cases b with
    | false => exact fin I9 (by simpa using q9)
    | true =>
      have q9 := (show tk σ8 H9 _ from by simpa using q9)
      show wpAny _ _ _ _ _ _
      refine thnF (pk.run _ s9 σ8 H9 _ I9 q9) fun z s10 ⟨yk, H10, I10, r10, q10⟩ => ?_
      refine thnF (pv.run _ s10 σ8 H10 _ I10 q10) fun z2 s11 ⟨yv, H11, I11, r11, kvs, k, c, ek, eb, eD, hz, nx⟩ => ?_
      subst ek
      obtain rfl : z = Value.ref c := r10
      exact d_dictSetT (X := X.blk s3 H3 scope ce fp) (by show X.A.units < cLine; omega) I11 eD hz eb r11 fun s12 I12 => fin I12 nx
end
/-! ### for k, v in d.items(), the keys tuples -/
section
variable {X : Cx} {pins : List (Addr × Obj)} {σ : L2.St} {H : Hp} {s : Shared} {d : Addr} {o : Obj} {kvs : List (List Key × V)}
/-- the pairs of a locked dict: each a new tuple of the key's own tuple and the value -/
def ItT (d : Addr) (o : Obj) (kvs : List (List Key × V)) : It :=
  ⟨fun i H => H d = some (.frz o (.dT kvs)) ∧ i < kvs.length, fun i H x H' => ∃ (T : Addr) (k : List Key) (v : V) (q : Addr), kvs[i]? = some (k, v) ∧ H q = some (.tup (k.map kV)) ∧ x = .ref T ∧ H T = none ∧ H' = upd H T (.tup [.ref q, v]), fun i H => H d = some (.frz o (.dT kvs)) ∧ kvs.length ≤ i⟩
theorem entT (I : Inv X pins σ H s) (h : H d = some (.frz o (.dT kvs))) : (d == sysModules) = false ∧ s.heap.get? d = some o ∧ o.ExactDict ∧ ∃ (es : Array DictEntry) (ep : Nat), o.data = .dict es ep ∧ es.size = kvs.length ∧
    ∀ (i : Nat) (k : List Key) (v : V), kvs[i]? = some (k, v) → ∃ (en : DictEntry) (q : Addr), es[i]? = some en ∧ en.key = .ref q ∧ H q = some (.tup (k.map kV)) ∧ RelV v en.val := by
  obtain ⟨hd, z, hs, xs, pr, o', es, ep, ho, hx, hdt, he, _⟩ := I.hok d _ h
  cases hd.symm.trans ho
  refine ⟨hs, hd, hx, es, ep, hdt, (size_of_entries he).trans (Paired.length pr).symm, fun i k v e => ?_⟩
  obtain ⟨b, hb, e1, e2, e3⟩ := paired_get pr e
  have q := entry_at he i
  rw [hb] at q
  exact ⟨_, b.2.1, q, rfl, e2, e3⟩
theorem turn_itemsT {P : Program} {w : World} {K : Frag} {es : Array DictEntry} {ep : Nat} {elts : List Expr} {kk : Nat} {tpos : Pos} (it : Addr) (hod : o.data = .dict es ep) : Turn P w K (.Tuple elts kk tpos) (ItT d o kvs) [it] it (fun i h => ∃ ok ov, IsItemIter h it d i kvs.length ep ok ov) where
  mem := List.mem_singleton.mpr rfl
  obj := fun i h st b hb => by
    obtain rfl : b = it := List.mem_singleton.mp hb
    exact let ⟨_, _, e⟩ := st; ⟨_, e, fun v z => nomatch z⟩
  keep := fun i h h' st k => let ⟨ok, ov, e⟩ := st; ⟨ok, ov, k it (List.mem_singleton.mpr rfl) _ e⟩
  item := by
    intro X hP hw hK hc i pins s σ H E I hf st hg
    subst hP hw hK
    obtain ⟨hs, hgd, hx, es', ep', hdt, hsz, ent⟩ := entT I hg.1
    cases hod.symm.trans hdt
    have hlt := hg.2
    obtain ⟨en, q, hen, hkey, hq, rv⟩ := ent i kvs[i].1 kvs[i].2 (List.getElem?_eq_getElem hlt)
    obtain ⟨ok, ov, he⟩ := st
    rw [← hsz] at he hlt
    have hen2 : es[i] = en := Option.some.inj ((Array.getElem?_eq_getElem hlt).symm.trans hen)
    have lit : it < s.heap.objs.size := Heap.lt_size he
    refine DT.nextI he ⟨o, hgd, hx, hdt⟩ hlt fun h' ho hT hz hk => ⟨_, rfl, wpAny_letOwnedTupleGo_items (s := { s with heap := h' }) ho fun h'' he' sb => ?_⟩
    have hT2 := (sb.2 _ (Nat.ne_of_gt lit)).trans hT
    have new : ObjOk X.prog X.w (upd H s.heap.objs.size (.tup [.ref q, kvs[i].2])) h'' s.heap.objs.size (.tup [.ref q, kvs[i].2]) := ⟨by show 2 ≤ sizeLine; decide, [es[i].key, es[i].val], .cons (by rw [hen2, hkey]; rfl) (.cons (by rw [hen2]; exact rv) .nil), ⟨_, hT2, rfl, _, rfl⟩⟩
    have I1 := I.turnedNew (t' := s.toks) (ch := [it]) (fun b ob hb e => (sb.2 b (fun z => hb (List.mem_singleton.mpr z))).trans (hk b ob (fun z => hb (List.mem_singleton.mpr z)) e)) hf (Nat.le_refl _) new
    exact ⟨.ref s.heap.objs.size, _, I1, rfl, ⟨_, kvs[i].1, kvs[i].2, q, List.getElem?_eq_getElem hg.2, hq, rfl, I.hok.fresh (Nat.le_refl _), rfl⟩, ⟨es[i].key, es[i].val, by rw [← hsz]; exact he'⟩, fun b hb => by
      obtain rfl : b = it := List.mem_singleton.mp hb
      exact (upd_ne (Nat.ne_of_lt lit)).trans (hf b hb).1⟩
  done := by
    intro X hP hw hK hc i pins s σ H E I hf st hg
    subst hP hw hK
    obtain ⟨f0, f1, f2, f3, f4, f5⟩ := hf it (List.mem_singleton.mpr rfl)
    obtain ⟨hs, hgd, hx, es', ep', hdt, hsz, ent⟩ := entT I hg.1
    cases hod.symm.trans hdt
    obtain ⟨ok, ov, he⟩ := st
    rw [← hsz] at he
    exact DT.endI (I.ok.hd hc) he ⟨o, hgd, hx, hdt⟩ (by have := hg.2; omega) fun h' eb => ⟨rfl, I.turned (t' := s.toks) (fun b ob hb e => eb b ob hb e) f0 f1 f3 f4 f5⟩
  self := fun A i s Q E st h => let ⟨_, _, e⟩ := st; kcp_self e h
def iItemsT (td : TE) : TI := fun σ H R => td σ H fun x H1 => ∃ (d : Addr) (o : Obj) (kvs : List (List Key × V)), x = .ref d ∧ H1 d = some (.frz o (.dT kvs)) ∧ R (ItT d o kvs) H1
theorem pi_itemsT {e : Expr} {td : TE} {apos cpos tpos : Pos} {elts : List Expr} {kk : Nat} (he : PE X e td) (hbase : attributeBase e "items" X.env (eval e X.env) = eval e X.env := by rfl) (hline : (apos.endLine == cpos.line) = true := by rfl) : PI X (.Tuple elts kk tpos) (.Call (.Attribute e "items" apos) [] [] cpos) (iItemsT td) := by
  refine ⟨fun pins s σ H R I h => wpAny_Call_method (T := "dict") (id := "dict.items") hbase rfl hline PySem.F.plainAttrs_dict PySem.F.slot_dict_items PySem.F.type_dict_items (thn (he.run pins s σ H _ I h) fun u s1 hh => ?_)⟩
  obtain ⟨_, H1, I1, rx, d, o, kvs, rfl, hd, q⟩ := hh
  cases (show u = Value.ref d from rx)
  obtain ⟨hs, hgd, hx, es, ep, hdt, hsz, ent⟩ := entT I1 hd
  have raw : DT.Raw s1.heap d es ep := ⟨o, hgd, hx, hdt⟩
  have I2 : Inv X pins σ H1 { s1 with heap := s1.heap.push { cls := .type "dict_items", data := .fields #[.ref d] } } := I1.kept (t' := s1.toks) fun b ob q => Heap.get?_push_of_some _ q
  refine ⟨raw.typeIs, fun b z => ⟨o, by cases z; exact hgd, hx.2.1⟩, ?_⟩
  show wpAny _ _ (callWith cpos (.builtin "dict.items") [.ref d] [] []) _ X.xe s1
  refine method_meetsIn PySem.F.slot_dict_items PySem.F.entry_dict_items rfl (PySem.evalArgs_none ⟨rfl, raw.typeIs, PySem.F.args_dict_items_1 _, _, DT.meetsItems (es := es) (ep := ep) hs, raw, ?_⟩)
  exact DT.iterI ⟨_, Heap.get?_push_size _ rfl, rfl, rfl⟩ (raw.push _) (pi_one (tk := s1.toks) I2 _ (turn_itemsT _ hdt) ⟨.none, .none, by rw [← hsz]; exact Heap.get?_push_size _ rfl⟩ q)
end
end CH

/-! ### max(lists, key=len) -/
namespace CH
open PySem PySem.Spec PyProof.Rows PySem.W PySem.Calls L2
section
variable {prog : Program} {w : World} {A : Around} {E : Value → Shared → Prop} {s : Shared}
theorem best_max (f : Nat → Nat) : ∀ k, argBest (fun i j => decide (f j < f i)) k ≤ k ∧ ∀ j, j ≤ k → f j ≤ f (argBest (fun i j => decide (f j < f i)) k)
  | 0 => ⟨Nat.le_refl _, fun j h => by rw [Nat.le_zero.mp h]; exact Nat.le_refl _⟩
  | k + 1 => by
    obtain ⟨h1, h2⟩ := best_max f k
    unfold argBest
    by_cases h : f (argBest (fun i j => decide (f j < f i)) k) < f (k + 1)
    · rw [if_pos (by simpa using h)]
      refine ⟨Nat.le_refl _, fun j hj => ?_⟩
      by_cases e : j = k + 1
      · rw [e]; exact Nat.le_refl _
      · exact Nat.le_trans (h2 j (by omega)) (Nat.le_of_lt h)
    · rw [if_neg (by simpa using h)]
      refine ⟨Nat.le_succ_of_le h1, fun j hj => ?_⟩
      by_cases e : j = k + 1
      · rw [e]; omega
      · exact h2 j (by omega)
/-- the state is s's but for new objects -/
def OnlyMore (s s' : Shared) : Prop := ∃ h' tk, s' = { s with heap := h', toks := tk } ∧ ∀ b o, s.heap.get? b = some o → h'.get? b = some o
theorem OnlyMore.moved {s s₂ s' : Shared} {fp : List Addr} (h : OnlyMore s s₂) (hf : ∀ b ∈ fp, s.heap.get? b = none) (m : Moved fp (fun a b => b = a) s₂ s') : OnlyMore s s' := by
  obtain ⟨h', tk, rfl, k⟩ := h
  refine ⟨s'.heap, s'.toks, ?_, fun b ob eb => m.heap b ob (fun hb => by rw [hf b hb] at eb; cases eb) (k b ob eb)⟩
  obtain ⟨hp, g, d, t, os⟩ := s'
  obtain rfl : g = s.gens := m.gens
  obtain rfl : d = s.drawn := m.drawn
  obtain rfl : os = s.os := m.os
  rfl
theorem max_len_run {l : Addr} {vs : Array Value} {n : Nat → Nat} {Q : Value → Shared → Prop} (hh : A.handled = none) (hl : s.heap.IsList l vs) (hn : 0 < vs.size) (hi : ∀ (i : Nat) v, vs[i]? = some v → ∃ a items, v = .ref a ∧ s.heap.IsList a items ∧ items.size = n i ∧ items.size < 2 ^ 62)
    (h : ∀ (i : Nat) v s', vs[i]? = some v → (∀ j, j < vs.size → n j ≤ n i) → OnlyMore s s' → Q v s') : wpAny (model prog w) A (call (.builtin "max") [.ref l] [(Str.ofString "key", .builtin "len")]) Q E s := by
  refine call_max_walkKB (iter_listW (A := A.in1) hh hl fun s₂ e W st hfp hw hk => ?_)
  have m2 : OnlyMore s s₂ := by subst e; exact ⟨_, s.toks, rfl, fun b o e => Heap.get?_push_of_some _ e⟩
  have fresh : ∀ b ∈ [s₂.heap.objs.size, s.heap.objs.size], s.heap.get? b = none := fun b hb => by
    cases q : s.heap.get? b with
    | none => rfl
    | some o =>
      have lt : b < s.heap.objs.size := Heap.lt_size q
      have h2 : s₂.heap.objs.size = s.heap.objs.size + 1 := by subst e; exact Heap.size_push _ _
      rcases List.mem_cons.mp hb with z | hb
      · rw [z, h2] at lt
        exact absurd lt (by omega)
      · rw [List.mem_singleton.mp hb] at lt
        exact absurd lt (Nat.lt_irrefl _)
  refine ⟨_, _, _, _, _, _, _, OnlyMore s, fun i k _ => ∃ t, k = .int ((n i : Nat) : Int) t, fun i j => decide (n j < n i), rfl, W, st, hfp, hn, ⟨fun s1 s' hJ m => hJ.moved fresh m, fun i k _ _ v _ => v, ?_, ?_⟩, m2, ?_⟩
  · intro i v s1 o Q1 E1 hlt hv hJ hst hS q
    obtain ⟨a, items, rfl, ha, hz, hb⟩ := hi i v hv
    obtain ⟨h', tk, rfl, k⟩ := hJ
    refine PyProof.Rows.len_list (show Heap.IsList h' a items from ha.at (fun o e => k a o e)) (by omega) ?_
    rw [hz]
    exact q _ _ ⟨h', _, rfl, k⟩ hst hS ⟨_, rfl⟩ fun _ _ z => z
  · rintro i j _ _ s1 Q1 E1 hJ ⟨ti, rfl⟩ ⟨tj, rfl⟩ q
    refine CmpOf.ints_gt (prog := prog) (w := w) (P := fun i v => ∃ t, v = .int ((n i : Nat) : Int) t) (fun i => ((n i : Nat) : Int)) (fun i v h => h) i j _ _ _ _ _ ⟨ti, rfl⟩ ⟨tj, rfl⟩ ?_
    have e : decide (((n i : Nat) : Int) > ((n j : Nat) : Int)) = decide (n j < n i) := decide_eq_decide.mpr (by omega)
    first | exact q | (rw [e]; exact q) | (simpa [e] using q)
  · intro v s' hv hJ
    obtain ⟨b1, b2⟩ := best_max n (vs.size - 1)
    exact h _ v s' hv (fun j hj => b2 j (by omega)) hJ
end
section
variable {X : Cx}
def rMaxLen : List V → Hp → VK → Prop := fun vs H Q => ∃ (l : Addr) (as : List Addr) (n : Nat → Nat), vs = [.ref l] ∧ H l = some (.lst (as.map V.ref)) ∧ as ≠ [] ∧ (∀ (i : Nat) (a : Addr), as[i]? = some a → ∃ ys, H a = some (.lst ys) ∧ ys.length = n i) ∧ ∀ (i : Nat) (a : Addr), as[i]? = some a → (∀ j, j < as.length → n j ≤ n i) → Q (.ref a) H
def tMaxLen (te : TE) : TE := fun σ H Q => te σ H fun x H1 => rMaxLen [x] H1 Q
theorem pe_maxLen {e : Expr} {te : TE} {p lp kp pos : Pos} (hc : X.calm = true) (hg : Gl X "max") (hm : X.mg "max" = none) (hg2 : Gl X "len") (hm2 : X.mg "len" = none) (he : PE X e te) (hs0 : starEach [e] X.env = (false, eval e X.env) :: starEach [] X.env := by rfl) (hs : backTo pos (starEach [e] X.env) = (false, eval e X.env) :: backTo pos (starEach [] X.env) := by rfl)
    (hpl : (backTo pos (starEach [e] X.env)).any (·.1) = false := by rfl) (hall : (backToKw pos (keywordEach [⟨some "key", .Name "len" lp, kp⟩] X.env)).all (·.1.isSome) = true := by rfl) (hnone : (backToKw pos (keywordEach [⟨some "key", .Name "len" lp, kp⟩] X.env)).any (·.1.isNone) = false := by rfl)
    (hks : (backToKw pos (keywordEach [⟨some "key", .Name "len" lp, kp⟩] X.env)).filterMap (·.1) = [Str.ofString "key"] := by rfl) :
    PE X (.Call (.Name "max" p) [e] [⟨some "key", .Name "len" lp, kp⟩] pos) (tMaxLen te) := by
  refine ⟨fun pins s σ H Q I h => wpAny_Call_Name_kw (ld_blt I hg hm rfl ?_)⟩
  refine PyProof.Rows.callWith_kw (thn ((pa_cons he pa_nil hs0).run pos pins s σ H (fun vs H1 => rMaxLen vs H1 Q) I h) fun us s1 hh => ?_) hs hpl hall hnone
  obtain ⟨vs, H1, I1, r, l, as, n, rfl, hl, hne, hlen, q⟩ := hh
  rw [hks]
  show wpAny _ _ (evalAll [(do let v ← eval (.Name "len" lp) X.env; standAt pos; pure v)]) _ _ s1
  refine wpAny_evalAll_cons (wpAny_bind (ld_blt I1 hg2 hm2 rfl (wpAny_bind (wpAny_standAt (wpAny_pure (wpAny_evalAll_nil ?_))))))
  show wpAny _ _ (call (.builtin "max") us [(Str.ofString "key", .builtin "len")]) _ _ s1
  rw [Vals.ref1 r]
  obtain ⟨z, its, k, rv, hle, e1⟩ := I1.lstM hl
  have hat : ∀ (i : Nat) v, its.toArray[i]? = some v → ∃ a, as[i]? = some a ∧ v = .ref a := fun i v hv => by
    have hv : its[i]? = some v := by simpa using hv
    have hi := (List.getElem?_eq_some_iff.mp hv).1
    have hai : i < as.length := by have := rv.length; rw [List.length_map] at this; omega
    obtain ⟨u, hu, ru⟩ := rv.get (show (as.map V.ref)[i]? = some (.ref as[i]) by rw [List.getElem?_map, List.getElem?_eq_getElem hai]; rfl)
    rw [hv] at hu
    cases hu
    exact ⟨as[i], List.getElem?_eq_getElem hai, ru⟩
  have hsz : its.toArray.size = as.length := by rw [List.size_toArray, ← rv.length, List.length_map]
  refine max_len_run (n := n) (I1.ok.hd hc) ⟨_, e1, rfl, _, rfl⟩ (by rw [hsz]; exact List.length_pos_iff.mpr hne) (fun i v hv => ?_) fun i v s' hv hmx hm => ?_
  · obtain ⟨a, ha, rfl⟩ := hat i v hv
    obtain ⟨ys, hy, hn⟩ := hlen i a ha
    obtain ⟨z2, its2, k2, rv2, hle2, e2⟩ := I1.lstM hy
    refine ⟨a, its2.toArray, rfl, ⟨_, e2, rfl, _, rfl⟩, by rw [List.size_toArray, ← rv2.length, hn], ?_⟩
    have : (sizeLine : Nat) ≤ 2 ^ 61 := by decide
    rw [List.size_toArray, ← rv2.length]
    omega
  · obtain ⟨a, ha, rfl⟩ := hat i v hv
    obtain ⟨h', tk, rfl, hk⟩ := hm
    exact ⟨.ref a, H1, I1.kept hk, rfl, q i a ha (by rw [← hsz]; exact hmx)⟩
end
/-! ### sum of a tuple of ints -/
section
variable {prog : Program} {w : World} {A : Around} {E : Value → Shared → Prop} {s : Shared} {l : Addr} {ns : List Int} {Q : Value → Shared → Prop}
theorem sum_rawT {its : List Value} (hh : A.handled = none) (hl : s.heap.IsTuple l its.toArray) (hi : IntsAre its ns) (h : ∀ h' tk t', (∀ b o, s.heap.get? b = some o → h'.get? b = some o) → Q (.int ns.sum t') { s with heap := h', toks := tk }) : wpAny (model prog w) A (call (.builtin "sum") [.ref l]) Q E s := by
  obtain ⟨xs, e⟩ := hi.allInts.items
  have hn : numsOf (intItems xs).toList = ns := by rw [← e]; exact hi.numsOf
  rw [nums_intItems] at hn
  rw [e] at hl
  refine call_sum_walkAnyS (iter_tupleW (A := A.in1) hh hl fun s₂ e2 W st hfp hw hk => ⟨_, _, _, _, _, _, _, numAt xs, rfl, W, st, hfp, fun _ _ => intItems_at, fun s' t' m => ?_⟩)
  obtain ⟨h', tk, rfl, hk'⟩ := moved_old e2 rfl m
  have := h h' tk t' hk'
  have hsz : (intItems xs).size = xs.size := by simp [intItems]
  rw [hsz, preSum_eq, List.take_of_length_le (by simp), hn]
  exact this
end
section
variable {X : Cx} {K : Frag}
def rSumT (K : Frag) : List V → Hp → VK → Prop := fun vs H Q => ∃ (a : Addr) (ns : List Int), vs = [V.ref a] ∧ SqT K H a (ns.map V.int) ∧ Q (.int ns.sum) H
theorem kx_sumT (hK : X.K = K) (hc : X.calm = true) : CallR X (.builtin "sum") (rSumT K) := by
  subst hK
  intro pins s σ H vs us Q I r h
  obtain ⟨a, ns, rfl, hs, q⟩ := h
  obtain ⟨its, rv, hl, _⟩ := I.tuple hs
  rw [Vals.ref1 r]
  obtain ⟨o, h1, h2, n, h3⟩ := hl
  exact sum_rawT (I.ok.hd hc) ⟨o, h1, h2, n, h3⟩ rv.ints fun h' tk t' hk => ⟨.int _, H, I.kept hk, ⟨_, rfl⟩, q⟩
theorem q_sumT {H : Hp} {Q : VK} {a : Addr} {ns : List Int} (h : SqT K H a (ns.map V.int)) (q : Q (.int ns.sum) H) : rSumT K [.ref a] H Q := ⟨a, ns, rfl, h, q⟩
end
end CH

/-! ### d.update(d2), dict(d), the keys tuples -/
namespace CH
open PySem PySem.Spec PyProof.Rows PySem.W PySem.Calls L2
def putAll (kvs more : List (List Key × V)) : List (List Key × V) := more.foldl (fun acc p => putK acc p.1 p.2) kvs
theorem putAll_len : ∀ {more kvs : List (List Key × V)}, (putAll kvs more).length ≤ kvs.length + more.length
  | [], kvs => Nat.le_refl _
  | p :: more, kvs => by
    have h1 := putAll_len (more := more) (kvs := putK kvs p.1 p.2)
    have h2 := length_putK kvs p.1 p.2
    show (putAll (putK kvs p.1 p.2) more).length ≤ _
    rw [List.length_cons]
    omega
theorem KT.all {H : Hp} {more : List (List Key × V)} {ys : List (List Key × Addr × Value)} (r : KT H more ys) : ∀ {kvs : List (List Key × V)} {xs : List (List Key × Addr × Value)}, KT H kvs xs → KT H (putAll kvs more) (storedAllH xs ys) := by
  induction r with
  | nil => exact fun h => h
  | @cons p q ps qs h t ih =>
    intro kvs xs h0
    have h1 := KT.put h0 p.1 h.2.1 h.2.2
    rw [show storedH xs p.1 q.2.1 q.2.2 = storedH xs q.1 q.2.1 q.2.2 by rw [h.1]] at h1
    exact ih h1
/-- the keys' hashes apart -/
def HashesApart (P : Program) (w : World) (kvs : List (List Key × V)) : Prop := (kvs.map fun p => (tupleKind (mixKind P w)).hash p.1).Nodup
theorem KT.hashes {P : Program} {w : World} {H : Hp} {kvs : List (List Key × V)} {xs : List (List Key × Addr × Value)} (r : KT H kvs xs) : (xs.map fun x => (tupleKind (mixKind P w)).hash x.1) = kvs.map fun p => (tupleKind (mixKind P w)).hash p.1 := by
  induction r with
  | nil => rfl
  | @cons p q ps qs h t ih => rw [List.map_cons, List.map_cons, ih, h.1]
section
variable {X : Cx} {pins : List (Addr × Obj)} {σ : L2.St} {H : Hp} {s : Shared} {E : Value → Shared → Prop} {D b : Addr} {kvs more : List (List Key × V)} {A : Around}
theorem KT.types {P : Program} {w : World} {H : Hp} {h : Heap} {kvs : List (List Key × V)} {xs : List (List Key × Addr × Value)} (ok : HOk P w H h) (r : KT H kvs xs) : ∀ x ∈ xs, ∃ o, h.get? x.2.1 = some o ∧ o.cls = .type "tuple" := by
  induction r with
  | nil => intro x hx; cases hx
  | @cons p q ps qs h t ih =>
    intro x hx
    rcases List.mem_cons.mp hx with rfl | hx
    · obtain ⟨_, its, r, o, h1, h2, n, h3⟩ := (show ObjOk P w H _ x.2.1 (.tup (p.1.map kV)) from ok x.2.1 _ h.2.1)
      exact ⟨o, h1, h2⟩
    · exact ih x hx
def rUpdT (P : Program) (w : World) : V → List V → Hp → VK → Prop := fun x xs H Q => ∃ (a b : Addr) (kvs more : List (List L2.Key × V)), x = .ref a ∧ xs = [.ref b] ∧ a ≠ b ∧ H a = some (.dT kvs) ∧ H b = some (.dT more) ∧ HashesApart P w more ∧ kvs.length + more.length ≤ sizeLine ∧ Q .non (upd H a (.dT (putAll kvs more)))
theorem mt_updT (hu : X.A.units + 1 < cLine) : MtR X "dict.update" (rUpdT X.prog X.w) := by
  intro pins s σ H x xs v us Q I rx rxs h
  obtain ⟨a, b, kvs, more, rfl, rfl, nab, ha, hb, hap, hz, q⟩ := h
  cases rx
  obtain ⟨u, rfl, ru⟩ := rxs.one
  cases ru
  obtain ⟨z1, hd1, xs', rel, dd⟩ := dt_of I.hok ha
  obtain ⟨z2, hd2, ys', rel2, dd2⟩ := dt_of I.hok hb
  have l1 := Paired.length rel
  have l2 := Paired.length rel2
  refine call_update_dictH (knd := tupleKind (mixKind X.prog X.w)) (tupleKind_room_in1 hu) nab hd2 dd dd2 (.inr ⟨KT.types I.hok rel2, by rw [KT.hashes rel2]; exact hap⟩) (by rw [← l1, ← l2]; exact hz) fun h' d1 d2 hs => ?_
  exact ⟨.non, _, dt_put I ha (Nat.le_trans putAll_len hz) hd1 (KT.all rel2 rel) d1 hs, rfl, q⟩
end
/-- dict(d), the keys tuples -/
theorem call_dictH {prog : Program} {w : World} {K : Type} [DecidableEq K] {knd : HeapKind prog w K} {A : Around} {E : Value → Shared → Prop} {s : Shared} {o : Addr} {more : List (K × Addr × Value)} {Q : Value → Shared → Prop} (hu : knd.room A.in1.in1) (hoS : (o == sysModules) = false) (hty : ∀ x ∈ more, ∃ o, (s.heap.push { cls := .type "dict", data := .dict #[] }).get? x.2.1 = some o ∧ o.cls = .type "tuple") (hap : (more.map fun x => knd.hash x.1).Nodup) (hsz : more.length ≤ sizeLine)
    (ho2 : (s.heap.push { cls := .type "dict", data := .dict #[] }).DictOfH knd o more) (hdo : s.heap.objs.size ≠ o)
    (h : ∀ h', h'.DictOfH knd s.heap.objs.size more → Heap.SameBut s.heap.objs.size (s.heap.push { cls := .type "dict", data := .dict #[] }) h' → Q (.ref s.heap.objs.size) { s with heap := h' }) :
    wpAny (model prog w) A (call (.type "dict") [.ref o]) Q E s := by
  refine callType_codes (Q₁ := fun obj s₁ => obj = .ref s.heap.objs.size ∧ s₁ = { s with heap := s.heap.push { cls := .type "dict", data := .dict #[] } }) F.kt_called_dict (F.kt_typeCall_dict_1 _) F.entry_dict_init (kt_code_dict_new _ ⟨rfl, rfl⟩) ?_
  rintro obj s₁ ⟨rfl, rfl⟩
  have hnew : (s.heap.push { cls := .type "dict", data := .dict #[] }).DictOfH knd s.heap.objs.size [] := Heap.DictOfH.new s.heap
  refine ⟨hnew.typeIs, F.args_dict_init_2 _ _, ?_⟩
  unfold Builtin.«dict.__init__»
  refine wpAny_bind ?_
  unfold Builtin.Dict.selfAndRest
  refine wpAny_bind (wpAny_notOrdered_dict hnew.typeIs ?_)
  show wpAny _ _ (pure (s.heap.objs.size, [Value.ref o])) _ _ _
  refine wpAny_pure ?_
  show wpAny _ _ (Builtin.Dict.updateFrom "dict.__init__" s.heap.objs.size (.ref o) [] .none) _ _ _
  refine updateFrom_dictH .none hu hdo hoS hnew ho2 (.inr ⟨hty, hap⟩) (by simpa using hsz) fun h' d1 d2 hs => ?_
  rw [storedAllH_nil_of_nodup more ho2.nodup] at d1
  exact ⟨rfl, h h' d1 hs⟩
def rDictT (P : Program) (w : World) : List V → Hp → VK → Prop := fun xs H Q => ∃ (a : Addr) (kvs : List (List L2.Key × V)), xs = [.ref a] ∧ H a = some (.dT kvs) ∧ HashesApart P w kvs ∧ ∀ p, H p = none → Q (.ref p) (upd H p (.dT kvs))
theorem call_dictT {X : Cx} (hu : X.A.units + 4 < cLine) : CallR X (.type "dict") (rDictT X.prog X.w) := by
  intro pins s σ H xs us Q I r q
  obtain ⟨a, kvs, rfl, ha, hap, q⟩ := q
  obtain ⟨u, rfl, rx⟩ := vals1 r
  cases rx
  have hf : H s.heap.objs.size = none := I.hok.fresh (Nat.le_refl _)
  have hdo : s.heap.objs.size ≠ a := fun e => by rw [e, ha] at hf; cases hf
  have I1 : Inv X pins σ (upd H s.heap.objs.size (.dT [])) { s with heap := s.heap.push { cls := .type "dict", data := .dict #[] } } := I.laid (t' := s.toks) (fun b o e => Heap.get?_push_of_some _ e) (Nat.le_refl _) (dt_empty s.heap I.big)
  have ha1 : upd H s.heap.objs.size (.dT []) a = some (.dT kvs) := (upd_ne (Ne.symm hdo)).trans ha
  obtain ⟨z, lo, ys, rel, dd2⟩ := dt_of I1.hok ha1
  have l1 := Paired.length rel
  refine call_dictH (knd := tupleKind (mixKind X.prog X.w)) (tupleKind_room_in1 (A := X.A.in1) (by show X.A.units + 1 + 1 < cLine; omega)) lo (KT.types I1.hok rel) (by rw [KT.hashes rel]; exact hap) (by rw [← l1]; exact z) dd2 hdo fun h' d1 hs => ?_
  exact ⟨.ref s.heap.objs.size, _, dt_put (s := { s with heap := s.heap.push { cls := .type "dict", data := .dict #[] } }) I1 upd_same z (beq_eq_false_iff_ne.mpr (Nat.ne_of_gt I.big)) rel d1 hs, rfl, by rw [upd_upd]; exact q _ hf⟩
theorem type_dict_update : typeOf (.builtin "dict.update") = pure (.type "method_descriptor") := by show builtinType _ = _; rw [builtinType_eq_fast]; kernel_rfl
theorem kmt_updT {X : Cx} {P : Program} {w : World} (hP : X.prog = P) (hw : X.w = w) (hu : X.A.units + 1 < cLine) : MtR X "dict.update" (rUpdT P w) := hP ▸ hw ▸ mt_updT hu
theorem kx_dictT {X : Cx} {P : Program} {w : World} (hP : X.prog = P) (hw : X.w = w) (hu : X.A.units + 65 < cLine) : CallR X (.type "dict") (rDictT P w) := hP ▸ hw ▸ call_dictT (by omega)
end CH

namespace CH
open PySem PySem.Spec PyProof.Rows L2
/-! ### readings, one a primitive -/
section
variable {K : PySem.W.Frag} {σ : L2.St} {H H1 H2 : Hp} {Q : VK} {D : Ends} {x y z v : V} {ta tb tc te to ti : TE} {t u : TT} {r r' : R2} {g : TG} {A B : Prop} {a p C dx : Addr} {fs : List (Str × V)} {f : Str}
theorem q_seq {t u : TS} (h : t { D with nx := u D } σ H) : tSeq t u D σ H := h
theorem q_next (h : D.nx σ H) : tNext D σ H := h
theorem q_asg (h : te σ H fun x H1 => g x σ H1 D.nx) : tAsg te g D σ H := h
theorem q_drop (h : te σ H fun _ H1 => D.nx σ H1) : tDrop te D σ H := h
theorem q_ret (h : te σ H D.rt) : tRet te D σ H := h
theorem q_retN (h : D.rt .non H) : tRetN D σ H := h
theorem q_if {c : TT} {t u : TS} (h : c σ H fun b H1 => if b = true then t D σ H1 else u D σ H1) : tIfS c t u D σ H := h
theorem q_brk (h : D.bk σ H) : tBreak D σ H := h
theorem q_cont (h : D.ct σ H) : tCont D σ H := h
theorem q_gname {i : Nat} {Q : L2.St → Hp → Prop} (h : Q (σ.set i (some v)) H) : gName i v σ H Q := h
theorem q_gsub {s : V → V → V → Hp → (Hp → Prop) → Prop} {Q : L2.St → Hp → Prop} (h : to σ H fun o H1 => ti σ H1 fun i H2 => s o i v H2 fun H3 => Q σ H3) : gSub to ti s v σ H Q := h
theorem q_gnil {Q : L2.St → Hp → Prop} (h : Q σ H) : gNil [] σ H Q := ⟨rfl, h⟩
theorem q_gcons {t : TG} {u : TGs} {r : List V} {Q : L2.St → Hp → Prop} (h : t v σ H fun σ' H' => u r σ' H' Q) : gCons t u (v :: r) σ H Q := ⟨v, r, rfl, h⟩
theorem q_gtup {n : Nat} {t : TGs} {xs : List V} {Q : L2.St → Hp → Prop} (h1 : SqT K H a xs) (h2 : xs.length = n) (h : t xs σ H Q) : gTup K n t (.ref a) σ H Q := ⟨a, xs, rfl, h1, h2, h⟩
theorem q_var {i : Nat} (e : σ[i]? = some (some v)) (h : Q v H) : tVar i σ H Q := ⟨v, e, h⟩
theorem q_c (h : Q v H) : tC v σ H Q := h
theorem q_op (h : ta σ H fun x H1 => tb σ H1 fun y H2 => r x y H2 Q) : tOp r ta tb σ H Q := h
theorem q_un {r : V → Hp → VK → Prop} (h : ta σ H fun x H1 => r x H1 Q) : tUn r ta σ H Q := h
theorem q_I {c : Int → Int → Prop} {gg : Int → Int → V} {i j : Int} (hc : c i j) (h : Q (gg i j) H) : rI c gg (.int i) (.int j) H Q := ⟨i, j, rfl, rfl, hc, h⟩
theorem q_I0 {gg : Int → Int → V} {i j : Int} (h : Q (gg i j) H) : rI0 gg (.int i) (.int j) H Q := ⟨i, j, rfl, rfl, h⟩
theorem q_U {gg : Int → V} {i : Int} (h : Q (gg i) H) : rU gg (.int i) H Q := ⟨i, rfl, h⟩
theorem q_eqI {i j : Int} (h : Q (.bl (decide (i = j))) H) : rEq (.int i) (.int j) H Q := ⟨rfl, by
  have e : decide (V.int i = V.int j) = decide (i = j) := by simp
  rw [e]; exact h⟩
theorem q_eqS {i j : Str} (h : Q (.bl (decide (i = j))) H) : rEq (.str i) (.str j) H Q := ⟨rfl, by
  have e : decide (V.str i = V.str j) = decide (i = j) := by simp
  rw [e]; exact h⟩
theorem q_eqB {i j : Bool} (h : Q (.bl (decide (i = j))) H) : rEq (.bl i) (.bl j) H Q := ⟨rfl, by
  have e : decide (V.bl i = V.bl j) = decide (i = j) := by simp
  rw [e]; exact h⟩
theorem q_eq0 (h1 : scal x y = true) (h2 : ¬ x = y) (h : Q (.bl false) H) : rEq x y H Q := ⟨h1, by rw [decide_eq_false h2]; exact h⟩
theorem q_neI {i j : Int} (h : Q (.bl (!decide (i = j))) H) : rNe (.int i) (.int j) H Q := ⟨rfl, by
  have e : decide (V.int i = V.int j) = decide (i = j) := by simp
  rw [e]; exact h⟩
theorem q_neS {i j : Str} (h : Q (.bl (!decide (i = j))) H) : rNe (.str i) (.str j) H Q := ⟨rfl, by
  have e : decide (V.str i = V.str j) = decide (i = j) := by simp
  rw [e]; exact h⟩
theorem q_neB {i j : Bool} (h : Q (.bl (!decide (i = j))) H) : rNe (.bl i) (.bl j) H Q := ⟨rfl, by
  have e : decide (V.bl i = V.bl j) = decide (i = j) := by simp
  rw [e]; exact h⟩
theorem q_ne0 (h1 : scal x y = true) (h2 : ¬ x = y) (h : Q (.bl true) H) : rNe x y H Q := ⟨h1, by rw [decide_eq_false h2]; exact h⟩
theorem q_ixL {xs : List V} {i : Int} (h : SqL K H p xs) (ha : atI xs i = some v) (q : Q v H) : rIxL K (.ref p) (.int i) H Q := ⟨p, xs, i, v, rfl, rfl, h, ha, q⟩
theorem q_ixT {xs : List V} {i : Int} (h : SqT K H p xs) (ha : atI xs i = some v) (q : Q v H) : rIxT K (.ref p) (.int i) H Q := ⟨p, xs, i, v, rfl, rfl, h, ha, q⟩
theorem q_ixS {s : Str} {i : Int} {c : Nat} (h : s.length ≤ sizeLine) (ha : atI s.cps.toList i = some c) (q : Q (.str ⟨#[c]⟩) H) : rIxS (.str s) (.int i) H Q := ⟨s, i, c, rfl, rfl, h, ha, q⟩
theorem q_setL {xs : List V} {k : Int} {j : Nat} {Q : Hp → Prop} (h : H p = some (.lst xs)) (hk : ixN xs.length k = some j) (q : Q (upd H p (.lst (xs.set j v)))) : rSetL (.ref p) (.int k) v H Q := ⟨p, xs, k, j, rfl, rfl, h, hk, q⟩
theorem q_test {Q : Bool → Hp → Prop} (h : te σ H fun x H' => ∃ k, x = .bl k ∧ Q k H') : tTest te σ H Q := h
theorem q_B {Q : Bool → Hp → Prop} (h : te σ H fun x H' => ∃ k, x = .bl k ∧ Q k H') : tB te σ H Q := h
theorem q_k {P : Bool → Prop} {b : Bool} (h : P b) : ∃ k, V.bl b = .bl k ∧ P k := ⟨b, rfl, h⟩
theorem q_and {Q : Bool → Hp → Prop} (h : t σ H fun c H1 => if c = true then u σ H1 Q else Q false H1) : tAnd t u σ H Q := h
theorem q_or {Q : Bool → Hp → Prop} (h : t σ H fun c H1 => if c = true then Q true H1 else u σ H1 Q) : tOr t u σ H Q := h
theorem q_not {Q : Bool → Hp → Prop} (h : t σ H fun c H1 => Q (!c) H1) : tNot t σ H Q := h
theorem q_andV (h : ta σ H fun x H1 => ∃ c, x = .bl c ∧ if c = true then tb σ H1 Q else Q (.bl false) H1) : tAndV ta tb σ H Q := h
theorem q_orV (h : ta σ H fun x H1 => ∃ c, x = .bl c ∧ if c = true then Q (.bl true) H1 else tb σ H1 Q) : tOrV ta tb σ H Q := h
theorem q_notV (h : ta σ H fun x H1 => ∃ c, x = .bl c ∧ Q (.bl (!c)) H1) : tNotV ta σ H Q := h
theorem q_ifE (h : t σ H fun c H1 => if c = true then ta σ H1 Q else tb σ H1 Q) : tIf t ta tb σ H Q := h
theorem q_chain (h : ta σ H fun x H1 => tb σ H1 fun y H2 => r x y H2 fun z H3 => ∃ k, z = .bl k ∧ (if k = true then tc σ H3 fun w' H4 => r' y w' H4 Q else Q (.bl false) H3)) : tChain r r' ta tb tc σ H Q := h
theorem q_nil {Q : List V → Hp → Prop} (h : Q [] H) : tNil σ H Q := h
theorem q_cons {tr : TA} {Q : List V → Hp → Prop} (h : ta σ H fun x H1 => tr σ H1 fun xs H2 => Q (x :: xs) H2) : tCons ta tr σ H Q := h
theorem q_cb {r : List V → Hp → VK → Prop} {t : TA} (h : t σ H fun vs H1 => r vs H1 Q) : tCB r t σ H Q := h
theorem q_call {sp : Sp} {dvs : List V} {E : XK} {t : TA} (h : t σ H fun vs H1 => sp (vs ++ dvs) H1 Q E) : tCall sp dvs E t σ H Q := h
theorem q_lst {t : TA} (h : t σ H fun xs H1 => xs.length ≤ sizeLine ∧ ∀ p, H1 p = none → Q (.ref p) (upd H1 p (.lst xs))) : tLst t σ H Q := h
theorem q_tup {t : TA} (h : t σ H fun xs H1 => xs.length ≤ sizeLine ∧ ∀ p, H1 p = none → Q (.ref p) (upd H1 p (.tup xs))) : tTup t σ H Q := h
theorem q_new {P : Prop} {n : Nat} (hn : n ≤ 1000) (h : P) : n ≤ sizeLine ∧ P := ⟨Nat.le_trans hn (by decide), h⟩
theorem q_ift (h : A) : if true = true then A else B := iteT h
theorem q_iff (h : B) : if false = true then A else B := iteF h
theorem q_ifd {P : Prop} [Decidable P] (hp : P) (h : A) : if decide P = true then A else B := by rw [decide_eq_true hp]; exact iteT h
theorem q_ifn {P : Prop} [Decidable P] (hp : ¬ P) (h : B) : if decide P = true then A else B := by rw [decide_eq_false hp]; exact iteF h
theorem q_ifs {b : Bool} (h1 : b = true → A) (h2 : b = false → B) : if b = true then A else B := by
  cases b with
  | true => exact iteT (h1 rfl)
  | false => exact iteF (h2 rfl)
theorem q_ifx {P : Prop} [Decidable P] (h1 : P → A) (h2 : ¬ P → B) : if decide P = true then A else B := by
  by_cases h : P
  · rw [decide_eq_true h]; exact iteT (h1 h)
  · rw [decide_eq_false h]; exact iteF (h2 h)
theorem q_fld (h : ta σ H fun x H1 => ∃ a C dx fs v, x = .ref a ∧ H1 a = some (.ins C dx fs) ∧ Cls K C ∧ NoAttr K C f ∧ fs.lookup f = some v ∧ Q v H1) : tFld K ta f σ H Q := h
theorem q_sl {rr : V → Option Int → Option Int → Hp → VK → Prop} {tl th : TO} (h : te σ H fun x H1 => tl σ H1 fun l H2 => th σ H2 fun u H3 => rr x l u H3 Q) : tSl rr te tl th σ H Q := h
theorem q_nopart {Q : Option Int → Hp → Prop} (h : Q none H) : tNoPart σ H Q := h
theorem q_part {Q : Option Int → Hp → Prop} (h : te σ H fun x H1 => ∃ i, x = .int i ∧ Q (some i) H1) : tPart te σ H Q := h
theorem q_i {P : Int → Prop} {i : Int} (h : P i) : ∃ k, V.int i = .int k ∧ P k := ⟨i, rfl, h⟩
theorem q_slL {xs : List V} {lo hi : Option Int} (h : SqL K H p xs) (q : ∀ d, H d = none → Q (.ref d) (upd H d (.lst (cutV xs lo hi)))) : rSlL K (.ref p) lo hi H Q := ⟨p, xs, rfl, h, q⟩
theorem q_slT {xs : List V} {lo hi : Option Int} (h : SqT K H p xs) (hn : ¬ (HT.sIx xs.length 0 lo = 0 ∧ HT.sIx xs.length xs.length hi = xs.length)) (q : ∀ d, H d = none → Q (.ref d) (upd H d (.tup (cutV xs lo hi)))) : rSlT K (.ref p) lo hi H Q := ⟨p, xs, rfl, h, hn, q⟩
theorem q_cat {xs ys : List V} {b : Addr} (h : H p = some (.lst xs)) (h' : H b = some (.lst ys)) (hl : xs.length + ys.length ≤ sizeLine) (q : ∀ d, H d = none → Q (.ref d) (upd H d (.lst (xs ++ ys)))) : rCat (.ref p) (.ref b) H Q := ⟨p, b, xs, ys, rfl, rfl, h, h', hl, q⟩
theorem q_rep {xs : List V} {k : Int} (h : H p = some (.lst xs)) (h1 : -(2 ^ 63) ≤ k) (h2 : k < 2 ^ 63) (hl : xs.length * k.toNat ≤ sizeLine) (q : ∀ d, H d = none → Q (.ref d) (upd H d (.lst (List.replicate k.toNat xs).flatten))) : rRep (.ref p) (.int k) H Q := ⟨p, k, xs, rfl, rfl, h, h1, h2, hl, q⟩
theorem q_append {xs : List V} (h : H p = some (.lst xs)) (hl : xs.length < sizeLine) (q : Q .non (upd H p (.lst (xs ++ [y])))) : rAppend (.ref p) [y] H Q := ⟨p, xs, y, rfl, rfl, h, hl, q⟩
theorem q_bm {T : String} {rr : V → List V → Hp → VK → Prop} {t : TA} (h : to σ H fun x H1 => tyV K T x H1 ∧ t σ H1 fun xs H2 => rr x xs H2 Q) : tBM K T rr to t σ H Q := h
theorem q_tyL {xs : List V} {P : Prop} (h : H p = some (.lst xs)) (q : P) : tyV K "list" (.ref p) H ∧ P := ⟨.inl ⟨rfl, _, SqL.of h⟩, q⟩
theorem q_isB {a b : Bool} (q : Q (.bl (decide (a = b))) H) : rIsB (.bl a) (.bl b) H Q := ⟨a, b, rfl, rfl, q⟩
theorem q_notB {a b : Bool} (q : Q (.bl (!decide (a = b))) H) : rNotB (.bl a) (.bl b) H Q := ⟨a, b, rfl, rfl, q⟩
end
/-! ### the same readings under names -/
def rAddStr : R2 := fun x y H Q => ∃ i j, x = .str i ∧ y = .str j ∧ i.length + j.length ≤ sizeLine ∧ Q (.str (i ++ j)) H
def rLtStr : R2 := fun x y H Q => ∃ i j, x = .str i ∧ y = .str j ∧ Q (.bl (decide (i.cps.toList < j.cps.toList))) H
def rLeStr : R2 := fun x y H Q => ∃ i j, x = .str i ∧ y = .str j ∧ Q (.bl (!decide (j.cps.toList < i.cps.toList))) H
def rInSign : R2 := fun x y H Q => ∃ (c : Nat) (z : Str), x = .str ⟨#[c]⟩ ∧ y = .str z ∧ Q (.bl (decide (c ∈ z.cps.toList))) H
def rIsNon : R2 := fun x y H Q => y = .non ∧ Q (.bl (decide (x = .non))) H
def rNotNon : R2 := fun x y H Q => y = .non ∧ Q (.bl (!decide (x = .non))) H
def rLenA (K : PySem.W.Frag) : List V → Hp → VK → Prop := fun xs H Q => ∃ x n, xs = [x] ∧ LenV K x H n ∧ Q (.int n) H
def rMax2 : List V → Hp → VK → Prop := fun xs H Q => ∃ i j, xs = [.int i, .int j] ∧ Q (.int (if j > i then j else i)) H
def rMin2 : List V → Hp → VK → Prop := fun xs H Q => ∃ i j, xs = [.int i, .int j] ∧ Q (.int (if j < i then j else i)) H
def rIntStr : List V → Hp → VK → Prop := fun xs H Q => ∃ a n, xs = [.str a] ∧ PySem.intText? a = some n ∧ a.length ≤ 640 ∧ Q (.int n) H
section
variable {X : Cx}
theorem op_addStr : OpR X (binaryOp .Add) rAddStr := op_add_str
theorem op_ltStr : OpR X (compareOp .Lt) rLtStr := op_lt_str
theorem op_leStr : OpR X (compareOp .LtE) rLeStr := op_le_str
theorem op_inSign : OpR X (compareOp .In) rInSign := op_in_sign
theorem op_isNon : OpR X (compareOp .Is) rIsNon := op_isN
theorem op_notNon : OpR X (compareOp .IsNot) rNotNon := op_notN
theorem call_lenA : CallR X (.builtin "len") (rLenA X.K) := call_len
theorem call_maxA (hc : X.calm = true) : CallR X (.builtin "max") rMax2 := call_max2 hc
theorem call_minA (hc : X.calm = true) : CallR X (.builtin "min") rMin2 := call_min2 hc
theorem call_intStr : CallR X (.type "int") rIntStr := call_int_str
end
section
variable {K : PySem.W.Frag} {H : Hp} {Q : VK} {x v : V} {p : Addr}
theorem q_addStr {i j : Str} (h : i.length + j.length ≤ sizeLine) (q : Q (.str (i ++ j)) H) : rAddStr (.str i) (.str j) H Q := ⟨i, j, rfl, rfl, h, q⟩
theorem q_ltStr {i j : Str} (q : Q (.bl (decide (i.cps.toList < j.cps.toList))) H) : rLtStr (.str i) (.str j) H Q := ⟨i, j, rfl, rfl, q⟩
theorem q_leStr {i j : Str} (q : Q (.bl (!decide (j.cps.toList < i.cps.toList))) H) : rLeStr (.str i) (.str j) H Q := ⟨i, j, rfl, rfl, q⟩
theorem q_inSign {c : Nat} {z : Str} (q : Q (.bl (decide (c ∈ z.cps.toList))) H) : rInSign (.str ⟨#[c]⟩) (.str z) H Q := ⟨c, z, rfl, rfl, q⟩
theorem q_isNonT (q : Q (.bl true) H) : rIsNon .non .non H Q := ⟨rfl, by rw [decide_eq_true rfl]; exact q⟩
theorem q_isNonF (h : ¬ x = .non) (q : Q (.bl false) H) : rIsNon x .non H Q := ⟨rfl, by rw [decide_eq_false h]; exact q⟩
theorem q_notNonF (q : Q (.bl false) H) : rNotNon .non .non H Q := ⟨rfl, by rw [decide_eq_true rfl]; exact q⟩
theorem q_notNonT (h : ¬ x = .non) (q : Q (.bl true) H) : rNotNon x .non H Q := ⟨rfl, by rw [decide_eq_false h]; exact q⟩
theorem q_lenS {s : Str} (h : s.length ≤ sizeLine) (q : Q (.int (s.length : Nat)) H) : rLenA K [.str s] H Q := ⟨_, _, rfl, ⟨h, rfl⟩, q⟩
theorem q_lenL {xs : List V} (h : SqL K H p xs) (q : Q (.int (xs.length : Nat)) H) : rLenA K [.ref p] H Q := ⟨_, _, rfl, .inl ⟨xs, h, rfl⟩, q⟩
theorem q_lenT {xs : List V} (h : SqT K H p xs) (q : Q (.int (xs.length : Nat)) H) : rLenA K [.ref p] H Q := ⟨_, _, rfl, .inr ⟨xs, h, rfl⟩, q⟩
theorem q_max2 {i j : Int} (q : Q (.int (max i j)) H) : rMax2 [.int i, .int j] H Q := ⟨i, j, rfl, by
  have e : (if j > i then j else i) = max i j := by omega
  rw [e]; exact q⟩
theorem q_min2 {i j : Int} (q : Q (.int (min i j)) H) : rMin2 [.int i, .int j] H Q := ⟨i, j, rfl, by
  have e : (if j < i then j else i) = min i j := by omega
  rw [e]; exact q⟩
theorem q_intStr {a : Str} {n : Int} (h : PySem.intText? a = some n) (hl : a.length ≤ 640) (q : Q (.int n) H) : rIntStr [.str a] H Q := ⟨a, n, rfl, h, hl, q⟩
theorem q_isi {c : V} {t u : Value} {b : Bool} (hc : ClsV c u) (ht : TyX K H x t) (hk : PySem.W.kitOne K t u = some b) (q : Q (.bl b) H) : rIsi K [x, c] H Q := ⟨x, c, t, u, b, rfl, hc, ht, hk, q⟩
end
theorem line_of {n : Nat} (h : n ≤ 16777216) : n ≤ sizeLine := by rw [sizeLine_eq]; exact h
theorem line_lt {n : Nat} (h : n < 16777216) : n < sizeLine := by rw [sizeLine_eq]; exact h
section
variable {K : PySem.W.Frag} {x qual : Str} {params : Arguments} {body : List Stmt} {scope : Scope} {dvs : List V} {f : Addr} {fd : FuncData} {ps : List Str}
/-- f(e, .., k = v, ..): all that have no value by their places are told by their names, in the parameters' order -/
theorem _root_.L2.FunD.kbinds1 (F : FunD K x qual params body scope dvs [] f fd) (n : Nat) (ks : List Str) (hd : dvs ≠ [])
    (h : ∀ (T : Addr) (kV doc pm : Value) (an : Option Addr) (cdv ct : Value) (us its ws : List Value), us.length = n → its.length = dvs.length → ws.length = ks.length →
      ∃ k, bindArgs (PySem.W.fnOf x qual params body scope (.ref T) kV doc pm an cdv ct) ⟨us, ks.zip ws⟩ = seqItems? (.ref T) >>= k ∧ k (some its.toArray) = pure (ps.zip (us ++ ws))) :
    KBn K fd ps n ks (fun us ws => us ++ ws) (fun vs zs => vs ++ zs) := by
  obtain ⟨oc, od, dV, kV, doc, pm, an, cdv, ct, osl, rfl, lk, hcd, hD, hK⟩ := F.ex
  rcases hD with ⟨e, _⟩ | ⟨_, T, o, its, m, rfl, lT, oT, rT⟩
  · exact absurd e hd
  · refine ⟨fun s us ws X l1 l2 => ?_, fun r1 r2 => r1.append r2⟩
    obtain ⟨k, e1, e2⟩ := h T kV doc pm an cdv ct us its ws l1 rT.length.symm l2
    refine BindsTo.of_looks fun M => ?_
    rw [e1]
    exact looks_items X lT oT (.of_pure e2)
end
section
variable {K : PySem.W.Frag} {σ : L2.St} {H : Hp} {Q : VK} {a C : Addr}
theorem q_callN {n m : Nat} {sp : Sp} {gV : List V → List V → List V} {E : XK} {t tk : TA} (h : t σ H fun vs H1 => tk σ H1 fun zs H2 => vs.length = n ∧ zs.length = m ∧ sp (gV vs zs) H2 Q E) : tCallN n m sp gV E t tk σ H Q := h
theorem q_2 {a b c d : Nat} {P : Prop} (h1 : a = b) (h2 : c = d) (h : P) : a = b ∧ c = d ∧ P := ⟨h1, h2, h⟩
theorem q_make {sp : Sp} {dvs : List V} {E : XK} {t : TA} (h : t σ H fun vs H1 => ∀ x dx, H1 x = none → H1 dx = none → dx ≠ x → sp (.ref x :: (vs ++ dvs)) (upd (upd H1 dx (.own x)) x (.ins C dx [])) (fun v H2 => v = .non ∧ Q (.ref x) H2) E) : tMake C sp dvs E t σ H Q := h
theorem q_slS {z : Str} {lo hi : Option Int} (h : z.length ≤ sizeLine) (q : Q (.str (cutS z lo hi)) H) : rSlS (.str z) lo hi H Q := ⟨z, rfl, h, q⟩
end
section
variable {K : PySem.W.Frag} {σ : L2.St} {H : Hp} {D : Ends}
theorem q_for {wi : TI} {g : TG} {tb : TS} (h : wi σ H fun J H1 => ∃ W : Nat → Nat → L2.St → Hp → Prop, (∃ m, W 0 m σ H1) ∧ ∀ i m σ H, W i m σ H →
  (J.stop i H ∧ D.nx σ H) ∨ (J.go i H ∧ ∃ N : L2.St → Hp → Prop, (∀ σ' H', N σ' H' → ∃ m', m' < m ∧ W (i + 1) m' σ' H') ∧ ∀ x H', J.yld i H x H' → g x σ H' fun σ2 H2 => tb { D with nx := N, ct := N, bk := D.nx } σ2 H2)) : tFor wi g tb D σ H := h
theorem q_rng1 {ta : TA} {R : It → Hp → Prop} (h : ta σ H fun vs H1 => ∃ j : Int, vs = [.int j] ∧ -(2 ^ 62) ≤ j ∧ j < 2 ^ 62 ∧ R (Itr 0 j.toNat) H1) : iRng1 ta σ H R := h
theorem q_rng1b {j : Int} {R : Int → Prop} (h1 : -(2 ^ 62) ≤ j) (h2 : j < 2 ^ 62) (h : R j) : ∃ k : Int, [V.int j] = [.int k] ∧ -(2 ^ 62) ≤ k ∧ k < 2 ^ 62 ∧ R k := ⟨j, rfl, h1, h2, h⟩
theorem q_iList {tl : TE} {R : It → Hp → Prop} (h : tl σ H fun x H1 => ∃ a, x = .ref a ∧ (∃ xs, SqL K H1 a xs) ∧ R (Itl K a) H1) : iList K tl σ H R := h
theorem q_iListb {a : Addr} {H : Hp} {xs : List V} {R : Addr → Prop} (h1 : SqL K H a xs) (h : R a) : ∃ b, V.ref a = .ref b ∧ (∃ xs, SqL K H b xs) ∧ R b := ⟨a, rfl, ⟨xs, h1⟩, h⟩
theorem q_iStr {te : TE} {R : It → Hp → Prop} (h : te σ H fun v H1 => ∃ x, v = .str x ∧ R (Its x) H1) : iStr te σ H R := h
theorem q_iStrb {s : Str} {R : Str → Prop} (h : R s) : ∃ x, V.str s = .str x ∧ R x := ⟨s, rfl, h⟩
theorem q_lc {wi : TI} {g : TG} {tt : TT} {te : TE} {vs : List Nat} {Q : VK} (h : wi σ H fun J H1 => ∀ D, H1 D = none → ∃ W : Nat → Nat → Hp → Prop, (∃ m, W 0 m (upd H1 D (.lst []))) ∧ ∀ i m H, W i m H →
  (J.stop i H ∧ Q (.ref D) H) ∨ (J.go i H ∧ ∃ Nx : Hp → Prop, (∀ H', Nx H' → ∃ m', m' < m ∧ W (i + 1) m' H') ∧ ∀ x H', J.yld i H x H' → g x (wipe σ vs) H' fun σ2 H2 => wipe σ2 vs = wipe σ vs ∧ tt σ2 H2 fun b H3 =>
    if b = true then te σ2 H3 fun y H4 => ∃ acc, H4 D = some (.lst acc) ∧ acc.length < sizeLine ∧ Nx (upd H4 D (.lst (acc ++ [y]))) else Nx H3)) : tLc wi g tt te vs σ H Q := h
end

section
variable {σ : L2.St} {H : Hp} {Q : VK} {C : Addr} {m : Str}
theorem q_call0 {sp : Sp} {E : XK} {t : TA} (h : t σ H fun vs H1 => sp vs H1 Q E) : tCall sp [] E t σ H Q := by
  have e : (fun vs H1 => sp (vs ++ []) H1 Q E) = fun vs H1 => sp vs H1 Q E := by
    funext vs H1
    rw [List.append_nil]
  show t σ H fun vs H1 => sp (vs ++ []) H1 Q E
  rw [e]
  exact h
theorem q_make0 {sp : Sp} {E : XK} {t : TA} (h : t σ H fun vs H1 => ∀ x dx, H1 x = none → H1 dx = none → dx ≠ x → sp (.ref x :: vs) (upd (upd H1 dx (.own x)) x (.ins C dx [])) (fun v H2 => v = .non ∧ Q (.ref x) H2) E) : tMake C sp [] E t σ H Q := by
  have e : (fun vs H1 => ∀ x dx, H1 x = none → H1 dx = none → dx ≠ x → sp (.ref x :: (vs ++ [])) (upd (upd H1 dx (.own x)) x (.ins C dx [])) (fun v H2 => v = .non ∧ Q (.ref x) H2) E) = fun vs H1 => ∀ x dx, H1 x = none → H1 dx = none → dx ≠ x → sp (.ref x :: vs) (upd (upd H1 dx (.own x)) x (.ins C dx [])) (fun v H2 => v = .non ∧ Q (.ref x) H2) E := by
    funext vs H1
    rw [List.append_nil]
  show t σ H fun vs H1 => ∀ x dx, H1 x = none → H1 dx = none → dx ≠ x → sp (.ref x :: (vs ++ [])) (upd (upd H1 dx (.own x)) x (.ins C dx [])) (fun v H2 => v = .non ∧ Q (.ref x) H2) E
  rw [e]
  exact h
theorem q_meth0 {sp : Sp} {E : XK} {ta : TE} {t : TA} (h : ta σ H fun x H1 => ∃ a dx fs, x = .ref a ∧ H1 a = some (.ins C dx fs) ∧ fs.lookup m = none ∧ t σ H1 fun vs H2 => sp (x :: vs) H2 Q E) : tMeth C m sp [] E ta t σ H Q := by
  have e : ∀ x, (fun vs H2 => sp (x :: (vs ++ [])) H2 Q E) = fun vs H2 => sp (x :: vs) H2 Q E := fun x => by
    funext vs H1
    rw [List.append_nil]
  show ta σ H fun x H1 => ∃ a dx fs, x = .ref a ∧ H1 a = some (.ins C dx fs) ∧ fs.lookup m = none ∧ t σ H1 fun vs H2 => sp (x :: (vs ++ [])) H2 Q E
  simp only [e]
  exact h
end
/-! ### heaps that grow; comprehensions whose elements change nothing -/
theorem _root_.L2.Same.new {H : Hp} {p : Addr} {o : HO} (h : H p = none) : Same H (upd H p o) := fun b u e => by
  rw [upd_ne (ne_of_none e h)]
  exact e
theorem _root_.L2.Same.snew {H H' : Hp} {p : Addr} {o : HO} (s : Same H H') (h : H p = none) : Same H (upd H' p o) := fun b u e => by
  rw [upd_ne (ne_of_none e h)]
  exact s b u e
theorem _root_.L2.Same.seqT {K : PySem.W.Frag} {H H' : Hp} {a : Addr} {xs : List V} (e : Same H H') (h : SqT K H a xs) : SqT K H' a xs := by
  rcases h with (h | ⟨o, h⟩) | h
  · exact .inl (.inl (e _ _ h))
  · exact .inl (.inr ⟨o, e _ _ h⟩)
  · exact .inr h
theorem wipe_set {σ : L2.St} {i : Nat} {x : Option V} : wipe ((wipe σ [i]).set i x) [i] = wipe σ [i] := by
  show ((σ.set i none).set i x).set i none = σ.set i none
  rw [List.set_set, List.set_set]
theorem lc_grow {J : It} {n : Nat} {G : Hp → Prop} {Y : Nat → Hp → V → Hp → Prop} (w : Walk J n G Y) {g : TG} {te : TE} {vs : List Nat} {σ : L2.St} {H1 : Hp} {D : Addr} {Qd : Hp → Prop} (ys : List V) (hy : ys.length = n) (hn : n ≤ 100000)
    (hG : ∀ H', Same H1 H' → G H') (hD : H1 D = none)
    (he : ∀ k x H2 H' (R : VK), k < n → Same H1 H2 → Y k H2 x H' → (∀ y H4, ys[k]? = some y → Same H2 H4 → R y H4) → g x (wipe σ vs) H' fun σ2 H3 => wipe σ2 vs = wipe σ vs ∧ te σ2 H3 R)
    (hd : ∀ H', Same H1 H' → H' D = some (.lst ys) → Qd H') (gm : ∀ x H' Q Q', (∀ σ H, Q σ H → Q' σ H) → g x (wipe σ vs) H' Q → g x (wipe σ vs) H' Q') :
    ∃ W : Nat → Nat → Hp → Prop, (∃ m, W 0 m (upd H1 D (.lst []))) ∧ ∀ i m H, W i m H →
      (J.stop i H ∧ Qd H) ∨ (J.go i H ∧ ∃ Nx : Hp → Prop, (∀ H', Nx H' → ∃ m', m' < m ∧ W (i + 1) m' H') ∧ ∀ x H', J.yld i H x H' → g x (wipe σ vs) H' fun σ2 H2 => wipe σ2 vs = wipe σ vs ∧ tYes σ2 H2 fun b H3 =>
        if b = true then te σ2 H3 fun y H4 => ∃ acc, H4 D = some (.lst acc) ∧ acc.length < sizeLine ∧ Nx (upd H4 D (.lst (acc ++ [y]))) else Nx H3) := by
  refine lc_it w (fun k H' => Same H1 H' ∧ H' D = some (.lst (ys.take k))) ⟨Same.new hD, by rw [upd_same]; rfl⟩ (fun i H' _ h => hG H' h.1) ?_ ?_
  · rintro k x H2 H' hk ⟨s2, d2⟩ y
    refine gm _ _ _ _ (fun σ2 H3 q => ⟨q.1, by unfold tYes; exact iteT q.2⟩) (he k x H2 H' _ hk s2 y fun v H4 e s4 => ?_)
    have hk' : k < ys.length := by omega
    refine ⟨ys.take k, s4 _ _ d2, ?_, (s2.trans s4).snew hD, ?_⟩
    · rw [List.length_take]
      exact line_lt (by omega)
    · rw [upd_same, List.take_add_one, e]
      rfl
  · rintro H' ⟨s2, d2⟩
    refine hd H' s2 ?_
    rw [d2, List.take_of_length_le (by omega)]
/-- over the signs of a text, each element a function of the sign -/
theorem lc_signs {z : Str} {i : Nat} {te : TE} {σ : L2.St} {H1 : Hp} {D : Addr} {Qd : Hp → Prop} (f : Nat → V) (hn : z.length ≤ 100000) (hD : H1 D = none)
    (he : ∀ c H2 (R : VK), Same H1 H2 → (∀ H4, Same H2 H4 → R (f c) H4) → te ((wipe σ [i]).set i (some (.str ⟨#[c]⟩))) H2 R)
    (hd : ∀ H', Same H1 H' → H' D = some (.lst (z.cps.toList.map f)) → Qd H') :
    ∃ W : Nat → Nat → Hp → Prop, (∃ m, W 0 m (upd H1 D (.lst []))) ∧ ∀ k m H, W k m H →
      ((Its z).stop k H ∧ Qd H) ∨ ((Its z).go k H ∧ ∃ Nx : Hp → Prop, (∀ H', Nx H' → ∃ m', m' < m ∧ W (k + 1) m' H') ∧ ∀ x H', (Its z).yld k H x H' → gName i x (wipe σ [i]) H' fun σ2 H2 => wipe σ2 [i] = wipe σ [i] ∧ tYes σ2 H2 fun b H3 =>
        if b = true then te σ2 H3 fun y H4 => ∃ acc, H4 D = some (.lst acc) ∧ acc.length < sizeLine ∧ Nx (upd H4 D (.lst (acc ++ [y]))) else Nx H3) := by
  refine lc_grow walk_str (z.cps.toList.map f) (by simp) hn (fun _ _ => trivial) hD ?_ hd (fun _ _ _ _ q h => q _ _ h)
  rintro k x H2 H' R hk s2 ⟨rfl, c, hc, rfl⟩ hR
  refine ⟨wipe_set, he c H' R s2 fun H4 s4 => hR _ _ ?_ s4⟩
  rw [List.getElem?_map]
  have e : z.cps.toList[k]? = some c := by simpa using hc
  rw [e]
  rfl
theorem q_ifN {A B : Prop} {b : Bool} (h : if b = true then B else A) : if (!b) = true then A else B := by
  cases b <;> exact h
section
variable {K : PySem.W.Frag}
theorem kt_NoneType_int : PySem.W.kitOne K (.type "NoneType") (.type "int") = some false := kit_ty (by decide +kernel)
theorem kt_NoneType_str : PySem.W.kitOne K (.type "NoneType") (.type "str") = some false := kit_ty (by decide +kernel)
theorem kt_NoneType_bool : PySem.W.kitOne K (.type "NoneType") (.type "bool") = some false := kit_ty (by decide +kernel)
theorem kt_NoneType_list : PySem.W.kitOne K (.type "NoneType") (.type "list") = some false := kit_ty (by decide +kernel)
theorem kt_NoneType_tuple : PySem.W.kitOne K (.type "NoneType") (.type "tuple") = some false := kit_ty (by decide +kernel)
theorem kt_NoneType_dict : PySem.W.kitOne K (.type "NoneType") (.type "dict") = some false := kit_ty (by decide +kernel)
theorem kt_bool_int : PySem.W.kitOne K (.type "bool") (.type "int") = some true := kit_ty (by decide +kernel)
theorem kt_bool_str : PySem.W.kitOne K (.type "bool") (.type "str") = some false := kit_ty (by decide +kernel)
theorem kt_bool_bool : PySem.W.kitOne K (.type "bool") (.type "bool") = some true := kit_ty (by decide +kernel)
theorem kt_bool_list : PySem.W.kitOne K (.type "bool") (.type "list") = some false := kit_ty (by decide +kernel)
theorem kt_bool_tuple : PySem.W.kitOne K (.type "bool") (.type "tuple") = some false := kit_ty (by decide +kernel)
theorem kt_bool_dict : PySem.W.kitOne K (.type "bool") (.type "dict") = some false := kit_ty (by decide +kernel)
theorem kt_int_int : PySem.W.kitOne K (.type "int") (.type "int") = some true := kit_ty (by decide +kernel)
theorem kt_int_str : PySem.W.kitOne K (.type "int") (.type "str") = some false := kit_ty (by decide +kernel)
theorem kt_int_bool : PySem.W.kitOne K (.type "int") (.type "bool") = some false := kit_ty (by decide +kernel)
theorem kt_int_list : PySem.W.kitOne K (.type "int") (.type "list") = some false := kit_ty (by decide +kernel)
theorem kt_int_tuple : PySem.W.kitOne K (.type "int") (.type "tuple") = some false := kit_ty (by decide +kernel)
theorem kt_int_dict : PySem.W.kitOne K (.type "int") (.type "dict") = some false := kit_ty (by decide +kernel)
theorem kt_str_int : PySem.W.kitOne K (.type "str") (.type "int") = some false := kit_ty (by decide +kernel)
theorem kt_str_str : PySem.W.kitOne K (.type "str") (.type "str") = some true := kit_ty (by decide +kernel)
theorem kt_str_bool : PySem.W.kitOne K (.type "str") (.type "bool") = some false := kit_ty (by decide +kernel)
theorem kt_str_list : PySem.W.kitOne K (.type "str") (.type "list") = some false := kit_ty (by decide +kernel)
theorem kt_str_tuple : PySem.W.kitOne K (.type "str") (.type "tuple") = some false := kit_ty (by decide +kernel)
theorem kt_str_dict : PySem.W.kitOne K (.type "str") (.type "dict") = some false := kit_ty (by decide +kernel)
theorem kt_list_int : PySem.W.kitOne K (.type "list") (.type "int") = some false := kit_ty (by decide +kernel)
theorem kt_list_str : PySem.W.kitOne K (.type "list") (.type "str") = some false := kit_ty (by decide +kernel)
theorem kt_list_bool : PySem.W.kitOne K (.type "list") (.type "bool") = some false := kit_ty (by decide +kernel)
theorem kt_list_list : PySem.W.kitOne K (.type "list") (.type "list") = some true := kit_ty (by decide +kernel)
theorem kt_list_tuple : PySem.W.kitOne K (.type "list") (.type "tuple") = some false := kit_ty (by decide +kernel)
theorem kt_list_dict : PySem.W.kitOne K (.type "list") (.type "dict") = some false := kit_ty (by decide +kernel)
theorem kt_tuple_int : PySem.W.kitOne K (.type "tuple") (.type "int") = some false := kit_ty (by decide +kernel)
theorem kt_tuple_str : PySem.W.kitOne K (.type "tuple") (.type "str") = some false := kit_ty (by decide +kernel)
theorem kt_tuple_bool : PySem.W.kitOne K (.type "tuple") (.type "bool") = some false := kit_ty (by decide +kernel)
theorem kt_tuple_list : PySem.W.kitOne K (.type "tuple") (.type "list") = some false := kit_ty (by decide +kernel)
theorem kt_tuple_tuple : PySem.W.kitOne K (.type "tuple") (.type "tuple") = some true := kit_ty (by decide +kernel)
theorem kt_tuple_dict : PySem.W.kitOne K (.type "tuple") (.type "dict") = some false := kit_ty (by decide +kernel)
theorem kt_dict_int : PySem.W.kitOne K (.type "dict") (.type "int") = some false := kit_ty (by decide +kernel)
theorem kt_dict_str : PySem.W.kitOne K (.type "dict") (.type "str") = some false := kit_ty (by decide +kernel)
theorem kt_dict_bool : PySem.W.kitOne K (.type "dict") (.type "bool") = some false := kit_ty (by decide +kernel)
theorem kt_dict_list : PySem.W.kitOne K (.type "dict") (.type "list") = some false := kit_ty (by decide +kernel)
theorem kt_dict_tuple : PySem.W.kitOne K (.type "dict") (.type "tuple") = some false := kit_ty (by decide +kernel)
theorem kt_dict_dict : PySem.W.kitOne K (.type "dict") (.type "dict") = some true := kit_ty (by decide +kernel)
end
theorem R_of {α : Type} {R : α → Hp → Prop} {v v' : α} {H : Hp} (h : R v H) (e : v = v') : R v' H := e ▸ h
section
variable {K : PySem.W.Frag} {H : Hp} {Q : VK}
theorem q_leStr1 {i j : Str} {a b : Nat} (ha : i.cps.toList = [a]) (hb : j.cps.toList = [b]) (q : Q (.bl (decide (a ≤ b))) H) : rLeStr (.str i) (.str j) H Q := ⟨i, j, rfl, rfl, by
  rw [ha, hb]
  have e : (!decide ([b] < [a])) = decide (a ≤ b) := by
    by_cases h : a ≤ b
    · rw [decide_eq_true h, decide_eq_false]
      · rfl
      · intro z
        have := List.cons_lt_cons_iff.mp z
        simp at this
        omega
    · rw [decide_eq_false h, decide_eq_true]
      · rfl
      · exact List.cons_lt_cons_iff.mpr (.inl (by omega))
  rw [e]
  exact q⟩
theorem q_all {a : Addr} {bs : List Bool} (h : SqL K H a (bs.map V.bl)) (q : Q (.bl (bs.all id)) H) : rAll K [.ref a] H Q := ⟨a, bs, rfl, h, q⟩
theorem q_any {a : Addr} {bs : List Bool} (h : SqL K H a (bs.map V.bl)) (q : Q (.bl (bs.any id)) H) : rAny K [.ref a] H Q := ⟨a, bs, rfl, h, q⟩
end
theorem lc_signsB {z : Str} {i : Nat} {te : TE} {σ : L2.St} {H1 : Hp} {D : Addr} {Qd : Hp → Prop} (f : Nat → Bool) (hn : z.length ≤ 100000) (hD : H1 D = none)
    (he : ∀ c H2 (R : VK), Same H1 H2 → (∀ H4, Same H2 H4 → R (.bl (f c)) H4) → te ((wipe σ [i]).set i (some (.str ⟨#[c]⟩))) H2 R)
    (hd : ∀ H', Same H1 H' → H' D = some (.lst ((z.cps.toList.map f).map V.bl)) → Qd H') :
    ∃ W : Nat → Nat → Hp → Prop, (∃ m, W 0 m (upd H1 D (.lst []))) ∧ ∀ k m H, W k m H →
      ((Its z).stop k H ∧ Qd H) ∨ ((Its z).go k H ∧ ∃ Nx : Hp → Prop, (∀ H', Nx H' → ∃ m', m' < m ∧ W (k + 1) m' H') ∧ ∀ x H', (Its z).yld k H x H' → gName i x (wipe σ [i]) H' fun σ2 H2 => wipe σ2 [i] = wipe σ [i] ∧ tYes σ2 H2 fun b H3 =>
        if b = true then te σ2 H3 fun y H4 => ∃ acc, H4 D = some (.lst acc) ∧ acc.length < sizeLine ∧ Nx (upd H4 D (.lst (acc ++ [y]))) else Nx H3) :=
  lc_signs (fun c => .bl (f c)) hn hD he fun H' s e => hd H' s (by rw [e, List.map_map]; rfl)
theorem at_ints (xs : List Int) (P : Int → Prop) {i : Int} (hP : ∀ x ∈ xs, P x) (h0 : 0 ≤ i) (h1 : i < xs.length) : ∃ m, atI (xs.map V.int) i = some (V.int m) ∧ P m := by
  obtain ⟨j, rfl⟩ := Int.eq_ofNat_of_zero_le h0
  have hj : j < xs.length := by omega
  refine ⟨xs[j], atI_nat (by simp [hj]), hP _ (List.getElem_mem hj)⟩
theorem at_ex {α : Type} {xs : List α} {i : Int} (h0 : 0 ≤ i) (h1 : i < xs.length) : ∃ c, atI xs i = some c := by
  obtain ⟨j, rfl⟩ := Int.eq_ofNat_of_zero_le h0
  have hj : j < xs.length := by omega
  exact ⟨xs[j], atI_nat (by simp [hj])⟩
section
variable {K : PySem.W.Frag} {H : Hp} {Q : VK} {x y : V}
theorem q_eqD {d e : PyData} (hd : Dp K H x d) (he : Dp K H y e) (sd : SeqAt.shaped d = true) (se : SeqAt.shaped e = true) (q : Q (.bl (PyData.eqv d e)) H) : rEqD K x y H Q := ⟨d, e, hd, he, sd, se, q⟩
theorem q_neD {d e : PyData} (hd : Dp K H x d) (he : Dp K H y e) (sd : SeqAt.shaped d = true) (se : SeqAt.shaped e = true) (q : Q (.bl (!PyData.eqv d e)) H) : rNeD K x y H Q := ⟨d, e, hd, he, sd, se, q⟩
end
theorem cs_0 : (Str.ofString "0").cps.toList = [48] := by decide +kernel
theorem cs_9 : (Str.ofString "9").cps.toList = [57] := by decide +kernel
theorem cs_a : (Str.ofString "a").cps.toList = [97] := by decide +kernel
theorem cs_z : (Str.ofString "z").cps.toList = [122] := by decide +kernel
theorem str_one {c d : Nat} {s : Str} (h : s.cps.toList = [d]) : ((⟨#[c]⟩ : Str) = s) ↔ c = d := by
  constructor
  · intro e
    rw [← e] at h
    simpa using h
  · intro e
    subst e
    obtain ⟨l⟩ := s
    congr 1
    exact Array.ext' h.symm
theorem str_len (s : Str) : s.cps.toList.length = s.length := Array.length_toList
theorem in_az (c : Nat) : decide (c ∈ (Str.ofString "abcdefghijklmnopqrstuvwxyz").cps.toList) = (decide (97 ≤ c) && decide (c ≤ 122)) := by
  have e : (Str.ofString "abcdefghijklmnopqrstuvwxyz").cps.toList = List.range' 97 26 := by decide +kernel
  rw [e]
  by_cases h : c ∈ List.range' 97 26
  · rw [decide_eq_true h]
    have := List.mem_range'_1.mp h
    simp
    omega
  · rw [decide_eq_false h]
    have h' : ¬ (97 ≤ c ∧ c < 97 + 26) := fun z => h (List.mem_range'_1.mpr z)
    symm
    simp
    omega
theorem in_09 (c : Nat) : decide (c ∈ (Str.ofString "0123456789").cps.toList) = (decide (48 ≤ c) && decide (c ≤ 57)) := by
  have e : (Str.ofString "0123456789").cps.toList = List.range' 48 10 := by decide +kernel
  rw [e]
  by_cases h : c ∈ List.range' 48 10
  · rw [decide_eq_true h]
    have := List.mem_range'_1.mp h
    simp
    omega
  · rw [decide_eq_false h]
    have h' : ¬ (48 ≤ c ∧ c < 48 + 10) := fun z => h (List.mem_range'_1.mpr z)
    symm
    simp
    omega
theorem len_pos {s : Str} (h : ¬ s = Str.ofString "") : 0 < s.length := by
  rcases Nat.eq_zero_or_pos s.length with e | e
  · exact absurd (by
      obtain ⟨l⟩ := s
      have : l = #[] := Array.eq_empty_of_size_eq_zero e
      rw [this]; rfl) h
  · exact e
/-! ### the rules that read the written part, with it named (a comprehension's block has the same) -/
def rListOf (K : PySem.W.Frag) : List V → Hp → VK → Prop := fun xs H Q => ∃ p ys, xs = [.ref p] ∧ (SqL K H p ys ∨ SqT K H p ys) ∧ ∀ l, H l = none → Q (.ref l) (upd H l (.lst ys))
def rTupleOf (K : PySem.W.Frag) : List V → Hp → VK → Prop := fun xs H Q => ∃ p ys, xs = [.ref p] ∧ ((SqL K H p ys ∧ ∀ l, H l = none → Q (.ref l) (upd H l (.tup ys))) ∨ (SqT K H p ys ∧ Q (.ref p) H))
section
variable {X : Cx} {K : PySem.W.Frag}
theorem kx_isi (hK : X.K = K) : CallR X (.builtin "isinstance") (rIsi K) := by subst hK; exact call_isi
theorem kx_isiT (hK : X.K = K) : CallR X (.builtin "isinstance") (rIsiT K) := by subst hK; exact call_isiT
theorem kx_len (hK : X.K = K) : CallR X (.builtin "len") (rLenA K) := by subst hK; exact call_lenA
theorem kx_all (hK : X.K = K) (hc : X.calm = true) : CallR X (.builtin "all") (rAll K) := by subst hK; exact cr_all hc
theorem kx_any (hK : X.K = K) (hc : X.calm = true) : CallR X (.builtin "any") (rAny K) := by subst hK; exact cr_any hc
theorem kx_sum (hK : X.K = K) (hc : X.calm = true) : CallR X (.builtin "sum") (rSum K) := by subst hK; exact cr_sum hc
theorem kx_max (hK : X.K = K) (hc : X.calm = true) : CallR X (.builtin "max") (rMax K) := by subst hK; exact cr_max hc
theorem kx_min (hK : X.K = K) (hc : X.calm = true) : CallR X (.builtin "min") (rMin K) := by subst hK; exact cr_min hc
theorem kx_list (hK : X.K = K) : CallR X (.type "list") (rListOf K) := by subst hK; exact call_list_of
theorem kx_tuple (hK : X.K = K) : CallR X (.type "tuple") (rTupleOf K) := by subst hK; exact call_tuple_of
theorem ko_eqD (hK : X.K = K) (hu : X.A.units + 64 < cLine) : OpR X (compareOp .Eq) (rEqD K) := by subst hK; exact op_eqD hu
theorem ko_neD (hK : X.K = K) (hu : X.A.units + 64 < cLine) : OpR X (compareOp .NotEq) (rNeD K) := by subst hK; exact op_neD hu
theorem ko_in (hK : X.K = K) : OpR X (compareOp .In) (rIn K false) := by subst hK; exact op_in_seq
theorem ko_notIn (hK : X.K = K) : OpR X (compareOp .NotIn) (rIn K true) := by subst hK; exact op_notIn_seq
theorem ki_list (hK : X.K = K) : IxR X (rIxL K) := by subst hK; exact ix_list
theorem ki_tup (hK : X.K = K) : IxR X (rIxT K) := by subst hK; exact ix_tup
theorem ks_list (hK : X.K = K) : SlR X (rSlL K) := by subst hK; exact sl_list
theorem ks_tup (hK : X.K = K) : SlR X (rSlT K) := by subst hK; exact sl_tup
theorem kp_fld {e : Expr} {ta : TE} {f : Str} {pos : Pos} (hK : X.K = K) (he : PE X e ta) (hb : attributeBase e f X.env (eval e X.env) = eval e X.env) : PE X (.Attribute e f pos) (tFld K ta f) := by subst hK; exact pe_fld he hb
theorem kpi_list {tg e : Expr} {tl : TE} (hK : X.K = K) (he : PE X e tl) : PI X tg e (iList K tl) := by subst hK; exact pi_list he
theorem kpi_tup {tg e : Expr} {tl : TE} (hK : X.K = K) (he : PE X e tl) : PI X tg e (iTup K tl) := by subst hK; exact pi_tup he
end
section
variable {K : PySem.W.Frag} {H : Hp} {Q : VK} {p : Addr}
theorem q_listL {xs : List V} (h : SqL K H p xs) (q : ∀ l, H l = none → Q (.ref l) (upd H l (.lst xs))) : rListOf K [.ref p] H Q := ⟨p, xs, rfl, .inl h, q⟩
theorem q_listT {xs : List V} (h : SqT K H p xs) (q : ∀ l, H l = none → Q (.ref l) (upd H l (.lst xs))) : rListOf K [.ref p] H Q := ⟨p, xs, rfl, .inr h, q⟩
theorem q_tupleL {xs : List V} (h : SqL K H p xs) (q : ∀ l, H l = none → Q (.ref l) (upd H l (.tup xs))) : rTupleOf K [.ref p] H Q := ⟨p, xs, rfl, .inl ⟨h, q⟩⟩
theorem q_tupleT {xs : List V} (h : SqT K H p xs) (q : Q (.ref p) H) : rTupleOf K [.ref p] H Q := ⟨p, xs, rfl, .inr ⟨h, q⟩⟩
theorem q_sum {ns : List Int} (h : SqL K H p (ns.map V.int)) (q : Q (.int ns.sum) H) : rSum K [.ref p] H Q := ⟨p, ns, rfl, h, q⟩
end
section
variable {α : Type} {a b c d e : α} {xs : List α}
theorem at0 : atI (a :: xs) 0 = some a := atI_nat (j := 0) rfl
theorem at1 : atI (a :: b :: xs) 1 = some b := atI_nat (j := 1) rfl
theorem at2 : atI (a :: b :: c :: xs) 2 = some c := atI_nat (j := 2) rfl
theorem at3 : atI (a :: b :: c :: d :: xs) 3 = some d := atI_nat (j := 3) rfl
theorem at4 : atI (a :: b :: c :: d :: e :: xs) 4 = some e := atI_nat (j := 4) rfl
end
/-- forget how the heap came to be: what is known of it goes on -/
theorem abs_q {α : Type} {R : Hp → α → Prop} {H : Hp} {Q : α} (F : Hp → Prop) (h : F H) (k : ∀ H', F H' → R H' Q) : R H Q := k H h
theorem abs_s {R : Hp → Prop} {H : Hp} (F : Hp → Prop) (h : F H) (k : ∀ H', F H' → R H') : R H := k H h
section
variable {K : PySem.W.Frag} {H : Hp} {Q : VK} {x y : V}
theorem q_eqDt {d e : PyData} (hd : Dp K H x d) (he : Dp K H y e) (sd : SeqAt.shaped d = true) (se : SeqAt.shaped e = true) (h : PyData.eqv d e = true) (q : Q (.bl true) H) : rEqD K x y H Q := ⟨d, e, hd, he, sd, se, by rw [h]; exact q⟩
theorem q_neDt {d e : PyData} (hd : Dp K H x d) (he : Dp K H y e) (sd : SeqAt.shaped d = true) (se : SeqAt.shaped e = true) (h : PyData.eqv d e = true) (q : Q (.bl false) H) : rNeD K x y H Q := ⟨d, e, hd, he, sd, se, by rw [h]; exact q⟩
end
/-- over a list that stays, each element a function of the item -/
theorem lc_items {K : PySem.W.Frag} {a : Addr} {xs : List V} {i : Nat} {te : TE} {σ : L2.St} {H1 : Hp} {D : Addr} {Qd : Hp → Prop} (f : V → V) (hl : SqL K H1 a xs) (hn : xs.length ≤ 100000) (hD : H1 D = none)
    (he : ∀ x ∈ xs, ∀ H2 (R : VK), Same H1 H2 → (∀ H4, Same H2 H4 → R (f x) H4) → te ((wipe σ [i]).set i (some x)) H2 R)
    (hd : ∀ H', Same H1 H' → H' D = some (.lst (xs.map f)) → Qd H') :
    ∃ W : Nat → Nat → Hp → Prop, (∃ m, W 0 m (upd H1 D (.lst []))) ∧ ∀ k m H, W k m H →
      ((Itl K a).stop k H ∧ Qd H) ∨ ((Itl K a).go k H ∧ ∃ Nx : Hp → Prop, (∀ H', Nx H' → ∃ m', m' < m ∧ W (k + 1) m' H') ∧ ∀ x H', (Itl K a).yld k H x H' → gName i x (wipe σ [i]) H' fun σ2 H2 => wipe σ2 [i] = wipe σ [i] ∧ tYes σ2 H2 fun b H3 =>
        if b = true then te σ2 H3 fun y H4 => ∃ acc, H4 D = some (.lst acc) ∧ acc.length < sizeLine ∧ Nx (upd H4 D (.lst (acc ++ [y]))) else Nx H3) := by
  refine lc_grow walk_list (xs.map f) (by simp) hn (fun _ s => s.seq hl) hD ?_ hd (fun _ _ _ _ q h => q _ _ h)
  rintro k x H2 H' R hk s2 ⟨rfl, hx⟩ hR
  refine ⟨wipe_set, he x (List.mem_of_getElem? hx) H' R s2 fun H4 s4 => hR _ _ ?_ s4⟩
  rw [List.getElem?_map, hx]
  rfl
theorem lc_itemsB {K : PySem.W.Frag} {a : Addr} {xs : List V} {i : Nat} {te : TE} {σ : L2.St} {H1 : Hp} {D : Addr} {Qd : Hp → Prop} (f : V → Bool) (hl : SqL K H1 a xs) (hn : xs.length ≤ 100000) (hD : H1 D = none)
    (he : ∀ x ∈ xs, ∀ H2 (R : VK), Same H1 H2 → (∀ H4, Same H2 H4 → R (.bl (f x)) H4) → te ((wipe σ [i]).set i (some x)) H2 R)
    (hd : ∀ H', Same H1 H' → H' D = some (.lst ((xs.map f).map V.bl)) → Qd H') :
    ∃ W : Nat → Nat → Hp → Prop, (∃ m, W 0 m (upd H1 D (.lst []))) ∧ ∀ k m H, W k m H →
      ((Itl K a).stop k H ∧ Qd H) ∨ ((Itl K a).go k H ∧ ∃ Nx : Hp → Prop, (∀ H', Nx H' → ∃ m', m' < m ∧ W (k + 1) m' H') ∧ ∀ x H', (Itl K a).yld k H x H' → gName i x (wipe σ [i]) H' fun σ2 H2 => wipe σ2 [i] = wipe σ [i] ∧ tYes σ2 H2 fun b H3 =>
        if b = true then te σ2 H3 fun y H4 => ∃ acc, H4 D = some (.lst acc) ∧ acc.length < sizeLine ∧ Nx (upd H4 D (.lst (acc ++ [y]))) else Nx H3) :=
  lc_items (fun x => .bl (f x)) hl hn hD he fun H' s e => hd H' s (by rw [e, List.map_map]; rfl)
section
variable {H : Hp} {Q : VK} {a b : Bool} {A B : Prop}
theorem q_isT (q : Q (.bl a) H) : rIsB (.bl a) (.bl true) H Q := ⟨a, true, rfl, rfl, by have e : decide (a = true) = a := by cases a <;> rfl
                                                                                        rw [e]; exact q⟩
theorem q_isF (q : Q (.bl (!a)) H) : rIsB (.bl a) (.bl false) H Q := ⟨a, false, rfl, rfl, by have e : decide (a = false) = !a := by cases a <;> rfl
                                                                                             rw [e]; exact q⟩
theorem q_notT (q : Q (.bl (!a)) H) : rNotB (.bl a) (.bl true) H Q := ⟨a, true, rfl, rfl, by have e : (!decide (a = true)) = !a := by cases a <;> rfl
                                                                                             rw [e]; exact q⟩
theorem q_notF (q : Q (.bl a) H) : rNotB (.bl a) (.bl false) H Q := ⟨a, false, rfl, rfl, by have e : (!decide (a = false)) = a := by cases a <;> rfl
                                                                                            rw [e]; exact q⟩
theorem q_ifA (h : if a = true then (if b = true then A else B) else B) : if (a && b) = true then A else B := by
  cases a <;> cases b <;> exact h
theorem q_ifO (h : if a = true then A else (if b = true then A else B)) : if (a || b) = true then A else B := by
  cases a <;> cases b <;> exact h
end
/-- all but the object at p stands as it stood -/
def Fr1 (p : Addr) (H H' : Hp) : Prop := ∀ b o, b ≠ p → H b = some o → H' b = some o
theorem fr1_at {p b : Addr} {H H' : Hp} {o : HO} (f : Fr1 p H H') (n : b ≠ p) (h : H b = some o) : H' b = some o := f b o n h
theorem same_at {b : Addr} {H H' : Hp} {o : HO} (s : Same H H') (h : H b = some o) : H' b = some o := s b o h
section
variable {K : PySem.W.Frag} {σ : L2.St} {H H' : Hp} {Q : VK} {x : V} {t : Value} {p : Addr}
theorem q_dnewK (h : ∀ p, H p = none → Q (.ref p) (upd H p (.dK []))) : tDNewK σ H Q := h
theorem q_disp {trs : List (TE × TE)} (h : ∀ p, H p = none → tPairs trs σ (upd H p (.dK [])) fun ps H2 => H2 p = some (.dK []) ∧ ∃ kvs : List (Key × V), ps = kvs.map (fun kv => (kV kv.1, kv.2)) ∧ kvs.length ≤ 15 ∧ Q (.ref p) (upd H2 p (.dK (mergeK [] kvs)))) : tDisp trs σ H Q := h
theorem q_pairs0 {Q : List (V × V) → Hp → Prop} (h : Q [] H) : tPairs [] σ H Q := h
theorem q_pairs {tk tv : TE} {r : List (TE × TE)} {Q : List (V × V) → Hp → Prop} (h : tk σ H fun x H1 => tv σ H1 fun y H2 => tPairs r σ H2 fun ps H3 => Q ((x, y) :: ps) H3) : tPairs ((tk, tv) :: r) σ H Q := h
theorem q_kvs {ps : List (V × V)} {P : List (Key × V) → Prop} (kvs : List (Key × V)) (h : H p = some (.dK [])) (e : ps = kvs.map fun kv => (kV kv.1, kv.2)) (hl : kvs.length ≤ 15) (q : P kvs) : H p = some (.dK []) ∧ ∃ kvs : List (Key × V), ps = kvs.map (fun kv => (kV kv.1, kv.2)) ∧ kvs.length ≤ 15 ∧ P kvs := ⟨h, kvs, e, hl, q⟩
theorem q_isiT {tp : Addr} {cs : List V} {us : List Value} {b : Bool} (h : H tp = some (.tup cs)) (hp : Paired ClsV cs us) (ht : TyX K H x t) (hk : PySem.W.kitAny K t us = some b) (q : Q (.bl b) H) : rIsiT K [x, .ref tp] H Q := ⟨x, tp, cs, t, us, b, rfl, h, hp, ht, hk, q⟩
theorem _root_.L2.TyX.mono (h : TyX K H x t) (s : Same H H') : TyX K H' x t := by
  cases h with
  | base h =>
    refine .base ?_
    cases h with
    | non => exact .non
    | bl y => exact .bl y
    | int i => exact .int i
    | str y => exact .str y
    | flt y => exact .flt y
    | lst e => exact .lst (s _ _ e)
    | frz e => exact .frz (s _ _ e)
    | tup e => exact .tup (s _ _ e)
    | dK e => exact .dK (s _ _ e)
    | dT e => exact .dT (s _ _ e)
    | ins e cl ha hn htk hm => exact .ins (s _ _ e) cl ha hn htk hm
  | byt y => exact .byt y
  | set e => exact .set (s _ _ e)
  | kList e c => exact .kList e c
  | kTuple e c => exact .kTuple e c
  | kDict e c => exact .kDict e c
  | fTuple e => exact .fTuple (s _ _ e)
  | fDict e => exact .fDict (s _ _ e)
end
section
variable {K : PySem.W.Frag} {t c : Value} {r : List Value} {b : Bool}
theorem ka_nil : PySem.W.kitAny K t [] = some false := rfl
theorem ka_t (h : PySem.W.kitOne K t c = some true) : PySem.W.kitAny K t (c :: r) = some true := by
  unfold PySem.W.kitAny
  rw [h]
theorem ka_f (h : PySem.W.kitOne K t c = some false) (h2 : PySem.W.kitAny K t r = some b) : PySem.W.kitAny K t (c :: r) = some b := by
  unfold PySem.W.kitAny
  rw [h]
  exact h2
end
theorem upd_free {H : Hp} {a b : Addr} {o : HO} (e : upd H a o b = none) : H b = none := by
  unfold upd at e
  split at e
  · cases e
  · exact e
section
variable {K : PySem.W.Frag} {σ : L2.St} {H : Hp} {Q : VK} {D : Ends} {ta tv : TE} {f g : Str} {a C dx : Addr} {fs : List (Str × V)} {v y : V}
theorem q_sfld (h : tv σ H fun y H1 => ta σ H1 fun x H2 => ∃ a C dx fs, x = .ref a ∧ H2 a = some (.ins C dx fs) ∧ Cls K C ∧ NoAttr K C f ∧ fs.length < 1000 ∧ D.nx σ (upd H2 a (.ins C dx (putF f y fs)))) : sFld K ta tv f D σ H := h
theorem q_sfldb {P : Addr → Addr → Addr → List (Str × V) → Prop} (h1 : H a = some (.ins C dx fs)) (hc : Cls K C) (hn : NoAttr K C f) (hl : fs.length < 1000) (h : P a C dx fs) : ∃ b C dx fs, V.ref a = .ref b ∧ H b = some (.ins C dx fs) ∧ Cls K C ∧ NoAttr K C f ∧ fs.length < 1000 ∧ P b C dx fs := ⟨a, C, dx, fs, rfl, h1, hc, hn, hl, h⟩
theorem q_fldb (h1 : H a = some (.ins C dx fs)) (hc : Cls K C) (hn : NoAttr K C f) (hl : fs.lookup f = some v) (h : Q v H) : ∃ b C dx fs v, V.ref a = .ref b ∧ H b = some (.ins C dx fs) ∧ Cls K C ∧ NoAttr K C f ∧ fs.lookup f = some v ∧ Q v H := ⟨a, C, dx, fs, v, rfl, h1, hc, hn, hl, h⟩
theorem lu_hd : List.lookup f ((f, v) :: fs) = some v := by simp [List.lookup]
theorem lu_tl (h : ¬ f = g) : List.lookup f ((g, y) :: fs) = List.lookup f fs := by
  have e : (f == g) = false := by simpa using h
  simp [List.lookup, e]
end
/-- items that are ints from 0 on -/
def NN (xs : List V) : Prop := ∀ x ∈ xs, ∃ n : Int, x = .int n ∧ 0 ≤ n
theorem NN.nil : NN [] := fun _ h => by cases h
theorem NN.cons {n : Int} {xs : List V} (h : 0 ≤ n) (t : NN xs) : NN (.int n :: xs) := fun x hx => by
  rcases List.mem_cons.mp hx with rfl | hx
  · exact ⟨n, rfl, h⟩
  · exact t x hx
theorem NN.of {ns : List Int} (h : ∀ n ∈ ns, 0 ≤ n) : NN (ns.map V.int) := fun x hx => by
  obtain ⟨n, hm, rfl⟩ := List.mem_map.mp hx
  exact ⟨n, rfl, h n hm⟩
theorem set_self {σ : L2.St} {i : Nat} {v : Option V} (h : σ[i]? = some v) : σ.set i v = σ := by
  obtain ⟨hi, e⟩ := List.getElem?_eq_some_iff.mp h
  rw [← e]
  exact List.set_getElem_self hi
/-- a loop over a list whose turns store nothing but its name, and let the heap grow -/
theorem for_grow {K : PySem.W.Frag} {a : Addr} {xs : List V} {i : Nat} {tb : TS} {D : Ends} {σ : L2.St} {H : Hp} {v0 : Option V} (hl : SqL K H a xs) (hi : σ[i]? = some v0)
    (hb : ∀ x ∈ xs, ∀ H2, Same H H2 → ∀ N : L2.St → Hp → Prop, (∀ H3, Same H2 H3 → N (σ.set i (some x)) H3) → tb { D with nx := N, ct := N, bk := D.nx } (σ.set i (some x)) H2)
    (hd : ∀ v H', Same H H' → D.nx (σ.set i v) H') :
    ∃ W : Nat → Nat → L2.St → Hp → Prop, (∃ m, W 0 m σ H) ∧ ∀ k m σ H, W k m σ H →
      ((Itl K a).stop k H ∧ D.nx σ H) ∨ ((Itl K a).go k H ∧ ∃ N : L2.St → Hp → Prop, (∀ σ' H', N σ' H' → ∃ m', m' < m ∧ W (k + 1) m' σ' H') ∧ ∀ x H', (Itl K a).yld k H x H' → gName i x σ H' fun σ2 H2 => tb { D with nx := N, ct := N, bk := D.nx } σ2 H2) := by
  refine for_list (K := K) (a := a) (xs := xs) (fun k σ' H' => (∃ v, σ' = σ.set i v) ∧ Same H H') ⟨⟨v0, (set_self hi).symm⟩, Same.refl H⟩ (fun k σ' H' _ h => h.2.seq hl) ?_ ?_
  · rintro k x σ' H' hx ⟨⟨v, rfl⟩, s⟩
    show tb _ ((σ.set i v).set i (some x)) H'
    rw [List.set_set]
    exact hb x (List.mem_of_getElem? hx) H' s _ fun H3 s3 => ⟨⟨some x, rfl⟩, s.trans s3⟩
  · rintro σ' H' ⟨⟨v, rfl⟩, s⟩
    exact hd v H' s
theorem q_nn {P : Prop} (h : P) : V.non = V.non ∧ P := ⟨rfl, h⟩
theorem _root_.L2.Same.fr1 {H H1 H2 : Hp} {p : Addr} (s : Same H H1) (f : Fr1 p H1 H2) (h : H p = none) : Same H H2 := fun b o e => f b o (ne_of_none e h) (s b o e)
theorem cutV_mem {xs : List V} {lo hi : Option Int} {x : V} (h : x ∈ cutV xs lo hi) : x ∈ xs := List.mem_of_mem_drop (List.mem_of_mem_take h)
theorem Fr1.refl {p : Addr} {H : Hp} : Fr1 p H H := fun _ _ _ e => e
theorem Fr1.upd {p : Addr} {H H' : Hp} {o : HO} (f : Fr1 p H H') : Fr1 p H (upd H' p o) := fun b u n e => by
  rw [upd_ne n]
  exact f b u n e
theorem kit_sub {K : PySem.W.Frag} {C : Addr} {T : String} {b : Bool} (h0 : PySem.W.kitMeta T = true) (h : PySem.W.subIn K (.ref C) (.type T) = some b) : PySem.W.kitOne K (.ref C) (.type T) = some b := by
  have e : (Value.ref C == Value.type T) = false := rfl
  unfold PySem.W.kitOne
  rw [e, if_neg (by decide)]
  show (if PySem.W.kitMeta T = true then _ else _) = _
  rw [if_pos h0]
  exact h
/-- the same, with a word about the heap that the turns keep, in place of the heap itself -/
theorem for_growF {K : PySem.W.Frag} {a : Addr} {xs : List V} {i : Nat} {tb : TS} {D : Ends} {σ : L2.St} {H : Hp} {v0 : Option V} (F : Hp → Prop) (hF : F H) (hl : ∀ H1, F H1 → SqL K H1 a xs) (hi : σ[i]? = some v0)
    (hb : ∀ x ∈ xs, ∀ H2, F H2 → ∀ N : L2.St → Hp → Prop, (∀ H3, F H3 → N (σ.set i (some x)) H3) → tb { D with nx := N, ct := N, bk := D.nx } (σ.set i (some x)) H2)
    (hd : ∀ v H', F H' → D.nx (σ.set i v) H') :
    ∃ W : Nat → Nat → L2.St → Hp → Prop, (∃ m, W 0 m σ H) ∧ ∀ k m σ H, W k m σ H →
      ((Itl K a).stop k H ∧ D.nx σ H) ∨ ((Itl K a).go k H ∧ ∃ N : L2.St → Hp → Prop, (∀ σ' H', N σ' H' → ∃ m', m' < m ∧ W (k + 1) m' σ' H') ∧ ∀ x H', (Itl K a).yld k H x H' → gName i x σ H' fun σ2 H2 => tb { D with nx := N, ct := N, bk := D.nx } σ2 H2) := by
  refine for_list (K := K) (a := a) (xs := xs) (fun k σ' H' => (∃ v, σ' = σ.set i v) ∧ F H') ⟨⟨v0, (set_self hi).symm⟩, hF⟩ (fun k σ' H' _ h => hl H' h.2) ?_ ?_
  · rintro k x σ' H' hx ⟨⟨v, rfl⟩, s⟩
    show tb _ ((σ.set i v).set i (some x)) H'
    rw [List.set_set]
    exact hb x (List.mem_of_getElem? hx) H' s _ fun H3 s3 => ⟨⟨some x, rfl⟩, s3⟩
  · rintro σ' H' ⟨⟨v, rfl⟩, s⟩
    exact hd v H' s
theorem at_strs (xs : List Str) (P : Str → Prop) {i : Int} (hP : ∀ x ∈ xs, P x) (h0 : 0 ≤ i) (h1 : i < xs.length) : ∃ m, atI (xs.map V.str) i = some (V.str m) ∧ P m := by
  obtain ⟨j, rfl⟩ := Int.eq_ofNat_of_zero_le h0
  have hj : j < xs.length := by omega
  refine ⟨xs[j], atI_nat (by simp [hj]), hP _ (List.getElem_mem hj)⟩

/-! ### readings of the words for exceptions, own objects, comprehensions of any walk -/
section
variable {σ : L2.St} {H : Hp} {Q : VK} {D : Ends} {C a dx : Addr} {m f : Str} {fs : List (Str × V)} {E : L2.St → XK} {sp : Sp} {te ta : TE} {t : TA}
theorem q_callSD (h : t σ H fun vs H1 => sp vs H1 Q (E σ)) : tCallSD sp [] E t σ H Q := by
  have e : (fun vs H1 => sp (vs ++ []) H1 Q (E σ)) = fun vs H1 => sp vs H1 Q (E σ) := by
    funext vs H1
    rw [List.append_nil]
  show t σ H fun vs H1 => sp (vs ++ []) H1 Q (E σ)
  rw [e]
  exact h
theorem q_callSDd {dvs : List V} (h : t σ H fun vs H1 => sp (vs ++ dvs) H1 Q (E σ)) : tCallSD sp dvs E t σ H Q := h
theorem q_methE (h : ta σ H fun x H1 => ∃ a dx fs, x = .ref a ∧ H1 a = some (.ins C dx fs) ∧ fs.lookup m = none ∧ t σ H1 fun vs H2 => sp (x :: vs) H2 Q (E σ)) : tMethE C m sp [] E ta t σ H Q := by
  unfold tMethE
  simp only [List.append_nil]
  exact h
theorem q_methEd {dvs : List V} (h : ta σ H fun x H1 => ∃ a dx fs, x = .ref a ∧ H1 a = some (.ins C dx fs) ∧ fs.lookup m = none ∧ t σ H1 fun vs H2 => sp (x :: (vs ++ dvs)) H2 Q (E σ)) : tMethE C m sp dvs E ta t σ H Q := h
theorem q_methd {dvs : List V} {E : XK} (h : ta σ H fun x H1 => ∃ a dx fs, x = .ref a ∧ H1 a = some (.ins C dx fs) ∧ fs.lookup m = none ∧ t σ H1 fun vs H2 => sp (x :: (vs ++ dvs)) H2 Q E) : tMeth C m sp dvs E ta t σ H Q := h
theorem q_makeE (h : t σ H fun vs H1 => ∀ x dx, H1 x = none → H1 dx = none → dx ≠ x → sp (.ref x :: vs) (upd (upd H1 dx (.own x)) x (.ins C dx [])) (fun v H2 => v = .non ∧ Q (.ref x) H2) (E σ)) : tMakeE C sp [] E t σ H Q := by
  unfold tMakeE
  simp only [List.append_nil]
  exact h
theorem q_methb {P : Prop} (h1 : H a = some (.ins C dx fs)) (h2 : fs.lookup m = none) (h : P) : ∃ b dx fs, V.ref a = .ref b ∧ H b = some (.ins C dx fs) ∧ fs.lookup m = none ∧ P := ⟨a, dx, fs, rfl, h1, h2, h⟩
theorem q_lenO (h1 : H a = some (.ins C dx fs)) {P : Addr → Prop} (h : P a) : ∃ b dx fs, [V.ref a] = [.ref b] ∧ H b = some (.ins C dx fs) ∧ P b := ⟨a, dx, fs, rfl, h1, h⟩
theorem q_lenI {n : Int} {P : Int → Prop} (h0 : 0 ≤ n) (h1 : n < 2 ^ 63) (h : P n) : ∃ k : Int, V.int n = .int k ∧ 0 ≤ k ∧ k < 2 ^ 63 ∧ P k := ⟨n, rfl, h0, h1, h⟩
theorem q_eqO {b dy : Addr} {gs : List (Str × V)} {P : Addr → Addr → Prop} (h1 : H a = some (.ins C dx fs)) (h2 : H b = some (.ins C dy gs)) (h : P a b) : ∃ a' dx fs b' dy gs, V.ref a = .ref a' ∧ V.ref b = .ref b' ∧ H a' = some (.ins C dx fs) ∧ H b' = some (.ins C dy gs) ∧ P a' b' := ⟨a, dx, fs, b, dy, gs, rfl, rfl, h1, h2, h⟩
theorem q_bz {z : Bool} {P : Bool → Prop} (h : P z) : ∃ y, V.bl z = .bl y ∧ P y := ⟨z, rfl, h⟩
end
theorem room128 {k : Nat} {A : Around} (r : Room k A) : A.units + 128 < cLine := by
  have := r.un
  omega
theorem q_fldP {K : PySem.W.Frag} {H : Hp} {a C dx : Addr} {fs : List (Str × V)} {f : Str} {v : V} {P : V → Prop} (h1 : H a = some (.ins C dx fs)) (hc : Cls K C) (hn : NoAttr K C f) (hl : fs.lookup f = some v) (h : P v) : ∃ b C dx fs v, V.ref a = .ref b ∧ H b = some (.ins C dx fs) ∧ Cls K C ∧ NoAttr K C f ∧ fs.lookup f = some v ∧ P v := ⟨a, C, dx, fs, v, rfl, h1, hc, hn, hl, h⟩
theorem kg_tup {X : Cx} {K : PySem.W.Frag} {es : List Expr} {k : Nat} {pos : Pos} {t : TGs} {n : Nat} (hK : X.K = K) (hc : X.calm = true) (h : PGs X es t) (hn : (assignEach es X.env).length = n := by rfl) (hst : (assignEach es X.env).findIdx? (·.1) = none := by rfl) : PG X (.Tuple es k pos) (gTup K n t) := by
  subst hK
  exact pg_tup hc h hn hst
theorem lu_nil {f : Str} {α : Type} : List.lookup f ([] : List (Str × α)) = none := rfl
theorem lu_tlN {f g : Str} {y : V} {fs : List (Str × V)} (h : ¬ f = g) (h2 : List.lookup f fs = none) : List.lookup f ((g, y) :: fs) = none := by rw [lu_tl h, h2]
/-! raise, try -/
def WEx (W : WX) : L2.St → XK := fun σ cls d H => W cls d σ H
theorem passX {X : Cx} {W : WX} (tk : Takes X W) (σ : L2.St) : PassesAt (L2.CX X.prog X.w) X σ (WEx W σ) := passAt tk σ
def tRaise (te : TE) (C : Addr) (f : Str) (W : WX) : TS := fun _ σ H => te σ H fun v H1 => ∀ d, H1 d = none → W (.ref C) (some d) σ (upd H1 d (.xd [(f, v)]))
def tTry (tb : WX → TS) (Wout : WX) (l : List Clause) : TS := fun D σ H => tb (wTry Wout D l) D σ H
theorem ps_raiseX {X : Cx} {W : WX} {x f : Str} {e : Expr} {te : TE} {p pos pos' : Pos} {C fI : Addr} {B newId initId : String} {bmB : List Value} (hc : X.calm = true) (tk : Takes X W) (hP : PF X.prog) (T : OexS X.K C fI B newId initId bmB f) (hs : X.mg "super" = none) (hr : Room 2 X.A) (hg : Gl X x) (gC : X.mg x = some (.ref C)) (he : PE X e te) (hdb : (x == ("__debug__" : Str)) = false := by decide)
    (hse : starEach [e] X.env = (false, eval e X.env) :: starEach [] X.env := by rfl) : PS X (.Raise (some (.Call (.Name x p) [e] [] pos)) none pos') (tRaise te C f W) := ps_raise hc tk (pmk_exs hP T hs hr hg gC he hdb hse)
theorem ps_tryX {X : Cx} {Wout : WX} {body : List Stmt} {h₀ : ExceptHandler} {hds : List ExceptHandler} {l : List Clause} {pos : Pos} {tb : WX → TS} (hs : X.stack = X.env :: X.outer) (hf : X.env.frame = some X.env.locals) (hN : X.N.Nodup) (tk : Takes X Wout)
    (hb : ∀ (W : WX) (pn : List (Addr × Obj)) (xe : Value → Shared → Prop), Takes (X.tr pn xe) W → PassesOwn (model X.prog X.w) X.A X.env xe → PSs (X.tr pn xe) body (tb W))
    (hh : ClsOk X (h₀ :: hds) l) : PS X (.Try body (h₀ :: hds) [] [] pos) (tTry tb Wout l) := ps_try_g hs hf hN tk hb hh
section
variable {σ : L2.St} {H : Hp} {Q : VK} {D : Ends} {C d0 : Addr} {f : Str} {te : TE} {W Wout : WX} {tb : WX → TS} {l r : List Clause} {cls : Value} {d : Option Addr} {cf : Value → Option Bool} {i : Nat} {ts : Addr → Value → Option Addr → TS}
theorem q_raise (h : te σ H fun v H1 => ∀ d, H1 d = none → W (.ref C) (some d) σ (upd H1 d (.xd [(f, v)]))) : tRaise te C f W D σ H := h
theorem q_try (h : tb (wTry Wout D l) D σ H) : tTry tb Wout l D σ H := h
theorem q_wE (h : W cls d σ H) : WEx W σ cls d H := h
theorem q_clN (hb : cf cls = some true) (h : ∀ a, H a = none → ts a cls d (goneE i D) (σ.set i (some (.ref a))) H) : wTry Wout D ((cf, some i, ts) :: l) cls d σ H := ⟨true, hb, by rw [if_pos rfl]; exact h⟩
theorem q_clN0 (hb : cf cls = some false) (h : wTry Wout D l cls d σ H) : wTry Wout D ((cf, some i, ts) :: l) cls d σ H := ⟨false, hb, by rw [if_neg Bool.false_ne_true]; exact h⟩
theorem q_clP (hb : cf cls = some true) (h : ∀ a, H a = none → ts a cls d D σ H) : wTry Wout D ((cf, none, ts) :: l) cls d σ H := ⟨true, hb, by rw [if_pos rfl]; exact h⟩
theorem q_clP0 (hb : cf cls = some false) (h : wTry Wout D l cls d σ H) : wTry Wout D ((cf, none, ts) :: l) cls d σ H := ⟨false, hb, by rw [if_neg Bool.false_ne_true]; exact h⟩
theorem q_xg {K : PySem.W.Frag} {a : Addr} (h : te σ H fun x H1 => ∃ (D dd : Addr) (fs : List (Str × V)) (v : V), x = .ref a ∧ cls = .ref D ∧ d = some dd ∧ XfC K D ∧ PySem.W.findIn K (.ref D) f = some none ∧ H1 dd = some (.xd fs) ∧ fs.lookup f = some v ∧ Q v H1) : tXg K a cls d f te σ H Q := h
theorem q_xgb {K : PySem.W.Frag} {a Dc dd : Addr} {fs : List (Str × V)} {v : V} (h1 : H dd = some (.xd fs)) (h2 : XfC K Dc) (h3 : PySem.W.findIn K (.ref Dc) f = some none) {P : V → Prop} (h4 : fs.lookup f = some v) (h : P v) : ∃ (D dd' : Addr) (fs : List (Str × V)) (v : V), V.ref a = .ref a ∧ Value.ref Dc = .ref D ∧ some dd = some dd' ∧ XfC K D ∧ PySem.W.findIn K (.ref D) f = some none ∧ H dd' = some (.xd fs) ∧ fs.lookup f = some v ∧ P v := ⟨Dc, dd, fs, v, rfl, rfl, rfl, h2, h3, h1, h4, h⟩
theorem q_isX {K : PySem.W.Frag} {a Dc dd : Addr} {fs : List (Str × V)} {c : V} {cv : Value} {b : Bool} (h1 : H dd = some (.xd fs)) (h2 : ExcC K Dc) (h3 : ClsV c cv) (h4 : PySem.W.kitOne K (.ref Dc) cv = some b) (h : Q (.bl b) H) : rIsX K a (.ref Dc) (some dd) [.ref a, c] H Q := ⟨Dc, dd, fs, c, cv, b, rfl, rfl, rfl, h1, h2, h3, h4, h⟩
end
section
variable {K : PySem.W.Frag} {cls c : Value} {r : List Value} {b b2 : Bool}
theorem xa_nil : PySem.W.exmAny K cls [] = some false := rfl
theorem xa_cons (h1 : PySem.W.exmOne K cls c = some b) (h2 : PySem.W.exmAny K cls r = some b2) : PySem.W.exmAny K cls (c :: r) = some (b || b2) := by
  unfold PySem.W.exmAny
  rw [h1, h2]
theorem kit_ref {D C : Addr} (hd : PySem.W.hasDictIn K C = true) (ht : PySem.W.typeIn K (.ref C) = some (.type "type")) (hs : PySem.W.subIn K (.ref C) (.ref C) = some true) (h : PySem.W.subIn K (.ref D) (.ref C) = some b) : PySem.W.kitOne K (.ref D) (.ref C) = some b := by
  unfold PySem.W.kitOne
  by_cases e : D = C
  · subst e
    rw [if_pos (beq_self_eq_true _)]
    exact hs.symm.trans h
  · have e' : (Value.ref D == Value.ref C) = false := by simpa using e
    rw [e', if_neg Bool.false_ne_true]
    obtain ⟨cd, hc, _⟩ := PySem.W.any_some hd
    have e2 : ((PySem.W.clsIn K C).isSome && PySem.W.typeIn K (.ref C) == some (.type "type")) = true := by rw [hc, ht]; rfl
    show (if ((PySem.W.clsIn K C).isSome && PySem.W.typeIn K (.ref C) == some (.type "type")) = true then PySem.W.subIn K (.ref D) (.ref C) else none) = some b
    rw [if_pos e2]
    exact h
theorem kit_self {C : Addr} : PySem.W.kitOne K (.ref C) (.ref C) = some true := by
  unfold PySem.W.kitOne
  rw [if_pos (beq_self_eq_true _)]
theorem kit_tyref {T : String} {C : Addr} (hd : PySem.W.hasDictIn K C = true) (ht : PySem.W.typeIn K (.ref C) = some (.type "type")) (h : PySem.W.subIn K (.type T) (.ref C) = some b) : PySem.W.kitOne K (.type T) (.ref C) = some b := by
  unfold PySem.W.kitOne
  have e' : (Value.type T == Value.ref C) = false := rfl
  rw [e', if_neg Bool.false_ne_true]
  obtain ⟨cd, hc, _⟩ := PySem.W.any_some hd
  have e2 : ((PySem.W.clsIn K C).isSome && PySem.W.typeIn K (.ref C) == some (.type "type")) = true := by rw [hc, ht]; rfl
  show (if ((PySem.W.clsIn K C).isSome && PySem.W.typeIn K (.ref C) == some (.type "type")) = true then PySem.W.subIn K (.type T) (.ref C) else none) = some b
  rw [if_pos e2]
  exact h
end
/-! == by items -/
section
variable {K : PySem.W.Frag} {H : Hp} {Q : VK} {a b : Addr} {xs ys : List V} {c : Bool} {x y : V}
theorem q_eqXT (h1 : SqT K H a xs) (h2 : SqT K H b ys) (h3 : E1s K H xs ys c) (q : Q (.bl c) H) : rEqX K (.ref a) (.ref b) H Q := ⟨a, b, xs, ys, c, rfl, rfl, .inl ⟨h1, h2⟩, h3, q⟩
theorem q_eqXL (h1 : SqL K H a xs) (h2 : SqL K H b ys) (h3 : E1s K H xs ys c) (q : Q (.bl c) H) : rEqX K (.ref a) (.ref b) H Q := ⟨a, b, xs, ys, c, rfl, rfl, .inr ⟨h1, h2⟩, h3, q⟩
theorem q_neXT (h1 : SqT K H a xs) (h2 : SqT K H b ys) (h3 : E1s K H xs ys c) (q : Q (.bl (!c)) H) : rNeX K (.ref a) (.ref b) H Q := ⟨a, b, xs, ys, c, rfl, rfl, .inl ⟨h1, h2⟩, h3, q⟩
theorem q_neXL (h1 : SqL K H a xs) (h2 : SqL K H b ys) (h3 : E1s K H xs ys c) (q : Q (.bl (!c)) H) : rNeX K (.ref a) (.ref b) H Q := ⟨a, b, xs, ys, c, rfl, rfl, .inr ⟨h1, h2⟩, h3, q⟩
theorem e1_str {s : Str} : E1 K H (.str s) (.str s) true := by
  have z := E1.str (K := K) (H := H) s s
  rwa [beq_self_eq_true] at z
theorem e1_int {i : Int} : E1 K H (.int i) (.int i) true := by
  have z : PyData.eqv (.int i) (.int i) = true := by simp [PyData.eqv]
  have w : E1 K H (.int i) (.int i) (PyData.eqv (.int i) (.int i)) := .dat (.int i) (.int i) rfl rfl
  rw [z] at w
  exact w
theorem e1_bl {i : Bool} : E1 K H (.bl i) (.bl i) true := by
  have z : PyData.eqv (.bool i) (.bool i) = true := by simp [PyData.eqv]
  have w : E1 K H (.bl i) (.bl i) (PyData.eqv (.bool i) (.bool i)) := .dat (.bl i) (.bl i) rfl rfl
  rw [z] at w
  exact w
theorem e1_non : E1 K H .non .non true := by
  have z : PyData.eqv .none .none = true := by simp [PyData.eqv]
  have w : E1 K H .non .non (PyData.eqv .none .none) := .dat .non .non rfl rfl
  rw [z] at w
  exact w
theorem DpInts {ns : List Int} : DpAll K H (ns.map V.int) (ns.map PyData.int) := by
  induction ns with
  | nil => exact .nil
  | cons n ns ih => exact .cons (.int n) ih
theorem e1_self (hx : (∃ a, x = .ref a) ∨ (∃ s, x = .str s) ∨ (∃ i, x = .int i) ∨ (∃ b, x = .bl b) ∨ x = .non) : E1 K H x x true := by
  rcases hx with ⟨_, rfl⟩ | ⟨_, rfl⟩ | ⟨_, rfl⟩ | ⟨_, rfl⟩ | rfl
  · exact .same _
  · exact e1_str
  · exact e1_int
  · exact e1_bl
  · exact e1_non
theorem e1s_2 {x2 y2 : V} {b1 b2 : Bool} (h1 : E1 K H x y b1) (h2 : E1 K H x2 y2 b2) : E1s K H [x, x2] [y, y2] (b1 && b2) := by
  have z := E1s.cons h1 (E1s.cons h2 .nil)
  simpa using z
end
theorem eqv_ints {ms ns : List Int} : PyData.eqvAll (ms.map PyData.int) (ns.map PyData.int) = decide (ms = ns) := by
  induction ms generalizing ns with
  | nil => cases ns <;> simp [PyData.eqvAll]
  | cons m ms ih =>
    cases ns with
    | nil => simp [PyData.eqvAll]
    | cons n ns =>
      simp only [List.map_cons, PyData.eqvAll, ih, PyData.eqv, List.cons.injEq, Bool.decide_and]
      congr 1
theorem lay_ints {ns : List Int} : PyData.canLayAll0 (ns.map PyData.int) = true := by
  induction ns with
  | nil => rfl
  | cons n ns ih =>
    show (PyData.canLay0 (.int n) && PyData.canLayAll0 (ns.map PyData.int)) = true
    rw [ih]
    rfl
theorem depth_ints {ns : List Int} : PyData.depthAll (ns.map PyData.int) = 0 ∨ PyData.depthAll (ns.map PyData.int) ≤ 1 := by
  induction ns with
  | nil => exact .inl rfl
  | cons n ns ih =>
    refine .inr ?_
    show max (PyData.depth (.int n)) (PyData.depthAll (ns.map PyData.int)) ≤ 1
    have : PyData.depth (.int n) ≤ 1 := Nat.zero_le 1
    omega
theorem sh_ints {ns : List Int} : (PyData.canLayAll0 (ns.map PyData.int) && decide (PyData.depthAll (ns.map PyData.int) + 1 ≤ 64)) = true := by
  rw [lay_ints, Bool.true_and, decide_eq_true_eq]
  have := depth_ints (ns := ns)
  omega
theorem shT {ns : List Int} : SeqAt.shaped (.tuple (ns.map PyData.int)) = true := sh_ints
theorem shL {ns : List Int} : SeqAt.shaped (.list (ns.map PyData.int)) = true := sh_ints
section
variable {K : PySem.W.Frag} {H : Hp} {Q : VK} {a b : Addr} {ms ns : List Int}
theorem q_eqTI (h1 : SqT K H a (ms.map V.int)) (h2 : SqT K H b (ns.map V.int)) (q : Q (.bl (decide (ms = ns))) H) : rEqD K (.ref a) (.ref b) H Q := q_eqD (.tup h1 DpInts) (.tup h2 DpInts) shT shT (by rw [show PyData.eqv (.tuple (ms.map PyData.int)) (.tuple (ns.map PyData.int)) = decide (ms = ns) from eqv_ints]; exact q)
theorem q_neTI (h1 : SqT K H a (ms.map V.int)) (h2 : SqT K H b (ns.map V.int)) (q : Q (.bl (!decide (ms = ns))) H) : rNeD K (.ref a) (.ref b) H Q := q_neD (.tup h1 DpInts) (.tup h2 DpInts) shT shT (by rw [show PyData.eqv (.tuple (ms.map PyData.int)) (.tuple (ns.map PyData.int)) = decide (ms = ns) from eqv_ints]; exact q)
theorem q_eqLI (h1 : SqL K H a (ms.map V.int)) (h2 : SqL K H b (ns.map V.int)) (q : Q (.bl (decide (ms = ns))) H) : rEqD K (.ref a) (.ref b) H Q := q_eqD (.lst h1 DpInts) (.lst h2 DpInts) shL shL (by rw [show PyData.eqv (.list (ms.map PyData.int)) (.list (ns.map PyData.int)) = decide (ms = ns) from eqv_ints]; exact q)
theorem q_neLI (h1 : SqL K H a (ms.map V.int)) (h2 : SqL K H b (ns.map V.int)) (q : Q (.bl (!decide (ms = ns))) H) : rNeD K (.ref a) (.ref b) H Q := q_neD (.lst h1 DpInts) (.lst h2 DpInts) shL shL (by rw [show PyData.eqv (.list (ms.map PyData.int)) (.list (ns.map PyData.int)) = decide (ms = ns) from eqv_ints]; exact q)
end
/-! ### comprehensions over any walk, whose elements change nothing that stood: what holds of each element -/
theorem lc_any {J : It} {n : Nat} {G : Hp → Prop} {Y : Nat → Hp → V → Hp → Prop} (w : Walk J n G Y) {g : TG} {tt : TT} {te : TE} {vs : List Nat} {σ : L2.St} {H1 : Hp} {D : Addr} {Qd : Hp → Prop} (P : Nat → List V → Hp → Prop) (hn : n ≤ 100000) (hP : ∀ k ys H H', P k ys H → Same H H' → P k ys H') (hS : ∀ k ys H acc, P k ys H → P k ys (upd H D (.lst acc))) (h0 : P 0 [] H1)
    (hG : ∀ H', Same H1 H' → G H') (hD : H1 D = none)
    (he : ∀ k x ys H2 H' (R : Bool → Hp → Prop) (S : V → Hp → Prop), k < n → Same H1 H2 → P k ys H2 → H2 D = some (.lst ys) → Y k H2 x H' → (∀ b H3, Same H2 H3 → (b = false → P (k + 1) ys H3) → R b H3) → (∀ y H4, Same H2 H4 → P (k + 1) (ys ++ [y]) H4 → S y H4) → g x (wipe σ vs) H' fun σ2 H3 => wipe σ2 vs = wipe σ vs ∧ tt σ2 H3 fun b H4 => R b H4 ∧ (b = true → te σ2 H4 S))
    (hd : ∀ ys H', Same H1 H' → P n ys H' → H' D = some (.lst ys) → Qd H') (gm : ∀ x H' Q Q', (∀ σ H, Q σ H → Q' σ H) → g x (wipe σ vs) H' Q → g x (wipe σ vs) H' Q')
    (tm : ∀ σ H Q Q', (∀ b H, Q b H → Q' b H) → tt σ H Q → tt σ H Q') :
    ∃ W : Nat → Nat → Hp → Prop, (∃ m, W 0 m (upd H1 D (.lst []))) ∧ ∀ i m H, W i m H →
      (J.stop i H ∧ Qd H) ∨ (J.go i H ∧ ∃ Nx : Hp → Prop, (∀ H', Nx H' → ∃ m', m' < m ∧ W (i + 1) m' H') ∧ ∀ x H', J.yld i H x H' → g x (wipe σ vs) H' fun σ2 H2 => wipe σ2 vs = wipe σ vs ∧ tt σ2 H2 fun b H3 =>
        if b = true then te σ2 H3 fun y H4 => ∃ acc, H4 D = some (.lst acc) ∧ acc.length < sizeLine ∧ Nx (upd H4 D (.lst (acc ++ [y]))) else Nx H3) := by
  refine lc_it w (fun k H' => Same H1 H' ∧ ∃ ys, P k ys H' ∧ ys.length ≤ k ∧ H' D = some (.lst ys)) ⟨Same.new hD, [], hS _ _ _ _ h0, Nat.le_refl _, upd_same⟩ (fun i H' _ h => hG H' h.1) ?_ ?_
  · rintro k x H2 H' hk ⟨s2, ys, p2, l2, d2⟩ y
    refine gm _ _ _ _ (fun σ2 H3 q => ⟨q.1, tm _ _ _ _ (fun b H4 q4 => ?_) q.2⟩) (he k x ys H2 H' (fun b H3 => b = false → Same H1 H3 ∧ ∃ ys, P (k + 1) ys H3 ∧ ys.length ≤ k + 1 ∧ H3 D = some (.lst ys)) (fun y H4 => ∃ acc, H4 D = some (.lst acc) ∧ acc.length < sizeLine ∧ Same H1 (upd H4 D (.lst (acc ++ [y]))) ∧ ∃ ys, P (k + 1) ys (upd H4 D (.lst (acc ++ [y]))) ∧ ys.length ≤ k + 1 ∧ upd H4 D (.lst (acc ++ [y])) D = some (.lst ys)) hk s2 p2 d2 y (fun b H3 s3 p3 hb => ⟨s2.trans s3, ys, p3 hb, Nat.le_succ_of_le l2, s3 _ _ d2⟩) fun v H4 s4 p4 => ⟨ys, s4 _ _ d2, line_lt (by omega), (s2.trans s4).snew hD, ys ++ [v], hS _ _ _ _ p4, by simp; omega, upd_same⟩)
    cases b with
    | true => exact iteT (q4.2 rfl)
    | false => exact iteF (q4.1 rfl)
  · rintro H' ⟨s2, ys, p2, _, d2⟩
    exact hd ys H' s2 p2 d2
theorem tYes_m : ∀ (σ : L2.St) (H : Hp) (Q Q' : Bool → Hp → Prop), (∀ b H, Q b H → Q' b H) → tYes σ H Q → tYes σ H Q' := fun _ _ _ _ h q => h _ _ q
theorem gName_m {i : Nat} {σ : L2.St} : ∀ (x : V) (H' : Hp) (Q Q' : L2.St → Hp → Prop), (∀ σ H, Q σ H → Q' σ H) → gName i x σ H' Q → gName i x σ H' Q' := fun _ _ _ _ h q => h _ _ q
theorem gTup2_m {K : PySem.W.Frag} {i j : Nat} {σ : L2.St} : ∀ (x : V) (H' : Hp) (Q Q' : L2.St → Hp → Prop), (∀ σ H, Q σ H → Q' σ H) → gTup K 2 (gCons (gName i) (gCons (gName j) gNil)) x σ H' Q → gTup K 2 (gCons (gName i) (gCons (gName j) gNil)) x σ H' Q' := by
  rintro x H' Q Q' h ⟨a, xs, e, s, l, v, r, e1, v2, r2, e2, e3, q⟩
  exact ⟨a, xs, e, s, l, v, r, e1, v2, r2, e2, e3, h _ _ q⟩
/-- no test, one name: elements that are the items' values of f, told by P -/
theorem lc_each {J : It} {n : Nat} {G : Hp → Prop} {Y : Nat → Hp → V → Hp → Prop} (w : Walk J n G Y) {i : Nat} {te : TE} {σ : L2.St} {H1 : Hp} {D : Addr} {Qd : Hp → Prop} (P : Nat → V → Hp → Prop) (hn : n ≤ 100000) (hP : ∀ k y H H', P k y H → Same H H' → P k y H') (hS : ∀ k y H acc, P k y H → P k y (upd H D (.lst acc)))
    (hG : ∀ H', Same H1 H' → G H') (hD : H1 D = none)
    (he : ∀ k x H2 H' (S : V → Hp → Prop), k < n → Same H1 H2 → (∃ ys, H2 D = some (.lst ys)) → Y k H2 x H' → (∀ y H4, Same H2 H4 → P k y H4 → S y H4) → te ((wipe σ [i]).set i (some x)) H' S)
    (hd : ∀ ys H', Same H1 H' → ys.length = n → (∀ (k : Nat) y, ys[k]? = some y → P k y H') → H' D = some (.lst ys) → Qd H') :
    ∃ W : Nat → Nat → Hp → Prop, (∃ m, W 0 m (upd H1 D (.lst []))) ∧ ∀ k m H, W k m H →
      (J.stop k H ∧ Qd H) ∨ (J.go k H ∧ ∃ Nx : Hp → Prop, (∀ H', Nx H' → ∃ m', m' < m ∧ W (k + 1) m' H') ∧ ∀ x H', J.yld k H x H' → gName i x (wipe σ [i]) H' fun σ2 H2 => wipe σ2 [i] = wipe σ [i] ∧ tYes σ2 H2 fun b H3 =>
        if b = true then te σ2 H3 fun y H4 => ∃ acc, H4 D = some (.lst acc) ∧ acc.length < sizeLine ∧ Nx (upd H4 D (.lst (acc ++ [y]))) else Nx H3) := by
  refine lc_it w (fun k H' => Same H1 H' ∧ ∃ ys, (∀ (j : Nat) y, ys[j]? = some y → P j y H') ∧ ys.length = k ∧ H' D = some (.lst ys)) ⟨Same.new hD, [], fun j y z => (by simp at z), rfl, upd_same⟩ (fun i H' _ h => hG H' h.1) ?_ ?_
  · rintro k x H2 H' hk ⟨s2, ys, p2, rfl, d2⟩ y
    refine ⟨wipe_set, ?_⟩
    unfold tYes
    refine iteT (he ys.length x H2 H' _ hk s2 ⟨ys, d2⟩ y fun v H4 s4 p4 => ⟨ys, s4 _ _ d2, line_lt (by omega), (s2.trans s4).snew hD, ys ++ [v], ?_, by simp, upd_same⟩)
    intro j z ez
    rcases Nat.lt_or_ge j ys.length with hj | hj
    · rw [List.getElem?_append_left hj] at ez
      exact hS _ _ _ _ (hP _ _ _ _ (p2 j z ez) s4)
    · rw [List.getElem?_append_right hj] at ez
      rcases Nat.eq_zero_or_pos (j - ys.length) with hz | hz
      · rw [hz] at ez
        have ej : j = ys.length := by omega
        subst ej
        simp at ez
        subst ez
        exact hS _ _ _ _ p4
      · rw [List.getElem?_eq_none (by simp; omega)] at ez
        cases ez
  · rintro H' ⟨s2, ys, p2, l2, d2⟩
    exact hd ys H' s2 l2 p2 d2
/-- over a range, each element a function of the number -/
theorem lc_rangeF {lo : Int} {n i : Nat} {te : TE} {σ : L2.St} {H1 : Hp} {D : Addr} {Qd : Hp → Prop} (f : Nat → V) (hn : n ≤ 100000) (hD : H1 D = none)
    (he : ∀ k, k < n → ∀ H2 (R : VK), Same H1 H2 → (∀ H4, Same H2 H4 → R (f k) H4) → te ((wipe σ [i]).set i (some (.int (lo + k)))) H2 R)
    (hd : ∀ H', Same H1 H' → H' D = some (.lst ((List.range n).map f)) → Qd H') :
    ∃ W : Nat → Nat → Hp → Prop, (∃ m, W 0 m (upd H1 D (.lst []))) ∧ ∀ k m H, W k m H →
      ((Itr lo n).stop k H ∧ Qd H) ∨ ((Itr lo n).go k H ∧ ∃ Nx : Hp → Prop, (∀ H', Nx H' → ∃ m', m' < m ∧ W (k + 1) m' H') ∧ ∀ x H', (Itr lo n).yld k H x H' → gName i x (wipe σ [i]) H' fun σ2 H2 => wipe σ2 [i] = wipe σ [i] ∧ tYes σ2 H2 fun b H3 =>
        if b = true then te σ2 H3 fun y H4 => ∃ acc, H4 D = some (.lst acc) ∧ acc.length < sizeLine ∧ Nx (upd H4 D (.lst (acc ++ [y]))) else Nx H3) := by
  refine lc_grow walk_range ((List.range n).map f) (by simp) hn (fun _ _ => trivial) hD ?_ hd (fun _ _ _ _ q h => q _ _ h)
  rintro k x H2 H' R hk s2 ⟨rfl, rfl⟩ hR
  refine ⟨wipe_set, he k hk H' R s2 fun H4 s4 => hR _ _ ?_ s4⟩
  rw [List.getElem?_map, List.getElem?_range hk]
  rfl
theorem q_zipA {K : PySem.W.Frag} {ta : TA} {σ : L2.St} {H : Hp} {R : It → Hp → Prop} (h : ta σ H fun vs H1 => ∃ a b xs ys, vs = [.ref a, .ref b] ∧ ((SqL K H1 a xs ∧ SqL K H1 b ys ∧ R (Itz K a b) H1) ∨ (SqT K H1 a xs ∧ SqT K H1 b ys ∧ R (RZ.ItzT K a b) H1))) : RZ.iZipA K ta σ H R := h
theorem q_zipT {K : PySem.W.Frag} {H : Hp} {a b : Addr} {xs ys : List V} {R R2 : Addr → Addr → Prop} (h1 : SqT K H a xs) (h2 : SqT K H b ys) (h : R2 a b) : ∃ a' b' xs ys, [V.ref a, V.ref b] = [.ref a', .ref b'] ∧ ((SqL K H a' xs ∧ SqL K H b' ys ∧ R a' b') ∨ (SqT K H a' xs ∧ SqT K H b' ys ∧ R2 a' b')) := ⟨a, b, xs, ys, rfl, .inr ⟨h1, h2, h⟩⟩
theorem lc_rangeB {lo : Int} {n i : Nat} {te : TE} {σ : L2.St} {H1 : Hp} {D : Addr} {Qd : Hp → Prop} (f : Nat → Bool) (hn : n ≤ 100000) (hD : H1 D = none)
    (he : ∀ k, k < n → ∀ H2 (R : VK), Same H1 H2 → (∀ H4, Same H2 H4 → R (.bl (f k)) H4) → te ((wipe σ [i]).set i (some (.int (lo + k)))) H2 R)
    (hd : ∀ H', Same H1 H' → H' D = some (.lst (((List.range n).map f).map V.bl)) → Qd H') :
    ∃ W : Nat → Nat → Hp → Prop, (∃ m, W 0 m (upd H1 D (.lst []))) ∧ ∀ k m H, W k m H →
      ((Itr lo n).stop k H ∧ Qd H) ∨ ((Itr lo n).go k H ∧ ∃ Nx : Hp → Prop, (∀ H', Nx H' → ∃ m', m' < m ∧ W (k + 1) m' H') ∧ ∀ x H', (Itr lo n).yld k H x H' → gName i x (wipe σ [i]) H' fun σ2 H2 => wipe σ2 [i] = wipe σ [i] ∧ tYes σ2 H2 fun b H3 =>
        if b = true then te σ2 H3 fun y H4 => ∃ acc, H4 D = some (.lst acc) ∧ acc.length < sizeLine ∧ Nx (upd H4 D (.lst (acc ++ [y]))) else Nx H3) := lc_rangeF (fun k => .bl (f k)) hn hD he fun H' s e => hd H' s (by rw [e, List.map_map]; rfl)
theorem lc_rangeI {lo : Int} {n i : Nat} {te : TE} {σ : L2.St} {H1 : Hp} {D : Addr} {Qd : Hp → Prop} (f : Nat → Int) (hn : n ≤ 100000) (hD : H1 D = none)
    (he : ∀ k, k < n → ∀ H2 (R : VK), Same H1 H2 → (∀ H4, Same H2 H4 → R (.int (f k)) H4) → te ((wipe σ [i]).set i (some (.int (lo + k)))) H2 R)
    (hd : ∀ H', Same H1 H' → H' D = some (.lst (((List.range n).map f).map V.int)) → Qd H') :
    ∃ W : Nat → Nat → Hp → Prop, (∃ m, W 0 m (upd H1 D (.lst []))) ∧ ∀ k m H, W k m H →
      ((Itr lo n).stop k H ∧ Qd H) ∨ ((Itr lo n).go k H ∧ ∃ Nx : Hp → Prop, (∀ H', Nx H' → ∃ m', m' < m ∧ W (k + 1) m' H') ∧ ∀ x H', (Itr lo n).yld k H x H' → gName i x (wipe σ [i]) H' fun σ2 H2 => wipe σ2 [i] = wipe σ [i] ∧ tYes σ2 H2 fun b H3 =>
        if b = true then te σ2 H3 fun y H4 => ∃ acc, H4 D = some (.lst acc) ∧ acc.length < sizeLine ∧ Nx (upd H4 D (.lst (acc ++ [y]))) else Nx H3) := lc_rangeF (fun k => .int (f k)) hn hD he fun H' s e => hd H' s (by rw [e, List.map_map]; rfl)
theorem atI_map {ns : List Int} {i : Nat} (h : i < ns.length) : atI (ns.map V.int) (0 + (i : Int)) = some (V.int (ns.getD i 0)) := by
  rw [Int.zero_add]
  refine atI_nat ?_
  rw [List.getElem?_map, List.getElem?_eq_getElem h]
  simp [List.getD, h]
theorem q_intB {k : Bool} {P : Int → Prop} {P' : Bool → Prop} (h : P' k) : (∃ i, [V.bl k] = [.int i] ∧ P i) ∨ ∃ k', [V.bl k] = [.bl k'] ∧ P' k' := .inr ⟨k, rfl, h⟩
theorem q_intI {i : Int} {P : Int → Prop} {P' : Bool → Prop} (h : P i) : (∃ j, [V.int i] = [.int j] ∧ P j) ∨ ∃ k', [V.int i] = [.bl k'] ∧ P' k' := .inl ⟨i, rfl, h⟩
theorem range_zip {g : Int → Int → Int} {ms ns : List Int} (hl : ns.length = ms.length) : ((List.range ms.length).map fun i => g (ms.getD i 0) (ns.getD i 0)) = List.zipWith g ms ns := by
  induction ms generalizing ns with
  | nil => rfl
  | cons m ms ih =>
    cases ns with
    | nil => simp at hl
    | cons n ns =>
      rw [List.length_cons, List.range_succ_eq_map, List.map_cons, List.map_map, List.zipWith_cons_cons, ← ih (ns := ns) (by simpa using hl)]
      rfl
theorem at0z {α : Type} {a : α} {xs : List α} : atI (a :: xs) (0 + ((0 : Nat) : Int)) = some a := atI_nat (j := 0) rfl
theorem at1z {α : Type} {a b : α} {xs : List α} : atI (a :: b :: xs) (0 + ((1 : Nat) : Int)) = some b := atI_nat (j := 1) rfl
theorem at2z {α : Type} {a b c : α} {xs : List α} : atI (a :: b :: c :: xs) (0 + ((2 : Nat) : Int)) = some c := atI_nat (j := 2) rfl
/-- over a list or a tuple -/
def iSeq (K : PySem.W.Frag) (tl : TE) : TI := fun σ H R => iList K tl σ H R ∨ iTup K tl σ H R
theorem kpi_seq {X : Cx} {K : PySem.W.Frag} {tg e : Expr} {tl : TE} (hK : X.K = K) (he : PE X e tl) : PI X tg e (iSeq K tl) := by
  subst hK
  refine ⟨fun pins s σ H R I h => ?_⟩
  rcases h with h | h
  · exact (pi_list he).run pins s σ H R I h
  · exact (pi_tup he).run pins s σ H R I h
theorem q_seqL {K : PySem.W.Frag} {tl : TE} {σ : L2.St} {H : Hp} {R : It → Hp → Prop} (h : tl σ H fun x H1 => ∃ a, x = .ref a ∧ (∃ xs, SqL K H1 a xs) ∧ R (Itl K a) H1) : iSeq K tl σ H R := .inl h
theorem q_seqT {K : PySem.W.Frag} {tl : TE} {σ : L2.St} {H : Hp} {R : It → Hp → Prop} (h : tl σ H fun x H1 => ∃ a, x = .ref a ∧ (∃ xs, SqT K H1 a xs) ∧ R (Itt K a) H1) : iSeq K tl σ H R := .inr h
theorem q_iTup {K : PySem.W.Frag} {tl : TE} {σ : L2.St} {H : Hp} {R : It → Hp → Prop} (h : tl σ H fun x H1 => ∃ a, x = .ref a ∧ (∃ xs, SqT K H1 a xs) ∧ R (Itt K a) H1) : iTup K tl σ H R := h
theorem q_iTupb {K : PySem.W.Frag} {a : Addr} {H : Hp} {xs : List V} {R : Addr → Prop} (h1 : SqT K H a xs) (h : R a) : ∃ b, V.ref a = .ref b ∧ (∃ xs, SqT K H b xs) ∧ R b := ⟨a, rfl, ⟨xs, h1⟩, h⟩
theorem kp_revL {X : Cx} {K : PySem.W.Frag} {e : Expr} {te : TE} {k : Nat} {p1 p2 p3 pos : Pos} (hK : X.K = K) (he : PE X e te) : PE X (.Subscript e (.Slice none none (some (.UnaryOp .USub (.Constant (.int 1) k p1) p2)) p3) pos) (tRevL K te) := by
  subst hK
  exact pe_revL he
theorem q_revL {K : PySem.W.Frag} {te : TE} {σ : L2.St} {H : Hp} {Q : VK} (h : te σ H fun x H1 => ∃ a xs, x = .ref a ∧ SqL K H1 a xs ∧ ∀ p, H1 p = none → Q (.ref p) (upd H1 p (.lst xs.reverse))) : tRevL K te σ H Q := h
theorem q_revLb {K : PySem.W.Frag} {H : Hp} {a : Addr} {xs : List V} {P : Addr → List V → Prop} (h1 : SqL K H a xs) (h : P a xs) : ∃ b xs, V.ref a = .ref b ∧ SqL K H b xs ∧ P b xs := ⟨a, xs, rfl, h1, h⟩
theorem q_yes {σ : L2.St} {H : Hp} {Q : Bool → Hp → Prop} (h : Q true H) : tYes σ H Q := h
theorem walk_zipT {K : PySem.W.Frag} {a b : Addr} {xs ys : List V} : Walk (RZ.ItzT K a b) (min xs.length ys.length) (fun H => SqT K H a xs ∧ SqT K H b ys) (YPair (fun i => xs[i]?) (fun i => ys[i]?)) := by
  constructor
  · rintro i H hi ⟨q1, q2⟩
    have h1 : i < xs.length := by omega
    have h2 : i < ys.length := by omega
    exact ⟨xs, ys, xs[i], ys[i], q1, q2, by simp [h1], by simp [h2]⟩
  · rintro H ⟨q1, q2⟩
    exact ⟨xs, ys, q1, q2, by omega⟩
  · rintro i H x H' hi ⟨q1, q2⟩ ⟨T, u, v, h1, h2, h3, h4, h5⟩
    exact ⟨T, u, v, h1, h2, h3, h4 xs q1, h5 ys q2⟩
/-- over two tuples side by side, each element a function of both items -/
theorem lc_zipF {K : PySem.W.Frag} {a b : Addr} {xs ys : List V} {i j : Nat} {g : TG} {te : TE} {σ : L2.St} {H1 : Hp} {D : Addr} {Qd : Hp → Prop} (f : V → V → V) (ha : SqT K H1 a xs) (hb : SqT K H1 b ys) (hl : xs.length ≤ 100000) (hD : H1 D = none)
    (he : ∀ x ∈ xs, ∀ y ∈ ys, ∀ p H2 (R : VK), Same H1 H2 → H2 p = some (.tup [x, y]) → (∀ H4, Same H2 H4 → R (f x y) H4) → g (.ref p) (wipe σ [i, j]) H2 fun σ2 H3 => wipe σ2 [i, j] = wipe σ [i, j] ∧ te σ2 H3 R)
    (hd : ∀ H', Same H1 H' → H' D = some (.lst ((xs.zip ys).map fun z => f z.1 z.2)) → Qd H') (gm : ∀ x H' Q Q', (∀ σ H, Q σ H → Q' σ H) → g x (wipe σ [i, j]) H' Q → g x (wipe σ [i, j]) H' Q') :
    ∃ W : Nat → Nat → Hp → Prop, (∃ m, W 0 m (upd H1 D (.lst []))) ∧ ∀ k m H, W k m H →
      ((RZ.ItzT K a b).stop k H ∧ Qd H) ∨ ((RZ.ItzT K a b).go k H ∧ ∃ Nx : Hp → Prop, (∀ H', Nx H' → ∃ m', m' < m ∧ W (k + 1) m' H') ∧ ∀ x H', (RZ.ItzT K a b).yld k H x H' → g x (wipe σ [i, j]) H' fun σ2 H2 => wipe σ2 [i, j] = wipe σ [i, j] ∧ tYes σ2 H2 fun b H3 =>
        if b = true then te σ2 H3 fun y H4 => ∃ acc, H4 D = some (.lst acc) ∧ acc.length < sizeLine ∧ Nx (upd H4 D (.lst (acc ++ [y]))) else Nx H3) := by
  refine lc_grow walk_zipT ((xs.zip ys).map fun z => f z.1 z.2) (by simp) (by omega) (fun _ s => ⟨s.seqT ha, s.seqT hb⟩) hD ?_ hd gm
  rintro k x H2 H' R hk s2 hy hR
  obtain ⟨p, u, v, rfl, hp, rfl, e1, e2⟩ := hy
  refine he u (List.mem_of_getElem? e1) v (List.mem_of_getElem? e2) p _ R (s2.trans (Same.new hp)) upd_same fun H4 s4 => hR _ _ ?_ ((Same.new hp).trans s4)
  rw [List.getElem?_map, show (xs.zip ys)[k]? = some (u, v) from List.getElem?_zip_eq_some.mpr ⟨e1, e2⟩]
  rfl
/-- the frame by its name, where the place is within a handler -/
theorem kbm {X : Cx} {K : PySem.W.Frag} {e : Expr} {T : String} {r : V → List V → Hp → VK → Prop} {to : TE} {t : TA} (hK : X.K = K) (h : PE X e (tBM X.K T r to t)) : PE X e (tBM K T r to t) := hK ▸ h

section
variable {K : PySem.W.Frag} {σ : L2.St} {H : Hp} {Q : VK} {C a dx : Addr} {m : Str} {fs : List (Str × V)} {E : XK} {sp : Sp} {ta : TE} {t tk : TA}
theorem q_methN {n j : Nat} {gV : List V → List V → List V} (h : ta σ H fun x H1 => ∃ a dx fs, x = .ref a ∧ H1 a = some (.ins C dx fs) ∧ fs.lookup m = none ∧ t σ H1 fun vs H2 => tk σ H2 fun zs H3 => vs.length = n ∧ zs.length = j ∧ sp (gV (x :: vs) zs) H3 Q E) : tMethN C m n j sp gV E ta t tk σ H Q := h
theorem q_enumT {R : It → Hp → Prop} (h : t σ H fun vs H1 => ∃ a xs, vs = [.ref a] ∧ SqT K H1 a xs ∧ R (ItEt K a) H1) : iEnumT K t σ H R := h
theorem q_enumTb {xs : List V} {R : Addr → Prop} (h1 : SqT K H a xs) (h : R a) : ∃ b xs, [V.ref a] = [.ref b] ∧ SqT K H b xs ∧ R b := ⟨a, xs, rfl, h1, h⟩
theorem q_insert {p : Addr} {xs : List V} {i : Int} {y : V} (h : H p = some (.lst xs)) (hl : xs.length < sizeLine) (h0 : 0 ≤ i) (h1 : i < 2 ^ 63) (q : Q .non (upd H p (.lst (xs.take i.toNat ++ [y] ++ xs.drop i.toNat)))) :
    ∃ (l : Addr) (xs : List V) (j : Int) (z : V), V.ref p = .ref l ∧ [V.int i, y] = [.int j, z] ∧ H l = some (.lst xs) ∧ xs.length < sizeLine ∧ 0 ≤ j ∧ j < 2 ^ 63 ∧ Q .non (upd H l (.lst (xs.take j.toNat ++ [z] ++ xs.drop j.toNat))) := ⟨p, xs, i, y, rfl, rfl, h, hl, h0, h1, q⟩
end
/-- side by side -/
inductive All2 {β : Type} (P : V → β → Prop) : List V → List β → Prop
  | nil : All2 P [] []
  | cons {x : V} {c : β} {xs : List V} {cs : List β} : P x c → All2 P xs cs → All2 P (x :: xs) (c :: cs)
section
variable {β : Type} {P P' : V → β → Prop} {xs ys : List V} {cs ds : List β} {x : V} {c : β}
theorem All2.len (h : All2 P xs cs) : xs.length = cs.length := by
  induction h with
  | nil => rfl
  | cons _ _ ih => simp [ih]
theorem All2.mono (h : All2 P xs cs) (m : ∀ x c, P x c → P' x c) : All2 P' xs cs := by
  induction h with
  | nil => exact .nil
  | cons a _ ih => exact .cons (m _ _ a) ih
theorem All2.app (h : All2 P xs cs) (h2 : All2 P ys ds) : All2 P (xs ++ ys) (cs ++ ds) := by
  induction h with
  | nil => exact h2
  | cons a _ ih => exact .cons a ih
theorem All2.snoc (h : All2 P xs cs) (hx : P x c) : All2 P (xs ++ [x]) (cs ++ [c]) := h.app (.cons hx .nil)
theorem All2.take (h : All2 P xs cs) (n : Nat) : All2 P (xs.take n) (cs.take n) := by
  induction h generalizing n with
  | nil => simp; exact .nil
  | cons a _ ih =>
    cases n with
    | zero => exact .nil
    | succ n => exact .cons a (ih n)
theorem All2.drop (h : All2 P xs cs) (n : Nat) : All2 P (xs.drop n) (cs.drop n) := by
  induction h generalizing n with
  | nil => simp; exact .nil
  | cons a t ih =>
    cases n with
    | zero => exact .cons a t
    | succ n => exact ih n
theorem All2.get (h : All2 P xs cs) {k : Nat} (e : xs[k]? = some x) : ∃ c, cs[k]? = some c ∧ P x c := by
  induction h generalizing k with
  | nil => simp at e
  | cons a _ ih =>
    cases k with
    | zero =>
      simp at e
      subst e
      exact ⟨_, rfl, a⟩
    | succ k => exact ih (by simpa using e)
theorem All2.mem (h : All2 P xs cs) (e : x ∈ xs) : ∃ c, c ∈ cs ∧ P x c := by
  obtain ⟨k, hk⟩ := List.mem_iff_getElem?.mp e
  obtain ⟨c, h1, h2⟩ := h.get hk
  exact ⟨c, List.mem_of_getElem? h1, h2⟩
theorem All2.maps {γ : Type} {R : V → γ → Prop} {f : β → γ} (h : All2 P xs cs) (m : ∀ x c, P x c → R x (f c)) : All2 R xs (cs.map f) := by
  induction h with
  | nil => exact .nil
  | cons a _ ih => exact .cons (m _ _ a) ih
theorem All2.ofMap {γ : Type} {f : β → γ} {R : V → γ → Prop} (h : All2 R xs (cs.map f)) : All2 (fun x c => R x (f c)) xs cs := by
  induction cs generalizing xs with
  | nil => cases h; exact .nil
  | cons c cs ih =>
    cases h with
    | cons a t => exact .cons a (ih t)
end
/-- slices by whole bounds that lie within -/
theorem cut_pre {xs : List V} {k : Nat} (h : k ≤ xs.length) : cutV xs none (some (k : Int)) = xs.take k := by
  unfold cutV
  rw [HT.sIx_none, HT.sIx_nat, Nat.min_eq_left h]
  simp
theorem cut_suf {xs : List V} {k : Nat} (h : k ≤ xs.length) : cutV xs (some (k : Int)) none = xs.drop k := by
  unfold cutV
  rw [HT.sIx_none, HT.sIx_nat, Nat.min_eq_left h]
  exact List.take_of_length_le (by rw [List.length_drop]; omega)
theorem inV_ints {k : Int} {ns : List Int} : inV (.int k) (ns.map V.int) = decide (k ∈ ns) := by
  unfold inV
  induction ns with
  | nil => rfl
  | cons n ns ih =>
    rw [List.map_cons, List.any_cons, ih]
    have e : eqV (.int n) (.int k) = decide (n = k) := by
      show (n == k) = decide (n = k)
      rfl
    rw [e]
    by_cases h : n = k
    · subst h
      simp
    · rw [decide_eq_false h, Bool.false_or]
      by_cases h2 : k ∈ ns
      · rw [decide_eq_true h2, decide_eq_true (List.mem_cons_of_mem _ h2)]
      · rw [decide_eq_false h2, decide_eq_false]
        intro z
        rcases List.mem_cons.mp z with z | z
        · exact h z.symm
        · exact h2 z
theorem flat_ints {ns : List Int} : (ns.map V.int).all flatV = true := by
  induction ns with
  | nil => rfl
  | cons n ns ih =>
    rw [List.map_cons, List.all_cons, ih]
    rfl
theorem q_inI {K : PySem.W.Frag} {H : Hp} {Q : VK} {p : Addr} {k : Int} {ns : List Int} (h : SqL K H p (ns.map V.int)) (q : Q (.bl (decide (k ∈ ns))) H) : rIn K false (.int k) (.ref p) H Q :=
  ⟨p, _, rfl, .inl h, rfl, flat_ints, by
    show Q (.bl (inV (.int k) (ns.map V.int))) H
    rw [inV_ints]
    exact q⟩
/-- a list or a tuple of these -/
def LT (H : Hp) (a : Addr) (xs : List V) : Prop := H a = some (.lst xs) ∨ H a = some (.tup xs)
theorem LT.same {H H' : Hp} {a : Addr} {xs : List V} (h : LT H a xs) (s : Same H H') : LT H' a xs := h.imp (fun e => s _ _ e) (fun e => s _ _ e)
theorem LT.ty {K : PySem.W.Frag} {H : Hp} {a : Addr} {xs : List V} (h : LT H a xs) : ∃ t, TyX K H (.ref a) t ∧ PySem.W.kitAny K t [.type "list", .type "tuple"] = some true := by
  rcases h with h | h
  · exact ⟨_, .base (.lst h), ka_t kt_list_list⟩
  · exact ⟨_, .base (.tup h), ka_f kt_tuple_list (ka_t kt_tuple_tuple)⟩
theorem LT.ob {H : Hp} {a : Addr} {xs : List V} (h : LT H a xs) : ∃ o, (o = .lst xs ∨ o = .tup xs) ∧ H a = some o := by
  rcases h with h | h
  · exact ⟨_, .inl rfl, h⟩
  · exact ⟨_, .inr rfl, h⟩
/-- a for over a list or a tuple that stays -/
theorem q_forSeq {K : PySem.W.Frag} {a : Addr} {xs : List V} {o : HO} {j : Nat} {g : TG} {tb : TS} {D : Ends} {σ : L2.St} {H : Hp} (hj : σ[j]? = some (some (.ref a))) (ho : o = .lst xs ∨ o = .tup xs) (h1 : H a = some o) (Pv : Nat → L2.St → Hp → Prop) (h0 : Pv 0 σ H) (hl : ∀ i σ H, i ≤ xs.length → Pv i σ H → H a = some o)
    (hs : ∀ i x σ H, xs[i]? = some x → Pv i σ H → g x σ H fun σ2 H2 => tb { D with nx := Pv (i + 1), ct := Pv (i + 1), bk := D.nx } σ2 H2) (hd : ∀ σ H, Pv xs.length σ H → D.nx σ H) :
    iSeq K (tVar j) σ H fun J H1 => ∃ W : Nat → Nat → L2.St → Hp → Prop, (∃ m, W 0 m σ H1) ∧ ∀ i m σ H, W i m σ H →
      (J.stop i H ∧ D.nx σ H) ∨ (J.go i H ∧ ∃ N : L2.St → Hp → Prop, (∀ σ' H', N σ' H' → ∃ m', m' < m ∧ W (i + 1) m' σ' H') ∧ ∀ x H', J.yld i H x H' → g x σ H' fun σ2 H2 => tb { D with nx := N, ct := N, bk := D.nx } σ2 H2) := by
  rcases ho with rfl | rfl
  · exact .inl ⟨_, hj, a, rfl, ⟨xs, SqL.of h1⟩, for_list Pv h0 (fun i σ H hi p => SqL.of (hl i σ H hi p)) hs hd⟩
  · exact .inr ⟨_, hj, a, rfl, ⟨xs, SqT.of h1⟩, for_tup Pv h0 (fun i σ H hi p => SqT.of (hl i σ H hi p)) hs hd⟩
theorem ixN_at {n j : Nat} (hj : j < n) : ixN n (j : Int) = some j := by
  show (if 0 ≤ (j : Int) then (if (j : Int) < n then some (j : Int).toNat else none) else _) = some j
  rw [if_pos (by omega), if_pos (by omega), Int.toNat_natCast]
/-- no list of the heap -/
def NoL (H : Hp) (x : V) : Prop := (∀ a, x ≠ .ref a) ∨ ∃ a o, x = .ref a ∧ H a = some o ∧ ∀ xs, o ≠ .lst xs
theorem NoL.same {H H' : Hp} {x : V} (h : NoL H x) (s : Same H H') : NoL H' x := by
  rcases h with h | ⟨a, o, e, h1, h2⟩
  · exact .inl h
  · exact .inr ⟨a, o, e, s _ _ h1, h2⟩
theorem NoL.no {H : Hp} {x : V} {a : Addr} {xs : List V} (h : NoL H x) (ex : x = .ref a) (e : H a = some (.lst xs)) : False := by
  rcases h with h | ⟨b, o, e2, h1, h2⟩
  · exact h a ex
  · rw [ex] at e2
    obtain rfl : a = b := V.ref.inj e2
    rw [e] at h1
    exact h2 xs (Option.some.inj h1).symm
/-- a pair of ints -/
def PairAt (H : Hp) (x : V) (c : Int × Int) : Prop := ∃ t, x = .ref t ∧ H t = some (.tup [.int c.1, .int c.2])
theorem PairAt.same {H H' : Hp} {x : V} {c : Int × Int} (h : PairAt H x c) (s : Same H H') : PairAt H' x c := by
  obtain ⟨t, e, h1⟩ := h
  exact ⟨t, e, s _ _ h1⟩
/-- a pair of ints that is not the thing at D -/
def PairD (D : Addr) (H : Hp) (x : V) (c : Int × Int) : Prop := ∃ t, x = .ref t ∧ t ≠ D ∧ H t = some (.tup [.int c.1, .int c.2])
theorem PairD.same {D : Addr} {H H' : Hp} {x : V} {c : Int × Int} (h : PairD D H x c) (s : Same H H') : PairD D H' x c := by
  obtain ⟨t, e, n, h1⟩ := h
  exact ⟨t, e, n, s _ _ h1⟩
theorem PairD.upd {D : Addr} {H : Hp} {x : V} {c : Int × Int} {o : HO} (h : PairD D H x c) : PairD D (upd H D o) x c := by
  obtain ⟨t, e, n, h1⟩ := h
  exact ⟨t, e, n, (upd_ne n).trans h1⟩
theorem PairD.at {D : Addr} {H : Hp} {x : V} {c : Int × Int} (h : PairD D H x c) : PairAt H x c := by
  obtain ⟨t, e, n, h1⟩ := h
  exact ⟨t, e, h1⟩
def pairOf (c : Int × Int) : PyData := .tuple [.int c.1, .int c.2]
theorem PairAt.dp {K : PySem.W.Frag} {H : Hp} {xs : List V} {cs : List (Int × Int)} (h : All2 (PairAt H) xs cs) : DpAll K H xs (cs.map pairOf) := by
  induction h with
  | nil => exact .nil
  | cons a _ ih =>
    obtain ⟨t, rfl, ht⟩ := a
    exact .cons (.tup (SqT.of ht) (.cons (.int _) (.cons (.int _) .nil))) ih
theorem eqv_pairs {cs ds : List (Int × Int)} : PyData.eqvAll (cs.map pairOf) (ds.map pairOf) = decide (cs = ds) := by
  induction cs generalizing ds with
  | nil => cases ds <;> simp [PyData.eqvAll]
  | cons c cs ih =>
    cases ds with
    | nil => simp [PyData.eqvAll]
    | cons d ds =>
      have e : PyData.eqv (pairOf c) (pairOf d) = decide (c = d) := by
        obtain ⟨c1, c2⟩ := c
        obtain ⟨d1, d2⟩ := d
        unfold pairOf
        simp only [PyData.eqv, PyData.eqvAll, Prod.mk.injEq, Bool.decide_and, Bool.and_true]
        rfl
      simp only [List.map_cons, PyData.eqvAll, ih, e, List.cons.injEq, Bool.decide_and]
theorem lay_pairs {cs : List (Int × Int)} : PyData.canLayAll0 (cs.map pairOf) = true := by
  induction cs with
  | nil => rfl
  | cons c cs ih =>
    show (PyData.canLay0 (pairOf c) && PyData.canLayAll0 (cs.map pairOf)) = true
    rw [ih]
    rfl
theorem depth_pairs {cs : List (Int × Int)} : PyData.depthAll (cs.map pairOf) ≤ 3 := by
  induction cs with
  | nil => exact Nat.zero_le _
  | cons c cs ih =>
    show max (PyData.depth (pairOf c)) (PyData.depthAll (cs.map pairOf)) ≤ 3
    have h1 : PyData.depth (pairOf c) ≤ 3 := by
      unfold pairOf
      exact (by decide : (PyData.depth (.tuple [.int 0, .int 0])) ≤ 3)
    omega
theorem sh_pairs {cs : List (Int × Int)} : SeqAt.shaped (.list (cs.map pairOf)) = true := by
  show (PyData.canLayAll0 (cs.map pairOf) && decide (PyData.depthAll (cs.map pairOf) + 1 ≤ 64)) = true
  rw [lay_pairs, Bool.true_and, decide_eq_true_eq]
  have := depth_pairs (cs := cs)
  omega
theorem q_neLP {K : PySem.W.Frag} {H : Hp} {Q : VK} {a b : Addr} {xs ys : List V} {cs ds : List (Int × Int)} (h1 : SqL K H a xs) (h2 : SqL K H b ys) (hx : All2 (PairAt H) xs cs) (hy : All2 (PairAt H) ys ds) (q : Q (.bl (!decide (cs = ds))) H) : rNeD K (.ref a) (.ref b) H Q :=
  q_neD (.lst h1 (PairAt.dp hx)) (.lst h2 (PairAt.dp hy)) sh_pairs sh_pairs (by rw [show PyData.eqv (.list (cs.map pairOf)) (.list (ds.map pairOf)) = decide (cs = ds) from eqv_pairs]; exact q)
theorem PairD.all {D : Addr} {H : Hp} {xs : List V} {cs : List (Int × Int)} (h : All2 (PairD D H) xs cs) : All2 (PairAt H) xs cs := h.mono fun _ _ z => z.at
theorem PairAt.all {H H' : Hp} {xs : List V} {cs : List (Int × Int)} (h : All2 (PairAt H) xs cs) (s : Same H H') : All2 (PairAt H') xs cs := h.mono fun _ _ z => z.same s
theorem PairAt.updL {H : Hp} {l : Addr} {zs xs : List V} {o : HO} {cs : List (Int × Int)} (h : All2 (PairAt H) xs cs) (e : H l = some (.lst zs)) : All2 (PairAt (upd H l o)) xs cs := h.mono fun x c z => by
  obtain ⟨t, ex, h1⟩ := z
  refine ⟨t, ex, (upd_ne (fun q => ?_)).trans h1⟩
  rw [q, e] at h1
  cases h1
theorem rep_ints {c : Int} {n : Nat} : (List.replicate n [V.int c]).flatten = (List.replicate n c).map V.int := by
  induction n with
  | zero => rfl
  | succ n ih => rw [List.replicate_succ, List.flatten_cons, ih]; rfl
theorem nn_rep {c : Int} {n : Nat} (h : 0 ≤ c) : NN ((List.replicate n c).map V.int) := NN.of fun m hm => by
  have := List.eq_of_mem_replicate hm
  omega
theorem atI_mapN {ns : List Int} {i : Nat} (h : i < ns.length) : atI (ns.map V.int) (i : Int) = some (V.int (ns.getD i 0)) := by
  have z := atI_map h
  rwa [Int.zero_add] at z
theorem set_cut {ms : List Int} {j : Nat} {x : Int} (h : j < ms.length) : (ms.map V.int).take j ++ [V.int x] ++ (ms.map V.int).drop (j + 1) = (ms.set j x).map V.int := by
  rw [List.set_eq_take_append_cons_drop, if_pos h, List.map_append, List.map_cons, List.map_take, List.map_drop, List.append_assoc]
  rfl
theorem at_all {α : Type} (xs : List α) (P : α → Prop) {i : Int} (hP : ∀ x ∈ xs, P x) (h0 : 0 ≤ i) (h1 : i < xs.length) : ∃ m, atI xs i = some m ∧ P m := by
  obtain ⟨j, rfl⟩ := Int.eq_ofNat_of_zero_le h0
  have hj : j < xs.length := by omega
  exact ⟨xs[j], atI_nat (by simp [hj]), hP _ (List.getElem_mem hj)⟩

section
variable {K : PySem.W.Frag} {σ : L2.St} {H : Hp} {Q : VK} {D : Ends} {a p : Addr} {x y v : V} {td ty to ti te : TE}
theorem q_augS {tget : V → V → Hp → VK → Prop} {tip : TIp} {tset : TSet} (h : to σ H fun o H1 => ti σ H1 fun i H2 => tget o i H2 fun x H3 => te σ H3 fun y H4 => tip x y H4 fun z H5 => tset o i z H5 fun H6 => D.nx σ H6) : tAugS to ti te tget tip tset D σ H := h
theorem q_getL {xs : List V} {j : Nat} (h : SqL K H p xs) (e : xs[j]? = some v) (q : Q v H) : rGetL K (.ref p) (.int (j : Nat)) H Q := ⟨p, xs, j, v, rfl, rfl, h, e, q⟩
theorem q_ipI {f : Int → Int → Int} {i j : Int} (q : Q (.int (f i j)) H) : ipI f (.int i) (.int j) H Q := ⟨i, j, rfl, rfl, q⟩
theorem q_setLN {xs : List V} {j : Nat} {Q : Hp → Prop} (h : H p = some (.lst xs)) (hj : j < xs.length) (q : Q (upd H p (.lst (xs.set j v)))) : rSetL (.ref p) (.int (j : Nat)) v H Q := q_setL h (ixN_at hj) q
theorem q_dget (h : td σ H fun x H1 => ty σ H1 fun y H2 => ∃ a v, x = .ref a ∧ DGet H2 a y (some v) ∧ Q v H2) : tDGet td ty σ H Q := h
theorem vv_pos {kvs : List (Key × V)} {s : Key} {v : V} : valV ((s, v) :: kvs) s = some v := valV_pos rfl
theorem q_dgetS {kvs : List (Key × V)} {s : Str} {P : V → Prop} (e : H a = some (.dK kvs)) (hv : valV kvs (.inr s) = some v) (h : P v) : ∃ b w, V.ref a = .ref b ∧ DGet H b (.str s) (some w) ∧ P w := ⟨a, v, rfl, hv ▸ (DGet.k e : DGet H a (kV (.inr s)) (valV kvs (.inr s))), h⟩
theorem q_inP {xs : List V} {cs : List (Int × Int)} {c : Int × Int} (h1 : SqL K H a xs) (h : All2 (PairAt H) xs cs) (hx : PairAt H x c) (q : Q (.bl (decide (c ∈ cs))) H) : rInD K x (.ref a) H Q := by
  obtain ⟨t, rfl, ht⟩ := hx
  refine ⟨pairOf c, cs.map pairOf, .tup (SqT.of ht) (.cons (.int _) (.cons (.int _) .nil)), .lst h1 (PairAt.dp h), rfl, sh_pairs, ?_⟩
  have e : ((cs.map pairOf).any fun z => PyData.eqv z (pairOf c)) = decide (c ∈ cs) := by
    clear h q
    induction cs with
    | nil => rfl
    | cons d cs ih =>
      have e1 : PyData.eqv (pairOf d) (pairOf c) = decide (d = c) := by
        obtain ⟨c1, c2⟩ := c
        obtain ⟨d1, d2⟩ := d
        unfold pairOf
        simp only [PyData.eqv, PyData.eqvAll, Prod.mk.injEq, Bool.decide_and, Bool.and_true]
        rfl
      rw [List.map_cons, List.any_cons, ih, e1]
      by_cases h : d = c
      · subst h
        simp
      · have h' : ¬ c = d := fun z => h z.symm
        simp [h, h']
  rw [e]
  exact q
theorem q_notInP {xs : List V} {cs : List (Int × Int)} {c : Int × Int} (h1 : SqL K H a xs) (h : All2 (PairAt H) xs cs) (hx : PairAt H x c) (q : Q (.bl (!decide (c ∈ cs))) H) : rNotInD K x (.ref a) H Q := by
  have z : rInD K x (.ref a) H (fun w H' => w = .bl (decide (c ∈ cs)) ∧ H' = H) := q_inP h1 h hx ⟨rfl, rfl⟩
  obtain ⟨d, ds, g1, g2, g3, g4, g5, _⟩ := z
  exact ⟨d, ds, g1, g2, g3, g4, by rw [V.bl.inj g5]; exact q⟩
end
theorem room1 {k : Nat} {A : Around} (r : Room k A) : A.units + 1 < cLine := by
  have := r.un
  omega
theorem room65 {k : Nat} {A : Around} (r : Room k A) : A.units + 65 < cLine := by
  have := r.un
  omega
/-- what is no whole number from l on -/
def NotWn (K : PySem.W.Frag) (H : Hp) (l : Int) (x : V) : Prop := (∃ n, x = .int n ∧ ¬ l ≤ n) ∨ (∃ b, x = .bl b) ∨ ∃ t, TyX K H x t ∧ PySem.W.kitOne K t (.type "int") = some false
theorem NotWn.same {K : PySem.W.Frag} {H H' : Hp} {l : Int} {x : V} (h : NotWn K H l x) (s : Same H H') : NotWn K H' l x := by
  rcases h with h | h | ⟨t, h1, h2⟩
  · exact .inl h
  · exact .inr (.inl h)
  · exact .inr (.inr ⟨t, h1.mono s, h2⟩)
theorem cut1 {x : V} {ys : List V} : cutV (x :: ys) (some 1) none = ys := cut_suf (xs := x :: ys) (k := 1) (by simp)
theorem slt1 {x : V} {ys : List V} : ¬ (HT.sIx (x :: ys).length 0 (some 1) = 0 ∧ HT.sIx (x :: ys).length (x :: ys).length none = (x :: ys).length) := fun h => by
  have z := h.1
  have e : HT.sIx (x :: ys).length 0 (some ((1 : Nat) : Int)) = min 1 (x :: ys).length := HT.sIx_nat _ _ _
  rw [show (1 : Int) = ((1 : Nat) : Int) from rfl, e, List.length_cons] at z
  omega
theorem kps_fld {X : Cx} {K : PySem.W.Frag} {st : Stmt} {ta tv : TE} {f : Str} (hK : X.K = K) (h : PS X st (sFld X.K ta tv f)) : PS X st (sFld K ta tv f) := hK ▸ h
/-- the rest of a tuple behind its first -/
theorem q_slT1 {K : PySem.W.Frag} {H : Hp} {Q : VK} {p : Addr} {x : V} {ys : List V} (h : H p = some (.tup (x :: ys))) (q : ∀ d, H d = none → Q (.ref d) (upd H d (.tup ys))) : rSlT K (.ref p) (some 1) none H Q := q_slT (SqT.of h) slt1 (by rw [cut1]; exact q)
theorem putF_nil {f : Str} {v : V} : putF f v [] = [(f, v)] := rfl
theorem putF_ne {f g : Str} {v z : V} {fs : List (Str × V)} (h : ¬ g = f) : putF f v ((g, z) :: fs) = (g, z) :: putF f v fs := by
  show (if g = f then (g, v) :: fs else (g, z) :: putF f v fs) = _
  rw [if_neg h]
theorem putF_hit {f : Str} {v z : V} {fs : List (Str × V)} : putF f v ((f, z) :: fs) = (f, v) :: fs := by
  show (if f = f then (f, v) :: fs else (f, z) :: putF f v fs) = _
  rw [if_pos rfl]
section
variable {H : Hp} {Q : VK} {p : Addr} {xs : List V}
theorem q_rep1 (h : H p = some (.lst xs)) (hl : xs.length ≤ 1000) (q : ∀ d, H d = none → Q (.ref d) (upd H d (.lst xs))) : rRep (.ref p) (.int (if true = true then 1 else 0)) H Q := by
  refine q_rep (k := 1) h (by decide) (by decide) (line_of (by show xs.length * 1 ≤ _; omega)) ?_
  have e : (List.replicate (1 : Int).toNat xs).flatten = xs := by
    show (List.replicate 1 xs).flatten = xs
    simp
  rw [e]
  exact q
theorem q_rep0 (h : H p = some (.lst xs)) (q : ∀ d, H d = none → Q (.ref d) (upd H d (.lst []))) : rRep (.ref p) (.int (if false = true then 1 else 0)) H Q := by
  refine q_rep (k := 0) h (by decide) (by decide) (line_of (by show xs.length * 0 ≤ _; omega)) ?_
  exact q
end
theorem Rd.up {H H' : Hp} (s : Same H H') {a : Addr} {o : HO} (h : Rd H a o) : Rd H' a o := h.imp (s _ _) (fun ⟨o, q⟩ => ⟨o, s _ _ q⟩)
theorem SqL.up {K : PySem.W.Frag} {H H' : Hp} (s : Same H H') {a : Addr} {xs : List V} (h : SqL K H a xs) : SqL K H' a xs := h.imp (Rd.up s) id
theorem SqT.up {K : PySem.W.Frag} {H H' : Hp} (s : Same H H') {a : Addr} {xs : List V} (h : SqT K H a xs) : SqT K H' a xs := h.imp (Rd.up s) id
mutual
theorem Dp.up {K : PySem.W.Frag} {H H' : Hp} (s : Same H H') {v : V} {d : PyData} : Dp K H v d → Dp K H' v d
  | .non => .non
  | .bl b => .bl b
  | .int i => .int i
  | .str x => .str x
  | .lst h ha => .lst (SqL.up s h) (DpAll.up s ha)
  | .tup h ha => .tup (SqT.up s h) (DpAll.up s ha)
theorem DpAll.up {K : PySem.W.Frag} {H H' : Hp} (s : Same H H') {vs : List V} {ds : List PyData} : DpAll K H vs ds → DpAll K H' vs ds
  | .nil => .nil
  | .cons h t => .cons (Dp.up s h) (DpAll.up s t)
end

/-! ### displays: each thing read by itself, with a continuation that is not known -/
def Con (P : Hp → V → Prop) (σ : L2.St) (t : TE) : Prop := ∀ H (Q : VK), (∀ v H', Same H H' → P H' v → Q v H') → t σ H Q
def ConA (P : Hp → V → Prop) (σ : L2.St) (n : Nat) (t : TA) : Prop := ∀ H (Q : List V → Hp → Prop), (∀ vs H', Same H H' → vs.length = n → (∀ v ∈ vs, P H' v) → Q vs H') → t σ H Q
theorem ConA.nil {P : Hp → V → Prop} {σ : L2.St} : ConA P σ 0 tNil := fun H Q k => q_nil (k [] H (Same.refl _) rfl (fun v h => nomatch h))
theorem ConA.cons {P : Hp → V → Prop} {σ : L2.St} {n : Nat} {t : TE} {u : TA} (hP : ∀ H H' v, Same H H' → P H v → P H' v) (h1 : Con P σ t) (h2 : ConA P σ n u) : ConA P σ (n + 1) (tCons t u) :=
  fun H Q k => q_cons (h1 _ _ fun v H1 s1 p1 => h2 _ _ fun vs H2 s2 l2 p2 => k (v :: vs) H2 (s1.trans s2) (by rw [List.length_cons, l2]) (fun w hw => by
    rcases List.mem_cons.mp hw with rfl | hw
    · exact hP _ _ _ s2 p1
    · exact p2 _ hw))
theorem q_lstC {P : Hp → V → Prop} {σ : L2.St} {n : Nat} {t : TA} {H : Hp} {Q : VK} (hP : ∀ H H' v, Same H H' → P H v → P H' v) (hn : n ≤ 1000) (h : ConA P σ n t) (q : ∀ l vs H', Same H H' → H l = none → H' l = some (.lst vs) → vs.length = n → (∀ v ∈ vs, P H' v) → Q (.ref l) H') : tLst t σ H Q :=
  q_lst (h H _ fun vs H1 s1 l1 p1 => ⟨by rw [l1]; exact Nat.le_trans hn (by decide), fun p hp => q p vs _ (s1.snew (s1.free hp)) (s1.free hp) upd_same l1 fun v hv => hP _ _ _ (Same.new hp) (p1 v hv)⟩)
theorem q_cut {t : TE} {σ : L2.St} {H : Hp} {Q : VK} (F : V → Hp → Prop) (h : ∀ Q : VK, (∀ v H', F v H' → Q v H') → t σ H Q) (k : ∀ v H', F v H' → Q v H') : t σ H Q := h Q k

theorem kmt_indexD {X : Cx} {K : PySem.W.Frag} (hK : X.K = K) (hu : X.A.units + 65 < cLine) : MtR X "list.index" (rIndexD K) := hK ▸ mt_indexD hu
section
variable {K : PySem.W.Frag} {σ : L2.St} {H : Hp} {Q : VK} {D : Ends} {a b p d : Addr} {x y v : V} {td ty : TE}
theorem eqv_pair {c e : Int × Int} : PyData.eqv (pairOf c) (pairOf e) = decide (c = e) := by
  obtain ⟨c1, c2⟩ := c
  obtain ⟨d1, d2⟩ := e
  unfold pairOf
  simp only [PyData.eqv, PyData.eqvAll, Prod.mk.injEq, Bool.decide_and, Bool.and_true]
  rfl
/-- the place of the first that is it -/
def firstAt (cs : List (Int × Int)) (c : Int × Int) : Nat := cs.findIdx (fun z => decide (z = c))
theorem q_index {xs : List V} {cs : List (Int × Int)} {c : Int × Int} (h1 : SqL K H a xs) (h : All2 (PairAt H) xs cs) (hx : PairAt H x c) (hm : c ∈ cs) (q : ∀ j : Nat, Q (.int (j : Nat)) H) : rIndexD K (.ref a) [x] H Q := by
  obtain ⟨t, rfl, ht⟩ := hx
  have hlt : firstAt cs c < cs.length := List.findIdx_lt_length_of_exists ⟨c, hm, by simp⟩
  refine ⟨a, _, pairOf c, cs.map pairOf, firstAt cs c, pairOf cs[firstAt cs c], rfl, rfl, .lst h1 (PairAt.dp h), .tup (SqT.of ht) (.cons (.int _) (.cons (.int _) .nil)), sh_pairs, rfl, by rw [List.getElem?_map, List.getElem?_eq_getElem hlt]; rfl, ?_, ?_, q _⟩
  · rw [eqv_pair]
    exact List.findIdx_getElem (w := hlt)
  · intro m z hmj hz
    rw [List.getElem?_map] at hz
    have hml : m < cs.length := Nat.lt_trans hmj hlt
    rw [List.getElem?_eq_getElem hml] at hz
    have hz : pairOf cs[m] = z := Option.some.inj hz
    rw [← hz, eqv_pair]
    have := List.not_of_lt_findIdx hmj
    simpa using this
theorem q_din (h : ty σ H fun y H1 => td σ H1 fun x H2 => ∃ a o, x = .ref a ∧ DGet H2 a y o ∧ Q (.bl o.isSome) H2) : tDIn ty td σ H Q := h
theorem q_dnotin (h : ty σ H fun y H1 => td σ H1 fun x H2 => ∃ a o, x = .ref a ∧ DGet H2 a y o ∧ Q (.bl (!o.isSome)) H2) : tDNotIn ty td σ H Q := h
theorem q_dT {P : Option V → Prop} {kvs : List (List Key × V)} {k : List Key} (h1 : H a = some (.dT kvs)) (h2 : H b = some (.tup (k.map kV))) (q : P (valV kvs k)) : ∃ a' o, V.ref a = .ref a' ∧ DGet H a' (.ref b) o ∧ P o := ⟨a, _, rfl, DGet.t h1 h2, q⟩
theorem q_dTs {P : V → Prop} {kvs : List (List Key × V)} {k : List Key} (h1 : H a = some (.dT kvs)) (h2 : H b = some (.tup (k.map kV))) (hv : valV kvs k = some v) (q : P v) : ∃ a' w, V.ref a = .ref a' ∧ DGet H a' (.ref b) (some w) ∧ P w := ⟨a, v, rfl, hv ▸ DGet.t h1 h2, q⟩
theorem q_setT {Q : Hp → Prop} {kvs : List (List Key × V)} {k : List Key} (h1 : H a = some (.dT kvs)) (h2 : H b = some (.tup (k.map kV))) (hl : kvs.length < 16777216) (q : Q (upd H a (.dT (putK kvs k v)))) : rSetD (.ref a) (.ref b) v H Q := ⟨a, _, rfl, .inr ⟨kvs, k, b, h1, rfl, h2, line_lt hl, rfl⟩, q⟩
theorem q_lockE {t : TE} {u : HO} (h : H d = some u) (hm : Mut (some u)) (q : ∀ od, t σ (upd H d (.frz od u)) fun v H' => H' d = some (.frz od u) ∧ Q v (upd H' d u)) : tLockE t σ H Q := ⟨d, u, h, hm, q⟩
theorem q_lock {t : TS} {u : HO} (h : H d = some u) (hm : Mut (some u)) (q : ∀ od, t ⟨fun σ' H' => H' d = some (.frz od u) ∧ D.nx σ' (upd H' d u), fun v H' => H' d = some (.frz od u) ∧ D.rt v (upd H' d u), fun σ' H' => H' d = some (.frz od u) ∧ D.bk σ' (upd H' d u), fun σ' H' => H' d = some (.frz od u) ∧ D.ct σ' (upd H' d u)⟩ σ (upd H d (.frz od u))) : tLock t D σ H := ⟨d, u, h, hm, q⟩
theorem q_keysT {R : It → Hp → Prop} {o : Obj} {kvs : List (List Key × V)} (h : td σ H fun x H1 => x = .ref d ∧ H1 d = some (.frz o (.dT kvs)) ∧ R (Itkt d o kvs) H1) (tm : ∀ Q Q' : VK, (∀ v H, Q v H → Q' v H) → td σ H Q → td σ H Q') : iKeys td σ H R :=
  tm _ _ (fun v H1 ⟨e, h1, q⟩ => ⟨d, o, e, .inr ⟨kvs, h1, q⟩⟩) h
end
/-! ### dicts whose keys are pairs -/
def keyOf (c : Int × Int) : List Key := [.inl c.1, .inl c.2]
theorem keyOf_inj {c d : Int × Int} (h : keyOf c = keyOf d) : c = d := by
  simp only [keyOf, List.cons.injEq, Sum.inl.injEq, and_true] at h
  exact Prod.ext h.1 h.2
theorem PairAt.key {H : Hp} {b : Addr} {c : Int × Int} (h : H b = some (.tup [.int c.1, .int c.2])) : H b = some (.tup ((keyOf c).map kV)) := h
def zk (ks : List (Int × Int)) (cl : List Addr) : List (List Key × V) := List.zipWith (fun k a => (keyOf k, V.ref a)) ks cl
theorem zk_len {ks : List (Int × Int)} {cl : List Addr} (h : ks.length = cl.length) : (zk ks cl).length = ks.length := by simp [zk, h]
theorem zk_some {c : Int × Int} : ∀ {ks : List (Int × Int)} {cl : List Addr}, ks.length = cl.length → c ∈ ks → ∃ a ∈ cl, valV (zk ks cl) (keyOf c) = some (.ref a)
  | [], _, _, h => nomatch h
  | k :: ks, [], e, _ => by simp at e
  | k :: ks, a :: cl, e, h => by
    by_cases hk : k = c
    · exact ⟨a, List.mem_cons_self .., by rw [show zk (k :: ks) (a :: cl) = (keyOf k, V.ref a) :: zk ks cl from rfl]; exact valV_pos (by rw [hk])⟩
    · rcases List.mem_cons.mp h with rfl | h
      · exact absurd rfl hk
      · obtain ⟨b, hb, hv⟩ := zk_some (cl := cl) (by simpa using e) h
        exact ⟨b, List.mem_cons_of_mem _ hb, by rw [show zk (k :: ks) (a :: cl) = (keyOf k, V.ref a) :: zk ks cl from rfl, valV_neg (fun w => hk (keyOf_inj w))]; exact hv⟩
theorem zk_none {c : Int × Int} : ∀ {ks : List (Int × Int)} {cl : List Addr}, c ∉ ks → valV (zk ks cl) (keyOf c) = none
  | [], cl, _ => by simp [zk, valV]
  | k :: ks, [], _ => by simp [zk, valV]
  | k :: ks, a :: cl, h => by
    rw [show zk (k :: ks) (a :: cl) = (keyOf k, V.ref a) :: zk ks cl from rfl, valV_neg (fun w => h (by rw [← keyOf_inj w]; exact List.mem_cons_self ..))]
    exact zk_none (fun w => h (List.mem_cons_of_mem _ w))
theorem zk_isSome {c : Int × Int} {ks : List (Int × Int)} {cl : List Addr} (e : ks.length = cl.length) : (valV (zk ks cl) (keyOf c)).isSome = decide (c ∈ ks) := by
  by_cases h : c ∈ ks
  · obtain ⟨a, _, hv⟩ := zk_some e h
    rw [hv, decide_eq_true h]
    rfl
  · rw [zk_none h, decide_eq_false h]
    rfl
theorem zk_put {c : Int × Int} {ks : List (Int × Int)} {cl : List Addr} {a : Addr} (e : ks.length = cl.length) (h : c ∉ ks) : putK (zk ks cl) (keyOf c) (.ref a) = zk (ks ++ [c]) (cl ++ [a]) := by
  have hn : ((zk ks cl).any fun kv => decide (kv.1 = keyOf c)) = false := by
    rw [List.any_eq_false]
    intro x hx
    simp only [zk] at hx
    obtain ⟨i, hi⟩ := List.getElem?_of_mem hx
    rw [List.getElem?_zipWith] at hi
    split at hi
    · rename_i k b hk hb
      have e1 := Option.some.inj hi
      rw [← e1]
      simp only [decide_eq_true_eq]
      intro w
      exact h (by rw [← keyOf_inj w]; exact List.mem_of_getElem? hk)
    · cases hi
  unfold putK
  rw [if_neg (by rw [hn]; simp)]
  simp [zk, List.zipWith_append e]
theorem zk_get {ks : List (Int × Int)} {cl : List Addr} {i : Nat} {k : List Key} {v : V} (h : (zk ks cl)[i]? = some (k, v)) : ∃ c ∈ ks, k = keyOf c := by
  simp only [zk, List.getElem?_zipWith] at h
  split at h
  · rename_i c b hk hb
    have e1 := Option.some.inj h
    exact ⟨c, List.mem_of_getElem? hk, (Prod.mk.inj e1).1.symm⟩
  · cases h
theorem q_dnewT {σ : L2.St} {H : Hp} {Q : VK} (h : ∀ p, H p = none → Q (.ref p) (upd H p (.dT []))) : tDNewT σ H Q := h
theorem q_listRg {σ : L2.St} {H : Hp} {Q : VK} {ta : TE} (h : ta σ H fun x H1 => ∃ n : Int, x = .int n ∧ 0 ≤ n ∧ n ≤ 1000 ∧ ∀ q, H1 q = none → Q (.ref q) (upd H1 q (.lst (rgV 0 n)))) (tm : ∀ Q Q' : VK, (∀ v H, Q v H → Q' v H) → ta σ H Q → ta σ H Q') : tLstRg (tRg1 ta) σ H Q :=
  tm _ _ (fun v H1 ⟨n, e, h0, h1, q⟩ => ⟨n, e, RgOk.of_le (Int.le_refl _) (by omega) (by decide) h0, q⟩) h
theorem tVar_m {i : Nat} {σ : L2.St} {H : Hp} : ∀ Q Q' : VK, (∀ v H, Q v H → Q' v H) → tVar i σ H Q → tVar i σ H Q' := fun _ _ m ⟨v, e, h⟩ => ⟨v, e, m _ _ h⟩
theorem rgV_map {n : Nat} : rgV 0 (n : Int) = ((List.range n).map fun k => ((k : Nat) : Int)).map V.int := by
  unfold rgV
  rw [List.map_map]
  simp
theorem ko_catT {X : Cx} {K : PySem.W.Frag} (hK : X.K = K) : OpR X (binaryOp .Add) (rCatT K) := hK ▸ op_catT
theorem q_catT {K : PySem.W.Frag} {H : Hp} {Q : VK} {a b : Addr} {xs ys : List V} (h1 : SqT K H a xs) (h2 : SqT K H b ys) (nx : xs ≠ []) (ny : ys ≠ []) (hl : xs.length + ys.length ≤ 1000) (q : ∀ p, H p = none → Q (.ref p) (upd H p (.tup (xs ++ ys)))) : rCatT K (.ref a) (.ref b) H Q :=
  ⟨a, b, xs, ys, rfl, rfl, h1, h2, nx, line_of (by omega), fun e => absurd e ny, fun _ => q⟩
theorem q_lenT2 {H : Hp} {Q : VK} {p : Addr} {kvs : List (List Key × V)} (h : H p = some (.dT kvs)) (q : Q (.int (kvs.length : Nat)) H) : rLenT [.ref p] H Q := ⟨p, kvs, rfl, h, q⟩
theorem walk_enumL {K : PySem.W.Frag} {a : Addr} {xs : List V} : Walk (Ite K a) xs.length (fun H => SqL K H a xs) (YPair (fun i => some (.int (i : Nat))) (fun i => xs[i]?)) := by
  refine ⟨fun i _ hi q => ⟨xs, xs[i], q, by simp [hi]⟩, fun _ q => ⟨xs, q, Nat.le_refl _⟩, fun i H v H' _ q y => ?_⟩
  obtain ⟨T, x, h1, h2, h3, h4⟩ := y
  exact ⟨T, .int (i : Nat), x, h1, h2, h3, rfl, h4 xs q⟩
theorem q_enumL2 {K : PySem.W.Frag} {t : TA} {σ : L2.St} {H : Hp} {R : It → Hp → Prop} (h : t σ H fun vs H1 => ∃ a xs, vs = [.ref a] ∧ SqL K H1 a xs ∧ R (Ite K a) H1) : iEnumS K t σ H R := .inl h
theorem q_enumT2 {K : PySem.W.Frag} {t : TA} {σ : L2.St} {H : Hp} {R : It → Hp → Prop} (h : t σ H fun vs H1 => ∃ a xs, vs = [.ref a] ∧ SqT K H1 a xs ∧ R (ItEt K a) H1) : iEnumS K t σ H R := .inr h

/-! try with an else -/
theorem ps_try_ge {X : Cx} {Wout : WX} {body orelse : List Stmt} {h₀ : ExceptHandler} {hds : List ExceptHandler} {l : List Clause} {pos : Pos} {tb : WX → TS} {to : TS} (hs : X.stack = X.env :: X.outer) (hf : X.env.frame = some X.env.locals) (hN : X.N.Nodup) (tk : Takes X Wout)
    (hb : ∀ (W : WX) (pn : List (Addr × Obj)) (xe : Value → Shared → Prop), Takes (X.tr pn xe) W → PassesOwn (model X.prog X.w) X.A X.env xe → PSs (X.tr pn xe) body (tb W))
    (ho : PSs X orelse to) (hh : ClsOk X (h₀ :: hds) l) : PS X (.Try body (h₀ :: hds) orelse [] pos) (fun D σ H => tb (wTry Wout D l) { D with nx := fun σ H => to D σ H } σ H) := by
  refine ⟨fun pins s σ H D I h => ?_⟩
  have ok := I.ok
  have hfr : X.A.frames = some (X.env :: X.outer) := hs ▸ ok.frames
  refine wpAny_Try_except (wpAny_mono ((hb (wTry Wout D l) (X.pn ++ pins) (fun e s₁ => wpAny (model X.prog X.w) X.A (noteFrame e X.env) (fun _ s₂ => wpAny (model X.prog X.w) X.A (setFlight e none) (fun _ s₃ =>
    wpAny (model X.prog X.w) X.A (handleBy e X.env (h₀ :: hds)) (SP X pins D) X.xe s₃) X.xe s₂) X.xe s₁) (fun u s1 xx => ?_) PassesOwn.looking).run [] s σ H { D with nx := fun σ H => to D σ H } (I.toTry _) h) (fun fw s1 hsp => ?_) (fun e s1 he => he))
  · obtain ⟨a, B, sI, pins', σ', H', cls, d, rfl, J', nb, up, sky, na, os, ag, w⟩ := xx
    show wpAny (model X.prog X.w) X.A (noteFrame (.ref a) X.env) _ _ _
    refine Sky.land Zc.steady hfr hf (show Sky B (X.env :: X.outer) a (Zc cls d) X.env.locals s1.heap from hs ▸ sky) fun h3 fl3 up3 => ?_
    exact clauses_run hh ok hfr hs hf hN tk (J'.ofTry ok) nb (up.trans up3) fl3 na os ag w
  · cases fw with
    | next => exact let ⟨_, _, J', q⟩ := hsp; ho.run pins _ _ _ D (J'.ofTry ok) q
    | brk => exact let ⟨_, _, J', q⟩ := hsp; ⟨_, _, J'.ofTry ok, q⟩
    | cont => exact let ⟨_, _, J', q⟩ := hsp; ⟨_, _, J'.ofTry ok, q⟩
    | ret u => exact let ⟨_, _, _, J', r, q⟩ := hsp; ⟨_, _, _, J'.ofTry ok, r, q⟩
def tTryE (tb : WX → TS) (to : TS) (Wout : WX) (l : List Clause) : TS := fun D σ H => tb (wTry Wout D l) { D with nx := fun σ H => to D σ H } σ H
theorem ps_tryXE {X : Cx} {Wout : WX} {body orelse : List Stmt} {h₀ : ExceptHandler} {hds : List ExceptHandler} {l : List Clause} {pos : Pos} {tb : WX → TS} {to : TS} (hs : X.stack = X.env :: X.outer) (hf : X.env.frame = some X.env.locals) (hN : X.N.Nodup) (tk : Takes X Wout)
    (hb : ∀ (W : WX) (pn : List (Addr × Obj)) (xe : Value → Shared → Prop), Takes (X.tr pn xe) W → PassesOwn (model X.prog X.w) X.A X.env xe → PSs (X.tr pn xe) body (tb W))
    (ho : PSs X orelse to) (hh : ClsOk X (h₀ :: hds) l) : PS X (.Try body (h₀ :: hds) orelse [] pos) (tTryE tb to Wout l) := ps_try_ge hs hf hN tk hb ho hh
theorem q_tryE {tb : WX → TS} {to : TS} {Wout : WX} {l : List Clause} {D : Ends} {σ : L2.St} {H : Hp} (h : tb (wTry Wout D l) { D with nx := fun σ H => to D σ H } σ H) : tTryE tb to Wout l D σ H := h
/-! tuple * int -/
theorem ko_repT {X : Cx} {K : PySem.W.Frag} (hK : X.K = K) : OpR X (binaryOp .Mult) (rRepT K) := hK ▸ op_repT
theorem flat_rep {α : Type} {x : α} : ∀ n : Nat, (List.replicate n [x]).flatten = List.replicate n x
  | 0 => rfl
  | n + 1 => by rw [List.replicate_succ, List.flatten_cons, flat_rep n, List.replicate_succ]; rfl
theorem q_repT {K : PySem.W.Frag} {H : Hp} {Q : VK} {l : Addr} {x : V} {n : Int} (h : SqT K H l [x]) (h1 : 2 ≤ n) (h2 : n ≤ 1000) (q : ∀ p, H p = none → Q (.ref p) (upd H p (.tup (List.replicate n.toNat x)))) : rRepT K (.ref l) (.int n) H Q :=
  ⟨l, n, [x], rfl, rfl, h, by simp, h1, h2, by simp, fun p hp => by rw [flat_rep]; exact q p hp⟩
/-! slices of tuples, the whole too -/
theorem ks_tupA {X : Cx} {K : PySem.W.Frag} (hK : X.K = K) : SlR X (rSlA K) := by subst hK; exact sl_tupA
theorem q_slA {K : PySem.W.Frag} {H : Hp} {Q : VK} {p : Addr} {xs : List V} {lo hi : Option Int} (h : H p = some (.tup xs)) (q : ∀ d H', Same H H' → H' d = some (.tup (cutV xs lo hi)) → Q (.ref d) H') : rSlA K (.ref p) lo hi H Q :=
  ⟨p, xs, rfl, SqT.of h, fun ⟨e1, e2⟩ => q p H (Same.refl _) (by rw [h]; unfold cutV; rw [e1, e2, List.drop_zero, Nat.sub_zero, List.take_length]), fun _ d hd => q d _ (Same.new hd) upd_same⟩
/-! t + u, any -/
theorem ko_catA {X : Cx} {K : PySem.W.Frag} (hK : X.K = K) : OpR X (binaryOp .Add) (rCatA K) := hK ▸ op_catA
theorem q_catA {K : PySem.W.Frag} {H : Hp} {Q : VK} {a b : Addr} {xs ys : List V} (h1 : H a = some (.tup xs)) (h2 : H b = some (.tup ys)) (hl : xs.length + ys.length ≤ 10000) (q : ∀ d H', Same H H' → H' d = some (.tup (xs ++ ys)) → Q (.ref d) H') : rCatA K (.ref a) (.ref b) H Q :=
  ⟨a, b, xs, ys, rfl, rfl, SqT.of h1, SqT.of h2, line_of (by omega), fun e => q b H (Same.refl _) (by rw [e]; exact h2), fun _ e => q a H (Same.refl _) (by rw [e, List.append_nil]; exact h1), fun _ _ d hd => q d _ (Same.new hd) upd_same⟩
theorem kpa_star {X : Cx} {K : PySem.W.Frag} {e : Expr} {es : List Expr} {p : Pos} {te : TE} {t : TA} (hK : X.K = K) (he : PE X e te) (hr : PA X es t) (hs : starEach (.Starred e p :: es) X.env = (true, eval e X.env) :: starEach es X.env := by rfl) : PA X (.Starred e p :: es) (StX.tStar K te t) := hK ▸ StX.pa_star he hr hs

/-! {k: v for k, v in d.items()}, the keys tuples: the same entries -/
theorem q_dcT {wi : TI} {g : TG} {tt : TT} {tk tv : TE} {vs : List Nat} {σ : L2.St} {H : Hp} {Q : VK} (h : wi σ H fun J H1 => ∀ D, H1 D = none → ∃ W : Nat → Nat → Hp → Prop, (∃ m, W 0 m (upd H1 D (.dT []))) ∧ ∀ i m H, W i m H →
  (J.stop i H ∧ Q (.ref D) H) ∨ (J.go i H ∧ ∃ Nx : Hp → Prop, (∀ H', Nx H' → ∃ m', m' < m ∧ W (i + 1) m' H') ∧ ∀ x H', J.yld i H x H' → g x (wipe σ vs) H' fun σ2 H2 => wipe σ2 vs = wipe σ vs ∧ tt σ2 H2 fun b H3 =>
    if b = true then tk σ2 H3 fun y H4 => tv σ2 H4 fun z H5 => ∃ (kvs : List (List Key × V)) (k : List Key) (b : Addr), y = .ref b ∧ H5 b = some (.tup (k.map kV)) ∧ H5 D = some (.dT kvs) ∧ kvs.length < sizeLine ∧ Nx (upd H5 D (.dT (putK kvs k z))) else Nx H3)) : tDcT wi g tt tk tv vs σ H Q := h
theorem q_itemsT {td : TE} {σ : L2.St} {H : Hp} {R : It → Hp → Prop} {d : Addr} {o : Obj} {kvs : List (List Key × V)} (h : td σ H fun x H1 => x = .ref d ∧ H1 d = some (.frz o (.dT kvs)) ∧ R (ItT d o kvs) H1) (tm : ∀ Q Q' : VK, (∀ v H, Q v H → Q' v H) → td σ H Q → td σ H Q') : iItemsT td σ H R :=
  tm _ _ (fun v H1 ⟨e, h1, q⟩ => ⟨d, o, kvs, e, h1, q⟩) h
theorem putK_take {kvs : List (List Key × V)} {i : Nat} {k : List Key} {v : V} (nd : (kvs.map (·.1)).Nodup) (h : kvs[i]? = some (k, v)) : putK (kvs.take i) k v = kvs.take (i + 1) := by
  have hi := (List.getElem?_eq_some_iff.mp h).1
  have hn : ((kvs.take i).any fun kv => decide (kv.1 = k)) = false := by
    rw [List.any_eq_false]
    intro x hx
    obtain ⟨j, hj⟩ := List.getElem?_of_mem hx
    have hj1 := (List.getElem?_eq_some_iff.mp hj).1
    rw [List.length_take] at hj1
    rw [List.getElem?_take_of_lt (by omega)] at hj
    rw [decide_eq_true_eq]
    intro e
    have a1 : (kvs.map (·.1))[j]? = some k := by rw [List.getElem?_map, hj, ← e]; rfl
    have a2 : (kvs.map (·.1))[i]? = some k := by rw [List.getElem?_map, h]; rfl
    have := (List.getElem?_inj (by rw [List.length_map]; omega) nd).mp (a1.trans a2.symm)
    omega
  unfold putK
  rw [hn, List.take_add_one, h]
  rfl
theorem dcT_copy {K : PySem.W.Frag} {d D : Addr} {o : Obj} {kvs : List (List Key × V)} {i j : Nat} {vs : List Nat} {σ : L2.St} {H1 : Hp} {Qd : Hp → Prop} (hn : kvs.length ≤ 1000) (nd : (kvs.map (·.1)).Nodup) (hd : H1 d = some (.frz o (.dT kvs))) (hD : H1 D = none) (hij : i ≠ j) (hi : i < (wipe σ vs).length) (hj : j < (wipe σ vs).length)
    (hw : ∀ x y, wipe (((wipe σ vs).set i x).set j y) vs = wipe σ vs) (q : ∀ H', Same H1 H' → H' D = some (.dT kvs) → Qd H') :
    ∃ W : Nat → Nat → Hp → Prop, (∃ m, W 0 m (upd H1 D (.dT []))) ∧ ∀ a m H, W a m H →
      ((ItT d o kvs).stop a H ∧ Qd H) ∨ ((ItT d o kvs).go a H ∧ ∃ Nx : Hp → Prop, (∀ H', Nx H' → ∃ m', m' < m ∧ W (a + 1) m' H') ∧ ∀ x H', (ItT d o kvs).yld a H x H' → gTup K 2 (gCons (gName i) (gCons (gName j) gNil)) x (wipe σ vs) H' fun σ2 H2 => wipe σ2 vs = wipe σ vs ∧ tYes σ2 H2 fun b H3 =>
        if b = true then tVar i σ2 H3 fun y H4 => tVar j σ2 H4 fun z H5 => ∃ (kvs : List (List Key × V)) (k : List Key) (b : Addr), y = .ref b ∧ H5 b = some (.tup (k.map kV)) ∧ H5 D = some (.dT kvs) ∧ kvs.length < sizeLine ∧ Nx (upd H5 D (.dT (putK kvs k z))) else Nx H3) := by
  have nDd : d ≠ D := fun e => by rw [e, hD] at hd; cases hd
  refine ⟨fun a m H => a ≤ kvs.length ∧ m = kvs.length - a ∧ Same H1 H ∧ H D = some (.dT (kvs.take a)), ⟨kvs.length, Nat.zero_le _, rfl, Same.new hD, upd_same⟩, ?_⟩
  rintro a m H ⟨ha, rfl, s, e⟩
  by_cases hlt : a < kvs.length
  · refine .inr ⟨⟨s _ _ hd, hlt⟩, fun H' => Same H1 H' ∧ H' D = some (.dT (kvs.take (a + 1))), fun H' p => ⟨kvs.length - (a + 1), by omega, hlt, rfl, p⟩, ?_⟩
    rintro x H' ⟨T, k, v, c, hk, hc, rfl, hT, rfl⟩
    have nT : D ≠ T := fun z => by rw [z, hT] at e; cases e
    have ncT : c ≠ T := fun z => by rw [z, hT] at hc; cases hc
    refine ⟨T, [.ref c, v], rfl, SqT.of upd_same, rfl, .ref c, [v], rfl, v, [], rfl, rfl, hw _ _, ?_⟩
    unfold tYes
    simp only [if_true]
    refine ⟨.ref c, ?_, v, ?_, kvs.take a, k, c, rfl, (upd_ne ncT).trans hc, (upd_ne nT).trans e, line_lt (by rw [List.length_take]; omega), ?_, ?_⟩
    · rw [List.getElem?_set_ne (Ne.symm hij), List.getElem?_set_self hi]
    · rw [List.getElem?_set_self (by rw [List.length_set]; exact hj)]
    · exact (s.trans (Same.new hT)).snew hD
    · rw [putK_take nd hk]; exact upd_same
  · obtain rfl : a = kvs.length := by omega
    rw [List.take_length] at e
    exact .inl ⟨⟨s _ _ hd, Nat.le_refl _⟩, q H s e⟩
theorem q_maxLen {te : TE} {σ : L2.St} {H : Hp} {Q : VK} (h : te σ H fun x H1 => ∃ (l : Addr) (as : List Addr) (n : Nat → Nat), x = .ref l ∧ H1 l = some (.lst (as.map V.ref)) ∧ as ≠ [] ∧ (∀ (i : Nat) (a : Addr), as[i]? = some a → ∃ ys, H1 a = some (.lst ys) ∧ ys.length = n i) ∧ ∀ (i : Nat) (a : Addr), as[i]? = some a → (∀ j, j < as.length → n j ≤ n i) → Q (.ref a) H1)
    (tm : ∀ Q Q' : VK, (∀ v H, Q v H → Q' v H) → te σ H Q → te σ H Q') : tMaxLen te σ H Q := tm _ _ (fun v H1 ⟨l, as, n, e, z⟩ => ⟨l, as, n, by rw [e], z⟩) h
theorem q_maxL {H : Hp} {Q : VK} {l : Addr} {as : List Addr} (n : Nat → Nat) (h1 : H l = some (.lst (as.map V.ref))) (h2 : as ≠ []) (h3 : ∀ (i : Nat) (a : Addr), as[i]? = some a → ∃ ys, H a = some (.lst ys) ∧ ys.length = n i) (q : ∀ (i : Nat) (a : Addr), as[i]? = some a → (∀ j, j < as.length → n j ≤ n i) → Q (.ref a) H) : rMaxLen [.ref l] H Q := ⟨l, as, n, rfl, h1, h2, h3, q⟩
theorem q_mxl {te : TE} {σ : L2.St} {H : Hp} {Q : VK} (h : te σ H fun x H1 => rMaxLen [x] H1 Q) : tMaxLen te σ H Q := h
theorem q_itT {td : TE} {σ : L2.St} {H : Hp} {R : It → Hp → Prop} (h : td σ H fun x H1 => ∃ (d : Addr) (o : Obj) (kvs : List (List Key × V)), x = .ref d ∧ H1 d = some (.frz o (.dT kvs)) ∧ R (ItT d o kvs) H1) : iItemsT td σ H R := h
theorem zk_keys : ∀ {ks : List (Int × Int)} {cl : List Addr}, ks.length = cl.length → (zk ks cl).map (·.1) = ks.map keyOf
  | [], _, _ => rfl
  | k :: ks, [], h => by simp at h
  | k :: ks, a :: cl, h => by
    show keyOf k :: (zk ks cl).map (·.1) = _
    rw [zk_keys (by simpa using h)]
    rfl
theorem zk_nodup {ks : List (Int × Int)} {cl : List Addr} (h : ks.length = cl.length) (nd : ks.Nodup) : ((zk ks cl).map (·.1)).Nodup := by
  rw [zk_keys h]
  exact List.Pairwise.map _ (fun a b n e => n (keyOf_inj e)) nd
/-- lists made one behind the other, each with at most n things -/
def FewD (D : Addr) (H1 : Hp) (n i : Nat) (ys : List V) (H : Hp) : Prop := ∃ l : List Addr, ys = l.map V.ref ∧ l.length = i ∧ l.Nodup ∧ ∀ a ∈ l, (∃ xs, H a = some (.lst xs) ∧ xs.length ≤ n) ∧ H1 a = none ∧ a ≠ D
theorem FewD.zero {D : Addr} {H1 H : Hp} {n : Nat} : FewD D H1 n 0 [] H := ⟨[], rfl, rfl, List.nodup_nil, fun a h => nomatch h⟩
theorem FewD.same {D : Addr} {H1 H H' : Hp} {n i : Nat} {ys : List V} (h : FewD D H1 n i ys H) (s : Same H H') : FewD D H1 n i ys H' := by
  obtain ⟨l, h1, h2, h3, h4⟩ := h
  exact ⟨l, h1, h2, h3, fun a ha => ⟨(h4 a ha).1.imp fun _ z => ⟨s _ _ z.1, z.2⟩, (h4 a ha).2⟩⟩
theorem FewD.put {D : Addr} {H1 H : Hp} {n i : Nat} {ys : List V} {o : HO} (h : FewD D H1 n i ys H) : FewD D H1 n i ys (upd H D o) := by
  obtain ⟨l, h1, h2, h3, h4⟩ := h
  exact ⟨l, h1, h2, h3, fun a ha => ⟨(h4 a ha).1.imp fun _ z => ⟨(upd_ne (h4 a ha).2.2).trans z.1, z.2⟩, (h4 a ha).2⟩⟩
theorem FewD.snoc {D z : Addr} {H1 H H' : Hp} {n i : Nat} {ys xs : List V} (h : FewD D H1 n i ys H) (s : Same H H') (f1 : H1 z = none) (f : H z = none) (e : H' z = some (.lst xs)) (hx : xs.length ≤ n) (nz : z ≠ D) : FewD D H1 n (i + 1) (ys ++ [.ref z]) H' := by
  obtain ⟨l, rfl, rfl, h3, h4⟩ := h
  refine ⟨l ++ [z], by simp, by simp, List.nodup_append.mpr ⟨h3, by simp, fun x hx y hy e2 => ?_⟩, fun a ha => ?_⟩
  · rw [List.mem_singleton.mp hy] at e2
    obtain ⟨us, w, _⟩ := (h4 x hx).1
    rw [e2, f] at w
    cases w
  · rcases List.mem_append.mp ha with ha | ha
    · exact ⟨(h4 a ha).1.imp fun _ z => ⟨s _ _ z.1, z.2⟩, (h4 a ha).2⟩
    · rw [List.mem_singleton.mp ha]
      exact ⟨⟨xs, e, hx⟩, f1, nz⟩
/-- lists of pairs made one behind the other -/
def PrsD (D : Addr) (f : Nat → List (Int × Int)) (i : Nat) (ys : List V) (H : Hp) : Prop := ∃ l : List Addr, ys = l.map V.ref ∧ l.length = i ∧ ∀ (j : Nat) (a : Addr), l[j]? = some a → a ≠ D ∧ ∃ xs, H a = some (.lst xs) ∧ All2 (PairD D H) xs (f j)
theorem PrsD.zero {D : Addr} {f : Nat → List (Int × Int)} {H : Hp} : PrsD D f 0 [] H := ⟨[], rfl, rfl, fun j a h => by simp at h⟩
theorem PrsD.same {D : Addr} {f : Nat → List (Int × Int)} {i : Nat} {ys : List V} {H H' : Hp} (h : PrsD D f i ys H) (s : Same H H') : PrsD D f i ys H' := by
  obtain ⟨l, h1, h2, h3⟩ := h
  exact ⟨l, h1, h2, fun j a e => ⟨(h3 j a e).1, (h3 j a e).2.imp fun _ z => ⟨s _ _ z.1, z.2.mono fun _ _ q => q.same s⟩⟩⟩
theorem PrsD.put {D : Addr} {f : Nat → List (Int × Int)} {i : Nat} {ys : List V} {H : Hp} {o : HO} (h : PrsD D f i ys H) : PrsD D f i ys (upd H D o) := by
  obtain ⟨l, h1, h2, h3⟩ := h
  exact ⟨l, h1, h2, fun j a e => ⟨(h3 j a e).1, (h3 j a e).2.imp fun _ z => ⟨(upd_ne (h3 j a e).1).trans z.1, z.2.mono fun _ _ q => q.upd⟩⟩⟩
theorem PrsD.snoc {D z : Addr} {f : Nat → List (Int × Int)} {i : Nat} {ys xs : List V} {H H' : Hp} (h : PrsD D f i ys H) (s : Same H H') (nz : z ≠ D) (e : H' z = some (.lst xs)) (hx : All2 (PairD D H') xs (f i)) : PrsD D f (i + 1) (ys ++ [.ref z]) H' := by
  obtain ⟨l, rfl, rfl, h3⟩ := h
  refine ⟨l ++ [z], by simp, by simp, fun j a ea => ?_⟩
  by_cases hj : j < l.length
  · rw [List.getElem?_append_left hj] at ea
    exact ⟨(h3 j a ea).1, (h3 j a ea).2.imp fun _ z => ⟨s _ _ z.1, z.2.mono fun _ _ q => q.same s⟩⟩
  · have hl := (List.getElem?_eq_some_iff.mp ea).1
    rw [List.length_append] at hl
    have hl : j < l.length + 1 := hl
    obtain rfl : j = l.length := by omega
    rw [List.getElem?_append_right (Nat.le_refl _), Nat.sub_self] at ea
    obtain rfl : z = a := Option.some.inj ea
    exact ⟨nz, xs, e, hx⟩
theorem PairD.of {D : Addr} {H : Hp} {x : V} {c : Int × Int} (h : PairAt H x c) (n : ∀ i, x = .ref i → i ≠ D) : PairD D H x c := by
  obtain ⟨i, e, h⟩ := h
  exact ⟨i, e, n i e, h⟩

/-! ### ids as keys: their hashes are apart -/
def idH (c : Int × Int) : Int := PySem.reduceHash (PySem.Builtin.Tuple.tupleHashOf [PySem.hashInt c.1, PySem.hashInt c.2])
theorem idH_eq {P : Program} {w : World} {c : Int × Int} : (PySem.tupleKind (mixKind P w)).hash (keyOf c) = idH c := rfl
def idsL : List (Int × Int) := (List.range 5).flatMap fun s => (List.range 30).map fun n => (((s : Nat) : Int), ((n : Nat) : Int) + 1)
theorem idsL_apart : (idsL.map idH).Nodup := by decide +kernel
theorem mem_idsL {c : Int × Int} (h0 : 0 ≤ c.1) (h1 : c.1 ≤ 4) (h2 : 1 ≤ c.2) (h3 : c.2 ≤ 30) : c ∈ idsL := by
  obtain ⟨s, n⟩ := c
  obtain ⟨s, rfl⟩ := Int.eq_ofNat_of_zero_le h0
  obtain ⟨n, rfl⟩ := Int.eq_ofNat_of_zero_le (show 0 ≤ n by have : 1 ≤ n := h2; omega)
  have h1 : (s : Int) ≤ 4 := h1
  have h2 : 1 ≤ (n : Int) := h2
  have h3 : (n : Int) ≤ 30 := h3
  refine List.mem_flatMap.mpr ⟨s, List.mem_range.mpr (by omega), List.mem_map.mpr ⟨n - 1, List.mem_range.mpr (by omega), ?_⟩⟩
  rw [show ((n - 1 : Nat) : Int) + 1 = n by omega]
theorem idH_inj {c d : Int × Int} (hc : c ∈ idsL) (hd : d ∈ idsL) (e : idH c = idH d) : c = d := by
  have p := List.pairwise_iff_getElem.mp (List.pairwise_map.mp idsL_apart)
  obtain ⟨i, hi, rfl⟩ := List.getElem_of_mem hc
  obtain ⟨j, hj, rfl⟩ := List.getElem_of_mem hd
  rcases Nat.lt_trichotomy i j with l | l | l
  · exact absurd e (p i j hi hj l)
  · subst l
    rfl
  · exact absurd e.symm (p j i hj hi l)
theorem apart_ids {P : Program} {w : World} {kvs : List (List Key × V)} {cs : List (Int × Int)} (h : kvs.map (·.1) = cs.map keyOf) (hn : cs.Nodup) (hb : ∀ c ∈ cs, 0 ≤ c.1 ∧ c.1 ≤ 4 ∧ 1 ≤ c.2 ∧ c.2 ≤ 30) : CH.HashesApart P w kvs := by
  unfold CH.HashesApart
  rw [show (kvs.map fun p => (PySem.tupleKind (mixKind P w)).hash p.1) = (kvs.map (·.1)).map (PySem.tupleKind (mixKind P w)).hash from (List.map_map ..).symm ▸ rfl, h, List.map_map]
  have e : ((PySem.tupleKind (mixKind P w)).hash ∘ keyOf) = idH := rfl
  rw [e]
  refine List.pairwise_map.mpr (hn.imp_of_mem fun hc hd ne e => ne ?_)
  obtain ⟨a1, a2, a3, a4⟩ := hb _ hc
  obtain ⟨b1, b2, b3, b4⟩ := hb _ hd
  exact idH_inj (mem_idsL a1 a2 a3 a4) (mem_idsL b1 b2 b3 b4) e
section
variable {P : Program} {w : World} {H : Hp} {Q : VK} {a b : Addr} {kvs more : List (List Key × V)}
theorem q_updT (ha : H a = some (.dT kvs)) (hb : H b = some (.dT more)) (nab : a ≠ b) (hap : CH.HashesApart P w more) (hz : kvs.length + more.length ≤ sizeLine) (q : Q .non (upd H a (.dT (CH.putAll kvs more)))) : CH.rUpdT P w (.ref a) [.ref b] H Q := ⟨a, b, kvs, more, rfl, rfl, nab, ha, hb, hap, hz, q⟩
theorem q_dictT (ha : H a = some (.dT kvs)) (hap : CH.HashesApart P w kvs) (q : ∀ p, H p = none → Q (.ref p) (upd H p (.dT kvs))) : CH.rDictT P w [.ref a] H Q := ⟨a, kvs, rfl, ha, hap, q⟩
end

local macro_rules | `(tactic| walk_at "at") => `(tactic| first | assumption | with_reducible exact at0 | with_reducible exact at1 | with_reducible exact at2 | with_reducible exact at3 | with_reducible exact at4 | fail)
/-! ### steps: side conditions (sd), what stands at an address (lk, sq), a reading's next steps (rd) -/
local macro_rules | `(tactic| walk_at "ne") => `(tactic| first | assumption | (apply Ne.symm; assumption) | (refine' ne_of_none ?h1 ?h2; (case h1 => assumption); (case h2 => walk_at "fr")) | (refine' ne_of_none upd_same ?h2; (case h2 => walk_at "fr")) | (apply Ne.symm; refine' ne_of_none ?h1 ?h2; (case h1 => assumption); (case h2 => walk_at "fr")) | (apply Ne.symm; refine' ne_of_none upd_same ?h2; (case h2 => walk_at "fr")) | (refine' ne_of_none ?h1 ?h2; (case h2 => assumption); (case h1 => walk_at "lk")) | (apply Ne.symm; refine' ne_of_none ?h1 ?h2; (case h2 => assumption); (case h1 => walk_at "lk")) | fail)
local macro_rules | `(tactic| walk_at "lk") => `(tactic| first | assumption | exact upd_same | (refine' Eq.trans (upd_ne ?h1) ?h2; (case h1 => walk_at "ne"); (case h2 => walk_at "lk")) | (refine' same_at ?h1 ?h2; (case h1 => assumption); (case h2 => walk_at "lk")) | (refine' fr1_at ?h1 ?h2 ?h3; (case h1 => assumption); (case h2 => walk_at "ne"); (case h3 => walk_at "lk")) | fail)
local macro_rules | `(tactic| walk_at "sq") => `(tactic| first | assumption | ((with_reducible refine' SqL.of ?h1); (case h1 => walk_at "lk")) | ((with_reducible refine' SqT.of ?h1); (case h1 => walk_at "lk")) | ((with_reducible refine' Same.seq ?h1 ?h2); (case h1 => assumption); (case h2 => walk_at "sq")) | ((with_reducible refine' Same.seqT ?h1 ?h2); (case h1 => assumption); (case h2 => walk_at "sq")) | fail)
local macro_rules | `(tactic| walk_at "sd") => `(tactic| first | omega | (dsimp only; omega) | (simp only [PySem.Str.length_append]; omega) | with_reducible assumption | assumption | (simp; done) | (simp; omega) | decide | rfl | fail)
local macro_rules | `(tactic| walk_at "sdI") => `(tactic| first | (show (0:Int) < _; walk_at "sd") | exact wide_div (b := 8000) (by walk_at "sd") (by walk_at "sd") (by decide) (by decide) | exact Or.inr ⟨by walk_at "sd", by walk_at "sd"⟩ | exact Or.inl ⟨by walk_at "sd", by walk_at "sd"⟩ | exact ⟨by walk_at "sd", by walk_at "sd", by walk_at "sd"⟩ | walk_at "sd" | fail)
local macro_rules | `(tactic| walk_at "rd0") => `(tactic| first
  | with_reducible refine q_seq ?_ | with_reducible refine q_asg ?_ | with_reducible refine q_op ?_ | ((with_reducible refine' q_var ?h1 ?_); (case h1 => exact rfl)) | with_reducible refine q_c ?_
  | with_reducible refine q_gname ?_ | with_reducible refine q_test ?_ | with_reducible refine q_k ?_ | with_reducible refine q_cons ?_ | with_reducible refine q_nil ?_ | with_reducible refine q_cb ?_ | with_reducible refine q_call0 ?_ | ((with_reducible refine q_call ?_))
  | with_reducible refine q_if ?_ | with_reducible refine q_ret ?_ | with_reducible refine q_retN ?_ | with_reducible refine q_drop ?_ | with_reducible refine q_next ?_ | with_reducible refine q_brk ?_ | with_reducible refine q_cont ?_
  | with_reducible refine q_ifN ?_ | with_reducible refine q_ifA ?_ | with_reducible refine q_ifO ?_ | with_reducible refine q_ift ?_ | with_reducible refine q_iff ?_
  | with_reducible refine q_un ?_ | with_reducible refine q_B ?_ | with_reducible refine q_and ?_ | with_reducible refine q_or ?_ | with_reducible refine q_not ?_ | with_reducible refine q_andV ?_ | with_reducible refine q_orV ?_ | with_reducible refine q_notV ?_ | with_reducible refine q_ifE ?_ | with_reducible refine q_chain ?_
  | with_reducible refine q_gsub ?_ | with_reducible refine q_gnil ?_ | with_reducible refine q_gcons ?_ | with_reducible refine q_fld ?_ | with_reducible refine q_sl ?_ | with_reducible refine q_nopart ?_ | with_reducible refine q_part ?_ | with_reducible refine q_i ?_ | with_reducible refine q_bm ?_
  | with_reducible refine q_lst ?_ | with_reducible refine q_tup ?_ | ((with_reducible refine q_new ?h1 ?_); (case h1 => walk_at "sd"))
  | with_reducible refine q_I0 ?_ | ((with_reducible refine q_I ?h1 ?_); (case h1 => walk_at "sdI")) | with_reducible refine q_U ?_
  | with_reducible refine q_eqI ?_ | with_reducible refine q_eqS ?_ | with_reducible refine q_eqB ?_ | ((with_reducible refine q_eq0 ?h1 ?h2 ?_); (case h1 => rfl); (case h2 => (intro z; cases z)))
  | with_reducible refine q_neI ?_ | with_reducible refine q_neS ?_ | with_reducible refine q_neB ?_ | ((with_reducible refine q_ne0 ?h1 ?h2 ?_); (case h1 => rfl); (case h2 => (intro z; cases z)))
  | with_reducible refine q_isT ?_ | with_reducible refine q_isF ?_ | with_reducible refine q_notT ?_ | with_reducible refine q_notF ?_ | with_reducible refine q_isB ?_ | with_reducible refine q_notB ?_ | with_reducible refine q_isNonT ?_ | ((with_reducible refine q_isNonF ?h1 ?_); (case h1 => (intro z; cases z))) | with_reducible refine q_notNonF ?_ | ((with_reducible refine q_notNonT ?h1 ?_); (case h1 => (intro z; cases z)))
  | ((with_reducible refine' q_ixL ?h1 ?h2 ?_); (case h1 => walk_at "sq"); (case h2 => walk_at "at"))
  | ((with_reducible refine' q_ixT ?h1 ?h2 ?_); (case h1 => walk_at "sq"); (case h2 => walk_at "at"))
  | ((with_reducible refine' q_ixS ?h1 ?h2 ?_); (case h1 => walk_at "sd"); (case h2 => walk_at "at"))
  | ((with_reducible refine' q_setL ?h1 ?h2 ?_); (case h1 => walk_at "lk"); (case h2 => rfl))
  | ((with_reducible refine' q_append ?h1 ?h2 ?_); (case h1 => walk_at "lk"); (case h2 => (refine line_lt ?_; walk_at "sd")))
  | ((with_reducible refine' q_tyL ?h1 ?_); (case h1 => walk_at "lk"))
  | ((with_reducible refine' q_slL ?h1 ?_); (case h1 => walk_at "sq"))
  | ((with_reducible refine' q_cat ?h1 ?h2 ?h3 ?_); (case h1 => walk_at "lk"); (case h2 => walk_at "lk"); (case h3 => (refine line_of ?_; walk_at "sd")))
  | ((with_reducible refine q_addStr ?h1 ?_); (case h1 => (refine line_of ?_; walk_at "sd"))) | with_reducible refine q_ltStr ?_ | ((with_reducible refine' q_leStr1 ?h1 ?h2 ?_); (case h1 => (first | assumption | exact rfl)); (case h2 => (first | assumption | exact rfl))) | with_reducible refine q_leStr ?_ | ((with_reducible refine' q_all ?h1 ?_); (case h1 => walk_at "sq")) | ((with_reducible refine' q_any ?h1 ?_); (case h1 => walk_at "sq")) | with_reducible refine q_inSign ?_
  | ((with_reducible refine q_lenS ?h1 ?_); (case h1 => (refine line_of ?_; walk_at "sd"))) | ((with_reducible refine' q_lenL ?h1 ?_); (case h1 => walk_at "sq")) | ((with_reducible refine' q_lenT ?h1 ?_); (case h1 => walk_at "sq"))
  | ((with_reducible refine q_slS ?h1 ?_); (case h1 => (refine line_of ?_; walk_at "sd"))) | with_reducible refine q_callN ?_ | with_reducible refine q_2 rfl rfl ?_ | with_reducible refine q_make0 ?_ | with_reducible refine q_meth0 ?_
  | with_reducible refine q_for ?_ | with_reducible refine q_lc ?_ | with_reducible refine q_rng1 ?_ | ((with_reducible refine q_rng1b ?h1 ?h2 ?_); (case h1 => walk_at "sd"); (case h2 => walk_at "sd")) | with_reducible refine q_iList ?_ | ((with_reducible refine' q_iListb ?h1 ?_); (case h1 => walk_at "sq")) | with_reducible refine q_iStr ?_ | with_reducible refine q_iStrb ?_
  | ((with_reducible refine' q_listL ?h1 ?_); (case h1 => walk_at "sq")) | ((with_reducible refine' q_listT ?h1 ?_); (case h1 => walk_at "sq")) | ((with_reducible refine' q_tupleL ?h1 ?_); (case h1 => walk_at "sq")) | ((with_reducible refine' q_tupleT ?h1 ?_); (case h1 => walk_at "sq")) | ((with_reducible refine' q_sum ?h1 ?_); (case h1 => walk_at "sq"))
  | ((with_reducible refine' q_eqDt ?h1 ?h2 ?h3 ?h4 ?h5 ?_); (case h1 => walk_at "dp"); (case h2 => walk_at "dp"); (case h3 => exact rfl); (case h4 => exact rfl); (case h5 => walk_at "eqv"))
  | with_reducible refine q_dnewK ?_ | with_reducible refine q_disp ?_ | with_reducible refine q_pairs0 ?_ | with_reducible refine q_pairs ?_
  | ((with_reducible refine' q_isiT ?h1 ?h2 ?h3 ?h4 ?_); (case h1 => walk_at "lk"); (case h2 => walk_at "prd"); (case h3 => walk_at "tyx"); (case h4 => walk_at "kia"))
  | with_reducible refine q_sfld ?_ | ((with_reducible refine' q_sfldb ?h1 ?h2 ?h3 ?h4 ?_); (case h1 => walk_at "lk"); (case h2 => walk_at "cls"); (case h3 => walk_at "noa"); (case h4 => walk_at "sd")) | ((with_reducible refine' q_fldb ?h1 ?h2 ?h3 ?h4 ?_); (case h1 => walk_at "lk"); (case h2 => walk_at "cls"); (case h3 => walk_at "noa"); (case h4 => walk_at "lu"))
  | with_reducible refine q_nn ?_
  | with_reducible refine q_max2 ?_ | with_reducible refine q_min2 ?_
  | ((with_reducible refine' q_isi ?h1 ?h2 ?h3 ?_); (case h1 => (first | exact ClsV.ty _ | exact ClsV.own _)); (case h2 => walk_at "tyx"); (case h3 => walk_at "kit")) | fail)
local macro_rules | `(tactic| walk_at "tyx") => `(tactic| first | assumption | exact .base (.int _) | exact .base (.str _) | exact .base (.bl _) | exact .base .non | exact .base (.lst (by assumption)) | exact .base (.tup (by assumption)) | exact .base (.dK (by assumption)) | walk_at "tya" | walk_at "tyo" | ((with_reducible refine' .base (.lst ?h1)); (case h1 => walk_at "lk")) | ((with_reducible refine' .base (.tup ?h1)); (case h1 => walk_at "lk")) | ((with_reducible refine' .base (.dK ?h1)); (case h1 => walk_at "lk")) | (refine' TyX.mono ?h1 ?h2; (case h1 => assumption); (case h2 => walk_at "sm")) | fail)
local macro_rules | `(tactic| walk_at "kit") => `(tactic| first | assumption | walk_at "kio" | with_reducible exact kt_NoneType_int | with_reducible exact kt_NoneType_str | with_reducible exact kt_NoneType_bool | with_reducible exact kt_NoneType_list | with_reducible exact kt_NoneType_tuple | with_reducible exact kt_NoneType_dict | with_reducible exact kt_bool_int | with_reducible exact kt_bool_str | with_reducible exact kt_bool_bool | with_reducible exact kt_bool_list | with_reducible exact kt_bool_tuple | with_reducible exact kt_bool_dict | with_reducible exact kt_int_int | with_reducible exact kt_int_str | with_reducible exact kt_int_bool | with_reducible exact kt_int_list | with_reducible exact kt_int_tuple | with_reducible exact kt_int_dict | with_reducible exact kt_str_int | with_reducible exact kt_str_str | with_reducible exact kt_str_bool | with_reducible exact kt_str_list | with_reducible exact kt_str_tuple | with_reducible exact kt_str_dict | with_reducible exact kt_list_int | with_reducible exact kt_list_str | with_reducible exact kt_list_bool | with_reducible exact kt_list_list | with_reducible exact kt_list_tuple | with_reducible exact kt_list_dict | with_reducible exact kt_tuple_int | with_reducible exact kt_tuple_str | with_reducible exact kt_tuple_bool | with_reducible exact kt_tuple_list | with_reducible exact kt_tuple_tuple | with_reducible exact kt_tuple_dict | with_reducible exact kt_dict_int | with_reducible exact kt_dict_str | with_reducible exact kt_dict_bool | with_reducible exact kt_dict_list | with_reducible exact kt_dict_tuple | with_reducible exact kt_dict_dict | fail)
local macro_rules | `(tactic| walk_at "rd") => `(tactic| repeat (first | walk_at "rd0" | walk_at "rc" | ((with_reducible refine q_ifd ?h1 ?_); (case h1 => walk_at "cd")) | ((with_reducible refine q_ifn ?h1 ?_); (case h1 => walk_at "cd")) | intro _))
local macro_rules | `(tactic| walk_at "sp") => `(tactic| first | with_reducible refine q_ifx (fun _ => ?_) (fun _ => ?_) | with_reducible refine q_ifs (fun _ => ?_) (fun _ => ?_) | fail)
local macro_rules | `(tactic| walk_at "rdx") => `(tactic| (walk_at "rd"; (try (walk_at "sp" <;> walk_at "rdx"))))
local macro_rules | `(tactic| walk_at "sv") => `(tactic| first | rfl | (simp_all; done) | (simp_all; omega) | (simp_all <;> intros <;> omega) | (simp; omega) | fail)
local macro_rules | `(tactic| walk_at "dp") => `(tactic| first | assumption | exact Dp.int _ | exact Dp.bl _ | exact Dp.str _ | exact Dp.non | ((with_reducible refine' Dp.lst ?h1 ?h2); (case h1 => walk_at "sq"); (case h2 => walk_at "dps")) | ((with_reducible refine' Dp.tup ?h1 ?h2); (case h1 => walk_at "sq"); (case h2 => walk_at "dps")) | fail)
local macro_rules | `(tactic| walk_at "dps") => `(tactic| first | assumption | exact DpAll.nil | ((with_reducible refine' DpAll.cons ?h1 ?h2); (case h1 => walk_at "dp"); (case h2 => walk_at "dps")) | fail)
local macro_rules | `(tactic| walk_at "rf") => `(tactic| first | assumption | exact cs_0 | exact cs_9 | exact cs_a | exact cs_z | exact rfl | fail)
local macro_rules | `(tactic| walk_at "fr") => `(tactic| first | assumption | exact upd_free (by assumption) | exact upd_free (upd_free (by assumption)) | exact upd_free (upd_free (upd_free (by assumption))) | exact upd_free (upd_free (upd_free (upd_free (by assumption)))) | exact upd_free (upd_free (upd_free (upd_free (upd_free (by assumption))))) | exact upd_free (upd_free (upd_free (upd_free (upd_free (upd_free (by assumption)))))) | exact upd_free (upd_free (upd_free (upd_free (upd_free (upd_free (upd_free (by assumption))))))) | exact upd_free (upd_free (upd_free (upd_free (upd_free (upd_free (upd_free (upd_free (by assumption)))))))) | exact upd_free (upd_free (upd_free (upd_free (upd_free (upd_free (upd_free (upd_free (upd_free (by assumption))))))))) | exact upd_free (upd_free (upd_free (upd_free (upd_free (upd_free (upd_free (upd_free (upd_free (upd_free (by assumption)))))))))) | exact upd_free (upd_free (upd_free (upd_free (upd_free (upd_free (upd_free (upd_free (upd_free (upd_free (upd_free (by assumption))))))))))) | exact upd_free (upd_free (upd_free (upd_free (upd_free (upd_free (upd_free (upd_free (upd_free (upd_free (upd_free (upd_free (by assumption)))))))))))) | exact upd_free (upd_free (upd_free (upd_free (upd_free (upd_free (upd_free (upd_free (upd_free (upd_free (upd_free (upd_free (upd_free (by assumption))))))))))))) | exact upd_free (upd_free (upd_free (upd_free (upd_free (upd_free (upd_free (upd_free (upd_free (upd_free (upd_free (upd_free (upd_free (upd_free (by assumption)))))))))))))) | exact upd_free (upd_free (upd_free (upd_free (upd_free (upd_free (upd_free (upd_free (upd_free (upd_free (upd_free (upd_free (upd_free (upd_free (upd_free (by assumption))))))))))))))) | (refine' Same.free ?h1 ?h2; (case h1 => assumption); (case h2 => walk_at "fr")) | fail)
local macro_rules | `(tactic| walk_at "sm") => `(tactic| first | assumption | exact Same.refl _ | (refine Same.snew ?h1 ?h2; (case h2 => walk_at "fr"); (case h1 => walk_at "sm")) | (refine' Same.fr1 ?h1 ?h2 ?h3; (case h2 => assumption); (case h3 => walk_at "fr"); (case h1 => walk_at "sm")) | (refine' Same.trans ?h1 ?h2; (case h2 => assumption); (case h1 => walk_at "sm")) | fail)
local macro_rules | `(tactic| walk_at "eqv") => `(tactic| first | (simp [PyData.eqv, PyData.eqvAll, *]; done) | (simp_all [PyData.eqv, PyData.eqvAll]; done) | fail)
local macro_rules | `(tactic| walk_at "prd") => `(tactic| first | exact Paired.nil | (refine' Paired.cons ?h1 ?h2; (case h1 => (first | exact ClsV.ty _ | exact ClsV.own _)); (case h2 => walk_at "prd")) | fail)
local macro_rules | `(tactic| walk_at "kia") => `(tactic| first | assumption | exact ka_nil | exact ka_t (by walk_at "kit") | (refine ka_f (by walk_at "kit") ?_; walk_at "kia") | fail)
local macro_rules | `(tactic| walk_at "lu") => `(tactic| first | assumption | with_reducible exact lu_hd | (refine Eq.trans (lu_tl (by decide +kernel)) ?_; walk_at "lu") | fail)
local macro_rules | `(tactic| walk_at "nn") => `(tactic| first | assumption | exact NN.nil | (refine NN.cons (by walk_at "sd") ?_; walk_at "nn") | fail)
local macro_rules | `(tactic| walk_at "rdn") => `(tactic| repeat (first | walk_at "rd0" | walk_at "rc" | ((with_reducible refine q_ifd ?h1 ?_); (case h1 => walk_at "cd")) | ((with_reducible refine q_ifn ?h1 ?_); (case h1 => walk_at "cd"))))

local macro_rules | `(tactic| walk_at "as") => `(tactic| first | assumption | fail)
local macro_rules | `(tactic| walk_at "lun") => `(tactic| first | assumption | exact lu_nil | (refine lu_tlN (by decide +kernel) ?_; walk_at "lun") | fail)
local macro_rules | `(tactic| walk_at "xm") => `(tactic| first
  | walk_at "xm1"
  | (refine' Eq.trans (xa_cons ?h1 (xa_cons ?h2 xa_nil)) ?h3; (case h1 => walk_at "xm1"); (case h2 => walk_at "xm1"); (case h3 => exact rfl))
  | (refine' Eq.trans (xa_cons ?h1 (xa_cons ?h2 (xa_cons ?h4 xa_nil))) ?h3; (case h1 => walk_at "xm1"); (case h2 => walk_at "xm1"); (case h4 => walk_at "xm1"); (case h3 => exact rfl))
  | (refine' Eq.trans (xa_cons ?h1 (xa_cons ?h2 (xa_cons ?h4 (xa_cons ?h5 xa_nil)))) ?h3; (case h1 => walk_at "xm1"); (case h2 => walk_at "xm1"); (case h4 => walk_at "xm1"); (case h5 => walk_at "xm1"); (case h3 => exact rfl)) | fail)
local macro_rules | `(tactic| walk_at "e1") => `(tactic| first | assumption | exact E1.same _ | exact e1_str | exact e1_int | exact e1_bl | exact e1_non | fail)
local macro_rules | `(tactic| walk_at "e1s") => `(tactic| first | assumption | exact E1s.nil | ((with_reducible refine' E1s.cons ?h1 ?h2); (case h1 => walk_at "e1"); (case h2 => walk_at "e1s")) | fail)
local macro_rules | `(tactic| walk_at "rd0") => `(tactic| first
  | with_reducible refine q_raise ?_ | with_reducible refine q_try ?_ | with_reducible refine q_wE ?_
  | ((with_reducible refine' q_clN ?h1 ?_); (case h1 => walk_at "xm")) | ((with_reducible refine' q_clN0 ?h1 ?_); (case h1 => walk_at "xm"))
  | ((with_reducible refine' q_clP ?h1 ?_); (case h1 => walk_at "xm")) | ((with_reducible refine' q_clP0 ?h1 ?_); (case h1 => walk_at "xm"))
  | with_reducible refine q_xg ?_ | ((with_reducible refine' q_xgb ?h1 ?h2 ?h3 ?h4 ?_); (case h1 => walk_at "lk"); (case h2 => walk_at "xf"); (case h3 => walk_at "xn"); (case h4 => walk_at "lu"))
  | ((with_reducible refine' q_isX ?h1 ?h2 ?h3 ?h4 ?_); (case h1 => walk_at "lk"); (case h2 => walk_at "xc"); (case h3 => (first | exact ClsV.ty _ | exact ClsV.own _)); (case h4 => walk_at "kit"))
  | with_reducible refine q_callSD ?_ | with_reducible refine q_methE ?_ | with_reducible refine q_makeE ?_ | ((with_reducible refine' q_methb ?h1 ?h2 ?_); (case h1 => walk_at "lk"); (case h2 => walk_at "lun"))
  | ((with_reducible refine' q_lenO ?h1 ?_); (case h1 => walk_at "lk")) | ((with_reducible refine' q_lenI ?h1 ?h2 ?_); (case h1 => walk_at "sd"); (case h2 => walk_at "sd"))
  | ((with_reducible refine' q_eqO ?h1 ?h2 ?_); (case h1 => walk_at "lk"); (case h2 => walk_at "lk")) | with_reducible refine q_bz ?_
  | ((with_reducible refine' q_fldP ?h1 ?h2 ?h3 ?h4 ?_); (case h1 => walk_at "lk"); (case h2 => walk_at "cls"); (case h3 => walk_at "noa"); (case h4 => walk_at "lu"))
  | ((with_reducible refine' q_eqTI ?h1 ?h2 ?_); (case h1 => walk_at "sq"); (case h2 => walk_at "sq")) | ((with_reducible refine' q_neTI ?h1 ?h2 ?_); (case h1 => walk_at "sq"); (case h2 => walk_at "sq")) | ((with_reducible refine' q_eqLI ?h1 ?h2 ?_); (case h1 => walk_at "sq"); (case h2 => walk_at "sq")) | ((with_reducible refine' q_neLI ?h1 ?h2 ?_); (case h1 => walk_at "sq"); (case h2 => walk_at "sq"))
  | with_reducible refine q_revL ?_ | ((with_reducible refine' q_revLb ?h1 ?_); (case h1 => walk_at "sq")) | with_reducible refine q_iTup ?_ | ((with_reducible refine' q_iTupb ?h1 ?_); (case h1 => walk_at "sq"))
  | with_reducible refine q_intB ?_ | with_reducible refine q_intI ?_ | with_reducible refine q_yes ?_ | ((with_reducible refine' q_ixL ?h1 ?h2 ?_); (case h1 => walk_at "sq"); (case h2 => (refine atI_map ?_; walk_at "sd")))
  | with_reducible refine q_zipA ?_ | ((with_reducible refine' q_zipT ?h1 ?h2 ?_); (case h1 => walk_at "sq"); (case h2 => walk_at "sq")) | ((with_reducible refine' q_gtup ?h1 ?h2 ?_); (case h1 => walk_at "sq"); (case h2 => exact rfl))
  | ((with_reducible refine' q_neXT ?h1 ?h2 ?h3 ?_); (case h1 => walk_at "sq"); (case h2 => walk_at "sq"); (case h3 => walk_at "e1s")) | ((with_reducible refine' q_eqXT ?h1 ?h2 ?h3 ?_); (case h1 => walk_at "sq"); (case h2 => walk_at "sq"); (case h3 => walk_at "e1s")) | fail)
local macro_rules | `(tactic| walk_at "sd") => `(tactic| first | omega | (simp only [List.length_map, List.length_range, List.length_cons, List.length_nil, List.length_append, List.length_zip, List.length_zipWith] at *; omega) | fail)
local macro_rules | `(tactic| walk_at "cd") => `(tactic| first | assumption | omega | (simp only [List.length_map, List.length_range, List.length_cons, List.length_nil, List.length_append]; omega) | with_reducible decide | exact rfl | fail)

local macro_rules | `(tactic| walk_at "at") => `(tactic| first | with_reducible exact at0z | with_reducible exact at1z | with_reducible exact at2z | fail)

local macro_rules | `(tactic| walk_at "rd0") => `(tactic| first
  | with_reducible refine q_meth0 ?_ | with_reducible refine q_methd ?_ | with_reducible refine q_methE ?_ | with_reducible refine q_methEd ?_ | with_reducible refine q_methN ?_ | with_reducible refine q_enumT ?_ | ((with_reducible refine' q_enumTb ?h1 ?_); (case h1 => walk_at "sq"))
  | ((with_reducible refine' q_insert ?h1 ?h2 ?h3 ?h4 ?_); (case h1 => walk_at "lk"); (case h2 => (refine line_lt ?_; walk_at "sd")); (case h3 => walk_at "sd"); (case h4 => walk_at "sd"))
  | ((with_reducible refine' q_ixL ?h1 ?h2 ?_); (case h1 => walk_at "sq"); (case h2 => ((with_reducible refine atI_mapN ?_); walk_at "sd")))
  | ((with_reducible refine' q_ixT ?h1 ?h2 ?_); (case h1 => walk_at "sq"); (case h2 => ((with_reducible refine atI_mapN ?_); walk_at "sd")))
  | ((with_reducible refine' q_inI ?h1 ?_); (case h1 => walk_at "sq")) | fail)

local macro_rules | `(tactic| walk_at "vv") => `(tactic| first | exact vv_pos | (refine' Eq.trans (valV_neg ?hn) ?_; (case hn => (show ¬ ((Sum.inr _ : Key) = Sum.inr _); decide +kernel)); walk_at "vv") | fail)
local macro_rules | `(tactic| walk_at "rd0") => `(tactic| first
  | with_reducible refine q_augS ?_ | ((with_reducible refine' q_getL ?h1 ?h2 ?_); (case h1 => walk_at "sq"); (case h2 => assumption)) | with_reducible refine q_ipI ?_
  | ((with_reducible refine' q_setLN ?h1 ?h2 ?_); (case h1 => walk_at "lk"); (case h2 => walk_at "sd"))
  | ((with_reducible refine' q_slT1 ?h1 ?_); (case h1 => walk_at "lk"))
  | ((with_reducible refine' q_rep1 ?h1 ?h2 ?_); (case h1 => walk_at "lk"); (case h2 => walk_at "sd")) | ((with_reducible refine' q_rep0 ?h1 ?_); (case h1 => walk_at "lk"))
  | with_reducible refine q_dget ?_ | ((with_reducible refine' q_dgetS ?h1 ?h2 ?_); (case h1 => walk_at "lk"); (case h2 => walk_at "vv")) | fail)

local macro_rules | `(tactic| walk_at "rd0") => `(tactic| first
  | with_reducible refine q_din ?_ | with_reducible refine q_dnotin ?_ | with_reducible refine q_dnewT ?_ | fail)

structure Tx (K : PySem.W.Frag) (mg : Str → Option Value) where
  f_is_whole : Addr
  d_is_whole : FuncData
  F_is_whole : FunD K "is_whole" "is_whole" (defArgs s_is_whole) (defBody s_is_whole) (defScope s_is_whole) [.non] [] f_is_whole d_is_whole
  m_is_whole : mg "is_whole" = some (.ref f_is_whole)
  k_is_whole : PySem.W.keepIn K (.ref f_is_whole) = true
  ds_is_whole_2 : List Value
  v_is_whole_2 : Vals [.non] ds_is_whole_2
  b_is_whole_2 : Binds K d_is_whole ["thing", "low", "high"] ds_is_whole_2
  b_is_whole : Binds K d_is_whole ["thing", "low", "high"] []
  f_is_text_of : Addr
  d_is_text_of : FuncData
  F_is_text_of : Fun K "is_text_of" "is_text_of" s_is_text_of f_is_text_of d_is_text_of
  m_is_text_of : mg "is_text_of" = some (.ref f_is_text_of)
  k_is_text_of : PySem.W.keepIn K (.ref f_is_text_of) = true
  b_is_text_of : Binds K d_is_text_of ["thing", "first", "last", "most"] []
  f_is_word : Addr
  d_is_word : FuncData
  F_is_word : Fun K "is_word" "is_word" s_is_word f_is_word d_is_word
  m_is_word : mg "is_word" = some (.ref f_is_word)
  k_is_word : PySem.W.keepIn K (.ref f_is_word) = true
  b_is_word : Binds K d_is_word ["thing"] []
  f_is_list : Addr
  d_is_list : FuncData
  F_is_list : Fun K "is_list" "is_list" s_is_list f_is_list d_is_list
  m_is_list : mg "is_list" = some (.ref f_is_list)
  k_is_list : PySem.W.keepIn K (.ref f_is_list) = true
  b_is_list : Binds K d_is_list ["thing"] []
  f_is_member : Addr
  d_is_member : FuncData
  F_is_member : Fun K "is_member" "is_member" s_is_member f_is_member d_is_member
  m_is_member : mg "is_member" = some (.ref f_is_member)
  k_is_member : PySem.W.keepIn K (.ref f_is_member) = true
  b_is_member : Binds K d_is_member ["thing", "members"] []
  f_is_ident : Addr
  d_is_ident : FuncData
  F_is_ident : FunD K "is_ident" "is_ident" (defArgs s_is_ident) (defBody s_is_ident) (defScope s_is_ident) [.non] [] f_is_ident d_is_ident
  m_is_ident : mg "is_ident" = some (.ref f_is_ident)
  k_is_ident : PySem.W.keepIn K (.ref f_is_ident) = true
  ds_is_ident_2 : List Value
  v_is_ident_2 : Vals [.non] ds_is_ident_2
  b_is_ident_2 : Binds K d_is_ident ["thing", "members", "high"] ds_is_ident_2
  b_is_ident : Binds K d_is_ident ["thing", "members", "high"] []
  f_check_members : Addr
  d_check_members : FuncData
  F_check_members : Fun K "check_members" "check_members" s_check_members f_check_members d_check_members
  m_check_members : mg "check_members" = some (.ref f_check_members)
  k_check_members : PySem.W.keepIn K (.ref f_check_members) = true
  b_check_members : Binds K d_check_members ["members"] []
  f_is_row : Addr
  d_is_row : FuncData
  F_is_row : Fun K "is_row" "is_row" s_is_row f_is_row d_is_row
  m_is_row : mg "is_row" = some (.ref f_is_row)
  k_is_row : PySem.W.keepIn K (.ref f_is_row) = true
  b_is_row : Binds K d_is_row ["thing", "members"] []
  f_is_history : Addr
  d_is_history : FuncData
  F_is_history : Fun K "is_history" "is_history" s_is_history f_is_history d_is_history
  m_is_history : mg "is_history" = some (.ref f_is_history)
  k_is_history : PySem.W.keepIn K (.ref f_is_history) = true
  b_is_history : Binds K d_is_history ["members", "rows"] []
  f_check_history : Addr
  d_check_history : FuncData
  F_check_history : Fun K "check_history" "check_history" s_check_history f_check_history d_check_history
  m_check_history : mg "check_history" = some (.ref f_check_history)
  k_check_history : PySem.W.keepIn K (.ref f_check_history) = true
  b_check_history : Binds K d_check_history ["members", "rows"] []
  f_law_cell_at : Addr
  d_law_cell_at : FuncData
  F_law_cell_at : Fun K "_law_cell_at" "_law_cell_at" s_law_cell_at f_law_cell_at d_law_cell_at
  m_law_cell_at : mg "_law_cell_at" = some (.ref f_law_cell_at)
  k_law_cell_at : PySem.W.keepIn K (.ref f_law_cell_at) = true
  b_law_cell_at : Binds K d_law_cell_at ["script", "k"] []
  f_law_take : Addr
  d_law_take : FuncData
  F_law_take : Fun K "_law_take" "_law_take" s_law_take f_law_take d_law_take
  m_law_take : mg "_law_take" = some (.ref f_law_take)
  k_law_take : PySem.W.keepIn K (.ref f_law_take) = true
  b_law_take : Binds K d_law_take ["pool", "size"] []
  f_law_pool : Addr
  d_law_pool : FuncData
  F_law_pool : Fun K "_law_pool" "_law_pool" s_law_pool f_law_pool d_law_pool
  m_law_pool : mg "_law_pool" = some (.ref f_law_pool)
  k_law_pool : PySem.W.keepIn K (.ref f_law_pool) = true
  b_law_pool : Binds K d_law_pool ["cell"] []
  f_law_word : Addr
  d_law_word : FuncData
  F_law_word : Fun K "_law_word" "_law_word" s_law_word f_law_word d_law_word
  m_law_word : mg "_law_word" = some (.ref f_law_word)
  k_law_word : PySem.W.keepIn K (.ref f_law_word) = true
  b_law_word : Binds K d_law_word ["pool"] []
  f_check_member : Addr
  d_check_member : FuncData
  F_check_member : Fun K "check_member" "check_member" s_check_member f_check_member d_check_member
  m_check_member : mg "check_member" = some (.ref f_check_member)
  k_check_member : PySem.W.keepIn K (.ref f_check_member) = true
  b_check_member : Binds K d_check_member ["member", "members"] []
  f_are_changes : Addr
  d_are_changes : FuncData
  F_are_changes : FunD K "are_changes" "are_changes" (defArgs s_are_changes) (defBody s_are_changes) (defScope s_are_changes) [.non] [] f_are_changes d_are_changes
  m_are_changes : mg "are_changes" = some (.ref f_are_changes)
  k_are_changes : PySem.W.keepIn K (.ref f_are_changes) = true
  ds_are_changes_3 : List Value
  v_are_changes_3 : Vals [.non] ds_are_changes_3
  b_are_changes_3 : Binds K d_are_changes ["thing", "members", "low", "high"] ds_are_changes_3
  b_are_changes : Binds K d_are_changes ["thing", "members", "low", "high"] []
  f_Counts_init : Addr
  d_Counts_init : FuncData
  F_Counts_init : Fun K "__init__" "Counts.__init__" s_Counts_init f_Counts_init d_Counts_init
  b_Counts_init : Binds K d_Counts_init ["self", "numbers"] []
  f_Counts_len : Addr
  d_Counts_len : FuncData
  F_Counts_len : Fun K "__len__" "Counts.__len__" s_Counts_len f_Counts_len d_Counts_len
  b_Counts_len : Binds K d_Counts_len ["self"] []
  f_Counts_told : Addr
  d_Counts_told : FuncData
  F_Counts_told : Fun K "told" "Counts.told" s_Counts_told f_Counts_told d_Counts_told
  b_Counts_told : Binds K d_Counts_told ["self"] []
  f_Counts_of : Addr
  d_Counts_of : FuncData
  F_Counts_of : Fun K "of" "Counts.of" s_Counts_of f_Counts_of d_Counts_of
  b_Counts_of : Binds K d_Counts_of ["self", "member"] []
  f_Counts_changed : Addr
  d_Counts_changed : FuncData
  F_Counts_changed : Fun K "changed" "Counts.changed" s_Counts_changed f_Counts_changed d_Counts_changed
  b_Counts_changed : Binds K d_Counts_changed ["self", "changes"] []
  f_Counts_raised : Addr
  d_Counts_raised : FuncData
  F_Counts_raised : FunD K "raised" "Counts.raised" (defArgs s_Counts_raised) (defBody s_Counts_raised) (defScope s_Counts_raised) [.int 1] [] f_Counts_raised d_Counts_raised
  ds_Counts_raised_2 : List Value
  v_Counts_raised_2 : Vals [.int 1] ds_Counts_raised_2
  b_Counts_raised_2 : Binds K d_Counts_raised ["self", "member", "by"] ds_Counts_raised_2
  b_Counts_raised : Binds K d_Counts_raised ["self", "member", "by"] []
  f_Counts_check_like : Addr
  d_Counts_check_like : FuncData
  F_Counts_check_like : Fun K "_check_like" "Counts._check_like" s_Counts_check_like f_Counts_check_like d_Counts_check_like
  b_Counts_check_like : Binds K d_Counts_check_like ["self", "other"] []
  f_Counts_changes_from : Addr
  d_Counts_changes_from : FuncData
  F_Counts_changes_from : Fun K "changes_from" "Counts.changes_from" s_Counts_changes_from f_Counts_changes_from d_Counts_changes_from
  b_Counts_changes_from : Binds K d_Counts_changes_from ["self", "other"] []
  f_Counts_covers : Addr
  d_Counts_covers : FuncData
  F_Counts_covers : Fun K "covers" "Counts.covers" s_Counts_covers f_Counts_covers d_Counts_covers
  b_Counts_covers : Binds K d_Counts_covers ["self", "other"] []
  f_check_number_and_word : Addr
  d_check_number_and_word : FuncData
  F_check_number_and_word : Fun K "check_number_and_word" "check_number_and_word" s_check_number_and_word f_check_number_and_word d_check_number_and_word
  m_check_number_and_word : mg "check_number_and_word" = some (.ref f_check_number_and_word)
  k_check_number_and_word : PySem.W.keepIn K (.ref f_check_number_and_word) = true
  b_check_number_and_word : Binds K d_check_number_and_word ["number", "word"] []
  f_Letter_init : Addr
  d_Letter_init : FuncData
  F_Letter_init : Fun K "__init__" "Letter.__init__" s_Letter_init f_Letter_init d_Letter_init
  b_Letter_init : Binds K d_Letter_init ["self", "sender", "number", "word", "causes"] []
  f_Letter_sender : Addr
  d_Letter_sender : FuncData
  F_Letter_sender : Fun K "sender" "Letter.sender" s_Letter_sender f_Letter_sender d_Letter_sender
  b_Letter_sender : Binds K d_Letter_sender ["self"] []
  f_Letter_number : Addr
  d_Letter_number : FuncData
  F_Letter_number : Fun K "number" "Letter.number" s_Letter_number f_Letter_number d_Letter_number
  b_Letter_number : Binds K d_Letter_number ["self"] []
  f_Letter_causes : Addr
  d_Letter_causes : FuncData
  F_Letter_causes : Fun K "causes" "Letter.causes" s_Letter_causes f_Letter_causes d_Letter_causes
  b_Letter_causes : Binds K d_Letter_causes ["self"] []
  f_Letter_id_of : Addr
  d_Letter_id_of : FuncData
  F_Letter_id_of : Fun K "id_of" "Letter.id_of" s_Letter_id_of f_Letter_id_of d_Letter_id_of
  b_Letter_id_of : Binds K d_Letter_id_of ["self"] []
  f_is_letter_ahead : Addr
  d_is_letter_ahead : FuncData
  F_is_letter_ahead : Fun K "is_letter_ahead" "is_letter_ahead" s_is_letter_ahead f_is_letter_ahead d_is_letter_ahead
  m_is_letter_ahead : mg "is_letter_ahead" = some (.ref f_is_letter_ahead)
  k_is_letter_ahead : PySem.W.keepIn K (.ref f_is_letter_ahead) = true
  b_is_letter_ahead : Binds K d_is_letter_ahead ["thing", "sender", "number", "members"] []
  f_row_ahead : Addr
  d_row_ahead : FuncData
  F_row_ahead : Fun K "row_ahead" "row_ahead" s_row_ahead f_row_ahead d_row_ahead
  m_row_ahead : mg "row_ahead" = some (.ref f_row_ahead)
  k_row_ahead : PySem.W.keepIn K (.ref f_row_ahead) = true
  b_row_ahead : Binds K d_row_ahead ["ahead", "members"] []
  f_changes_of : Addr
  d_changes_of : FuncData
  F_changes_of : FunD K "changes_of" "changes_of" (defArgs s_changes_of) (defBody s_changes_of) (defScope s_changes_of) [.non] [] f_changes_of d_changes_of
  m_changes_of : mg "changes_of" = some (.ref f_changes_of)
  k_changes_of : PySem.W.keepIn K (.ref f_changes_of) = true
  b_changes_of : Binds K d_changes_of ["letter", "ahead"] []
  f_ids_beyond : Addr
  d_ids_beyond : FuncData
  F_ids_beyond : Fun K "ids_beyond" "ids_beyond" s_ids_beyond f_ids_beyond d_ids_beyond
  m_ids_beyond : mg "ids_beyond" = some (.ref f_ids_beyond)
  k_ids_beyond : PySem.W.keepIn K (.ref f_ids_beyond) = true
  b_ids_beyond : Binds K d_ids_beyond ["counts", "row"] []
  f_Book_init : Addr
  d_Book_init : FuncData
  F_Book_init : Fun K "__init__" "Book.__init__" s_Book_init f_Book_init d_Book_init
  b_Book_init : Binds K d_Book_init ["self", "members"] []
  f_Book_len : Addr
  d_Book_len : FuncData
  F_Book_len : Fun K "__len__" "Book.__len__" s_Book_len f_Book_len d_Book_len
  b_Book_len : Binds K d_Book_len ["self"] []
  f_Book_counts : Addr
  d_Book_counts : FuncData
  F_Book_counts : Fun K "counts" "Book.counts" s_Book_counts f_Book_counts d_Book_counts
  b_Book_counts : Binds K d_Book_counts ["self"] []
  f_Book_letter : Addr
  d_Book_letter : FuncData
  F_Book_letter : Fun K "letter" "Book.letter" s_Book_letter f_Book_letter d_Book_letter
  b_Book_letter : Binds K d_Book_letter ["self", "ident"] []
  f_Book_ahead : Addr
  d_Book_ahead : FuncData
  F_Book_ahead : Fun K "ahead" "Book.ahead" s_Book_ahead f_Book_ahead d_Book_ahead
  b_Book_ahead : Binds K d_Book_ahead ["self", "ident"] []
  f_Book_check_new : Addr
  d_Book_check_new : FuncData
  F_Book_check_new : Fun K "_check_new" "Book._check_new" s_Book_check_new f_Book_check_new d_Book_check_new
  b_Book_check_new : Binds K d_Book_check_new ["self", "letter"] []
  f_Book_covers_its_causes : Addr
  d_Book_covers_its_causes : FuncData
  F_Book_covers_its_causes : Fun K "_covers_its_causes" "Book._covers_its_causes" s_Book_covers_its_causes f_Book_covers_its_causes d_Book_covers_its_causes
  b_Book_covers_its_causes : Binds K d_Book_covers_its_causes ["self", "row"] []
  f_Book_keep : Addr
  d_Book_keep : FuncData
  F_Book_keep : Fun K "keep" "Book.keep" s_Book_keep f_Book_keep d_Book_keep
  b_Book_keep : Binds K d_Book_keep ["self", "letter"] []
  f_is_told_otherwise : Addr
  d_is_told_otherwise : FuncData
  F_is_told_otherwise : Fun K "is_told_otherwise" "is_told_otherwise" s_is_told_otherwise f_is_told_otherwise d_is_told_otherwise
  m_is_told_otherwise : mg "is_told_otherwise" = some (.ref f_is_told_otherwise)
  k_is_told_otherwise : PySem.W.keepIn K (.ref f_is_told_otherwise) = true
  b_is_told_otherwise : Binds K d_is_told_otherwise ["row", "place", "ident"] []
  f_Course_init : Addr
  d_Course_init : FuncData
  F_Course_init : Fun K "__init__" "Course.__init__" s_Course_init f_Course_init d_Course_init
  b_Course_init : Binds K d_Course_init ["self", "members"] []
  f_Course_deliver : Addr
  d_Course_deliver : FuncData
  F_Course_deliver : Fun K "_deliver" "Course._deliver" s_Course_deliver f_Course_deliver d_Course_deliver
  b_Course_deliver : Binds K d_Course_deliver ["self", "member", "ident"] []
  f_Course_send : Addr
  d_Course_send : FuncData
  F_Course_send : Fun K "_send" "Course._send" s_Course_send f_Course_send d_Course_send
  b_Course_send : Binds K d_Course_send ["self", "member", "word"] []
  f_Course_happen : Addr
  d_Course_happen : FuncData
  F_Course_happen : Fun K "_happen" "Course._happen" s_Course_happen f_Course_happen d_Course_happen
  b_Course_happen : Binds K d_Course_happen ["self", "row"] []
  f_Course_why_not_got : Addr
  d_Course_why_not_got : FuncData
  F_Course_why_not_got : Fun K "_why_not_got" "Course._why_not_got" s_Course_why_not_got f_Course_why_not_got d_Course_why_not_got
  b_Course_why_not_got : Binds K d_Course_why_not_got ["self", "member", "ident"] []
  f_Course_why_not_told : Addr
  d_Course_why_not_told : FuncData
  F_Course_why_not_told : Fun K "_why_not_told" "Course._why_not_told" s_Course_why_not_told f_Course_why_not_told d_Course_why_not_told
  b_Course_why_not_told : Binds K d_Course_why_not_told ["self", "member", "place", "ident"] []
  f_Course_why_not : Addr
  d_Course_why_not : FuncData
  F_Course_why_not : Fun K "_why_not" "Course._why_not" s_Course_why_not f_Course_why_not d_Course_why_not
  b_Course_why_not : Binds K d_Course_why_not ["self", "row"] []
  f_Course_follow : Addr
  d_Course_follow : FuncData
  F_Course_follow : Fun K "follow" "Course.follow" s_Course_follow f_Course_follow d_Course_follow
  b_Course_follow : Binds K d_Course_follow ["self", "rows"] []
  f_first_wrong : Addr
  d_first_wrong : FuncData
  F_first_wrong : Fun K "first_wrong" "first_wrong" s_first_wrong f_first_wrong d_first_wrong
  m_first_wrong : mg "first_wrong" = some (.ref f_first_wrong)
  k_first_wrong : PySem.W.keepIn K (.ref f_first_wrong) = true
  b_first_wrong : Binds K d_first_wrong ["members", "rows"] []
  f_law_model : Addr
  d_law_model : FuncData
  F_law_model : Fun K "_law_model" "_law_model" s_law_model f_law_model d_law_model
  m_law_model : mg "_law_model" = some (.ref f_law_model)
  k_law_model : PySem.W.keepIn K (.ref f_law_model) = true
  b_law_model : Binds K d_law_model ["members"] []
  f_law_otherwise : Addr
  d_law_otherwise : FuncData
  F_law_otherwise : Fun K "_law_otherwise" "_law_otherwise" s_law_otherwise f_law_otherwise d_law_otherwise
  m_law_otherwise : mg "_law_otherwise" = some (.ref f_law_otherwise)
  k_law_otherwise : PySem.W.keepIn K (.ref f_law_otherwise) = true
  b_law_otherwise : Binds K d_law_otherwise ["model", "member", "place", "ident"] []
  f_law_has : Addr
  d_law_has : FuncData
  F_law_has : Fun K "_law_has" "_law_has" s_law_has f_law_has d_law_has
  m_law_has : mg "_law_has" = some (.ref f_law_has)
  k_law_has : PySem.W.keepIn K (.ref f_law_has) = true
  b_law_has : Binds K d_law_has ["model", "rows", "ident"] []
  f_law_why_got : Addr
  d_law_why_got : FuncData
  F_law_why_got : Fun K "_law_why_got" "_law_why_got" s_law_why_got f_law_why_got d_law_why_got
  m_law_why_got : mg "_law_why_got" = some (.ref f_law_why_got)
  k_law_why_got : PySem.W.keepIn K (.ref f_law_why_got) = true
  b_law_why_got : Binds K d_law_why_got ["model", "member", "ident"] []
  f_law_why : Addr
  d_law_why : FuncData
  F_law_why : Fun K "_law_why" "_law_why" s_law_why f_law_why d_law_why
  m_law_why : mg "_law_why" = some (.ref f_law_why)
  k_law_why : PySem.W.keepIn K (.ref f_law_why) = true
  b_law_why : Binds K d_law_why ["model", "row"] []
  f_law_go : Addr
  d_law_go : FuncData
  F_law_go : Fun K "_law_go" "_law_go" s_law_go f_law_go d_law_go
  m_law_go : mg "_law_go" = some (.ref f_law_go)
  k_law_go : PySem.W.keepIn K (.ref f_law_go) = true
  b_law_go : Binds K d_law_go ["model", "row"] []
  f_law_may : Addr
  d_law_may : FuncData
  F_law_may : Fun K "_law_may" "_law_may" s_law_may f_law_may d_law_may
  m_law_may : mg "_law_may" = some (.ref f_law_may)
  k_law_may : PySem.W.keepIn K (.ref f_law_may) = true
  b_law_may : Binds K d_law_may ["model", "member"] []
  f_law_new_row : Addr
  d_law_new_row : FuncData
  F_law_new_row : Fun K "_law_new_row" "_law_new_row" s_law_new_row f_law_new_row d_law_new_row
  m_law_new_row : mg "_law_new_row" = some (.ref f_law_new_row)
  k_law_new_row : PySem.W.keepIn K (.ref f_law_new_row) = true
  b_law_new_row : Binds K d_law_new_row ["model", "members", "wild", "pool"] []
  f_law_rows : Addr
  d_law_rows : FuncData
  F_law_rows : Fun K "_law_rows" "_law_rows" s_law_rows f_law_rows d_law_rows
  m_law_rows : mg "_law_rows" = some (.ref f_law_rows)
  k_law_rows : PySem.W.keepIn K (.ref f_law_rows) = true
  b_law_rows : Binds K d_law_rows ["script", "start", "wild"] []
  f_Book_twin : Addr
  d_Book_twin : FuncData
  F_Book_twin : Fun K "twin" "Book.twin" s_Book_twin f_Book_twin d_Book_twin
  b_Book_twin : Binds K d_Book_twin ["self"] []
  f_Course_book : Addr
  d_Course_book : FuncData
  F_Course_book : Fun K "book" "Course.book" s_Course_book f_Course_book d_Course_book
  b_Course_book : Binds K d_Course_book ["self"] []
  f_Course_got : Addr
  d_Course_got : FuncData
  F_Course_got : Fun K "got" "Course.got" s_Course_got f_Course_got d_Course_got
  b_Course_got : Binds K d_Course_got ["self", "member"] []
  f_Course_told : Addr
  d_Course_told : FuncData
  F_Course_told : Fun K "told" "Course.told" s_Course_told f_Course_told d_Course_told
  b_Course_told : Binds K d_Course_told ["self", "member"] []
  f_course_of : Addr
  d_course_of : FuncData
  F_course_of : Fun K "course_of" "course_of" s_course_of f_course_of d_course_of
  m_course_of : mg "course_of" = some (.ref f_course_of)
  k_course_of : PySem.W.keepIn K (.ref f_course_of) = true
  b_course_of : Binds K d_course_of ["members", "rows"] []
  f_book_of : Addr
  d_book_of : FuncData
  F_book_of : Fun K "book_of" "book_of" s_book_of f_book_of d_book_of
  m_book_of : mg "book_of" = some (.ref f_book_of)
  k_book_of : PySem.W.keepIn K (.ref f_book_of) = true
  b_book_of : Binds K d_book_of ["members", "rows"] []
  f_got_by : Addr
  d_got_by : FuncData
  F_got_by : Fun K "got_by" "got_by" s_got_by f_got_by d_got_by
  m_got_by : mg "got_by" = some (.ref f_got_by)
  k_got_by : PySem.W.keepIn K (.ref f_got_by) = true
  b_got_by : Binds K d_got_by ["members", "rows", "member"] []
  f_told_by : Addr
  d_told_by : FuncData
  F_told_by : Fun K "told_by" "told_by" s_told_by f_told_by d_told_by
  m_told_by : mg "told_by" = some (.ref f_told_by)
  k_told_by : PySem.W.keepIn K (.ref f_told_by) = true
  b_told_by : Binds K d_told_by ["members", "rows", "member"] []
  f_longest_told : Addr
  d_longest_told : FuncData
  F_longest_told : Fun K "longest_told" "longest_told" s_longest_told f_longest_told d_longest_told
  m_longest_told : mg "longest_told" = some (.ref f_longest_told)
  k_longest_told : PySem.W.keepIn K (.ref f_longest_told) = true
  b_longest_told : Binds K d_longest_told ["members", "rows"] []
  f_Book_is_order : Addr
  d_Book_is_order : FuncData
  F_Book_is_order : Fun K "is_order" "Book.is_order" s_Book_is_order f_Book_is_order d_Book_is_order
  b_Book_is_order : Binds K d_Book_is_order ["self", "thing"] []
  f_law_left : Addr
  d_law_left : FuncData
  F_law_left : Fun K "_law_left" "_law_left" s_law_left f_law_left d_law_left
  m_law_left : mg "_law_left" = some (.ref f_law_left)
  k_law_left : PySem.W.keepIn K (.ref f_law_left) = true
  b_law_left : Binds K d_law_left ["members", "rows"] []
  f_law_keeps : Addr
  d_law_keeps : FuncData
  F_law_keeps : Fun K "_law_keeps" "_law_keeps" s_law_keeps f_law_keeps d_law_keeps
  m_law_keeps : mg "_law_keeps" = some (.ref f_law_keeps)
  k_law_keeps : PySem.W.keepIn K (.ref f_law_keeps) = true
  b_law_keeps : Binds K d_law_keeps ["book", "idents"] []
  f_law : Addr
  d_law : FuncData
  F_law : Fun K "law" "law" s_law f_law d_law
  m_law : mg "law" = some (.ref f_law)
  k_law : PySem.W.keepIn K (.ref f_law) = true
  b_law : Binds K d_law ["script"] []
  C_Book : Addr
  g_Book : mg "Book" = some (.ref C_Book)
  c_Book : Cls K C_Book
  ha_Book : PySem.W.findIn K (.ref C_Book) "__class__" = some (some (.builtin "object.__class__"))
  hm_Book : PySem.W.mroIn K C_Book (.type "object") = some true
  n_Book__members : NoAttr K C_Book "_members"
  n_Book__letters : NoAttr K C_Book "_letters"
  n_Book__counts : NoAttr K C_Book "_counts"
  n_Book__waits : NoAttr K C_Book "_waits"
  mk_Book : Mk K C_Book f_Book_init
  mt_Book_len : Meth K C_Book "__len__" f_Book_len
  mt_Book_counts : Meth K C_Book "counts" f_Book_counts
  mt_Book_letter : Meth K C_Book "letter" f_Book_letter
  mt_Book_ahead : Meth K C_Book "ahead" f_Book_ahead
  mt_Book_check_new : Meth K C_Book "_check_new" f_Book_check_new
  mt_Book_covers_its_causes : Meth K C_Book "_covers_its_causes" f_Book_covers_its_causes
  mt_Book_keep : Meth K C_Book "keep" f_Book_keep
  mt_Book_twin : Meth K C_Book "twin" f_Book_twin
  mt_Book_is_order : Meth K C_Book "is_order" f_Book_is_order
  C_Counts : Addr
  g_Counts : mg "Counts" = some (.ref C_Counts)
  c_Counts : Cls K C_Counts
  ha_Counts : PySem.W.findIn K (.ref C_Counts) "__class__" = some (some (.builtin "object.__class__"))
  hm_Counts : PySem.W.mroIn K C_Counts (.type "object") = some true
  hdx_Counts : PySem.W.hasDictIn K C_Counts = true
  ty_Counts : PySem.W.typeIn K (.ref C_Counts) = some (.type "type")
  nt_NoneType_Counts : PySem.W.subIn K (.type "NoneType") (.ref C_Counts) = some false
  nt_bool_Counts : PySem.W.subIn K (.type "bool") (.ref C_Counts) = some false
  nt_int_Counts : PySem.W.subIn K (.type "int") (.ref C_Counts) = some false
  nt_str_Counts : PySem.W.subIn K (.type "str") (.ref C_Counts) = some false
  nt_list_Counts : PySem.W.subIn K (.type "list") (.ref C_Counts) = some false
  nt_tuple_Counts : PySem.W.subIn K (.type "tuple") (.ref C_Counts) = some false
  nt_dict_Counts : PySem.W.subIn K (.type "dict") (.ref C_Counts) = some false
  n_Counts__numbers : NoAttr K C_Counts "_numbers"
  mk_Counts : Mk K C_Counts f_Counts_init
  mt_Counts_len : Meth K C_Counts "__len__" f_Counts_len
  mt_Counts_told : Meth K C_Counts "told" f_Counts_told
  mt_Counts_of : Meth K C_Counts "of" f_Counts_of
  mt_Counts_changed : Meth K C_Counts "changed" f_Counts_changed
  mt_Counts_raised : Meth K C_Counts "raised" f_Counts_raised
  mt_Counts_check_like : Meth K C_Counts "_check_like" f_Counts_check_like
  mt_Counts_changes_from : Meth K C_Counts "changes_from" f_Counts_changes_from
  mt_Counts_covers : Meth K C_Counts "covers" f_Counts_covers
  C_Course : Addr
  g_Course : mg "Course" = some (.ref C_Course)
  c_Course : Cls K C_Course
  ha_Course : PySem.W.findIn K (.ref C_Course) "__class__" = some (some (.builtin "object.__class__"))
  hm_Course : PySem.W.mroIn K C_Course (.type "object") = some true
  n_Course__book : NoAttr K C_Course "_book"
  n_Course__counts : NoAttr K C_Course "_counts"
  n_Course__got : NoAttr K C_Course "_got"
  n_Course__told : NoAttr K C_Course "_told"
  mk_Course : Mk K C_Course f_Course_init
  mt_Course_deliver : Meth K C_Course "_deliver" f_Course_deliver
  mt_Course_send : Meth K C_Course "_send" f_Course_send
  mt_Course_happen : Meth K C_Course "_happen" f_Course_happen
  mt_Course_why_not_got : Meth K C_Course "_why_not_got" f_Course_why_not_got
  mt_Course_why_not_told : Meth K C_Course "_why_not_told" f_Course_why_not_told
  mt_Course_why_not : Meth K C_Course "_why_not" f_Course_why_not
  mt_Course_follow : Meth K C_Course "follow" f_Course_follow
  mt_Course_book : Meth K C_Course "book" f_Course_book
  mt_Course_got : Meth K C_Course "got" f_Course_got
  mt_Course_told : Meth K C_Course "told" f_Course_told
  C_Letter : Addr
  g_Letter : mg "Letter" = some (.ref C_Letter)
  c_Letter : Cls K C_Letter
  ha_Letter : PySem.W.findIn K (.ref C_Letter) "__class__" = some (some (.builtin "object.__class__"))
  hm_Letter : PySem.W.mroIn K C_Letter (.type "object") = some true
  hdx_Letter : PySem.W.hasDictIn K C_Letter = true
  ty_Letter : PySem.W.typeIn K (.ref C_Letter) = some (.type "type")
  nt_NoneType_Letter : PySem.W.subIn K (.type "NoneType") (.ref C_Letter) = some false
  nt_bool_Letter : PySem.W.subIn K (.type "bool") (.ref C_Letter) = some false
  nt_int_Letter : PySem.W.subIn K (.type "int") (.ref C_Letter) = some false
  nt_str_Letter : PySem.W.subIn K (.type "str") (.ref C_Letter) = some false
  nt_list_Letter : PySem.W.subIn K (.type "list") (.ref C_Letter) = some false
  nt_tuple_Letter : PySem.W.subIn K (.type "tuple") (.ref C_Letter) = some false
  nt_dict_Letter : PySem.W.subIn K (.type "dict") (.ref C_Letter) = some false
  n_Letter__sender : NoAttr K C_Letter "_sender"
  n_Letter__number : NoAttr K C_Letter "_number"
  n_Letter__word : NoAttr K C_Letter "_word"
  n_Letter__causes : NoAttr K C_Letter "_causes"
  mk_Letter : Mk K C_Letter f_Letter_init
  mt_Letter_sender : Meth K C_Letter "sender" f_Letter_sender
  mt_Letter_number : Meth K C_Letter "number" f_Letter_number
  mt_Letter_causes : Meth K C_Letter "causes" f_Letter_causes
  mt_Letter_id_of : Meth K C_Letter "id_of" f_Letter_id_of
  hn : PySem.W.specialIn K (.builtin "object.__class__") "__get__" = some (some (.builtin "getset_descriptor.__get__"))
  htk : PySem.W.takesIn K (.builtin "object.__class__") = some true
  ki_Counts : PySem.W.subIn K (.ref C_Counts) (.type "int") = some false
  kl_Counts : PySem.W.subIn K (.ref C_Counts) (.type "list") = some false
  kt_Counts : PySem.W.subIn K (.ref C_Counts) (.type "tuple") = some false
  z_all : mg "all" = none
  z_any : mg "any" = none
  z_bool : mg "bool" = none
  z_enumerate : mg "enumerate" = none
  z_int : mg "int" = none
  z_isinstance : mg "isinstance" = none
  z_len : mg "len" = none
  z_list : mg "list" = none
  z_max : mg "max" = none
  z_range : mg "range" = none
  z_str : mg "str" = none
  z_sum : mg "sum" = none
  z_tuple : mg "tuple" = none
  z_zip : mg "zip" = none
  t_BITS : Tok
  g_BITS : mg "BITS" = some (.int 5 t_BITS)
  t_LEAST_MEMBERS : Tok
  g_LEAST_MEMBERS : mg "LEAST_MEMBERS" = some (.int 2 t_LEAST_MEMBERS)
  t_MOST_LETTERS : Tok
  g_MOST_LETTERS : mg "MOST_LETTERS" = some (.int 30 t_MOST_LETTERS)
  t_MOST_MEMBERS : Tok
  g_MOST_MEMBERS : mg "MOST_MEMBERS" = some (.int 5 t_MOST_MEMBERS)
  t_MOST_ROWS : Tok
  g_MOST_ROWS : mg "MOST_ROWS" = some (.int 400 t_MOST_ROWS)
  t_MOST_SIGNS : Tok
  g_MOST_SIGNS : mg "MOST_SIGNS" = some (.int 8 t_MOST_SIGNS)
def textB (s : Str) (lo hi : Nat) (m : Int) : Bool := decide (1 ≤ (s.length : Int)) && decide ((s.length : Int) ≤ m) && s.cps.toList.all fun c => decide (lo ≤ c) && decide (c ≤ hi)
/-- a row of a history -/
inductive RowD where
  | sent (m : Int) (w : Str)
  | got (m s n : Int)
  | told (m p s n : Int)
  deriving DecidableEq
def RowD.vs : RowD → List V
  | .sent m w => [.str "sent", .int m, .str w]
  | .got m s n => [.str "got", .int m, .int s, .int n]
  | .told m p s n => [.str "told", .int m, .int p, .int s, .int n]
def RowD.dat : RowD → PyData
  | .sent m w => .tuple [.str "sent", .int m, .str w]
  | .got m s n => .tuple [.str "got", .int m, .int s, .int n]
  | .told m p s n => .tuple [.str "told", .int m, .int p, .int s, .int n]
def RowD.mem : RowD → Int
  | .sent m _ => m
  | .got m _ _ => m
  | .told m _ _ _ => m
def RowD.isSent : RowD → Bool
  | .sent _ _ => true
  | _ => false
def RowD.setM (x : Int) : RowD → RowD
  | .sent _ w => .sent x w
  | .got _ s n => .got x s n
  | .told _ p s n => .told x p s n
def RowD.Good (M : Int) : RowD → Prop
  | .sent m w => 0 ≤ m ∧ m ≤ M - 1 ∧ w.length ≤ 8 ∧ textB w 97 122 8 = true
  | .got m s n => 0 ≤ m ∧ m ≤ M - 1 ∧ 0 ≤ s ∧ s ≤ M - 1 ∧ 1 ≤ n
  | .told m p s n => 0 ≤ m ∧ m ≤ M - 1 ∧ 1 ≤ p ∧ 0 ≤ s ∧ s ≤ M - 1 ∧ 1 ≤ n
theorem RowD.Good.mem {M : Int} {ρ : RowD} (h : ρ.Good M) : 0 ≤ ρ.mem ∧ ρ.mem ≤ M - 1 := by
  cases ρ <;> exact ⟨h.1, h.2.1⟩
theorem RowD.Good.setM {M x : Int} {ρ : RowD} (h : ρ.Good M) (h0 : 0 ≤ x) (h1 : x ≤ M - 1) : (ρ.setM x).Good M := by
  cases ρ <;> exact ⟨h0, h1, h.2.2⟩
def RowD.ok : RowD → Bool
  | .sent _ w => PyData.strOk w
  | _ => true
def RowAt (H : Hp) (v : V) (ρ : RowD) : Prop := ρ.ok = true ∧ ∃ t, v = .ref t ∧ H t = some (.tup ρ.vs)
theorem strOk_of {w : Str} {m : Int} (h : textB w 97 122 m = true) : PyData.strOk w = true := by
  unfold textB at h
  simp only [Bool.and_eq_true, decide_eq_true_eq, List.all_eq_true] at h
  show (w.cps.all fun x => decide (x < 1114112)) = true
  rw [← Array.all_toList, List.all_eq_true]
  intro c hc
  have := (h.2 c hc).2
  exact decide_eq_true (by omega)
theorem RowD.Good.ok {M : Int} {ρ : RowD} (h : ρ.Good M) : ρ.ok = true := by
  cases ρ with
  | sent m w => exact strOk_of h.2.2.2
  | got m s n => rfl
  | told m p s n => rfl
theorem RowAt.of {M : Int} {H : Hp} {t : Addr} {ρ : RowD} (g : ρ.Good M) (h : H t = some (.tup ρ.vs)) : RowAt H (.ref t) ρ := ⟨g.ok, t, rfl, h⟩
theorem RowD.setM_ok {x : Int} {ρ : RowD} : (ρ.setM x).ok = ρ.ok := by cases ρ <;> rfl
theorem RowAt.same {H H' : Hp} {v : V} {ρ : RowD} (h : RowAt H v ρ) (s : Same H H') : RowAt H' v ρ := by
  obtain ⟨o, t, e, h⟩ := h
  exact ⟨o, t, e, s _ _ h⟩
theorem RowAt.all {H H' : Hp} {xs : List V} {rs : List RowD} (h : All2 (RowAt H) xs rs) (s : Same H H') : All2 (RowAt H') xs rs := h.mono fun _ _ z => z.same s
def own (rs : List RowD) (k : Int) : List RowD := rs.filter fun ρ => decide (ρ.mem = k)
def nSent (rs : List RowD) : Nat := (rs.filter RowD.isSent).length
structure GoodH (M : Int) (rs : List RowD) : Prop where
  all : ∀ ρ ∈ rs, ρ.Good M
  len : rs.length ≤ 400
  snt : nSent rs ≤ 30
/-- a list or a tuple -/
def Sq2 (K : PySem.W.Frag) (H : Hp) (a : Addr) (xs : List V) : Prop := H a = some (.lst xs) ∨ H a = some (.tup xs)
theorem Sq2.up {K : PySem.W.Frag} {H H' : Hp} (s : Same H H') {a : Addr} {xs : List V} (h : Sq2 K H a xs) : Sq2 K H' a xs := h.imp (s _ _) (s _ _)
theorem RowD.dp {K : PySem.W.Frag} {H : Hp} {v : V} {ρ : RowD} (h : RowAt H v ρ) : Dp K H v ρ.dat := by
  obtain ⟨_, t, rfl, h⟩ := h
  cases ρ with
  | sent m w => exact .tup (SqT.of h) (.cons (.str _) (.cons (.int _) (.cons (.str _) .nil)))
  | got m s n => exact .tup (SqT.of h) (.cons (.str _) (.cons (.int _) (.cons (.int _) (.cons (.int _) .nil))))
  | told m p s n => exact .tup (SqT.of h) (.cons (.str _) (.cons (.int _) (.cons (.int _) (.cons (.int _) (.cons (.int _) .nil)))))
theorem RowD.dps {K : PySem.W.Frag} {H : Hp} {xs : List V} {rs : List RowD} (h : All2 (RowAt H) xs rs) : DpAll K H xs (rs.map RowD.dat) := by
  induction h with
  | nil => exact .nil
  | cons h t ih => exact .cons (RowD.dp h) ih
theorem RowD.eqv {ρ τ : RowD} : PyData.eqv ρ.dat τ.dat = decide (ρ = τ) := by
  have e1 : (Str.ofString "sent" == Str.ofString "got") = false := by decide +kernel
  have e2 : (Str.ofString "sent" == Str.ofString "told") = false := by decide +kernel
  have e3 : (Str.ofString "got" == Str.ofString "sent") = false := by decide +kernel
  have e4 : (Str.ofString "got" == Str.ofString "told") = false := by decide +kernel
  have e5 : (Str.ofString "told" == Str.ofString "sent") = false := by decide +kernel
  have e6 : (Str.ofString "told" == Str.ofString "got") = false := by decide +kernel
  cases ρ <;> cases τ <;> simp [RowD.dat, PyData.eqv, PyData.eqvAll, e1, e2, e3, e4, e5, e6] <;> rfl
theorem RowD.lay {ρ : RowD} (h : ρ.ok = true) : PyData.canLay0 ρ.dat = true := by
  cases ρ with
  | sent m w =>
    have h : PyData.strOk w = true := h
    have e : PyData.strOk (Str.ofString "sent") = true := by decide +kernel
    simp [RowD.dat, PyData.canLay0, PyData.canLayAll0, h, e]
  | got m s n =>
    have e : PyData.strOk (Str.ofString "got") = true := by decide +kernel
    simp [RowD.dat, PyData.canLay0, PyData.canLayAll0, e]
  | told m p s n =>
    have e : PyData.strOk (Str.ofString "told") = true := by decide +kernel
    simp [RowD.dat, PyData.canLay0, PyData.canLayAll0, e]
theorem RowD.dep {ρ : RowD} : PyData.depth ρ.dat ≤ 2 := by cases ρ <;> exact Nat.le_of_ble_eq_true rfl
theorem oks {H : Hp} {xs : List V} {rs : List RowD} (h : All2 (RowAt H) xs rs) : ∀ ρ ∈ rs, ρ.ok = true := by
  induction h with
  | nil => intro ρ h; cases h
  | cons a _ ih =>
    intro ρ hρ
    rcases List.mem_cons.mp hρ with rfl | hρ
    · exact a.1
    · exact ih ρ hρ
theorem lay_rows {rs : List RowD} (h : ∀ ρ ∈ rs, ρ.ok = true) : PyData.canLayAll0 (rs.map RowD.dat) = true := by
  induction rs with
  | nil => rfl
  | cons r rs ih =>
    show (PyData.canLay0 r.dat && PyData.canLayAll0 (rs.map RowD.dat)) = true
    rw [RowD.lay (h r (List.mem_cons_self ..)), ih (fun ρ hρ => h ρ (List.mem_cons_of_mem _ hρ))]
    rfl
theorem depth_rows {rs : List RowD} : PyData.depthAll (rs.map RowD.dat) ≤ 2 := by
  induction rs with
  | nil => exact Nat.zero_le _
  | cons r rs ih =>
    show max (PyData.depth r.dat) (PyData.depthAll (rs.map RowD.dat)) ≤ 2
    exact Nat.max_le.mpr ⟨RowD.dep, ih⟩
theorem sh_rows {rs : List RowD} (h : ∀ ρ ∈ rs, ρ.ok = true) : SeqAt.shaped (.list (rs.map RowD.dat)) = true := by
  show (PyData.canLayAll0 (rs.map RowD.dat) && decide (PyData.depthAll (rs.map RowD.dat) + 1 ≤ 64)) = true
  rw [lay_rows h, Bool.true_and, decide_eq_true_eq]
  have := depth_rows (rs := rs)
  omega
theorem eqv_rows : ∀ {rs os : List RowD}, PyData.eqvAll (rs.map RowD.dat) (os.map RowD.dat) = decide (rs = os)
  | [], [] => rfl
  | [], _ :: _ => by simp [PyData.eqvAll]
  | _ :: _, [] => by simp [PyData.eqvAll]
  | r :: rs, o :: os => by
    simp only [List.map_cons, PyData.eqvAll, RowD.eqv, eqv_rows (rs := rs) (os := os), List.cons.injEq, Bool.decide_and]
theorem q_eqRows {K : PySem.W.Frag} {H : Hp} {Q : VK} {a b : Addr} {xs ys : List V} {rs os : List RowD} (h1 : SqL K H a xs) (h2 : All2 (RowAt H) xs rs) (h3 : SqL K H b ys) (h4 : All2 (RowAt H) ys os) (q : Q (.bl (decide (rs = os))) H) : rEqD K (.ref a) (.ref b) H Q :=
  q_eqD (.lst h1 (RowD.dps h2)) (.lst h3 (RowD.dps h4)) (sh_rows (oks h2)) (sh_rows (oks h4)) (R_of q (by rw [show PyData.eqv (.list (rs.map RowD.dat)) (.list (os.map RowD.dat)) = decide (rs = os) from eqv_rows]))
theorem q_neRows {K : PySem.W.Frag} {H : Hp} {Q : VK} {a b : Addr} {xs ys : List V} {rs os : List RowD} (h1 : SqL K H a xs) (h2 : All2 (RowAt H) xs rs) (h3 : SqL K H b ys) (h4 : All2 (RowAt H) ys os) (q : Q (.bl (!decide (rs = os))) H) : rNeD K (.ref a) (.ref b) H Q :=
  q_neD (.lst h1 (RowD.dps h2)) (.lst h3 (RowD.dps h4)) (sh_rows (oks h2)) (sh_rows (oks h4)) (R_of q (by rw [show PyData.eqv (.list (rs.map RowD.dat)) (.list (os.map RowD.dat)) = decide (rs = os) from eqv_rows]))
theorem own_sub {rs : List RowD} {k : Int} : ∀ ρ ∈ own rs k, ρ ∈ rs := fun ρ h => (List.mem_filter.mp h).1
/-! ### histories: the pure walk -/
def cntM (ks : List (Int × Int)) (m : Int) : Nat := (ks.filter fun k => decide (k.1 = m)).length
/-- of each member's ids the first ones, none twice -/
def Closed (M : Int) (G : List (Int × Int)) : Prop := G.Nodup ∧ ∀ s n, (s, n) ∈ G → 0 ≤ s ∧ s ≤ M - 1 ∧ 1 ≤ n ∧ ∀ n', 1 ≤ n' → n' ≤ n → (s, n') ∈ G
def upToI (s : Int) (n : Nat) : List (Int × Int) := (List.range n).map fun i => (s, ((i : Nat) : Int) + 1)
theorem upTo_nodup {s : Int} {n : Nat} : (upToI s n).Nodup := by
  unfold upToI
  refine List.Pairwise.map _ (fun a b h e => ?_) List.nodup_range
  have := (Prod.mk.inj e).2
  exact h (by omega)
theorem mem_upTo {s x y : Int} {n : Nat} : (x, y) ∈ upToI s n ↔ x = s ∧ 1 ≤ y ∧ y ≤ n := by
  unfold upToI
  simp only [List.mem_map, List.mem_range, Prod.mk.injEq]
  constructor
  · rintro ⟨i, hi, rfl, rfl⟩
    omega
  · rintro ⟨rfl, h1, h2⟩
    exact ⟨(y - 1).toNat, by omega, rfl, by omega⟩
theorem Closed.iff {M : Int} {G : List (Int × Int)} (h : Closed M G) {s n : Int} (hn : 1 ≤ n) : (s, n) ∈ G ↔ n ≤ cntM G s := by
  have fn : (G.filter fun k => decide (k.1 = s)).Nodup := List.Nodup.sublist List.filter_sublist h.1
  constructor
  · intro hm
    have := List.Nodup.length_le_of_subset (upTo_nodup (s := s) (n := n.toNat)) (l₂ := G.filter fun k => decide (k.1 = s)) (fun p hp => by
      obtain ⟨x, y⟩ := p
      obtain ⟨rfl, h1, h2⟩ := mem_upTo.mp hp
      exact List.mem_filter.mpr ⟨(h.2 _ _ hm).2.2.2 y h1 (by omega), by simp⟩)
    unfold cntM
    simp only [upToI, List.length_map, List.length_range] at this
    omega
  · intro hc
    refine Decidable.byContradiction fun hm => ?_
    have := List.Nodup.length_le_of_subset fn (l₂ := upToI s (n - 1).toNat) (fun p hp => by
      obtain ⟨x, y⟩ := p
      obtain ⟨hg, hx⟩ := List.mem_filter.mp hp
      have hx : x = s := by simpa using hx
      subst hx
      obtain ⟨_, _, h1, h2⟩ := h.2 _ _ hg
      refine mem_upTo.mpr ⟨rfl, h1, ?_⟩
      have : ¬ n ≤ y := fun hy => hm (h2 n hn hy)
      omega)
    unfold cntM at hc
    simp only [upToI, List.length_map, List.length_range] at this
    omega
theorem cntM_snoc {ks : List (Int × Int)} {c : Int × Int} {m : Int} : cntM (ks ++ [c]) m = cntM ks m + (if c.1 = m then 1 else 0) := by
  unfold cntM
  rw [List.filter_append, List.length_append]
  congr 1
  by_cases e : c.1 = m <;> simp [e]
theorem cntM_le {ks : List (Int × Int)} {m : Int} : cntM ks m ≤ ks.length := List.length_filter_le _ _
theorem Closed.nil {M : Int} : Closed M [] := ⟨List.nodup_nil, fun s n h => nomatch h⟩
/-- the next one of a member -/
theorem Closed.snoc {M : Int} {G : List (Int × Int)} {s n : Int} (h : Closed M G) (h0 : 0 ≤ s) (h1 : s ≤ M - 1) (hn : n = cntM G s + 1) : Closed M (G ++ [(s, n)]) := by
  have hno : (s, n) ∉ G := fun hm => by
    have := (h.iff (by omega)).mp hm
    omega
  refine ⟨List.nodup_append.mpr ⟨h.1, by simp, fun a ha b hb e => hno (by rw [← List.mem_singleton.mp hb, ← e]; exact ha)⟩, fun x y hm => ?_⟩
  rcases List.mem_append.mp hm with hm | hm
  · obtain ⟨a1, a2, a3, a4⟩ := h.2 x y hm
    exact ⟨a1, a2, a3, fun n' b1 b2 => List.mem_append.mpr (.inl (a4 n' b1 b2))⟩
  · obtain ⟨rfl, rfl⟩ := Prod.mk.inj (List.mem_singleton.mp hm)
    refine ⟨h0, h1, by omega, fun n' b1 b2 => ?_⟩
    by_cases e : n' = y
    · rw [e]
      exact List.mem_append.mpr (.inr hm)
    · exact List.mem_append.mpr (.inl ((h.iff b1).mpr (by omega)))
/-- the state of the walk: what was sent, the causes of each, what each delivered, what each told -/
structure HS where
  ks : List (Int × Int)
  cg : List (List (Int × Int))
  got : List (List (Int × Int))
  told : List (List (Int × Int))
def causesOf (ks : List (Int × Int)) (cg : List (List (Int × Int))) (c : Int × Int) : List (Int × Int) := (((ks.zip cg).find? fun p => decide (p.1 = c)).map (·.2)).getD []
theorem causesOf_old {ks : List (Int × Int)} {cg : List (List (Int × Int))} {c d : Int × Int} {G : List (Int × Int)} (hl : ks.length = cg.length) (h : c ∈ ks) : causesOf (ks ++ [d]) (cg ++ [G]) c = causesOf ks cg c := by
  unfold causesOf
  rw [List.zip_append hl, List.find?_append]
  have : ∃ p, (ks.zip cg).find? (fun p => decide (p.1 = c)) = some p := by
    obtain ⟨i, hi⟩ := List.getElem?_of_mem h
    have hlt := (List.getElem?_eq_some_iff.mp hi).1
    have hz : (ks.zip cg)[i]? = some (c, cg[i]'(by omega)) := by
      rw [List.getElem?_zip_eq_some]
      exact ⟨hi, List.getElem?_eq_getElem (by omega)⟩
    cases hf : (ks.zip cg).find? (fun p => decide (p.1 = c)) with
    | some p => exact ⟨p, rfl⟩
    | none =>
      have := List.find?_eq_none.mp hf _ (List.mem_of_getElem? hz)
      simp at this
  obtain ⟨p, hp⟩ := this
  rw [hp]
  rfl
theorem causesOf_new {ks : List (Int × Int)} {cg : List (List (Int × Int))} {d : Int × Int} {G : List (Int × Int)} (hl : ks.length = cg.length) (h : d ∉ ks) : causesOf (ks ++ [d]) (cg ++ [G]) d = G := by
  unfold causesOf
  rw [List.zip_append hl, List.find?_append]
  have : (ks.zip cg).find? (fun p => decide (p.1 = d)) = none := by
    rw [List.find?_eq_none]
    intro p hp
    have := (List.of_mem_zip hp).1
    simp only [decide_eq_true_eq]
    exact fun e => h (e ▸ this)
  rw [this]
  simp
/-- place p of row r holds no other one, and c stands in r at no other place -/
def otherwise (r : List (Int × Int)) (p : Int) (c : Int × Int) : Bool := (decide (p ≤ r.length) && !decide (r[(p - 1).toNat]? = some c)) || (decide (c ∈ r) && !decide (((r.findIdx fun z => decide (z = c)) : Int) = p - 1))
def HS.gotOf (S : HS) (m : Int) : List (Int × Int) := S.got.getD m.toNat []
def HS.toldOf (S : HS) (m : Int) : List (Int × Int) := S.told.getD m.toNat []
/-- why a row can't be -/
def HS.why (S : HS) : RowD → Option Str
  | .sent _ _ => none
  | .got m s n =>
    if s = m then some "own" else if (s, n) ∉ S.ks then some "unsent" else if (s, n) ∈ S.gotOf m then some "again"
    else if (causesOf S.ks S.cg (s, n)).all (fun c => decide (c ∈ S.gotOf m)) = true then none else some "early"
  | .told m p s n =>
    if p ≠ (S.toldOf m).length + 1 then some "place" else if (s, n) ∉ S.gotOf m then some "not got" else if (s, n) ∈ S.toldOf m then some "again"
    else if ((List.range S.told.length).any fun k => !decide ((k : Int) = m) && otherwise (S.told.getD k []) p (s, n)) = true then some "other"
    else if (causesOf S.ks S.cg (s, n)).all (fun c => decide (c ∈ S.toldOf m)) = true then none else some "causes"
def HS.next (S : HS) (m : Int) : Int × Int := (m, 1 + (cntM S.ks m : Int))
def HS.go (S : HS) : RowD → HS
  | .sent m _ => { ks := S.ks ++ [S.next m], cg := S.cg ++ [S.gotOf m], got := S.got.set m.toNat (S.gotOf m ++ [S.next m]), told := S.told }
  | .got m s n => { S with got := S.got.set m.toNat (S.gotOf m ++ [(s, n)]) }
  | .told m _ s n => { S with told := S.told.set m.toNat (S.toldOf m ++ [(s, n)]) }
/-- what holds in each state that the walk meets -/
structure WF (M : Int) (S : HS) : Prop where
  lk : S.ks.length = S.cg.length
  lg : (S.got.length : Int) = M
  lt : (S.told.length : Int) = M
  kc : Closed M S.ks
  gc : ∀ m : Nat, (m : Int) ≤ M - 1 → Closed M (S.gotOf m)
  gk : ∀ m : Nat, (m : Int) ≤ M - 1 → ∀ c ∈ S.gotOf m, c ∈ S.ks
  gd : ∀ m : Nat, (m : Int) ≤ M - 1 → ∀ c ∈ S.gotOf m, ∀ e ∈ causesOf S.ks S.cg c, e ∈ S.gotOf m
  go : ∀ m : Nat, (m : Int) ≤ M - 1 → ∀ n, ((m : Int), n) ∈ S.ks → ((m : Int), n) ∈ S.gotOf m
  cc : ∀ c ∈ S.ks, Closed M (causesOf S.ks S.cg c)
  ck : ∀ c ∈ S.ks, ∀ e ∈ causesOf S.ks S.cg c, e ∈ S.ks
  cn : ∀ c ∈ S.ks, (cntM (causesOf S.ks S.cg c) c.1 : Int) = c.2 - 1
  tn : ∀ m : Nat, (m : Int) ≤ M - 1 → (S.toldOf m).Nodup
  tg : ∀ m : Nat, (m : Int) ≤ M - 1 → ∀ c ∈ S.toldOf m, c ∈ S.ks
theorem HS.set_self {L : List (List (Int × Int))} {m : Nat} {G : List (Int × Int)} (h : m < L.length) : (L.set m G).getD m [] = G := by
  rw [List.getD_eq_getElem?_getD, List.getElem?_set_self h]
  rfl
theorem HS.set_other {L : List (List (Int × Int))} {m k : Nat} {G : List (Int × Int)} (h : m ≠ k) : (L.set m G).getD k [] = L.getD k [] := by
  rw [List.getD_eq_getElem?_getD, List.getElem?_set_ne h, ← List.getD_eq_getElem?_getD]
def HS.zero (M : Int) : HS := { ks := [], cg := [], got := List.replicate M.toNat [], told := List.replicate M.toNat [] }
theorem rep_getD {n k : Nat} : (List.replicate n ([] : List (Int × Int))).getD k [] = [] := by
  rw [List.getD_eq_getElem?_getD, List.getElem?_replicate]
  split <;> rfl
theorem WF.zero {M : Int} (h : 0 ≤ M) : WF M (HS.zero M) where
  lk := rfl
  lg := by show ((List.replicate M.toNat _).length : Int) = M; rw [List.length_replicate]; omega
  lt := by show ((List.replicate M.toNat _).length : Int) = M; rw [List.length_replicate]; omega
  kc := .nil
  gc := fun m _ => by show Closed M ((List.replicate M.toNat _).getD _ _); rw [rep_getD]; exact .nil
  gk := fun m _ c hc => by
    have hc : c ∈ (List.replicate M.toNat ([] : List (Int × Int))).getD (m : Int).toNat [] := hc
    rw [rep_getD] at hc
    cases hc
  gd := fun m _ c hc => by
    have hc : c ∈ (List.replicate M.toNat ([] : List (Int × Int))).getD (m : Int).toNat [] := hc
    rw [rep_getD] at hc
    cases hc
  go := fun m _ n hn => nomatch hn
  cc := fun c hc => nomatch hc
  ck := fun c hc => nomatch hc
  cn := fun c hc => nomatch hc
  tn := fun m _ => by show List.Nodup ((List.replicate M.toNat ([] : List (Int × Int))).getD _ _); rw [rep_getD]; exact List.nodup_nil
  tg := fun m _ c hc => by
    have hc : c ∈ (List.replicate M.toNat ([] : List (Int × Int))).getD (m : Int).toNat [] := hc
    rw [rep_getD] at hc
    cases hc
theorem cnt_eq {M : Int} {A B : List (Int × Int)} {s : Int} (ha : Closed M A) (hb : Closed M B) (h : ∀ n, 1 ≤ n → ((s, n) ∈ A ↔ (s, n) ∈ B)) : cntM A s = cntM B s := by
  have h1 : cntM A s ≤ cntM B s := by
    by_cases e : cntM A s = 0
    · omega
    · have := (hb.iff (s := s) (n := cntM A s) (by omega)).mp ((h _ (by omega)).mp ((ha.iff (by omega)).mpr (Int.le_refl _)))
      omega
  have h2 : cntM B s ≤ cntM A s := by
    by_cases e : cntM B s = 0
    · omega
    · have := (ha.iff (s := s) (n := cntM B s) (by omega)).mp ((h _ (by omega)).mpr ((hb.iff (by omega)).mpr (Int.le_refl _)))
      omega
  omega
theorem cnt_sub {M : Int} {A B : List (Int × Int)} {s : Int} (ha : Closed M A) (hb : Closed M B) (h : ∀ n, 1 ≤ n → (s, n) ∈ A → (s, n) ∈ B) : cntM A s ≤ cntM B s := by
  by_cases e : cntM A s = 0
  · omega
  · have := (hb.iff (s := s) (n := cntM A s) (by omega)).mp (h _ (by omega) ((ha.iff (by omega)).mpr (Int.le_refl _)))
    omega
theorem WF.own {M : Int} {S : HS} (h : WF M S) {m : Nat} (hm : (m : Int) ≤ M - 1) : cntM (S.gotOf m) m = cntM S.ks m :=
  cnt_eq (h.gc m hm) h.kc fun n _ => ⟨fun x => h.gk m hm _ x, fun x => h.go m hm n x⟩
theorem WF.next_new {M : Int} {S : HS} (h : WF M S) {m : Int} : S.next m ∉ S.ks := fun hm => by
  have := (h.kc.iff (s := m) (n := 1 + (cntM S.ks m : Int)) (by omega)).mp hm
  omega
theorem HS.gotOf_nat {S : HS} {m : Nat} : S.gotOf m = S.got.getD m [] := by
  unfold HS.gotOf
  rw [Int.toNat_natCast]
theorem HS.toldOf_nat {S : HS} {m : Nat} : S.toldOf m = S.told.getD m [] := by
  unfold HS.toldOf
  rw [Int.toNat_natCast]
theorem WF.sent {M : Int} {S : HS} {m : Nat} {w : Str} (h : WF M S) (hm : (m : Int) ≤ M - 1) : WF M (S.go (.sent m w)) := by
  have hlen : m < S.got.length := by have := h.lg; omega
  have hno := h.next_new (m := (m : Int))
  have hown := h.own hm
  have e0 : (S.go (.sent m w)).gotOf m = S.gotOf m ++ [S.next m] := by
    rw [HS.gotOf_nat]
    show (S.got.set ((m : Int).toNat) _).getD m [] = _
    rw [Int.toNat_natCast, HS.set_self hlen]
  have e1 : ∀ k : Nat, k ≠ m → (S.go (.sent m w)).gotOf k = S.gotOf k := fun k hk => by
    rw [HS.gotOf_nat, HS.gotOf_nat]
    show (S.got.set ((m : Int).toNat) _).getD k [] = _
    rw [Int.toNat_natCast, HS.set_other (Ne.symm hk)]
  have ek : (S.go (.sent m w)).ks = S.ks ++ [S.next m] := rfl
  have ec : (S.go (.sent m w)).cg = S.cg ++ [S.gotOf m] := rfl
  have co : ∀ c ∈ S.ks, causesOf (S.go (.sent m w)).ks (S.go (.sent m w)).cg c = causesOf S.ks S.cg c := fun c hc => causesOf_old h.lk hc
  have cn : causesOf (S.go (.sent m w)).ks (S.go (.sent m w)).cg (S.next m) = S.gotOf m := causesOf_new h.lk hno
  have kin : ∀ c ∈ S.ks, c ∈ (S.go (.sent m w)).ks := fun c hc => List.mem_append.mpr (.inl hc)
  have knew : S.next m ∈ (S.go (.sent m w)).ks := List.mem_append.mpr (.inr (List.mem_singleton.mpr rfl))
  have kcases : ∀ c ∈ (S.go (.sent m w)).ks, c ∈ S.ks ∨ c = S.next m := fun c hc => (List.mem_append.mp hc).imp id List.mem_singleton.mp
  have gcases : ∀ k : Nat, ∀ c ∈ (S.go (.sent m w)).gotOf k, c ∈ S.gotOf k ∨ (k = m ∧ c = S.next m) := fun k c hc => by
    by_cases hk : k = m
    · subst hk
      rw [e0] at hc
      exact (List.mem_append.mp hc).imp id fun x => ⟨rfl, List.mem_singleton.mp x⟩
    · rw [e1 k hk] at hc
      exact .inl hc
  have gin : ∀ k : Nat, ∀ c ∈ S.gotOf k, c ∈ (S.go (.sent m w)).gotOf k := fun k c hc => by
    by_cases hk : k = m
    · subst hk
      rw [e0]
      exact List.mem_append.mpr (.inl hc)
    · rw [e1 k hk]
      exact hc
  exact {
    lk := by rw [ek, ec, List.length_append, List.length_append, h.lk]; rfl
    lg := by show ((S.got.set _ _).length : Int) = M; rw [List.length_set]; exact h.lg
    lt := h.lt
    kc := by rw [ek]; exact h.kc.snoc (by omega) hm (by omega)
    gc := fun k hk => by
      by_cases e : k = m
      · subst e
        rw [e0]
        exact (h.gc k hk).snoc (by omega) hk (by omega)
      · rw [e1 k e]
        exact h.gc k hk
    gk := fun k hk c hc => (gcases k c hc).elim (fun x => kin c (h.gk k hk c x)) (fun x => by rw [x.2]; exact knew)
    gd := fun k hk c hc e he => by
      rcases gcases k c hc with hc | ⟨rfl, rfl⟩
      · rw [co c (h.gk k hk c hc)] at he
        exact gin k e (h.gd k hk c hc e he)
      · rw [cn] at he
        exact gin k e he
    go := fun k hk n hn => by
      rcases kcases _ hn with hn | hn
      · exact gin k _ (h.go k hk n hn)
      · have : k = m := by
          have := (Prod.mk.inj hn).1
          omega
        subst this
        rw [e0, hn]
        exact List.mem_append.mpr (.inr (List.mem_singleton.mpr rfl))
    cc := fun c hc => by
      rcases kcases c hc with hc | rfl
      · rw [co c hc]
        exact h.cc c hc
      · rw [cn]
        exact h.gc m hm
    ck := fun c hc e he => by
      rcases kcases c hc with hc | rfl
      · rw [co c hc] at he
        exact kin e (h.ck c hc e he)
      · rw [cn] at he
        exact kin e (h.gk m hm e he)
    cn := fun c hc => by
      rcases kcases c hc with hc | rfl
      · rw [co c hc]
        exact h.cn c hc
      · rw [cn]
        show (cntM (S.gotOf m) (m : Int) : Int) = 1 + (cntM S.ks m : Int) - 1
        omega
    tn := h.tn
    tg := fun k hk c hc => kin c (h.tg k hk c hc) }
theorem WF.gotn {M : Int} {S : HS} {m : Nat} {s n : Int} (h : WF M S) (hm : (m : Int) ≤ M - 1) (hk : (s, n) ∈ S.ks) (hno : (s, n) ∉ S.gotOf m) (hc : ∀ c ∈ causesOf S.ks S.cg (s, n), c ∈ S.gotOf m) : n = cntM (S.gotOf m) s + 1 := by
  obtain ⟨_, _, h1, _⟩ := h.kc.2 s n hk
  have a1 := cnt_sub (s := s) (h.cc _ hk) (h.gc m hm) fun n' _ x => hc _ x
  have a2 := h.cn _ hk
  have a3 : ¬ n ≤ cntM (S.gotOf m) s := fun x => hno (((h.gc m hm).iff h1).mpr x)
  have a2 : (cntM (causesOf S.ks S.cg (s, n)) s : Int) = n - 1 := a2
  omega
theorem WF.gots {M : Int} {S : HS} {m : Nat} {s n : Int} (h : WF M S) (hm : (m : Int) ≤ M - 1) (hk : (s, n) ∈ S.ks) (hno : (s, n) ∉ S.gotOf m) (hc : ∀ c ∈ causesOf S.ks S.cg (s, n), c ∈ S.gotOf m) : WF M (S.go (.got m s n)) := by
  have hlen : m < S.got.length := by have := h.lg; omega
  obtain ⟨k0, k1, _, _⟩ := h.kc.2 s n hk
  have e0 : (S.go (.got m s n)).gotOf m = S.gotOf m ++ [(s, n)] := by
    rw [HS.gotOf_nat]
    show (S.got.set ((m : Int).toNat) _).getD m [] = _
    rw [Int.toNat_natCast, HS.set_self hlen]
  have e1 : ∀ k : Nat, k ≠ m → (S.go (.got m s n)).gotOf k = S.gotOf k := fun k hk => by
    rw [HS.gotOf_nat, HS.gotOf_nat]
    show (S.got.set ((m : Int).toNat) _).getD k [] = _
    rw [Int.toNat_natCast, HS.set_other (Ne.symm hk)]
  have gcases : ∀ k : Nat, ∀ c ∈ (S.go (.got m s n)).gotOf k, c ∈ S.gotOf k ∨ (k = m ∧ c = (s, n)) := fun k c hx => by
    by_cases hkm : k = m
    · rw [hkm] at hx ⊢
      rw [e0] at hx
      exact (List.mem_append.mp hx).imp id fun x => ⟨rfl, List.mem_singleton.mp x⟩
    · rw [e1 k hkm] at hx
      exact .inl hx
  have gin : ∀ k : Nat, ∀ c ∈ S.gotOf k, c ∈ (S.go (.got m s n)).gotOf k := fun k c hx => by
    by_cases hkm : k = m
    · rw [hkm] at hx ⊢
      rw [e0]
      exact List.mem_append.mpr (.inl hx)
    · rw [e1 k hkm]
      exact hx
  exact {
    lk := h.lk
    lg := by show ((S.got.set _ _).length : Int) = M; rw [List.length_set]; exact h.lg
    lt := h.lt
    kc := h.kc
    gc := fun k hk2 => by
      by_cases e : k = m
      · subst e
        rw [e0]
        exact (h.gc k hk2).snoc k0 k1 (h.gotn hk2 hk hno hc)
      · rw [e1 k e]
        exact h.gc k hk2
    gk := fun k hk2 c hcc => (gcases k c hcc).elim (fun x => h.gk k hk2 c x) (fun x => by rw [x.2]; exact hk)
    gd := fun k hk2 c hcc e he => by
      rcases gcases k c hcc with hcc | ⟨rfl, rfl⟩
      · exact gin k e (h.gd k hk2 c hcc e he)
      · exact gin k e (hc e he)
    go := fun k hk2 n' hn => gin k _ (h.go k hk2 n' hn)
    cc := h.cc
    ck := h.ck
    cn := h.cn
    tn := h.tn
    tg := h.tg }
theorem WF.tolds {M : Int} {S : HS} {m : Nat} {p s n : Int} (h : WF M S) (hm : (m : Int) ≤ M - 1) (hg : (s, n) ∈ S.gotOf m) (hno : (s, n) ∉ S.toldOf m) : WF M (S.go (.told m p s n)) := by
  have hlen : m < S.told.length := by have := h.lt; omega
  have e0 : (S.go (.told m p s n)).toldOf m = S.toldOf m ++ [(s, n)] := by
    rw [HS.toldOf_nat]
    show (S.told.set ((m : Int).toNat) _).getD m [] = _
    rw [Int.toNat_natCast, HS.set_self hlen]
  have e1 : ∀ k : Nat, k ≠ m → (S.go (.told m p s n)).toldOf k = S.toldOf k := fun k hk => by
    rw [HS.toldOf_nat, HS.toldOf_nat]
    show (S.told.set ((m : Int).toNat) _).getD k [] = _
    rw [Int.toNat_natCast, HS.set_other (Ne.symm hk)]
  exact {
    lk := h.lk
    lg := h.lg
    lt := by show ((S.told.set _ _).length : Int) = M; rw [List.length_set]; exact h.lt
    kc := h.kc
    gc := h.gc
    gk := h.gk
    gd := h.gd
    go := h.go
    cc := h.cc
    ck := h.ck
    cn := h.cn
    tn := fun k hk2 => by
      by_cases e : k = m
      · subst e
        rw [e0]
        exact List.nodup_append.mpr ⟨h.tn k hk2, by simp, fun a ha b hb e => hno (by rw [← List.mem_singleton.mp hb, ← e]; exact ha)⟩
      · rw [e1 k e]
        exact h.tn k hk2
    tg := fun k hk2 c hc => by
      by_cases e : k = m
      · subst e
        rw [e0] at hc
        rcases List.mem_append.mp hc with hc | hc
        · exact h.tg k hk2 c hc
        · rw [List.mem_singleton.mp hc]
          exact h.gk k hk2 _ hg
      · rw [e1 k e] at hc
        exact h.tg k hk2 c hc }
theorem WF.step {M : Int} {S : HS} {ρ : RowD} (h : WF M S) (hg : ρ.Good M) (hw : S.why ρ = none) : WF M (S.go ρ) := by
  obtain ⟨m, hm⟩ := Int.eq_ofNat_of_zero_le hg.mem.1
  have hm1 := hg.mem.2
  cases ρ with
  | sent x w =>
    have hm : x = (m : Int) := hm
    subst hm
    exact h.sent hm1
  | got x s n =>
    have hm : x = (m : Int) := hm
    subst hm
    unfold HS.why at hw
    dsimp only at hw
    split at hw
    · cases hw
    · split at hw
      · cases hw
      · rename_i h1 h2
        split at hw
        · cases hw
        · rename_i h3
          split at hw
          · rename_i h4
            refine h.gots hm1 (Decidable.not_not.mp h2) h3 fun c hc => ?_
            simpa using List.all_eq_true.mp h4 c hc
          · cases hw
  | told x p s n =>
    have hm : x = (m : Int) := hm
    subst hm
    unfold HS.why at hw
    dsimp only at hw
    split at hw
    · cases hw
    · split at hw
      · cases hw
      · rename_i h1 h2
        split at hw
        · cases hw
        · rename_i h3
          exact h.tolds hm1 (Decidable.not_not.mp h2) h3
def Keep (L : List Addr) (H H' : Hp) : Prop := ∀ b o, b ∉ L → H b = some o → H' b = some o
theorem Keep.of {L : List Addr} {H H' : Hp} (s : Same H H') : Keep L H H' := fun b o _ e => s b o e
theorem Keep.no {L : List Addr} {H H' : Hp} (f : Keep L H H') (hL : ∀ b ∈ L, ∃ xs, H b = some (.lst xs)) {b : Addr} {o : HO} (e : H b = some o) (n : ∀ xs, o ≠ .lst xs) : H' b = some o :=
  f b o (fun hb => by
    obtain ⟨xs, hx⟩ := hL b hb
    rw [hx] at e
    exact n xs (Option.some.inj e).symm) e
theorem Keep.pairs {L : List Addr} {H H' : Hp} (f : Keep L H H') (hL : ∀ b ∈ L, ∃ xs, H b = some (.lst xs)) {xs : List V} {ids : List (Int × Int)} (h : All2 (PairAt H) xs ids) : All2 (PairAt H') xs ids := h.mono fun v c z => by
  obtain ⟨i, e1, e2⟩ := z
  exact ⟨i, e1, f.no hL e2 (fun xs => by simp)⟩
theorem Keep.rows {L : List Addr} {H H' : Hp} (f : Keep L H H') (hL : ∀ b ∈ L, ∃ xs, H b = some (.lst xs)) {xs : List V} {rs : List RowD} (h : All2 (RowAt H) xs rs) : All2 (RowAt H') xs rs := h.mono fun v c z => by
  obtain ⟨o, i, e1, e2⟩ := z
  exact ⟨o, i, e1, f.no hL e2 (fun xs => by simp)⟩
def RowD.kind : RowD → Str
  | .sent _ _ => "sent"
  | .got _ _ _ => "got"
  | .told _ _ _ _ => "told"
theorem RowD.at0 {ρ : RowD} : atI ρ.vs 0 = some (.str ρ.kind) := by cases ρ <;> exact at0z
theorem RowD.at1 {ρ : RowD} : atI ρ.vs 1 = some (.int ρ.mem) := by cases ρ <;> exact at1z
theorem RowD.kind_sent {ρ : RowD} : decide (ρ.kind = Str.ofString "sent") = ρ.isSent := by
  cases ρ with
  | sent m w => exact (show decide (Str.ofString "sent" = Str.ofString "sent") = true by decide +kernel)
  | got m s n => exact (show decide (Str.ofString "got" = Str.ofString "sent") = false by decide +kernel)
  | told m p s n => exact (show decide (Str.ofString "told" = Str.ofString "sent") = false by decide +kernel)
theorem own_step {rs : List RowD} {i : Nat} {ρ : RowD} {k : Int} (h : rs[i]? = some ρ) : own (rs.take (i + 1)) k = own (rs.take i) k ++ (if ρ.mem = k then [ρ] else []) := by
  unfold own
  rw [List.take_add_one, h, List.filter_append]
  congr 1
  by_cases e : ρ.mem = k <;> simp [e]
theorem own_stepT {rs : List RowD} {i : Nat} {ρ : RowD} {k : Int} (h : rs[i]? = some ρ) (e : decide (ρ.mem = k) = true) : own (rs.take (i + 1)) k = own (rs.take i) k ++ [ρ] := by rw [own_step h, if_pos (of_decide_eq_true e)]
theorem own_stepF {rs : List RowD} {i : Nat} {ρ : RowD} {k : Int} (h : rs[i]? = some ρ) (e : decide (ρ.mem = k) = false) : own (rs.take (i + 1)) k = own (rs.take i) k := by rw [own_step h, if_neg (of_decide_eq_false e), List.append_nil]
theorem nSent_step {rs : List RowD} {i : Nat} {ρ : RowD} (h : rs[i]? = some ρ) : nSent (rs.take (i + 1)) = nSent (rs.take i) + (if ρ.isSent = true then 1 else 0) := by
  unfold nSent
  rw [List.take_add_one, h, List.filter_append, List.length_append]
  congr 1
  by_cases e : ρ.isSent = true <;> simp [e]
theorem tTestIx_m {K : PySem.W.Frag} {i j : Nat} {v : V} : ∀ (σ : L2.St) (H : Hp) (Q Q' : Bool → Hp → Prop), (∀ b H, Q b H → Q' b H) → tTest (tOp rEq (tOp (rIxT K) (tVar i) (tC v)) (tVar j)) σ H Q → tTest (tOp rEq (tOp (rIxT K) (tVar i) (tC v)) (tVar j)) σ H Q' := by
  rintro σ H Q Q' h ⟨v1, e1, p, xs, i, w, e2, e3, h2, ha, v2, e4, h3, kb, e5, q⟩
  exact ⟨v1, e1, p, xs, i, w, e2, e3, h2, ha, v2, e4, h3, kb, e5, h _ _ q⟩
theorem tTestIxC_m {K : PySem.W.Frag} {i : Nat} {u v : V} : ∀ (σ : L2.St) (H : Hp) (Q Q' : Bool → Hp → Prop), (∀ b H, Q b H → Q' b H) → tTest (tOp rEq (tOp (rIxT K) (tVar i) (tC v)) (tC u)) σ H Q → tTest (tOp rEq (tOp (rIxT K) (tVar i) (tC v)) (tC u)) σ H Q' := by
  rintro σ H Q Q' h ⟨v1, e1, p, xs, i, w, e2, e3, h2, ha, h3, kb, e5, q⟩
  exact ⟨v1, e1, p, xs, i, w, e2, e3, h2, ha, h3, kb, e5, h _ _ q⟩
theorem q_slTe {K : PySem.W.Frag} {H : Hp} {Q : VK} {p : Addr} {xs ys : List V} {lo hi : Option Int} (h : SqT K H p xs) (hn : ¬ (HT.sIx xs.length 0 lo = 0 ∧ HT.sIx xs.length xs.length hi = xs.length)) (e : cutV xs lo hi = ys) (q : ∀ d, H d = none → Q (.ref d) (upd H d (.tup ys))) : rSlT K (.ref p) lo hi H Q := q_slT h hn (by rw [e]; exact q)
/-- new empty lists, none of them D, none there at H1 -/
def Empt (D : Addr) (H1 : Hp) (i : Nat) (ys : List V) (H : Hp) : Prop := ∃ l : List Addr, ys = l.map V.ref ∧ l.length = i ∧ l.Nodup ∧ ∀ a ∈ l, H a = some (.lst []) ∧ H1 a = none ∧ a ≠ D
theorem Empt.zero {D : Addr} {H1 H : Hp} : Empt D H1 0 [] H := ⟨[], rfl, rfl, List.nodup_nil, fun a h => nomatch h⟩
theorem Empt.same {D : Addr} {H1 H H' : Hp} {i : Nat} {ys : List V} (h : Empt D H1 i ys H) (s : Same H H') : Empt D H1 i ys H' := by
  obtain ⟨l, h1, h2, h3, h4⟩ := h
  exact ⟨l, h1, h2, h3, fun a ha => ⟨s _ _ (h4 a ha).1, (h4 a ha).2⟩⟩
theorem Empt.put {D : Addr} {H1 H : Hp} {i : Nat} {ys : List V} {o : HO} (h : Empt D H1 i ys H) : Empt D H1 i ys (upd H D o) := by
  obtain ⟨l, h1, h2, h3, h4⟩ := h
  exact ⟨l, h1, h2, h3, fun a ha => ⟨(upd_ne (h4 a ha).2.2).trans (h4 a ha).1, (h4 a ha).2⟩⟩
theorem Empt.snoc {D : Addr} {H1 H H' : Hp} {i : Nat} {ys : List V} {z : Addr} (h : Empt D H1 i ys H) (s : Same H H') (f1 : H1 z = none) (f : H z = none) (e : H' z = some (.lst [])) (n : z ≠ D) : Empt D H1 (i + 1) (ys ++ [.ref z]) H' := by
  obtain ⟨l, rfl, rfl, h3, h4⟩ := h
  refine ⟨l ++ [z], by simp, by simp, List.nodup_append.mpr ⟨h3, by simp, fun x hx y hy e2 => ?_⟩, fun a ha => ?_⟩
  · rw [List.mem_singleton.mp hy] at e2
    have := (h4 x hx).1
    rw [e2, f] at this
    cases this
  · rcases List.mem_append.mp ha with ha | ha
    · exact ⟨s _ _ (h4 a ha).1, (h4 a ha).2⟩
    · rw [List.mem_singleton.mp ha]
      exact ⟨e, f1, n⟩
theorem putK_len {κ : Type} [DecidableEq κ] {kvs : List (κ × V)} {k : κ} {v : V} : (putK kvs k v).length ≤ kvs.length + 1 := by
  unfold putK
  split
  · simp
  · simp
theorem lock_same {H B : Hp} {c : Addr} {u f : HO} (h : H c = some u) (s : Same (upd H c f) B) : Same H (upd B c u) := fun b o e => by
  by_cases hb : b = c
  · subst hb
    rw [h] at e
    rw [upd_same]
    exact e
  · rw [upd_ne hb]
    exact s _ _ ((upd_ne hb).trans e)
theorem q_keys {td : TE} {σ : L2.St} {H : Hp} {R : It → Hp → Prop} (h : td σ H fun x H1 => ∃ d o, x = .ref d ∧ ((∃ kvs, H1 d = some (.frz o (.dK kvs)) ∧ R (Itk d o kvs) H1) ∨ ∃ kvs, H1 d = some (.frz o (.dT kvs)) ∧ R (Itkt d o kvs) H1)) : iKeys td σ H R := h
theorem mergeK4 {k1 k2 k3 k4 : Key} {x y z u : V} (h1 : k1 ≠ k2) (h2 : k1 ≠ k3) (h3 : k1 ≠ k4) (h4 : k2 ≠ k3) (h5 : k2 ≠ k4) (h6 : k3 ≠ k4) : mergeK [] [(k1, x), (k2, y), (k3, z), (k4, u)] = [(k1, x), (k2, y), (k3, z), (k4, u)] := by
  show putK (putK (putK (putK [] k1 x) k2 y) k3 z) k4 u = _
  simp [putK, h1, h2, h3, h4, h5, h6]
theorem q_nePair {K : PySem.W.Frag} {H : Hp} {Q : VK} {x y : V} {c d : Int × Int} (hx : PairAt H x c) (hy : PairAt H y d) (q : Q (.bl (!decide (c = d))) H) : rNeD K x y H Q := by
  obtain ⟨i, rfl, h1⟩ := hx
  obtain ⟨j, rfl, h2⟩ := hy
  refine q_neD (d := pairOf c) (e := pairOf d) (.tup (SqT.of h1) (.cons (.int _) (.cons (.int _) .nil))) (.tup (SqT.of h2) (.cons (.int _) (.cons (.int _) .nil))) rfl rfl ?_
  rw [eqv_pair]
  exact q
theorem q_seqC {t u : TS} {D : Ends} {σ : L2.St} {H : Hp} (F : L2.St → Hp → Prop) (h : ∀ N : L2.St → Hp → Prop, (∀ σ' H', F σ' H' → N σ' H') → t { D with nx := N } σ H) (k : ∀ σ' H', F σ' H' → u D σ' H') : tSeq t u D σ H := h (u D) k
theorem rep_true {n : Nat} : List.replicate n (V.bl true) = (List.replicate n true).map V.bl := by simp
theorem all_rep {n : Nat} : (List.replicate n true).all id = true := by simp
theorem All2.set {β : Type} {P : V → β → Prop} : ∀ {xs : List V} {cs : List β} {x : V} {c : β} {i : Nat}, All2 P xs cs → P x c → All2 P (xs.set i x) (cs.set i c)
  | _, _, _, _, _, .nil, _ => .nil
  | _, _, _, _, 0, .cons h t, hx => .cons hx t
  | _, _, _, _, i + 1, .cons h t, hx => .cons h (All2.set t hx)
theorem swap_at : ∀ {os : List RowD} {i : Nat} {a b : RowD}, os[i]? = some a → os[i + 1]? = some b → ∃ pre post, os = pre ++ a :: b :: post ∧ (os.set i b).set (i + 1) a = pre ++ b :: a :: post
  | [], _, _, _, h, _ => by simp at h
  | [x], 0, _, _, _, h => by simp at h
  | x :: y :: os, 0, a, b, h1, h2 => by
    simp at h1 h2
    subst h1
    subst h2
    exact ⟨[], os, rfl, rfl⟩
  | x :: os, i + 1, a, b, h1, h2 => by
    obtain ⟨pre, post, e1, e2⟩ := swap_at (os := os) (i := i) (by simpa using h1) (by simpa using h2)
    exact ⟨x :: pre, post, by rw [e1]; rfl, by show x :: ((os.set i b).set (i + 1) a) = _; rw [e2]; rfl⟩
theorem swap_perm {os : List RowD} {i : Nat} {a b : RowD} (h1 : os[i]? = some a) (h2 : os[i + 1]? = some b) : ((os.set i b).set (i + 1) a).Perm os := by
  obtain ⟨pre, post, e1, e2⟩ := swap_at h1 h2
  rw [e2, e1]
  exact List.Perm.append_left _ (List.Perm.swap ..)
theorem swap_own {os : List RowD} {i : Nat} {a b : RowD} (h1 : os[i]? = some a) (h2 : os[i + 1]? = some b) (ne : ¬ a.mem = b.mem) (k : Int) : own ((os.set i b).set (i + 1) a) k = own os k := by
  obtain ⟨pre, post, e1, e2⟩ := swap_at h1 h2
  rw [e2, e1]
  unfold own
  rw [List.filter_append, List.filter_append]
  congr 1
  by_cases ha : a.mem = k
  · have hb : ¬ b.mem = k := fun hb => ne (ha.trans hb.symm)
    simp [ha, hb]
  · by_cases hb : b.mem = k <;> simp [ha, hb]
theorem nSent_perm {rs os : List RowD} (h : rs.Perm os) : nSent rs = nSent os := (h.filter _).length_eq
theorem small_lt {n : Nat} (h : n ≤ 1000) : n < 2 ^ 8000 := Nat.lt_of_le_of_lt h (by decide +kernel)
theorem zk_get2 {ks : List (Int × Int)} {cl : List Addr} {i : Nat} {k : List Key} {v : V} (h : (zk ks cl)[i]? = some (k, v)) : ∃ c, c ∈ ks ∧ ks[i]? = some c ∧ k = keyOf c := by
  simp only [zk, List.getElem?_zipWith] at h
  split at h
  · rename_i c b hk hb
    have e1 := Option.some.inj h
    exact ⟨c, List.mem_of_getElem? hk, hk, (Prod.mk.inj e1).1.symm⟩
  · cases h
theorem All2.cut {β : Type} {P : V → β → Prop} {xs : List V} {cs : List β} (h : All2 P xs cs) (lo hi : Option Int) : All2 P (cutV xs lo hi) ((cs.drop (HT.sIx xs.length 0 lo)).take (HT.sIx xs.length xs.length hi - HT.sIx xs.length 0 lo)) := by
  unfold cutV
  exact (h.drop _).take _
theorem cut_last {xs : List V} : cutV xs (some (-1)) none = xs.drop (xs.length - 1) := by
  unfold cutV
  have e : HT.sIx xs.length 0 (some (-1)) = xs.length - 1 := by
    show (if (-1 : Int) < 0 then ((-1 : Int) + (xs.length : Int)).toNat else min (-1 : Int).toNat xs.length) = xs.length - 1
    rw [if_pos (by decide)]
    omega
  rw [HT.sIx_none, e]
  exact List.take_of_length_le (by rw [List.length_drop]; omega)
theorem fr1_keep {q : Addr} {H H' : Hp} (f : Fr1 q H H') : Keep [q] H H' := fun b o nb e => f b o (fun w => nb (by rw [w]; exact List.mem_singleton.mpr rfl)) e
theorem nSent_app {a b : List RowD} : nSent (a ++ b) = nSent a + nSent b := by
  unfold nSent
  rw [List.filter_append, List.length_append]
theorem nSent_one {ρ : RowD} : nSent [ρ] = (if ρ.isSent = true then 1 else 0) := by
  unfold nSent
  cases ρ <;> rfl
theorem row_dec {rs : List RowD} {n : Nat} {ρ : RowD} (h : rs[n]? = some ρ) : rs = rs.take n ++ ([ρ] ++ rs.drop (n + 1)) := by
  obtain ⟨hn, e⟩ := List.getElem?_eq_some_iff.mp h
  have e2 : rs.drop n = ρ :: rs.drop (n + 1) := by rw [List.drop_eq_getElem_cons hn, e]
  rw [List.singleton_append, ← e2, List.take_append_drop]
theorem setM_sent {x : Int} {ρ : RowD} : (ρ.setM x).isSent = ρ.isSent := by cases ρ <;> rfl
theorem RowD.cut1 {ρ : RowD} : cutV ρ.vs none (some 1) = [.str ρ.kind] := by cases ρ <;> rfl
theorem RowD.cut2 {ρ : RowD} : cutV ρ.vs (some 2) none = ρ.vs.drop 2 := by cases ρ <;> rfl
theorem RowD.cutn1 {ρ : RowD} : ¬ (HT.sIx ρ.vs.length 0 none = 0 ∧ HT.sIx ρ.vs.length ρ.vs.length (some 1) = ρ.vs.length) := by
  cases ρ
  · exact (show ¬ (HT.sIx 3 0 none = 0 ∧ HT.sIx 3 3 (some 1) = 3) by decide)
  · exact (show ¬ (HT.sIx 4 0 none = 0 ∧ HT.sIx 4 4 (some 1) = 4) by decide)
  · exact (show ¬ (HT.sIx 5 0 none = 0 ∧ HT.sIx 5 5 (some 1) = 5) by decide)
theorem RowD.cutn2 {ρ : RowD} : ¬ (HT.sIx ρ.vs.length 0 (some 2) = 0 ∧ HT.sIx ρ.vs.length ρ.vs.length none = ρ.vs.length) := by
  cases ρ
  · exact (show ¬ (HT.sIx 3 0 (some 2) = 0 ∧ HT.sIx 3 3 none = 3) by decide)
  · exact (show ¬ (HT.sIx 4 0 (some 2) = 0 ∧ HT.sIx 4 4 none = 4) by decide)
  · exact (show ¬ (HT.sIx 5 0 (some 2) = 0 ∧ HT.sIx 5 5 none = 5) by decide)
theorem RowD.join {ρ : RowD} {x : Int} : [V.str ρ.kind] ++ [V.int x] ++ ρ.vs.drop 2 = (ρ.setM x).vs := by cases ρ <;> rfl
theorem RowD.drop2 {ρ : RowD} : ρ.vs.drop 2 ≠ [] := by cases ρ <;> simp [RowD.vs]
theorem RowD.len5 {ρ : RowD} : (ρ.vs.drop 2).length ≤ 5 := by cases ρ <;> simp [RowD.vs]
theorem snoc_nS {rs : List RowD} {ρ : RowD} : nSent (rs ++ [ρ]) = nSent rs + (if ρ.isSent = true then 1 else 0) := by rw [nSent_app, nSent_one]
theorem E1s_ints {K : PySem.W.Frag} {H : Hp} {ns : List Int} : E1s K H (ns.map V.int) (ns.map V.int) true := by
  induction ns with
  | nil => exact .nil
  | cons n ns ih => exact E1s.cons e1_int ih
theorem E1s_rows {K : PySem.W.Frag} {H H' : Hp} {xs : List V} {rs : List RowD} (h : All2 (RowAt H') xs rs) : E1s K H xs xs true := by
  induction h with
  | nil => exact .nil
  | cons a _ ih =>
    obtain ⟨_, t, rfl, _⟩ := a
    exact E1s.cons (.same t) ih
/-! ### [(s, n) for s in range for n in range]: a display of pairs over two ranges -/
def pre2 (lo : Int) (lo1 : Nat → Int) (m : Nat → Nat) (a : Nat) : List (Int × Int) := (List.range a).flatMap fun k => (List.range (m k)).map fun t => (lo + (k : Nat), lo1 k + (t : Nat))
theorem pre2_succ {lo : Int} {lo1 : Nat → Int} {m : Nat → Nat} {a : Nat} : pre2 lo lo1 m (a + 1) = pre2 lo lo1 m a ++ (List.range (m a)).map fun t => (lo + (a : Nat), lo1 a + (t : Nat)) := by
  unfold pre2
  rw [List.range_succ, List.flatMap_append]
  simp
theorem pre2_len {lo : Int} {lo1 : Nat → Int} {m : Nat → Nat} {n : Nat} (hm : ∀ k, k < n → m k ≤ 100) : ∀ a, a ≤ n → (pre2 lo lo1 m a).length ≤ 100 * a
  | 0, _ => Nat.zero_le _
  | a + 1, h => by
    rw [pre2_succ, List.length_append, List.length_map, List.length_range]
    have := pre2_len (lo := lo) (lo1 := lo1) hm a (by omega)
    have := hm a (by omega)
    omega
def I2 (H1 : Hp) (D : Addr) (cs : List (Int × Int)) (H : Hp) : Prop := Same H1 H ∧ ∃ ys, All2 (PairD D H) ys cs ∧ H D = some (.lst ys)
theorem lc2_pairs {n i j : Nat} {wi1 : TI} {te : TE} {σ : L2.St} {H1 : Hp} {D : Addr} {Qd : Hp → Prop} (lo : Int) (lo1 : Nat → Int) (m : Nat → Nat) (hn : n ≤ 100) (hm : ∀ k, k < n → m k ≤ 100) (hD : H1 D = none)
    (hw1 : ∀ x, wipe ((wipe σ [i, j]).set i x) [i, j] = wipe σ [i, j]) (hw2 : ∀ x y, wipe ((wipe ((wipe σ [i, j]).set i x) [j]).set j y) [j] = wipe ((wipe σ [i, j]).set i x) [j])
    (hi : ∀ k, k < n → ∀ H2 (R : It → Hp → Prop), Same H1 H2 → (∀ H3, Same H2 H3 → R (Itr (lo1 k) (m k)) H3) → wi1 ((wipe σ [i, j]).set i (some (.int (lo + (k : Nat))))) H2 R)
    (he : ∀ k, k < n → ∀ t, t < m k → ∀ H2 (R : VK), Same H1 H2 → (∀ p, H2 p = none → R (.ref p) (upd H2 p (.tup [.int (lo + (k : Nat)), .int (lo1 k + (t : Nat))]))) → te ((wipe ((wipe σ [i, j]).set i (some (.int (lo + (k : Nat))))) [j]).set j (some (.int (lo1 k + (t : Nat))))) H2 R)
    (hd : ∀ ys H', Same H1 H' → All2 (PairD D H') ys (pre2 lo lo1 m n) → H' D = some (.lst ys) → Qd H') :
    ∃ W : Nat → Nat → Hp → Prop, (∃ m, W 0 m (upd H1 D (.lst []))) ∧ ∀ a b H, W a b H →
      ((Itr lo n).stop a H ∧ Qd H) ∨ ((Itr lo n).go a H ∧ ∃ Nx : Hp → Prop, (∀ H', Nx H' → ∃ m', m' < b ∧ W (a + 1) m' H') ∧ ∀ x H', (Itr lo n).yld a H x H' → gName i x (wipe σ [i, j]) H' fun σ2 H2 => wipe σ2 [i, j] = wipe σ [i, j] ∧ tYes σ2 H2 fun b H3 =>
        if b = true then wi1 σ2 H3 fun J1 H4 => ∃ W1 : Nat → Nat → Hp → Prop, (∃ m, W1 0 m H4) ∧ ∀ c d H, W1 c d H →
          (J1.stop c H ∧ Nx H) ∨ (J1.go c H ∧ ∃ Nx1 : Hp → Prop, (∀ H', Nx1 H' → ∃ k', k' < d ∧ W1 (c + 1) k' H') ∧ ∀ x H', J1.yld c H x H' → gName j x (wipe σ2 [j]) H' fun σ3 H5 => wipe σ3 [j] = wipe σ2 [j] ∧ tYes σ3 H5 fun b H6 =>
            if b = true then te σ3 H6 fun y H7 => ∃ acc, H7 D = some (.lst acc) ∧ acc.length < sizeLine ∧ Nx1 (upd H7 D (.lst (acc ++ [y]))) else Nx1 H6)
        else Nx H3) := by
  have lenA : ∀ {ys : List V} {cs : List (Int × Int)} {H : Hp}, All2 (PairD D H) ys cs → ys.length = cs.length := fun h => h.len
  refine ⟨fun a b H => a ≤ n ∧ b = n - a ∧ I2 H1 D (pre2 lo lo1 m a) H, ⟨n, Nat.zero_le _, rfl, Same.new hD, [], .nil, upd_same⟩, ?_⟩
  rintro a b H ⟨ha, rfl, s, ys, hP, e⟩
  by_cases h : a < n
  · right
    refine ⟨h, fun H' => I2 H1 D (pre2 lo lo1 m (a + 1)) H', fun H' q => ⟨n - (a + 1), by omega, by omega, rfl, q⟩, ?_⟩
    rintro x H' ⟨rfl, rfl⟩
    refine ⟨hw1 _, q_yes ?_⟩
    rw [if_pos rfl]
    refine hi a h _ _ s fun H4 s4 => ?_
    refine ⟨fun c d H => c ≤ m a ∧ d = m a - c ∧ I2 H1 D (pre2 lo lo1 m a ++ (List.range c).map fun t => (lo + (a : Nat), lo1 a + (t : Nat))) H, ⟨m a, Nat.zero_le _, rfl, s.trans s4, ys, ?_, s4 _ _ e⟩, ?_⟩
    · rw [List.range_zero, List.map_nil, List.append_nil]
      exact hP.mono fun x c z => z.same s4
    · rintro c d H5 ⟨hc, rfl, s5, ys5, hP5, e5⟩
      by_cases h5 : c < m a
      · right
        refine ⟨h5, fun H' => I2 H1 D (pre2 lo lo1 m a ++ (List.range (c + 1)).map fun t => (lo + (a : Nat), lo1 a + (t : Nat))) H', fun H' q => ⟨m a - (c + 1), by omega, by omega, rfl, q⟩, ?_⟩
        rintro x H6 ⟨rfl, rfl⟩
        refine ⟨hw2 _ _, q_yes ?_⟩
        rw [if_pos rfl]
        refine he a h c h5 _ _ s5 fun p hp => ?_
        have hDp : D ≠ p := fun z => by rw [z, hp] at e5; cases e5
        have hl := lenA hP5
        rw [List.length_append, List.length_map, List.length_range] at hl
        have hl2 := pre2_len (lo := lo) (lo1 := lo1) hm a ha
        have hl3 := hm a h
        refine ⟨ys5, (upd_ne hDp).trans e5, line_lt (by omega), (s5.trans (Same.new hp)).snew hD, ys5 ++ [.ref p], ?_, upd_same⟩
        rw [List.range_succ, List.map_append, ← List.append_assoc]
        exact All2.snoc (hP5.mono fun x c z => (z.same (Same.new hp)).upd) ⟨p, rfl, hDp.symm, (upd_ne hDp.symm).trans upd_same⟩
      · left
        obtain rfl : c = m a := by omega
        exact ⟨Nat.le_refl _, s5, ys5, by rw [pre2_succ]; exact hP5, e5⟩
  · left
    obtain rfl : a = n := by omega
    exact ⟨Nat.le_refl _, hd ys H s hP e⟩
theorem q_eqPair {K : PySem.W.Frag} {H : Hp} {Q : VK} {x y : V} {c d : Int × Int} (hx : PairAt H x c) (hy : PairAt H y d) (q : Q (.bl (decide (c = d))) H) : rEqD K x y H Q := by
  obtain ⟨i, rfl, h1⟩ := hx
  obtain ⟨j, rfl, h2⟩ := hy
  refine q_eqD (d := pairOf c) (e := pairOf d) (.tup (SqT.of h1) (.cons (.int _) (.cons (.int _) .nil))) (.tup (SqT.of h2) (.cons (.int _) (.cons (.int _) .nil))) rfl rfl ?_
  rw [eqv_pair]
  exact q
/-! ### counts of histories -/
def vec (M : Nat) (G : List (Int × Int)) : List Int := (List.range M).map fun s => ((cntM G ((s : Nat) : Int) : Nat) : Int)
theorem vec_len {M : Nat} {G : List (Int × Int)} : (vec M G).length = M := by simp [vec]
theorem vm_len {M : Nat} {G : List (Int × Int)} : ((vec M G).map V.int).length = M := by rw [List.length_map, vec_len]
theorem vec_at {M s : Nat} {G : List (Int × Int)} (h : s < M) : (vec M G)[s]? = some ((cntM G ((s : Nat) : Int) : Nat) : Int) := by
  unfold vec
  rw [List.getElem?_map, List.getElem?_range h]
  rfl
theorem vec_get {M s : Nat} {G : List (Int × Int)} (h : s < M) : (vec M G).getD s 0 = ((cntM G ((s : Nat) : Int) : Nat) : Int) := by rw [List.getD_eq_getElem?_getD, vec_at h]; rfl
theorem vec_pos {M : Nat} {G : List (Int × Int)} : ∀ n ∈ vec M G, 0 ≤ n := fun n hn => by
  obtain ⟨s, _, rfl⟩ := List.mem_map.mp hn
  exact Int.natCast_nonneg _
theorem vec_le {M B : Nat} {G : List (Int × Int)} (h : G.length ≤ B) : ∀ n ∈ vec M G, n ≤ B := fun n hn => by
  obtain ⟨s, _, rfl⟩ := List.mem_map.mp hn
  have := cntM_le (ks := G) (m := (s : Int))
  omega
theorem vec_nil {M : Nat} : vec M [] = List.replicate M 0 := by
  unfold vec
  rw [show (fun s : Nat => ((cntM [] ((s : Nat) : Int) : Nat) : Int)) = fun _ => 0 from rfl, List.map_const', List.length_range]
theorem vec_raise {M s : Nat} {G : List (Int × Int)} {n : Int} (h : s < M) : (vec M G).set s ((vec M G).getD s 0 + 1) = vec M (G ++ [(((s : Nat) : Int), n)]) := by
  apply List.ext_getElem?
  intro i
  by_cases hi : i < M
  · rw [vec_at hi, vec_get h, cntM_snoc]
    by_cases e : s = i
    · subst e
      rw [List.getElem?_set_self (by rw [vec_len]; exact h), if_pos rfl]
      rfl
    · rw [List.getElem?_set_ne e, vec_at hi, if_neg (by dsimp only; omega)]
      rfl
  · rw [List.getElem?_eq_none (by rw [List.length_set, vec_len]; omega), List.getElem?_eq_none (by rw [vec_len]; omega)]
def coversB (ms ns : List Int) : Bool := (List.zipWith (fun a b => decide (b ≤ a)) ms ns).all id
def fGe : V → V → V | .int a, .int b => .bl (decide (b ≤ a)) | _, _ => .non
theorem zipGe (ms ns : List Int) : (((ms.map V.int).zip (ns.map V.int)).map fun z => fGe z.1 z.2) = (List.zipWith (fun a b => decide (b ≤ a)) ms ns).map V.bl := by
  induction ms generalizing ns with
  | nil => rfl
  | cons m ms ih =>
    cases ns with
    | nil => rfl
    | cons n ns => exact congrArg (V.bl (decide (n ≤ m)) :: ·) (ih ns)
theorem cov_iff {M : Nat} {A B : List (Int × Int)} : coversB (vec M A) (vec M B) = true ↔ ∀ s : Nat, s < M → cntM B ((s : Nat) : Int) ≤ cntM A ((s : Nat) : Int) := by
  unfold coversB vec
  rw [List.zipWith_map_left, List.zipWith_map_right, List.zipWith_self, List.all_map, List.all_eq_true]
  constructor
  · intro h s hs
    have := h s (List.mem_range.mpr hs)
    simp only [Function.comp_apply, id_eq, decide_eq_true_eq] at this
    omega
  · intro h s hs
    have := h s (List.mem_range.mp hs)
    simp only [Function.comp_apply, id_eq, decide_eq_true_eq]
    omega
theorem cov_sub {M : Nat} {A B : List (Int × Int)} (ha : Closed (M : Nat) A) (hb : Closed (M : Nat) B) : coversB (vec M A) (vec M B) = true ↔ ∀ c ∈ B, c ∈ A := by
  rw [cov_iff]
  constructor
  · rintro h ⟨s, n⟩ hc
    obtain ⟨h0, h1, h2, _⟩ := hb.2 s n hc
    obtain ⟨j, rfl⟩ := Int.eq_ofNat_of_zero_le h0
    have := h j (by omega)
    have := (hb.iff h2).mp hc
    exact (ha.iff h2).mpr (by omega)
  · intro h s _
    exact cnt_sub hb ha fun n _ hn => h _ hn
/-- what of B is beyond A, by counts -/
def beyond (M : Nat) (A B : List (Int × Int)) : List (Int × Int) := pre2 0 (fun k => ((cntM A ((k : Nat) : Int) : Nat) : Int) + 1) (fun k => cntM B ((k : Nat) : Int) - cntM A ((k : Nat) : Int)) M
theorem mem_beyond {M : Nat} {A B : List (Int × Int)} {s n : Int} : (s, n) ∈ beyond M A B ↔ ∃ j : Nat, j < M ∧ s = j ∧ (cntM A s : Int) < n ∧ n ≤ cntM B s := by
  unfold beyond pre2
  simp only [List.mem_flatMap, List.mem_range, List.mem_map, Prod.mk.injEq]
  constructor
  · rintro ⟨j, hj, i, hi, rfl, rfl⟩
    refine ⟨j, hj, by omega, ?_, ?_⟩
    all_goals rw [Int.zero_add]
    all_goals omega
  · rintro ⟨j, hj, rfl, h1, h2⟩
    exact ⟨j, hj, (n - 1 - cntM A (j : Nat)).toNat, by omega, by omega, by omega⟩
theorem beyond_nil {M : Nat} {A B : List (Int × Int)} (h : ∀ s : Nat, s < M → cntM B ((s : Nat) : Int) ≤ cntM A ((s : Nat) : Int)) : beyond M A B = [] := by
  apply List.eq_nil_iff_forall_not_mem.mpr
  rintro ⟨s, n⟩ hm
  obtain ⟨j, hj, rfl, h1, h2⟩ := mem_beyond.mp hm
  have := h j hj
  omega
theorem beyond_zero {M : Nat} {B : List (Int × Int)} (hb : Closed (M : Nat) B) {c : Int × Int} : c ∈ beyond M [] B ↔ c ∈ B := by
  obtain ⟨s, n⟩ := c
  rw [mem_beyond]
  constructor
  · rintro ⟨j, hj, rfl, h1, h2⟩
    have h1 : (0 : Int) < n := h1
    exact (hb.iff (by omega)).mpr h2
  · intro h
    obtain ⟨h0, h1, h2, _⟩ := hb.2 s n h
    obtain ⟨j, rfl⟩ := Int.eq_ofNat_of_zero_le h0
    exact ⟨j, by omega, rfl, by show (0 : Int) < n; omega, (hb.iff h2).mp h⟩
/-! ### counts, letters, books -/
def CtAt (C : Addr) (H : Hp) (p : Addr) (c : List Int) : Prop := ∃ dx t, H p = some (.ins C dx [("_numbers", .ref t)]) ∧ H t = some (.tup (c.map V.int))
theorem CtAt.same {C : Addr} {H H' : Hp} {p : Addr} {c : List Int} (h : CtAt C H p c) (s : Same H H') : CtAt C H' p c := by
  obtain ⟨dx, t, h1, h2⟩ := h
  exact ⟨dx, t, s _ _ h1, s _ _ h2⟩
def LetAt (CC CL : Addr) (M : Nat) (H : Hp) (a : Addr) (k : Int × Int) (G : List (Int × Int)) : Prop := ∃ dl w c, H a = some (.ins CL dl [("_sender", .int k.1), ("_number", .int k.2), ("_word", .str w), ("_causes", .ref c)]) ∧ CtAt CC H c (vec M G)
theorem LetAt.same {CC CL : Addr} {M : Nat} {H H' : Hp} {a : Addr} {k : Int × Int} {G : List (Int × Int)} (h : LetAt CC CL M H a k G) (s : Same H H') : LetAt CC CL M H' a k G := by
  obtain ⟨dl, w, c, h1, h2⟩ := h
  exact ⟨dl, w, c, s _ _ h1, h2.same s⟩
structure Bk where
  d : Addr
  c : Addr
  w : Addr
  wl : List Addr
  ls : List Addr
structure BkAt (CC CL CB : Addr) (M : Nat) (H : Hp) (p : Addr) (β : Bk) (ks : List (Int × Int)) (cg : List (List (Int × Int))) : Prop where
  o : ∃ db, H p = some (.ins CB db [("_members", .int (M : Nat)), ("_letters", .ref β.d), ("_counts", .ref β.c), ("_waits", .ref β.w)])
  d : H β.d = some (.dT (zk ks β.ls))
  kl : ks.length = β.ls.length
  gl : ks.length = cg.length
  lt : ∀ (i : Nat) (a : Addr) (k : Int × Int) (G : List (Int × Int)), β.ls[i]? = some a → ks[i]? = some k → cg[i]? = some G → LetAt CC CL M H a k G
  c : CtAt CC H β.c (vec M ks)
  w : H β.w = some (.lst (β.wl.map V.ref))
  wl : β.wl.length = M
  we : ∀ a ∈ β.wl, ∃ xs, H a = some (.lst xs) ∧ xs.length ≤ ks.length
  nd : (β.w :: β.wl).Nodup
theorem BkAt.same {CC CL CB : Addr} {M : Nat} {H H' : Hp} {p : Addr} {β : Bk} {ks : List (Int × Int)} {cg : List (List (Int × Int))} (h : BkAt CC CL CB M H p β ks cg) (s : Same H H') : BkAt CC CL CB M H' p β ks cg where
  o := h.o.imp fun _ e => s _ _ e
  d := s _ _ h.d
  kl := h.kl
  gl := h.gl
  lt := fun i a k G e1 e2 e3 => (h.lt i a k G e1 e2 e3).same s
  c := h.c.same s
  w := s _ _ h.w
  wl := h.wl
  we := fun a ha => (h.we a ha).imp fun _ e => ⟨s _ _ e.1, e.2⟩
  nd := h.nd
theorem causes_pos {k : Int × Int} {G : List (Int × Int)} {ks : List (Int × Int)} {cg : List (List (Int × Int))} : causesOf (k :: ks) (G :: cg) k = G := by simp [causesOf]
theorem causes_neg {k c : Int × Int} {G : List (Int × Int)} {ks : List (Int × Int)} {cg : List (List (Int × Int))} (h : ¬ k = c) : causesOf (k :: ks) (G :: cg) c = causesOf ks cg c := by simp [causesOf, h]
theorem zk_find {c : Int × Int} : ∀ {ks : List (Int × Int)} {ls : List Addr} {cg : List (List (Int × Int))}, ks.length = ls.length → ks.length = cg.length → c ∈ ks → ∃ (i : Nat) (a : Addr), ls[i]? = some a ∧ ks[i]? = some c ∧ cg[i]? = some (causesOf ks cg c) ∧ valV (zk ks ls) (keyOf c) = some (.ref a)
  | [], _, _, _, _, h => nomatch h
  | k :: ks, [], _, h, _, _ => by simp at h
  | k :: ks, _ :: _, [], _, h, _ => by simp at h
  | k :: ks, a :: ls, G :: cg, h1, h2, h => by
    by_cases hk : k = c
    · subst hk
      exact ⟨0, a, rfl, rfl, by rw [causes_pos]; rfl, by rw [show zk (k :: ks) (a :: ls) = (keyOf k, V.ref a) :: zk ks ls from rfl]; exact valV_pos rfl⟩
    · have h3 : c ∈ ks := by
        rcases List.mem_cons.mp h with h | h
        · exact absurd h.symm hk
        · exact h
      obtain ⟨i, b, e1, e2, e3, e4⟩ := zk_find (ls := ls) (cg := cg) (by simpa using h1) (by simpa using h2) h3
      exact ⟨i + 1, b, e1, e2, by rw [causes_neg hk]; exact e3, by rw [show zk (k :: ks) (a :: ls) = (keyOf k, V.ref a) :: zk ks ls from rfl, valV_neg (fun w => hk (keyOf_inj w))]; exact e4⟩
theorem BkAt.find {CC CL CB : Addr} {M : Nat} {H : Hp} {p : Addr} {β : Bk} {ks : List (Int × Int)} {cg : List (List (Int × Int))} {c : Int × Int} (h : BkAt CC CL CB M H p β ks cg) (hc : c ∈ ks) : ∃ a, valV (zk ks β.ls) (keyOf c) = some (.ref a) ∧ LetAt CC CL M H a c (causesOf ks cg c) := by
  obtain ⟨i, a, e1, e2, e3, e4⟩ := zk_find h.kl h.gl hc
  exact ⟨a, e4, h.lt i a c _ e1 e2 e3⟩
theorem Fr1.free2 {p b : Addr} {H H' : Hp} (f : Fr1 p H H') (n : b ≠ p) (e : H' b = none) : H b = none := by
  cases h : H b with
  | none => rfl
  | some o =>
    rw [f _ _ n h] at e
    cases e
theorem nm_ne : ¬ (Str.ofString "_sender" = Str.ofString "_members") := by decide +kernel
theorem LetAt.fr {CC CL CB : Addr} {M : Nat} {H H' : Hp} {p : Addr} {β : Bk} {ks : List (Int × Int)} {cg : List (List (Int × Int))} (hb : BkAt CC CL CB M H p β ks cg) (f : ∀ b o, b ≠ p → b ≠ β.d → b ∉ β.wl → H b = some o → H' b = some o) {a : Addr} {k : Int × Int} {G : List (Int × Int)} (h : LetAt CC CL M H a k G) : LetAt CC CL M H' a k G := by
  obtain ⟨db, hp⟩ := hb.o
  have hd := hb.d
  have nwl : ∀ {b o}, H b = some o → (∀ xs, o ≠ .lst xs) → b ∉ β.wl := fun {b o} e n hm => by
    obtain ⟨xs, e2, _⟩ := hb.we b hm
    rw [e] at e2
    exact n xs (Option.some.inj e2)
  obtain ⟨dl, w, c, h1, dx, t, h2, h3⟩ := h
  refine ⟨dl, w, c, f _ _ (fun z => ?_) (fun z => ?_) (nwl h1 (fun _ => by simp)) h1, dx, t, f _ _ (fun z => ?_) (fun z => ?_) (nwl h2 (fun _ => by simp)) h2, f _ _ (fun z => ?_) (fun z => ?_) (nwl h3 (fun _ => by simp)) h3⟩
  · rw [z, hp] at h1
    simp [nm_ne, Ne.symm nm_ne] at h1
  · rw [z, hd] at h1
    cases h1
  · rw [z, hp] at h2
    simp at h2
  · rw [z, hd] at h2
    cases h2
  · rw [z, hp] at h3
    cases h3
  · rw [z, hd] at h3
    cases h3
/-- none, or a word -/
def optS : Option Str → V
  | none => .non
  | some s => .str s
/-- how is_told_otherwise says it -/
def toldOther (cs : List (Int × Int)) (p : Nat) (c : Int × Int) : Bool := if cs.length < p ∧ c ∉ cs then false else !decide (cs[p - 1]? = some c)
/-- the parts of a course: its book, its lists -/
structure Cs where
  b : Addr
  β : Bk
  cs : Addr
  cl : List Addr
  g : Addr
  ga : List Addr
  t : Addr
  ta : List Addr
/-- what of it changes -/
def Cs.mut (γ : Cs) : List Addr := γ.b :: γ.β.d :: (γ.β.wl ++ (γ.cs :: (γ.ga ++ γ.ta)))
structure CsAt (CC CL CB CR : Addr) (M : Nat) (H : Hp) (p : Addr) (γ : Cs) (S : HS) : Prop where
  o : ∃ dc, H p = some (.ins CR dc [("_book", .ref γ.b), ("_counts", .ref γ.cs), ("_got", .ref γ.g), ("_told", .ref γ.t)])
  b : BkAt CC CL CB M H γ.b γ.β S.ks S.cg
  cs : H γ.cs = some (.lst (γ.cl.map V.ref))
  cll : γ.cl.length = M
  cl : ∀ (m : Nat) (a : Addr), γ.cl[m]? = some a → CtAt CC H a (vec M (S.gotOf (m : Nat)))
  g : H γ.g = some (.lst (γ.ga.map V.ref))
  gl : γ.ga.length = M
  ga : ∀ (m : Nat) (a : Addr), γ.ga[m]? = some a → ∃ xs, H a = some (.lst xs) ∧ All2 (PairAt H) xs (S.gotOf (m : Nat))
  t : H γ.t = some (.lst (γ.ta.map V.ref))
  tl : γ.ta.length = M
  ta : ∀ (m : Nat) (a : Addr), γ.ta[m]? = some a → ∃ xs, H a = some (.lst xs) ∧ All2 (PairAt H) xs (S.toldOf (m : Nat))
  sg : S.got.length = M
  st : S.told.length = M
  nd : (γ.β.w :: γ.g :: γ.t :: (γ.β.wl ++ (γ.cs :: (γ.ga ++ γ.ta)))).Nodup
theorem CsAt.same {CC CL CB CR : Addr} {M : Nat} {H H' : Hp} {p : Addr} {γ : Cs} {S : HS} (h : CsAt CC CL CB CR M H p γ S) (s : Same H H') : CsAt CC CL CB CR M H' p γ S where
  o := h.o.imp fun _ e => s _ _ e
  b := h.b.same s
  cs := s _ _ h.cs
  cll := h.cll
  cl := fun m a e => (h.cl m a e).same s
  g := s _ _ h.g
  gl := h.gl
  ga := fun m a e => (h.ga m a e).imp fun _ z => ⟨s _ _ z.1, z.2.mono fun _ _ y => y.same s⟩
  t := s _ _ h.t
  tl := h.tl
  ta := fun m a e => (h.ta m a e).imp fun _ z => ⟨s _ _ z.1, z.2.mono fun _ _ y => y.same s⟩
  sg := h.sg
  st := h.st
  nd := h.nd
theorem slice_one {cs : List (Int × Int)} {c : Int × Int} {p : Nat} (hp : 1 ≤ p) : ((cs.drop (min (p - 1) cs.length)).take (min p cs.length - min (p - 1) cs.length) = [c]) ↔ cs[p - 1]? = some c := by
  by_cases h : p - 1 < cs.length
  · rw [Nat.min_eq_left (by omega), Nat.min_eq_left (by omega), show p - (p - 1) = 1 by omega, List.drop_eq_getElem_cons h, List.getElem?_eq_getElem h, List.take_succ_cons, List.take_zero]
    constructor
    · intro e; rw [(List.cons.inj e).1]
    · intro e; rw [Option.some.inj e]
  · rw [Nat.min_eq_right (by omega), Nat.min_eq_right (by omega), Nat.sub_self, List.getElem?_eq_none (by omega)]
    simp
theorem told_slice {cs : List (Int × Int)} {c : Int × Int} {p n : Nat} (hp : 1 ≤ p) (hn : n = cs.length) : decide ((cs.drop (HT.sIx n 0 (some ((p : Int) - 1)))).take (HT.sIx n n (some (p : Int)) - HT.sIx n 0 (some ((p : Int) - 1))) = [c]) = decide (cs[p - 1]? = some c) := by
  subst hn
  have e1 : HT.sIx cs.length 0 (some ((p : Int) - 1)) = min (p - 1) cs.length := by
    show (if (p : Int) - 1 < 0 then (((p : Int) - 1) + (cs.length : Int)).toNat else min ((p : Int) - 1).toNat cs.length) = _
    rw [if_neg (by omega), show ((p : Int) - 1).toNat = p - 1 by omega]
  have e2 : HT.sIx cs.length cs.length (some (p : Int)) = min p cs.length := by
    show (if (p : Int) < 0 then ((p : Int) + (cs.length : Int)).toNat else min (p : Int).toNat cs.length) = _
    rw [if_neg (by omega), Int.toNat_natCast]
  rw [e1, e2]
  exact decide_eq_decide.mpr (slice_one hp)
theorem CsAt.nda {CC CL CB CR : Addr} {M : Nat} {H : Hp} {p : Addr} {γ : Cs} {S : HS} (h : CsAt CC CL CB CR M H p γ S) : γ.cs ∉ γ.ga ++ γ.ta ∧ (γ.ga ++ γ.ta).Nodup := by
  have h1 := (List.nodup_cons.mp (List.nodup_cons.mp (List.nodup_cons.mp h.nd).2).2).2
  exact List.nodup_cons.mp (List.nodup_append.mp h1).2.1
theorem BkAt.keep {CC CL CB : Addr} {M : Nat} {H H' : Hp} {p : Addr} {β : Bk} {ks : List (Int × Int)} {cg : List (List (Int × Int))} (h : BkAt CC CL CB M H p β ks cg) (L : Addr → Prop) (f : ∀ b o, ¬ L b → H b = some o → H' b = some o) (hL : ∀ b, L b → ∃ xs, H b = some (.lst xs)) (n : ∀ b ∈ β.w :: β.wl, ¬ L b) : BkAt CC CL CB M H' p β ks cg := by
  have no : ∀ {b o}, H b = some o → (∀ xs, o ≠ .lst xs) → H' b = some o := fun {b o} e n => f b o (fun l => by
    obtain ⟨xs, e2⟩ := hL b l
    rw [e] at e2
    exact n xs (Option.some.inj e2)) e
  have ct : ∀ {a ms}, CtAt CC H a ms → CtAt CC H' a ms := fun {a ms} z => by
    obtain ⟨dx, t, e1, e2⟩ := z
    exact ⟨dx, t, no e1 (fun _ => by simp), no e2 (fun _ => by simp)⟩
  exact {
    o := h.o.imp fun _ e => no e (fun _ => by simp)
    d := no h.d (fun _ => by simp)
    kl := h.kl
    gl := h.gl
    lt := fun i a k G e1 e2 e3 => by
      obtain ⟨dl, w, c, q1, q2⟩ := h.lt i a k G e1 e2 e3
      exact ⟨dl, w, c, no q1 (fun _ => by simp), ct q2⟩
    c := ct h.c
    w := f _ _ (n _ (List.mem_cons_self ..)) h.w
    wl := h.wl
    we := fun a ha => (h.we a ha).imp fun _ e => ⟨f _ _ (n _ (List.mem_cons_of_mem _ ha)) e.1, e.2⟩
    nd := h.nd }
theorem nodup_at {L : List Addr} {i j : Nat} {a : Addr} (h : L.Nodup) (h1 : L[i]? = some a) (h2 : L[j]? = some a) : i = j := (List.getElem?_inj (List.getElem?_eq_some_iff.mp h1).1 h).mp (h1.trans h2.symm)
theorem why_got {S : HS} {m s n : Int} : S.why (.got m s n) = (if s = m then some "own" else if (s, n) ∉ S.ks then some "unsent" else if (s, n) ∈ S.gotOf m then some "again"
    else if (causesOf S.ks S.cg (s, n)).all (fun c => decide (c ∈ S.gotOf m)) = true then none else some "early" : Option Str) := rfl
theorem why_told {S : HS} {m p s n : Int} : S.why (.told m p s n) = (if p ≠ (S.toldOf m).length + 1 then some "place" else if (s, n) ∉ S.gotOf m then some "not got" else if (s, n) ∈ S.toldOf m then some "again"
    else if ((List.range S.told.length).any fun k => !decide ((k : Int) = m) && otherwise (S.told.getD k []) p (s, n)) = true then some "other"
    else if (causesOf S.ks S.cg (s, n)).all (fun c => decide (c ∈ S.toldOf m)) = true then none else some "causes" : Option Str) := rfl
theorem nd_of {w g t cs : Addr} {wl ga ta : List Addr} (h1 : (w :: wl).Nodup) (h2 : (g :: ga).Nodup) (h3 : (t :: ta).Nodup) (a : ∀ x ∈ w :: wl, x ≠ cs ∧ x ∉ g :: ga ∧ x ∉ t :: ta) (b : cs ∉ g :: ga ∧ cs ∉ t :: ta) (c : ∀ x ∈ g :: ga, x ∉ t :: ta) : (w :: g :: t :: (wl ++ (cs :: (ga ++ ta)))).Nodup := by
  simp only [List.nodup_cons, List.nodup_append, List.mem_cons, List.mem_append] at *
  grind
theorem nm_bm : ¬ (Str.ofString "_book" = Str.ofString "_members") := by decide +kernel
theorem nm_bn : ¬ (Str.ofString "_book" = Str.ofString "_numbers") := by decide +kernel
theorem BkAt.alive {CC CL CB : Addr} {M : Nat} {H : Hp} {p : Addr} {β : Bk} {ks : List (Int × Int)} {cg : List (List (Int × Int))} (h : BkAt CC CL CB M H p β ks cg) : ∀ x ∈ β.w :: β.wl, ¬ H x = none := fun x hx e => by
  rcases List.mem_cons.mp hx with rfl | hx
  · rw [h.w] at e
    cases e
  · obtain ⟨xs, q, _⟩ := h.we x hx
    rw [q] at e
    cases e
theorem CtAt.frp {C CR p dc : Addr} {fs : List (Str × V)} {H H' : Hp} {a : Addr} {c : List Int} (h : CtAt C H a c) (hp : H p = some (.ins CR dc fs)) (n : ∀ x, fs ≠ ([("_numbers", x)] : List (Str × V))) (f : ∀ b o, b ≠ p → H b = some o → H' b = some o) : CtAt C H' a c := by
  obtain ⟨dx, t, h1, h2⟩ := h
  refine ⟨dx, t, f _ _ (fun z => ?_) h1, f _ _ (fun z => ?_) h2⟩
  · rw [z, hp] at h1
    cases h1
    exact n _ rfl
  · rw [z, hp] at h2
    cases h2
theorem BkAt.frp0 {CC CL CB CR p dc b : Addr} {M : Nat} {β : Bk} {fs : List (Str × V)} {H H' : Hp} (h : BkAt CC CL CB M H b β [] []) (hp : H p = some (.ins CR dc fs)) (n : ∀ x, fs ≠ ([("_numbers", x)] : List (Str × V))) (n2 : fs.length ≤ 3) (f : ∀ b o, b ≠ p → H b = some o → H' b = some o) : BkAt CC CL CB M H' b β [] [] where
  o := h.o.imp fun db e => f _ _ (fun z => by
    rw [z, hp] at e
    cases e
    simp at n2) e
  d := f _ _ (fun z => by
    have e := h.d
    rw [z, hp] at e
    cases e) h.d
  kl := h.kl
  gl := h.gl
  lt := fun i a k G e1 e2 e3 => by simp at e2
  c := CtAt.frp h.c hp n f
  w := f _ _ (fun z => by
    have e := h.w
    rw [z, hp] at e
    cases e) h.w
  wl := h.wl
  we := fun a ha => (h.we a ha).imp fun _ e => ⟨f _ _ (fun z => by
    have e := e.1
    rw [z, hp] at e
    cases e) e.1, e.2⟩
  nd := h.nd
def CtD (C D : Addr) (H : Hp) (a : Addr) (c : List Int) : Prop := ∃ dx t, a ≠ D ∧ t ≠ D ∧ H a = some (.ins C dx [("_numbers", .ref t)]) ∧ H t = some (.tup (c.map V.int))
theorem CtD.same {C D : Addr} {H H' : Hp} {a : Addr} {c : List Int} (h : CtD C D H a c) (s : Same H H') : CtD C D H' a c := by
  obtain ⟨dx, t, n1, n2, h1, h2⟩ := h
  exact ⟨dx, t, n1, n2, s _ _ h1, s _ _ h2⟩
theorem CtD.put {C D : Addr} {H : Hp} {a : Addr} {c : List Int} {o : HO} (h : CtD C D H a c) : CtD C D (upd H D o) a c := by
  obtain ⟨dx, t, n1, n2, h1, h2⟩ := h
  exact ⟨dx, t, n1, n2, (upd_ne n1).trans h1, (upd_ne n2).trans h2⟩
theorem CtD.at {C D : Addr} {H : Hp} {a : Addr} {c : List Int} (h : CtD C D H a c) : CtAt C H a c := by
  obtain ⟨dx, t, _, _, h1, h2⟩ := h
  exact ⟨dx, t, h1, h2⟩
/-- counts made so far -/
def CtsD (C D : Addr) (c : List Int) (i : Nat) (ys : List V) (H : Hp) : Prop := ∃ l : List Addr, ys = l.map V.ref ∧ l.length = i ∧ ∀ a ∈ l, CtD C D H a c
theorem CtsD.zero {C D : Addr} {c : List Int} {H : Hp} : CtsD C D c 0 [] H := ⟨[], rfl, rfl, fun a h => nomatch h⟩
theorem CtsD.same {C D : Addr} {c : List Int} {i : Nat} {ys : List V} {H H' : Hp} (h : CtsD C D c i ys H) (s : Same H H') : CtsD C D c i ys H' := by
  obtain ⟨l, e, n, h⟩ := h
  exact ⟨l, e, n, fun a ha => (h a ha).same s⟩
theorem CtsD.put {C D : Addr} {c : List Int} {i : Nat} {ys : List V} {H : Hp} {o : HO} (h : CtsD C D c i ys H) : CtsD C D c i ys (upd H D o) := by
  obtain ⟨l, e, n, h⟩ := h
  exact ⟨l, e, n, fun a ha => (h a ha).put⟩
theorem CtsD.snoc {C D : Addr} {c : List Int} {i : Nat} {ys : List V} {H H' : Hp} {z : Addr} (h : CtsD C D c i ys H) (s : Same H H') (q : CtD C D H' z c) : CtsD C D c (i + 1) (ys ++ [.ref z]) H' := by
  obtain ⟨l, rfl, rfl, h⟩ := h
  refine ⟨l ++ [z], by simp, by simp, fun a ha => ?_⟩
  rcases List.mem_append.mp ha with ha | ha
  · exact (h a ha).same s
  · rw [List.mem_singleton.mp ha]
    exact q
/-! ### the law's model, in a state -/
structure Mx where
  md : Addr
  c : Addr
  wd : Addr
  g : Addr
  tl : Addr
  ga : List Addr
  ta : List Addr
  cl : List Addr
def Mx.ls (μ : Mx) : List Addr := [μ.g, μ.tl] ++ (μ.ga ++ (μ.ta ++ μ.cl))
structure MxAt (M : Nat) (H : Hp) (μ : Mx) (S : HS) : Prop where
  md : H μ.md = some (.dK [(.inr "causes", .ref μ.c), (.inr "words", .ref μ.wd), (.inr "got", .ref μ.g), (.inr "told", .ref μ.tl)])
  c : H μ.c = some (.dT (zk S.ks μ.cl))
  wd : ∃ ws, H μ.wd = some (.dT ws) ∧ ws.length ≤ S.ks.length
  cw : μ.c ≠ μ.wd
  g : H μ.g = some (.lst (μ.ga.map V.ref))
  tl : H μ.tl = some (.lst (μ.ta.map V.ref))
  gl : μ.ga.length = M
  tll : μ.ta.length = M
  kl : S.ks.length = μ.cl.length
  lk : S.ks.length = S.cg.length
  ga : ∀ (m : Nat) (a : Addr), μ.ga[m]? = some a → ∃ xs, H a = some (.lst xs) ∧ All2 (PairAt H) xs (S.gotOf (m : Nat))
  ta : ∀ (m : Nat) (a : Addr), μ.ta[m]? = some a → ∃ xs, H a = some (.lst xs) ∧ All2 (PairAt H) xs (S.toldOf (m : Nat))
  cl : ∀ (i : Nat) (a : Addr) (G : List (Int × Int)), μ.cl[i]? = some a → S.cg[i]? = some G → ∃ xs, H a = some (.lst xs) ∧ All2 (PairAt H) xs G
  sg : S.got.length = M
  st : S.told.length = M
  nd : μ.ls.Nodup
theorem Mx.mga {μ : Mx} {a : Addr} (h : a ∈ μ.ga) : a ∈ μ.ls := List.mem_append.mpr (.inr (List.mem_append.mpr (.inl h)))
theorem Mx.mta {μ : Mx} {a : Addr} (h : a ∈ μ.ta) : a ∈ μ.ls := List.mem_append.mpr (.inr (List.mem_append.mpr (.inr (List.mem_append.mpr (.inl h)))))
theorem Mx.mcl {μ : Mx} {a : Addr} (h : a ∈ μ.cl) : a ∈ μ.ls := List.mem_append.mpr (.inr (List.mem_append.mpr (.inr (List.mem_append.mpr (.inr h)))))
theorem MxAt.keep {M : Nat} {L : List Addr} {H H' : Hp} {μ : Mx} {S : HS} (h : MxAt M H μ S) (f : Keep L H H') (hL : ∀ b ∈ L, ∃ xs, H b = some (.lst xs)) (n : ∀ b ∈ μ.ls, b ∉ L) : MxAt M H' μ S where
  md := f.no hL h.md (fun xs => by simp)
  c := f.no hL h.c (fun xs => by simp)
  wd := h.wd.imp fun ws e => ⟨f.no hL e.1 (fun xs => by simp), e.2⟩
  cw := h.cw
  g := f _ _ (n _ (by simp [Mx.ls])) h.g
  tl := f _ _ (n _ (by simp [Mx.ls])) h.tl
  gl := h.gl
  tll := h.tll
  kl := h.kl
  lk := h.lk
  ga := fun m a ha => by
    obtain ⟨xs, e1, e2⟩ := h.ga m a ha
    exact ⟨xs, f _ _ (n _ (Mx.mga (List.mem_of_getElem? ha))) e1, f.pairs hL e2⟩
  ta := fun m a ha => by
    obtain ⟨xs, e1, e2⟩ := h.ta m a ha
    exact ⟨xs, f _ _ (n _ (Mx.mta (List.mem_of_getElem? ha))) e1, f.pairs hL e2⟩
  cl := fun i a G ha hG => by
    obtain ⟨xs, e1, e2⟩ := h.cl i a G ha hG
    exact ⟨xs, f _ _ (n _ (Mx.mcl (List.mem_of_getElem? ha))) e1, f.pairs hL e2⟩
  sg := h.sg
  st := h.st
  nd := h.nd
theorem MxAt.same {M : Nat} {H H' : Hp} {μ : Mx} {S : HS} (h : MxAt M H μ S) (s : Same H H') : MxAt M H' μ S := h.keep (L := []) (Keep.of s) (fun b hb => nomatch hb) (fun b _ hb => nomatch hb)
theorem MxAt.lists {M : Nat} {H : Hp} {μ : Mx} {S : HS} (h : MxAt M H μ S) : ∀ x ∈ μ.ls, ∃ xs, H x = some (.lst xs) := fun x hx => by
  rcases List.mem_append.mp hx with hx | hx
  · simp only [List.mem_cons, List.not_mem_nil, or_false] at hx
    rcases hx with rfl | rfl
    · exact ⟨_, h.g⟩
    · exact ⟨_, h.tl⟩
  · rcases List.mem_append.mp hx with hx | hx
    · obtain ⟨m, hm⟩ := List.getElem?_of_mem hx
      obtain ⟨xs, e, _⟩ := h.ga m x hm
      exact ⟨xs, e⟩
    · rcases List.mem_append.mp hx with hx | hx
      · obtain ⟨m, hm⟩ := List.getElem?_of_mem hx
        obtain ⟨xs, e, _⟩ := h.ta m x hm
        exact ⟨xs, e⟩
      · obtain ⟨m, hm⟩ := List.getElem?_of_mem hx
        obtain ⟨xs, e, _⟩ := h.cl m x _ hm (List.getElem?_eq_getElem (by have := h.kl; have := h.lk; have := (List.getElem?_eq_some_iff.mp hm).1; omega))
        exact ⟨xs, e⟩
theorem MxAt.nq {M : Nat} {H : Hp} {μ : Mx} {S : HS} {q : Addr} (h : MxAt M H μ S) (hq : H q = none) : ∀ x ∈ μ.ls, x ∉ [q] := fun x hx hx2 => by
  obtain ⟨xs, e⟩ := h.lists x hx
  rw [List.mem_singleton.mp hx2, hq] at e
  cases e
theorem MxAt.nmc {M : Nat} {H : Hp} {μ : Mx} {S : HS} (h : MxAt M H μ S) : μ.md ≠ μ.c := fun e => by
  have z := h.md
  rw [e, h.c] at z
  cases z
theorem MxAt.nmw {M : Nat} {H : Hp} {μ : Mx} {S : HS} (h : MxAt M H μ S) : μ.md ≠ μ.wd := fun e => by
  have z := h.md
  obtain ⟨ws, hw, _⟩ := h.wd
  rw [e, hw] at z
  cases z
theorem MxAt.find {M : Nat} {H : Hp} {μ : Mx} {S : HS} {c : Int × Int} (h : MxAt M H μ S) (hc : c ∈ S.ks) : ∃ a xs, valV (zk S.ks μ.cl) (keyOf c) = some (.ref a) ∧ H a = some (.lst xs) ∧ All2 (PairAt H) xs (causesOf S.ks S.cg c) := by
  obtain ⟨i, a, e1, e2, e3, e4⟩ := zk_find h.kl h.lk hc
  obtain ⟨xs, q1, q2⟩ := h.cl i a _ e1 e3
  exact ⟨a, xs, e4, q1, q2⟩
theorem MxAt.sent {M : Nat} {H H2 : Hp} {μ : Mx} {S : HS} {m : Nat} {L : Addr} {xs : List V} {ws : List (List Key × V)} (h : MxAt M H μ S) (f : ∀ b o, b ≠ μ.c → b ≠ μ.wd → H b = some o → H2 b = some o)
    (hc : H2 μ.c = some (.dT (zk (S.ks ++ [S.next (m : Nat)]) (μ.cl ++ [L])))) (hw : H2 μ.wd = some (.dT ws)) (hwl : ws.length ≤ S.ks.length + 1) (hL : H L = some (.lst xs)) (hx : All2 (PairAt H) xs (S.gotOf (m : Nat))) (nL : L ∉ μ.ls) :
    MxAt M H2 { μ with cl := μ.cl ++ [L] } { S with ks := S.ks ++ [S.next (m : Nat)], cg := S.cg ++ [S.gotOf (m : Nat)] } := by
  obtain ⟨ws0, hw0, hw1⟩ := h.wd
  have no : ∀ {b : Addr} {o : HO}, H b = some o → (∀ kvs, o ≠ .dT kvs) → H2 b = some o := fun {b o} e n => f b o (fun w => by rw [w, h.c] at e; exact n _ (Option.some.inj e).symm) (fun w => by rw [w, hw0] at e; exact n _ (Option.some.inj e).symm) e
  have np : ∀ {xs : List V} {ids : List (Int × Int)}, All2 (PairAt H) xs ids → All2 (PairAt H2) xs ids := fun q => q.mono fun v c z => by
    obtain ⟨i, e1, e2⟩ := z
    exact ⟨i, e1, no e2 (fun _ => by simp)⟩
  exact {
    md := no h.md (fun _ => by simp)
    c := hc
    wd := ⟨ws, hw, by show ws.length ≤ (S.ks ++ _).length; rw [List.length_append]; exact hwl⟩
    cw := h.cw
    g := no h.g (fun _ => by simp)
    tl := no h.tl (fun _ => by simp)
    gl := h.gl
    tll := h.tll
    kl := by show (S.ks ++ _).length = (μ.cl ++ [L]).length; rw [List.length_append, List.length_append, h.kl]; rfl
    lk := by show (S.ks ++ _).length = (S.cg ++ _).length; rw [List.length_append, List.length_append, h.lk]; rfl
    ga := fun j a ha => by
      obtain ⟨xs, e1, e2⟩ := h.ga j a ha
      exact ⟨xs, no e1 (fun _ => by simp), np e2⟩
    ta := fun j a ha => by
      obtain ⟨xs, e1, e2⟩ := h.ta j a ha
      exact ⟨xs, no e1 (fun _ => by simp), np e2⟩
    cl := fun i a G ha hG => by
      have ha : (μ.cl ++ [L])[i]? = some a := ha
      have hG : (S.cg ++ [S.gotOf (m : Nat)])[i]? = some G := hG
      have q1 := h.kl
      have q2 := h.lk
      by_cases hi : i < S.ks.length
      · rw [List.getElem?_append_left (by omega)] at ha hG
        obtain ⟨xs, e1, e2⟩ := h.cl i a G ha hG
        exact ⟨xs, no e1 (fun _ => by simp), np e2⟩
      · have hi2 := (List.getElem?_eq_some_iff.mp ha).1
        rw [List.length_append] at hi2
        obtain rfl : i = S.ks.length := by simp at hi2; omega
        have w1 : L = a := by rw [q1] at ha; simpa using ha
        have w2 : S.gotOf (m : Nat) = G := by rw [q2] at hG; simpa using hG
        rw [← w1, ← w2]
        exact ⟨xs, no hL (fun _ => by simp), np hx⟩
    sg := h.sg
    st := h.st
    nd := by
      have e : (Mx.ls { μ with cl := μ.cl ++ [L] }) = μ.ls ++ [L] := by simp [Mx.ls]
      rw [e]
      exact List.nodup_append.mpr ⟨h.nd, by simp, fun x hx y hy w => nL (by rw [← List.mem_singleton.mp hy, ← w]; exact hx)⟩ }
theorem got_set {S : HS} {m j : Nat} {G : List (Int × Int)} (hm : m < S.got.length) : HS.gotOf { S with got := S.got.set m G } (j : Nat) = if j = m then G else S.gotOf (j : Nat) := by
  rw [HS.gotOf_nat, HS.gotOf_nat]
  by_cases h : j = m
  · subst h
    rw [if_pos rfl]
    exact HS.set_self hm
  · rw [if_neg h]
    exact HS.set_other (Ne.symm h)
theorem told_set {S : HS} {m j : Nat} {G : List (Int × Int)} (hm : m < S.told.length) : HS.toldOf { S with told := S.told.set m G } (j : Nat) = if j = m then G else S.toldOf (j : Nat) := by
  rw [HS.toldOf_nat, HS.toldOf_nat]
  by_cases h : j = m
  · subst h
    rw [if_pos rfl]
    exact HS.set_self hm
  · rw [if_neg h]
    exact HS.set_other (Ne.symm h)
/-- one more at the end of what a member got -/
theorem MxAt.got {M : Nat} {H : Hp} {μ : Mx} {S : HS} {m : Nat} {a : Addr} {xs : List V} {v : V} {c : Int × Int} (h : MxAt M H μ S) (ha : μ.ga[m]? = some a) (e : H a = some (.lst xs)) (hv : PairAt H v c) : MxAt M (upd H a (.lst (xs ++ [v]))) μ { S with got := S.got.set m (S.gotOf (m : Nat) ++ [c]) } := by
  have no : ∀ {b : Addr} {o : HO}, b ≠ a → H b = some o → upd H a (.lst (xs ++ [v])) b = some o := fun n e => (upd_ne n).trans e
  have nl : ∀ {b : Addr} {o : HO}, H b = some o → (∀ ys, o ≠ .lst ys) → upd H a (.lst (xs ++ [v])) b = some o := fun {b o} e2 n => no (fun w => by rw [w, e] at e2; exact n _ (Option.some.inj e2).symm) e2
  have np : ∀ {ys : List V} {ids : List (Int × Int)}, All2 (PairAt H) ys ids → All2 (PairAt (upd H a (.lst (xs ++ [v])))) ys ids := fun q => q.mono fun v c z => by
    obtain ⟨i, e1, e2⟩ := z
    exact ⟨i, e1, nl e2 (fun _ => by simp)⟩
  obtain ⟨w1, w2, w3⟩ := List.nodup_append.mp h.nd
  obtain ⟨w4, w5, w6⟩ := List.nodup_append.mp w2
  have mga := List.mem_of_getElem? ha
  have am : a ∈ μ.ga ++ (μ.ta ++ μ.cl) := List.mem_append.mpr (.inl mga)
  have hml : m < S.got.length := by have := (List.getElem?_eq_some_iff.mp ha).1; have := h.gl; have := h.sg; omega
  exact {
    md := nl h.md (fun _ => by simp)
    c := nl h.c (fun _ => by simp)
    wd := h.wd.imp fun ws e => ⟨nl e.1 (fun _ => by simp), e.2⟩
    cw := h.cw
    g := no (w3 _ (by simp) _ am) h.g
    tl := no (w3 _ (by simp) _ am) h.tl
    gl := h.gl
    tll := h.tll
    kl := h.kl
    lk := h.lk
    ga := fun j b hb => by
      obtain ⟨ys, e1, e2⟩ := h.ga j b hb
      rw [got_set hml]
      by_cases hj : j = m
      · subst hj
        rw [if_pos rfl]
        obtain rfl : b = a := Option.some.inj (hb.symm.trans ha)
        rw [e] at e1
        cases e1
        exact ⟨_, upd_same, (np e2).snoc (by
          obtain ⟨i, q1, q2⟩ := hv
          exact ⟨i, q1, nl q2 (fun _ => by simp)⟩)⟩
      · rw [if_neg hj]
        exact ⟨ys, no (fun z => hj (nodup_at w4 hb (z ▸ ha))) e1, np e2⟩
    ta := fun j b hb => by
      obtain ⟨ys, e1, e2⟩ := h.ta j b hb
      exact ⟨ys, no (fun z => w6 a mga b (List.mem_append.mpr (.inl (List.mem_of_getElem? hb))) z.symm) e1, np e2⟩
    cl := fun i b G hb hG => by
      obtain ⟨ys, e1, e2⟩ := h.cl i b G hb hG
      exact ⟨ys, no (fun z => w6 a mga b (List.mem_append.mpr (.inr (List.mem_of_getElem? hb))) z.symm) e1, np e2⟩
    sg := by show (S.got.set _ _).length = M; rw [List.length_set]; exact h.sg
    st := h.st
    nd := h.nd }
/-- one more at the end of what a member told -/
theorem MxAt.told {M : Nat} {H : Hp} {μ : Mx} {S : HS} {m : Nat} {a : Addr} {xs : List V} {v : V} {c : Int × Int} (h : MxAt M H μ S) (ha : μ.ta[m]? = some a) (e : H a = some (.lst xs)) (hv : PairAt H v c) : MxAt M (upd H a (.lst (xs ++ [v]))) μ { S with told := S.told.set m (S.toldOf (m : Nat) ++ [c]) } := by
  have no : ∀ {b : Addr} {o : HO}, b ≠ a → H b = some o → upd H a (.lst (xs ++ [v])) b = some o := fun n e => (upd_ne n).trans e
  have nl : ∀ {b : Addr} {o : HO}, H b = some o → (∀ ys, o ≠ .lst ys) → upd H a (.lst (xs ++ [v])) b = some o := fun {b o} e2 n => no (fun w => by rw [w, e] at e2; exact n _ (Option.some.inj e2).symm) e2
  have np : ∀ {ys : List V} {ids : List (Int × Int)}, All2 (PairAt H) ys ids → All2 (PairAt (upd H a (.lst (xs ++ [v])))) ys ids := fun q => q.mono fun v c z => by
    obtain ⟨i, e1, e2⟩ := z
    exact ⟨i, e1, nl e2 (fun _ => by simp)⟩
  obtain ⟨w1, w2, w3⟩ := List.nodup_append.mp h.nd
  obtain ⟨w4, w5, w6⟩ := List.nodup_append.mp w2
  obtain ⟨w7, w8, w9⟩ := List.nodup_append.mp w5
  have mta := List.mem_of_getElem? ha
  have am : a ∈ μ.ga ++ (μ.ta ++ μ.cl) := List.mem_append.mpr (.inr (List.mem_append.mpr (.inl mta)))
  have hml : m < S.told.length := by have := (List.getElem?_eq_some_iff.mp ha).1; have := h.tll; have := h.st; omega
  exact {
    md := nl h.md (fun _ => by simp)
    c := nl h.c (fun _ => by simp)
    wd := h.wd.imp fun ws e => ⟨nl e.1 (fun _ => by simp), e.2⟩
    cw := h.cw
    g := no (w3 _ (by simp) _ am) h.g
    tl := no (w3 _ (by simp) _ am) h.tl
    gl := h.gl
    tll := h.tll
    kl := h.kl
    lk := h.lk
    ga := fun j b hb => by
      obtain ⟨ys, e1, e2⟩ := h.ga j b hb
      exact ⟨ys, no (w6 b (List.mem_of_getElem? hb) a (List.mem_append.mpr (.inl mta))) e1, np e2⟩
    ta := fun j b hb => by
      obtain ⟨ys, e1, e2⟩ := h.ta j b hb
      rw [told_set hml]
      by_cases hj : j = m
      · subst hj
        rw [if_pos rfl]
        obtain rfl : b = a := Option.some.inj (hb.symm.trans ha)
        rw [e] at e1
        cases e1
        exact ⟨_, upd_same, (np e2).snoc (by
          obtain ⟨i, q1, q2⟩ := hv
          exact ⟨i, q1, nl q2 (fun _ => by simp)⟩)⟩
      · rw [if_neg hj]
        exact ⟨ys, no (fun z => hj (nodup_at w7 hb (z ▸ ha))) e1, np e2⟩
    cl := fun i b G hb hG => by
      obtain ⟨ys, e1, e2⟩ := h.cl i b G hb hG
      exact ⟨ys, no (fun z => w9 a mta b (List.mem_of_getElem? hb) z.symm) e1, np e2⟩
    sg := h.sg
    st := by show (S.told.set _ _).length = M; rw [List.length_set]; exact h.st
    nd := h.nd }
theorem rep_at {n m : Nat} {a : List (Int × Int)} : (List.replicate n ([] : List (Int × Int))).getD m [] = [] := rep_getD
theorem zero_got {M m : Nat} : (HS.zero (M : Nat)).gotOf (m : Nat) = [] := by rw [HS.gotOf_nat]; exact rep_getD
theorem zero_told {M m : Nat} : (HS.zero (M : Nat)).toldOf (m : Nat) = [] := by rw [HS.toldOf_nat]; exact rep_getD
theorem zero_gl {M : Nat} : (HS.zero (M : Nat)).got.length = M := by show (List.replicate (((M : Nat) : Int).toNat) _).length = M; rw [List.length_replicate, Int.toNat_natCast]
theorem zero_tl {M : Nat} : (HS.zero (M : Nat)).told.length = M := by show (List.replicate (((M : Nat) : Int).toNat) _).length = M; rw [List.length_replicate, Int.toNat_natCast]
theorem MxAt.new {n : Nat} {H' : Hp} {p c wd D D2 : Addr} {as bs : List Addr} (hp : H' p = some (.dK [(.inr "causes", .ref c), (.inr "words", .ref wd), (.inr "got", .ref D), (.inr "told", .ref D2)])) (hc : H' c = some (.dT [])) (hw : H' wd = some (.dT [])) (cw : c ≠ wd)
    (hD : H' D = some (.lst (as.map V.ref))) (hD2 : H' D2 = some (.lst (bs.map V.ref))) (la : as.length = n) (lb : bs.length = n) (ha : ∀ a ∈ as, H' a = some (.lst [])) (hb : ∀ a ∈ bs, H' a = some (.lst [])) (nd : ([D, D2] ++ (as ++ bs)).Nodup) :
    MxAt n H' ⟨p, c, wd, D, D2, as, bs, []⟩ (HS.zero (n : Nat)) where
  md := hp
  c := hc
  wd := ⟨[], hw, Nat.le_refl _⟩
  cw := cw
  g := hD
  tl := hD2
  gl := la
  tll := lb
  kl := rfl
  lk := rfl
  ga := fun m a h => ⟨[], ha a (List.mem_of_getElem? h), by rw [zero_got]; exact .nil⟩
  ta := fun m a h => ⟨[], hb a (List.mem_of_getElem? h), by rw [zero_told]; exact .nil⟩
  cl := fun i a G h1 h2 => by simp at h1
  sg := zero_gl
  st := zero_tl
  nd := by simpa [Mx.ls] using nd
/-! ### the walk -/
def walkH (S : HS) : List RowD → Nat → Option (Nat × Str)
  | [], _ => none
  | ρ :: rs, i => match S.why ρ with
    | some w => some (i, w)
    | none => walkH (S.go ρ) rs (i + 1)
/-- none, or a place and a word -/
def DueAt (H : Hp) (v : V) : Option (Nat × Str) → Prop
  | none => v = .non
  | some (i, w) => ∃ t, v = .ref t ∧ H t = some (.tup [.int (i : Nat), .str w])
theorem DueAt.same {H H' : Hp} {v : V} {d : Option (Nat × Str)} (h : DueAt H v d) (s : Same H H') : DueAt H' v d := by
  match d, h with
  | none, h => exact h
  | some (i, w), h => exact h.imp fun t e => ⟨e.1, s _ _ e.2⟩
theorem walkH_cut : ∀ {rs : List RowD} {S : HS} {i j : Nat} {w : Str}, walkH S rs i = some (j, w) → i ≤ j ∧ j - i < rs.length ∧ walkH S (rs.take (j - i)) i = none
  | [], S, i, j, w, h => by simp [walkH] at h
  | ρ :: rs, S, i, j, w, h => by
    unfold walkH at h
    cases hy : S.why ρ with
    | some z =>
      rw [hy] at h
      have h : some (i, z) = some (j, w) := h
      cases h
      refine ⟨Nat.le_refl _, by simp, ?_⟩
      rw [Nat.sub_self]
      rfl
    | none =>
      rw [hy] at h
      obtain ⟨h1, h2, h3⟩ := walkH_cut (rs := rs) h
      refine ⟨by omega, by rw [List.length_cons]; omega, ?_⟩
      rw [show j - i = (j - (i + 1)) + 1 by omega, List.take_succ_cons]
      unfold walkH
      rw [hy]
      exact h3
theorem WF.glen {M : Int} {S : HS} (h : WF M S) {m : Nat} (hm : (m : Int) ≤ M - 1) : (S.gotOf m).length ≤ S.ks.length := List.Nodup.length_le_of_subset (h.gc m hm).1 (fun c hc => h.gk m hm c hc)
theorem WF.tlen {M : Int} {S : HS} (h : WF M S) {m : Nat} (hm : (m : Int) ≤ M - 1) : (S.toldOf m).length ≤ S.ks.length := List.Nodup.length_le_of_subset (h.tn m hm) (fun c hc => h.tg m hm c hc)
theorem WF.clen {M : Int} {S : HS} (h : WF M S) {c : Int × Int} (hc : c ∈ S.ks) : (causesOf S.ks S.cg c).length ≤ S.ks.length := List.Nodup.length_le_of_subset (h.cc c hc).1 (fun e he => h.ck c hc e he)
theorem go_ks {S : HS} {ρ : RowD} : (S.go ρ).ks.length = S.ks.length + nSent [ρ] := by
  cases ρ with
  | sent m w => show (S.ks ++ _).length = _; rw [List.length_append]; rfl
  | got m s n => rfl
  | told m p s n => rfl
theorem any_cg {α : Type} {f g : α → Bool} : ∀ {l : List α}, (∀ x ∈ l, f x = g x) → l.any f = l.any g
  | [], _ => rfl
  | x :: l, h => by rw [List.any_cons, List.any_cons, h x (List.mem_cons_self ..), any_cg (fun y hy => h y (List.mem_cons_of_mem _ hy))]
theorem told_oth {r : List (Int × Int)} {p : Nat} {c : Int × Int} (hn : r.Nodup) (hp : 1 ≤ p) : toldOther r p c = otherwise r p c := by
  unfold toldOther otherwise
  rw [show ((p : Int) - 1).toNat = p - 1 by omega]
  by_cases hl : r.length < p
  · by_cases hc : c ∈ r
    · rw [if_neg (fun z => z.2 hc), List.getElem?_eq_none (by omega)]
      have h1 : r.findIdx (fun z => decide (z = c)) < r.length := List.findIdx_lt_length_of_exists ⟨c, hc, by simp⟩
      have h2 : ¬ (((r.findIdx fun z => decide (z = c)) : Int) = (p : Int) - 1) := by omega
      have h3 : ¬ ((p : Int) ≤ (r.length : Nat)) := by omega
      simp [hc, h2, h3]
    · have h3 : ¬ ((p : Int) ≤ (r.length : Nat)) := by omega
      rw [if_pos ⟨hl, hc⟩]
      simp [hc, h3]
  · rw [if_neg (fun z => hl z.1)]
    have h3 : ((p : Int) ≤ (r.length : Nat)) := by omega
    by_cases he : r[p - 1]? = some c
    · have hc : c ∈ r := List.mem_of_getElem? he
      have h1 : r.findIdx (fun z => decide (z = c)) < r.length := List.findIdx_lt_length_of_exists ⟨c, hc, by simp⟩
      have h4 : r[r.findIdx (fun z => decide (z = c))] = c := by
        have := List.findIdx_getElem (w := h1)
        simpa using this
      have h5 : r.findIdx (fun z => decide (z = c)) = p - 1 := (List.getElem?_inj h1 hn).mp (by rw [he, List.getElem?_eq_getElem h1, h4])
      simp [he, h5, hc]
      omega
    · simp [he, h3]
theorem other_any {M : Nat} {S : HS} {m pl : Nat} {c : Int × Int} (hw : WF (M : Nat) S) (st : S.told.length = M) (hm : m < M) (hp : 1 ≤ pl) (h1 : pl = (S.toldOf (m : Nat)).length + 1) (h3 : c ∉ S.toldOf (m : Nat)) : ((List.range M).map fun j => toldOther (S.toldOf ((j : Nat) : Int)) pl c).any id = (List.range S.told.length).any fun k => !decide ((k : Int) = (m : Nat)) && otherwise (S.told.getD k []) (pl : Nat) c := by
  rw [List.any_map, st]
  refine any_cg fun j hj => ?_
  have hj := List.mem_range.mp hj
  show toldOther (S.toldOf ((j : Nat) : Int)) pl c = _
  by_cases e : j = m
  · subst e
    unfold toldOther
    rw [if_pos ⟨by omega, h3⟩]
    simp
  · rw [told_oth (hw.tn j (by omega)) hp, HS.toldOf_nat]
    have : ¬ ((j : Int) = (m : Nat)) := by omega
    simp [this]
theorem take_snoc {α : Type} {B : List α} {i : Nat} {e : α} (h : B[i]? = some e) : B.take (i + 1) = B.take i ++ [e] := by rw [List.take_add_one, h]; rfl
theorem CsAt.tells {CC CL CB CR : Addr} {M : Nat} {H : Hp} {p a : Addr} {γ : Cs} {S : HS} {m : Nat} {ys : List V} {v : V} {c : Int × Int} (hc : CsAt CC CL CB CR M H p γ S) (ha : γ.ta[m]? = some a) (e : H a = some (.lst ys)) (hv : PairAt H v c) : CsAt CC CL CB CR M (upd H a (.lst (ys ++ [v]))) p γ { S with told := S.told.set m (S.toldOf (m : Nat) ++ [c]) } := by
  have fr : ∀ b o, ¬ b = a → H b = some o → upd H a (.lst (ys ++ [v])) b = some o := fun b o n e => (upd_ne n).trans e
  have no : ∀ {b o}, H b = some o → (∀ xs, o ≠ .lst xs) → upd H a (.lst (ys ++ [v])) b = some o := fun {b o} e2 n => fr b o (fun z => by
    rw [z, e] at e2
    exact n _ (Option.some.inj e2).symm) e2
  have pr : ∀ {us ids}, All2 (PairAt H) us ids → All2 (PairAt (upd H a (.lst (ys ++ [v])))) us ids := fun q => q.mono fun v c z => by
    obtain ⟨i, q1, q2⟩ := z
    exact ⟨i, q1, no q2 (fun _ => by simp)⟩
  have mta := List.mem_of_getElem? ha
  have nda := hc.nda
  obtain ⟨n1, n2⟩ := List.nodup_cons.mp hc.nd
  obtain ⟨n3, n4⟩ := List.nodup_cons.mp n2
  obtain ⟨n5, n6⟩ := List.nodup_cons.mp n4
  obtain ⟨n7, n8, n9⟩ := List.nodup_append.mp n6
  obtain ⟨m1, m2, m3⟩ := List.nodup_append.mp nda.2
  have inL : a ∈ γ.cs :: (γ.ga ++ γ.ta) := List.mem_cons_of_mem _ (List.mem_append.mpr (.inr mta))
  have hml : m < S.told.length := by have := (List.getElem?_eq_some_iff.mp ha).1; have := hc.tl; have := hc.st; omega
  exact {
    o := hc.o.imp fun _ e => no e (fun _ => by simp)
    b := hc.b.keep (fun b => b = a) fr (fun b z => ⟨_, z ▸ e⟩) (fun b hb z => by
      rw [z] at hb
      rcases List.mem_cons.mp hb with hb | hb
      · exact n1 (List.mem_cons_of_mem _ (List.mem_cons_of_mem _ (List.mem_append.mpr (.inr (hb ▸ inL)))))
      · exact n9 a hb a inL rfl)
    cs := fr _ _ (fun z => nda.1 (List.mem_append.mpr (.inr (z ▸ mta)))) hc.cs
    cll := hc.cll
    cl := fun j b q => by
      obtain ⟨dx, t, q1, q2⟩ := hc.cl j b q
      exact ⟨dx, t, no q1 (fun _ => by simp), no q2 (fun _ => by simp)⟩
    g := fr _ _ (fun z => n3 (List.mem_cons_of_mem _ (List.mem_append.mpr (.inr (z ▸ inL))))) hc.g
    gl := hc.gl
    ga := fun j b q => by
      obtain ⟨us, q1, q2⟩ := hc.ga j b q
      exact ⟨us, fr _ _ (fun z => m3 b (List.mem_of_getElem? q) a mta z) q1, pr q2⟩
    t := fr _ _ (fun z => n5 (List.mem_append.mpr (.inr (z ▸ inL)))) hc.t
    tl := hc.tl
    ta := fun j b q => by
      obtain ⟨us, q1, q2⟩ := hc.ta j b q
      rw [told_set hml]
      by_cases hj : j = m
      · subst hj
        rw [if_pos rfl]
        obtain rfl : b = a := Option.some.inj (q.symm.trans ha)
        rw [e] at q1
        cases q1
        exact ⟨_, upd_same, (pr q2).snoc (by
          obtain ⟨i, w1, w2⟩ := hv
          exact ⟨i, w1, no w2 (fun _ => by simp)⟩)⟩
      · rw [if_neg hj]
        exact ⟨us, fr _ _ (fun z => hj (nodup_at m2 q (z ▸ ha))) q1, pr q2⟩
    sg := hc.sg
    st := by show (S.told.set _ _).length = M; rw [List.length_set]; exact hc.st
    nd := hc.nd }
theorem CsAt.mut_no {CC CL CB CR : Addr} {M : Nat} {H : Hp} {p : Addr} {γ : Cs} {S : HS} (h : CsAt CC CL CB CR M H p γ S) {x : Addr} (hx : x ∈ γ.mut) : ∃ o, H x = some o ∧ ∀ ys, o ≠ .tup ys := by
  rcases List.mem_cons.mp hx with rfl | hx
  · obtain ⟨db, e⟩ := h.b.o
    exact ⟨_, e, fun _ => by simp⟩
  rcases List.mem_cons.mp hx with rfl | hx
  · exact ⟨_, h.b.d, fun _ => by simp⟩
  rcases List.mem_append.mp hx with hx | hx
  · obtain ⟨xs, e, _⟩ := h.b.we x hx
    exact ⟨_, e, fun _ => by simp⟩
  rcases List.mem_cons.mp hx with rfl | hx
  · exact ⟨_, h.cs, fun _ => by simp⟩
  rcases List.mem_append.mp hx with hx | hx
  · obtain ⟨i, hi⟩ := List.getElem?_of_mem hx
    obtain ⟨xs, e, _⟩ := h.ga i x hi
    exact ⟨_, e, fun _ => by simp⟩
  · obtain ⟨i, hi⟩ := List.getElem?_of_mem hx
    obtain ⟨xs, e, _⟩ := h.ta i x hi
    exact ⟨_, e, fun _ => by simp⟩
theorem CsAt.mut_tup {CC CL CB CR : Addr} {M : Nat} {H : Hp} {p : Addr} {γ : Cs} {S : HS} (h : CsAt CC CL CB CR M H p γ S) {x : Addr} {ys : List V} (e : H x = some (.tup ys)) : x ∉ γ.mut := fun hx => by
  obtain ⟨o, q, n⟩ := h.mut_no hx
  rw [e] at q
  exact n _ (Option.some.inj q).symm
theorem CsAt.rows {CC CL CB CR : Addr} {M : Nat} {H H' : Hp} {p : Addr} {γ : Cs} {S : HS} (h : CsAt CC CL CB CR M H p γ S) (f : ∀ b o, b ∉ γ.mut → H b = some o → H' b = some o) {xs : List V} {rs : List RowD} (hx : All2 (RowAt H) xs rs) : All2 (RowAt H') xs rs := hx.mono fun v ρ z => by
  obtain ⟨ok, t, e1, e2⟩ := z
  exact ⟨ok, t, e1, f _ _ (h.mut_tup e2) e2⟩
theorem Sq2.fr {K : PySem.W.Frag} {L : List Addr} {H H' : Hp} {a : Addr} {xs : List V} (h : Sq2 K H a xs) (f : ∀ b o, b ∉ L → H b = some o → H' b = some o) (n : a ∉ L) : Sq2 K H' a xs := h.imp (f _ _ n) (f _ _ n)
theorem walkH_at {S : HS} {rs : List RowD} {i j : Nat} {ρ : RowD} (h : rs[i]? = some ρ) : walkH S (rs.drop i) j = match S.why ρ with
    | some w => some (j, w)
    | none => walkH (S.go ρ) (rs.drop (i + 1)) (j + 1) := by
  obtain ⟨hn, e⟩ := List.getElem?_eq_some_iff.mp h
  rw [List.drop_eq_getElem_cons hn, e]
  rfl
theorem nSent_drop {rs : List RowD} {i : Nat} {ρ : RowD} (h : rs[i]? = some ρ) : nSent (rs.drop i) = nSent [ρ] + nSent (rs.drop (i + 1)) := by
  obtain ⟨hn, e⟩ := List.getElem?_eq_some_iff.mp h
  rw [List.drop_eq_getElem_cons hn, e, ← List.singleton_append, nSent_app]
/-- the rows made so far, the law's model beside them -/
structure RowsJ (M : Nat) (H0 H : Hp) (md R d : Addr) (cx : List V) (μ : Mx) (S : HS) (xs : List V) (rs : List RowD) : Prop where
  hm : MxAt M H μ S
  hw : WF (M : Nat) S
  md : μ.md = md
  sm : Same H0 H
  hR : H R = some (.lst xs)
  hx : All2 (RowAt H) xs rs
  hg : ∀ ρ ∈ rs, ρ.Good (M : Nat)
  hs : nSent rs = S.ks.length
  hk : S.ks.length ≤ 14
  nR : R ∉ μ.ls
  nd : d ∉ μ.ls
  hd : H d = some (.lst cx)
  fc : H0 μ.c = none
  fw : H0 μ.wd = none
  fg : ∀ x ∈ μ.ga, H0 x = none
  ft : ∀ x ∈ μ.ta, H0 x = none
  fR : H0 R = none
theorem RowsJ.same {M : Nat} {H0 H H' : Hp} {md R d : Addr} {cx : List V} {μ : Mx} {S : HS} {xs : List V} {rs : List RowD} (h : RowsJ M H0 H md R d cx μ S xs rs) (s : Same H H') : RowsJ M H0 H' md R d cx μ S xs rs :=
  { hm := h.hm.same s, hw := h.hw, md := h.md, sm := h.sm.trans s, hR := s _ _ h.hR, hx := RowAt.all h.hx s, hg := h.hg, hs := h.hs, hk := h.hk, nR := h.nR, nd := h.nd, hd := s _ _ h.hd, fc := h.fc, fw := h.fw, fg := h.fg, ft := h.ft, fR := h.fR }
theorem RowsJ.fr {M : Nat} {H0 H H' : Hp} {md R d q : Addr} {cx : List V} {μ : Mx} {S : HS} {xs : List V} {rs : List RowD} (h : RowsJ M H0 H md R d cx μ S xs rs) (f : Fr1 q H H') (hq : H q = none) : RowsJ M H0 H' md R d cx μ S xs rs := h.same fun b o e => f b o (ne_of_none e hq) e
theorem RowsJ.goR {M : Nat} {H0 H H' : Hp} {md R d : Addr} {cx : List V} {μ : Mx} {S : HS} {xs : List V} {rs : List RowD} (h : RowsJ M H0 H md R d cx μ S xs rs) (f : ∀ b o, b ≠ μ.c → b ≠ μ.wd → b ∉ μ.ga → b ∉ μ.ta → H b = some o → H' b = some o) : H' R = some (.lst xs) := by
  obtain ⟨ws, hw, _⟩ := h.hm.wd
  have e := h.hR
  exact f R _ (fun w => by rw [w, h.hm.c] at e; cases e) (fun w => by rw [w, hw] at e; cases e) (fun w => h.nR (Mx.mga w)) (fun w => h.nR (Mx.mta w)) e
theorem RowsJ.put {M : Nat} {H0 H H' : Hp} {md R d t : Addr} {cx : List V} {μ μ' : Mx} {S S' : HS} {xs : List V} {rs : List RowD} {ρ : RowD} (h : RowsJ M H0 H md R d cx μ S xs rs) (gd : ρ.Good (M : Nat)) (ht : H t = some (.tup ρ.vs)) (nRd : R ≠ d)
    (f : ∀ b o, b ≠ μ.c → b ≠ μ.wd → b ∉ μ.ga → b ∉ μ.ta → H b = some o → H' b = some o) (hm : MxAt M H' μ' S') (hw' : WF (M : Nat) S') (e1 : μ'.md = μ.md) (e2 : μ'.c = μ.c) (e3 : μ'.wd = μ.wd) (e4 : μ'.ga = μ.ga) (e5 : μ'.ta = μ.ta) (e6 : S'.ks.length = S.ks.length + nSent [ρ]) (e8 : S'.ks.length ≤ 14) (e7 : ∀ x ∈ μ'.ls, x ∈ μ.ls ∨ H x = none) :
    RowsJ M H0 (upd H' R (.lst (xs ++ [.ref t]))) md R d cx μ' S' (xs ++ [.ref t]) (rs ++ [ρ]) := by
  obtain ⟨ws, hw, _⟩ := h.hm.wd
  have lga : ∀ {b}, b ∈ μ.ga → ∃ ys, H b = some (.lst ys) := fun w => h.hm.lists _ (Mx.mga w)
  have lta : ∀ {b}, b ∈ μ.ta → ∃ ys, H b = some (.lst ys) := fun w => h.hm.lists _ (Mx.mta w)
  have nl : ∀ {b : Addr} {o : HO}, H b = some o → (∀ ys, o ≠ .lst ys) → (∀ kvs, o ≠ .dT kvs) → H' b = some o := fun {b o} e n1 n2 => f b o (fun w => by rw [w, h.hm.c] at e; exact n2 _ (Option.some.inj e).symm) (fun w => by rw [w, hw] at e; exact n2 _ (Option.some.inj e).symm) (fun w => by
      obtain ⟨ys, q⟩ := lga w
      rw [q] at e
      exact n1 _ (Option.some.inj e).symm) (fun w => by
      obtain ⟨ys, q⟩ := lta w
      rw [q] at e
      exact n1 _ (Option.some.inj e).symm) e
  have ll : ∀ {b : Addr} {ys : List V}, b ∉ μ.ls → H b = some (.lst ys) → H' b = some (.lst ys) := fun {b ys} n e => f b _ (fun w => by rw [w, h.hm.c] at e; cases e) (fun w => by rw [w, hw] at e; cases e) (fun w => n (Mx.mga w)) (fun w => n (Mx.mta w)) e
  have hR' := ll h.nR h.hR
  have hd' := ll h.nd h.hd
  have nR' : R ∉ μ'.ls := fun hx => (e7 R hx).elim h.nR (fun w => by rw [h.hR] at w; cases w)
  have nd' : d ∉ μ'.ls := fun hx => (e7 d hx).elim h.nd (fun w => by rw [h.hd] at w; cases w)
  have up : ∀ {b : Addr} {o : HO}, b ≠ R → H' b = some o → upd H' R (.lst (xs ++ [.ref t])) b = some o := fun n e => (upd_ne n).trans e
  have hL : ∀ b ∈ [R], ∃ ys, H' b = some (.lst ys) := fun b hb => by rw [List.mem_singleton.mp hb]; exact ⟨_, hR'⟩
  have kp : Keep [R] H' (upd H' R (.lst (xs ++ [.ref t]))) := fun b o n e => up (fun w => n (by rw [w]; exact List.mem_singleton.mpr rfl)) e
  have rows : All2 (RowAt (upd H' R (.lst (xs ++ [.ref t])))) xs rs := h.hx.mono fun v τ z => by
    obtain ⟨ok, u, q1, q2⟩ := z
    exact ⟨ok, u, q1, kp.no hL (nl q2 (fun _ => by simp) (fun _ => by simp)) (fun _ => by simp)⟩
  exact {
    hm := hm.keep kp hL (fun b hb hb2 => nR' (by rw [← List.mem_singleton.mp hb2]; exact hb))
    hw := hw'
    md := e1.trans h.md
    sm := fun b o e => by
      have e' := h.sm _ _ e
      have nR0 : b ≠ R := fun w => by rw [w, h.fR] at e; cases e
      exact up nR0 (f b o (fun w => by rw [w, h.fc] at e; cases e) (fun w => by rw [w, h.fw] at e; cases e) (fun w => by rw [h.fg b w] at e; cases e) (fun w => by rw [h.ft b w] at e; cases e) e')
    hR := upd_same
    hx := rows.snoc (RowAt.of gd (kp.no hL (nl ht (fun _ => by simp) (fun _ => by simp)) (fun _ => by simp)))
    hg := fun τ hτ => (List.mem_append.mp hτ).elim (h.hg τ) (fun w => by rw [List.mem_singleton.mp w]; exact gd)
    hs := by rw [nSent_app, h.hs, e6]
    hk := e8
    nR := nR'
    nd := nd'
    hd := up nRd.symm hd'
    fc := by rw [e2]; exact h.fc
    fw := by rw [e3]; exact h.fw
    fg := by rw [e4]; exact h.fg
    ft := by rw [e5]; exact h.ft
    fR := h.fR }
theorem cnt_step {ks : List (Int × Int)} {c : Int × Int} {m : Int} {i : Nat} (h : ks[i]? = some c) : cntM (ks.take (i + 1)) m = cntM (ks.take i) m + (if c.1 = m then 1 else 0) := by
  rw [take_snoc h, cntM_snoc]
/-- list.index over pairs, with its place -/
theorem q_indexE {K : PySem.W.Frag} {H : Hp} {Q : VK} {a : Addr} {x : V} {xs : List V} {cs : List (Int × Int)} {c : Int × Int} (h1 : SqL K H a xs) (h : All2 (PairAt H) xs cs) (hx : PairAt H x c) (hm : c ∈ cs) (q : Q (.int (firstAt cs c : Nat)) H) : rIndexD K (.ref a) [x] H Q := by
  obtain ⟨t, rfl, ht⟩ := hx
  have hlt : firstAt cs c < cs.length := List.findIdx_lt_length_of_exists ⟨c, hm, by simp⟩
  refine ⟨a, _, pairOf c, cs.map pairOf, firstAt cs c, pairOf cs[firstAt cs c], rfl, rfl, .lst h1 (PairAt.dp h), .tup (SqT.of ht) (.cons (.int _) (.cons (.int _) .nil)), sh_pairs, rfl, by rw [List.getElem?_map, List.getElem?_eq_getElem hlt]; rfl, ?_, ?_, q⟩
  · rw [eqv_pair]
    exact List.findIdx_getElem (w := hlt)
  · intro m z hmj hz
    rw [List.getElem?_map] at hz
    have hml : m < cs.length := Nat.lt_trans hmj hlt
    rw [List.getElem?_eq_getElem hml] at hz
    have hz : pairOf cs[m] = z := Option.some.inj hz
    rw [← hz, eqv_pair]
    have := List.not_of_lt_findIdx hmj
    simpa using this
/-- a row, not at D -/
def RowN (D : Addr) (H : Hp) (v : V) (ρ : RowD) : Prop := ρ.ok = true ∧ ∃ t, v = .ref t ∧ t ≠ D ∧ H t = some (.tup ρ.vs)
theorem RowN.same {D : Addr} {H H' : Hp} {v : V} {ρ : RowD} (h : RowN D H v ρ) (s : Same H H') : RowN D H' v ρ := by
  obtain ⟨o, t, e, n, h⟩ := h
  exact ⟨o, t, e, n, s _ _ h⟩
theorem RowN.put {D : Addr} {H : Hp} {v : V} {ρ : RowD} {ob : HO} (h : RowN D H v ρ) : RowN D (upd H D ob) v ρ := by
  obtain ⟨o, t, e, n, h⟩ := h
  exact ⟨o, t, e, n, (upd_ne n).trans h⟩
theorem RowN.at {D : Addr} {H : Hp} {v : V} {ρ : RowD} (h : RowN D H v ρ) : RowAt H v ρ := by
  obtain ⟨o, t, e, _, h⟩ := h
  exact ⟨o, t, e, h⟩
/-- thirty times tea -/
def teas (M n : Nat) : List RowD := (List.range n).map fun k => RowD.sent (((k * k % M : Nat) : Nat) : Int) "tea"
theorem teas_len {M n : Nat} : (teas M n).length = n := by simp [teas]
theorem teas_snoc {M n : Nat} : teas M (n + 1) = teas M n ++ [RowD.sent (((n * n % M : Nat) : Nat) : Int) "tea"] := by
  unfold teas
  rw [List.range_succ, List.map_append]
  rfl
theorem teas_sent {M : Nat} : ∀ {n : Nat}, nSent (teas M n) = n
  | 0 => rfl
  | n + 1 => by rw [teas_snoc, nSent_app, teas_sent, nSent_one]; rfl
theorem tea_good {M k : Nat} (h : 2 ≤ M) : (RowD.sent (((k * k % M : Nat) : Nat) : Int) "tea").Good (M : Nat) := by
  have := Nat.mod_lt (k * k) (show 0 < M by omega)
  exact ⟨by omega, by omega, by decide +kernel, by decide +kernel⟩
theorem teas_good {M n : Nat} (h : 2 ≤ M) : ∀ ρ ∈ teas M n, ρ.Good (M : Nat) := fun ρ hρ => by
  obtain ⟨k, _, rfl⟩ := List.mem_map.mp hρ
  exact tea_good h
theorem due_nn {H : Hp} {v : V} {d : Option (Nat × Str)} (h : DueAt H v d) : (d = none ∧ v = .non) ∨ ∃ i w t, d = some (i, w) ∧ v = .ref t ∧ H t = some (.tup [.int (i : Nat), .str w]) := by
  match d, h with
  | none, h => exact .inl ⟨rfl, h⟩
  | some (i, w), ⟨t, e1, e2⟩ => exact .inr ⟨i, w, t, rfl, e1, e2⟩
theorem why_ns {S : HS} {ρ : RowD} {w : Str} (h : S.why ρ = some w) : ρ.isSent = false := by
  cases ρ with
  | sent m w => cases h
  | got m s n => rfl
  | told m p s n => rfl
theorem nSent_rm {rs : List RowD} {j : Nat} (h : j < rs.length) : nSent (rs.take j ++ rs.drop (j + 1)) ≤ nSent rs := by
  have e : nSent rs = nSent (rs.take j ++ ([rs[j]] ++ rs.drop (j + 1))) := by rw [← row_dec (List.getElem?_eq_getElem h)]
  rw [e, nSent_app, nSent_app, nSent_app]
  omega
/-! ### the plain halls that a history is seen as -/
/-- how a plain hall goes on by a row -/
def seenS (cs : List (Int × Int)) (ts : List Int) : RowD → List (Int × Int) × List Int
  | .told m _ s n => (if ts.getD m.toNat 0 = ((cs.length : Nat) : Int) then cs ++ [(s, n)] else cs, ts.set m.toNat (ts.getD m.toNat 0 + 1))
  | _ => (cs, ts)
/-- of each beginning no gap -/
def PreC (M : Nat) (cs : List (Int × Int)) : Prop := ∀ i, Closed (M : Nat) (cs.take i)
theorem PreC.nil {M : Nat} : PreC M [] := fun i => by rw [List.take_nil]; exact .nil
theorem PreC.all {M : Nat} {cs : List (Int × Int)} (h : PreC M cs) : Closed (M : Nat) cs := by
  have := h cs.length
  rw [List.take_length] at this
  exact this
theorem PreC.take {M k : Nat} {cs : List (Int × Int)} (h : PreC M cs) : PreC M (cs.take k) := fun i => by rw [List.take_take]; exact h _
theorem PreC.snoc {M : Nat} {cs : List (Int × Int)} {s n : Int} (h : PreC M cs) (h0 : 0 ≤ s) (h1 : s ≤ (M : Int) - 1) (hn : n = cntM cs s + 1) : PreC M (cs ++ [(s, n)]) := fun i => by
  by_cases hi : i ≤ cs.length
  · rw [List.take_append_of_le_length hi]
    exact h i
  · rw [List.take_of_length_le (by rw [List.length_append]; show cs.length + 1 ≤ i; omega)]
    exact h.all.snoc h0 h1 hn
/-- the next one can be added -/
theorem PreC.next {M : Nat} {cs : List (Int × Int)} {s n : Int} (h : PreC M cs) (hn : n = cntM cs s + 1) : (s, n) ∉ cs ∧ ¬ (1 < n ∧ (s, n - 1) ∉ cs) := by
  refine ⟨fun hm => ?_, fun ⟨a, b⟩ => b ((h.all.iff (by omega)).mpr (by omega))⟩
  have := (h.all.iff (by omega)).mp hm
  omega
structure SeenOk (M : Nat) (S : HS) (cs : List (Int × Int)) (ts : List Int) : Prop where
  lt : ts.length = M
  tk : ∀ k : Nat, k < M → ts.getD k 0 = (((S.toldOf (k : Nat)).length : Nat) : Int)
  pre : ∀ k : Nat, k < M → S.toldOf (k : Nat) = cs.take (S.toldOf (k : Nat)).length
  le : ∀ k : Nat, k < M → (S.toldOf (k : Nat)).length ≤ cs.length
  top : ∃ k : Nat, k < M ∧ S.toldOf (k : Nat) = cs
  pc : PreC M cs
  ks : ∀ c ∈ cs, c ∈ S.ks
theorem HS.toldOf_set {S : HS} {m k : Nat} {p s n : Int} (h : m < S.told.length) : (S.go (.told m p s n)).toldOf (k : Nat) = if k = m then S.toldOf (m : Nat) ++ [(s, n)] else S.toldOf (k : Nat) := by
  rw [HS.toldOf_nat]
  show (S.told.set ((m : Int).toNat) _).getD k [] = _
  rw [Int.toNat_natCast]
  by_cases e : k = m
  · subst e
    rw [if_pos rfl, HS.set_self h]
  · rw [if_neg e, HS.set_other (Ne.symm e), ← HS.toldOf_nat]
/-- what a row told that can be brings -/
structure ToldOk (M : Nat) (S : HS) (cs : List (Int × Int)) (ts : List Int) (m : Nat) (s n : Int) : Prop where
  s0 : 0 ≤ s
  s1 : s ≤ (M : Int) - 1
  n1 : 1 ≤ n
  new : ts.getD m 0 = ((cs.length : Nat) : Int) → (s, n) ∉ cs ∧ ¬ (1 < n ∧ (s, n - 1) ∉ cs)
  old : ¬ ts.getD m 0 = ((cs.length : Nat) : Int) → (S.toldOf (m : Nat)).length < cs.length ∧ cs[(S.toldOf (m : Nat)).length]? = some (s, n)
theorem SeenOk.told {M : Nat} {S : HS} {cs : List (Int × Int)} {ts : List Int} {m : Nat} {p s n : Int} (h : SeenOk M S cs ts) (hw : WF (M : Nat) S) (hm : m < M) (hy : S.why (.told m p s n) = none) : p = ts.getD m 0 + 1 ∧ ToldOk M S cs ts m s n ∧ SeenOk M (S.go (.told m p s n)) (seenS cs ts (.told m p s n)).1 (seenS cs ts (.told m p s n)).2 := by
  have hml : m < S.told.length := by have := hw.lt; omega
  rw [why_told] at hy
  split at hy
  · cases hy
  rename_i h1
  split at hy
  · cases hy
  rename_i h2
  split at hy
  · cases hy
  rename_i h3
  split at hy
  · cases hy
  rename_i h4
  have h5 : (causesOf S.ks S.cg (s, n)).all (fun c => decide (c ∈ S.toldOf (m : Nat))) = true := by
    split at hy
    · assumption
    · cases hy
  have h2 := Decidable.not_not.mp h2
  have hp : p = ts.getD m 0 + 1 := by rw [h.tk m hm]; exact Decidable.not_not.mp h1
  have hk := hw.gk m (by omega) _ h2
  obtain ⟨k0, k1, k2, _⟩ := hw.kc.2 s n hk
  have hc : ∀ e ∈ causesOf S.ks S.cg (s, n), e ∈ S.toldOf (m : Nat) := fun e he => by simpa using List.all_eq_true.mp h5 e he
  have hprev : ¬ (1 < n ∧ (s, n - 1) ∉ S.toldOf (m : Nat)) := fun ⟨a, b⟩ => by
    have e := hw.cn _ hk
    have e : (cntM (causesOf S.ks S.cg (s, n)) s : Int) = n - 1 := e
    exact b (hc _ (((hw.cc _ hk).iff (by omega)).mpr (by omega)))
  have hnew : ts.getD m 0 = ((cs.length : Nat) : Int) → (s, n) ∉ cs ∧ ¬ (1 < n ∧ (s, n - 1) ∉ cs) := fun e => by
    have e2 := h.pre m hm
    rw [h.tk m hm] at e
    have e : (S.toldOf (m : Nat)).length = cs.length := by omega
    rw [e, List.take_length] at e2
    rw [e2] at h3 hprev
    exact ⟨h3, hprev⟩
  have hold : ¬ ts.getD m 0 = ((cs.length : Nat) : Int) → (S.toldOf (m : Nat)).length < cs.length ∧ cs[(S.toldOf (m : Nat)).length]? = some (s, n) := fun e => by
    rw [h.tk m hm] at e
    have l := h.le m hm
    have l2 : (S.toldOf (m : Nat)).length < cs.length := by omega
    refine ⟨l2, ?_⟩
    obtain ⟨k, hk1, hk2⟩ := h.top
    have hkm : k ≠ m := fun z => by rw [z] at hk2; rw [hk2] at l2; exact Nat.lt_irrefl _ l2
    have h4 : ¬ (!decide ((k : Int) = (m : Int)) && otherwise (S.told.getD k []) p (s, n)) = true := fun z => h4 (List.any_eq_true.mpr ⟨k, List.mem_range.mpr (by have := hw.lt; omega), z⟩)
    rw [← HS.toldOf_nat, hk2] at h4
    have n1 : decide ((k : Int) = (m : Int)) = false := decide_eq_false (by omega)
    rw [n1, Bool.not_false, Bool.true_and] at h4
    unfold otherwise at h4
    rw [Bool.or_eq_true, not_or] at h4
    have h4 := h4.1
    rw [decide_eq_true (by omega), Bool.true_and, Bool.not_eq_true, Bool.not_eq_false', decide_eq_true_eq] at h4
    rw [← h4]
    congr 1
    rw [hp, h.tk m hm]
    omega
  refine ⟨hp, ⟨k0, k1, k2, hnew, hold⟩, ?_⟩
  show SeenOk M _ (if ts.getD (m : Int).toNat 0 = ((cs.length : Nat) : Int) then cs ++ [(s, n)] else cs) (ts.set (m : Int).toNat (ts.getD (m : Int).toNat 0 + 1))
  rw [Int.toNat_natCast]
  have htm := h.tk m hm
  have hmt : m < ts.length := by rw [h.lt]; exact hm
  have tkk : ∀ k : Nat, k < M → (ts.set m (ts.getD m 0 + 1)).getD k 0 = ((((S.go (.told m p s n)).toldOf (k : Nat)).length : Nat) : Int) := fun k hk => by
    rw [HS.toldOf_set hml]
    by_cases e : k = m
    · subst e
      rw [if_pos rfl, List.getD_eq_getElem?_getD, List.getElem?_set_self hmt, List.length_append, Option.getD_some, htm]
      simp
    · rw [if_neg e, List.getD_eq_getElem?_getD, List.getElem?_set_ne (Ne.symm e), ← List.getD_eq_getElem?_getD, h.tk k hk]
  by_cases e : ts.getD m 0 = ((cs.length : Nat) : Int)
  · rw [if_pos e]
    obtain ⟨q1, q2⟩ := hnew e
    rw [htm] at e
    have el : (S.toldOf (m : Nat)).length = cs.length := by omega
    have em : S.toldOf (m : Nat) = cs := by
      have := h.pre m hm
      rw [el, List.take_length] at this
      exact this
    exact {
      lt := by rw [List.length_set]; exact h.lt
      tk := tkk
      pre := fun k hk => by
        rw [HS.toldOf_set hml]
        by_cases e : k = m
        · rw [if_pos e, em, List.take_length]
        · rw [if_neg e, List.take_append_of_le_length (h.le k hk)]
          exact h.pre k hk
      le := fun k hk => by
        rw [HS.toldOf_set hml, List.length_append]
        by_cases e : k = m
        · rw [if_pos e, em, List.length_append]
          exact Nat.le_refl _
        · rw [if_neg e]
          exact Nat.le_trans (h.le k hk) (Nat.le_add_right _ _)
      top := ⟨m, hm, by rw [HS.toldOf_set hml, if_pos rfl, em]⟩
      pc := h.pc.snoc k0 k1 (by
        have a1 := cnt_sub (s := s) (hw.cc _ hk) h.pc.all fun n' _ x => by rw [← em]; exact hc _ x
        have a2 := hw.cn _ hk
        have a2 : (cntM (causesOf S.ks S.cg (s, n)) s : Int) = n - 1 := a2
        have a3 : ¬ n ≤ cntM cs s := fun x => q1 ((h.pc.all.iff k2).mpr x)
        omega)
      ks := fun c hcc => by
        rcases List.mem_append.mp hcc with hcc | hcc
        · exact h.ks c hcc
        · rw [List.mem_singleton.mp hcc]; exact hk }
  · rw [if_neg e]
    obtain ⟨q1, q2⟩ := hold e
    exact {
      lt := by rw [List.length_set]; exact h.lt
      tk := tkk
      pre := fun k hk => by
        rw [HS.toldOf_set hml]
        by_cases e : k = m
        · rw [if_pos e, List.length_append]
          have := h.pre m hm
          show _ = cs.take ((S.toldOf (m : Nat)).length + 1)
          rw [List.take_succ, q2, ← this]
          rfl
        · rw [if_neg e]
          exact h.pre k hk
      le := fun k hk => by
        rw [HS.toldOf_set hml]
        by_cases e : k = m
        · rw [if_pos e, List.length_append]
          exact q1
        · rw [if_neg e]
          exact h.le k hk
      top := by
        obtain ⟨k, hk1, hk2⟩ := h.top
        have hkm : k ≠ m := fun z => by rw [z] at hk2; rw [hk2] at q1; exact Nat.lt_irrefl _ q1
        exact ⟨k, hk1, by rw [HS.toldOf_set hml, if_neg hkm]; exact hk2⟩
      pc := h.pc
      ks := h.ks }
theorem SeenOk.zero {M : Nat} (h : 0 < M) : SeenOk M (HS.zero (M : Nat)) [] (List.replicate M 0) := by
  have e : ∀ k : Nat, (HS.zero (M : Nat)).toldOf (k : Nat) = [] := fun k => by
    rw [HS.toldOf_nat]
    exact rep_getD
  exact {
    lt := List.length_replicate
    tk := fun k hk => by rw [e, List.getD_eq_getElem?_getD, List.getElem?_replicate, if_pos hk]; rfl
    pre := fun k hk => by rw [e]; rfl
    le := fun k hk => by rw [e]; exact Nat.le_refl _
    top := ⟨0, h, e 0⟩
    pc := .nil
    ks := fun c hc => nomatch hc }
theorem SeenOk.sent {M : Nat} {S : HS} {cs : List (Int × Int)} {ts : List Int} {m : Int} {w : Str} (h : SeenOk M S cs ts) : SeenOk M (S.go (.sent m w)) cs ts :=
  { lt := h.lt, tk := h.tk, pre := h.pre, le := h.le, top := h.top, pc := h.pc, ks := fun c hc => List.mem_append.mpr (.inl (h.ks c hc)) }
theorem SeenOk.got {M : Nat} {S : HS} {cs : List (Int × Int)} {ts : List Int} {m s n : Int} (h : SeenOk M S cs ts) : SeenOk M (S.go (.got m s n)) cs ts :=
  { lt := h.lt, tk := h.tk, pre := h.pre, le := h.le, top := h.top, pc := h.pc, ks := h.ks }
theorem SeenOk.step {M : Nat} {S : HS} {cs : List (Int × Int)} {ts : List Int} {ρ : RowD} (h : SeenOk M S cs ts) (hw : WF (M : Nat) S) (hg : ρ.Good (M : Nat)) (hy : S.why ρ = none) : SeenOk M (S.go ρ) (seenS cs ts ρ).1 (seenS cs ts ρ).2 := by
  cases ρ with
  | sent m w => exact h.sent
  | got m s n => exact h.got
  | told m p s n =>
    obtain ⟨g0, g1, _⟩ := hg
    obtain ⟨j, rfl⟩ := Int.eq_ofNat_of_zero_le g0
    exact (h.told hw (by omega) hy).2.2
/-- behind the rows -/
def seenL (cs : List (Int × Int)) (ts : List Int) : List RowD → List (Int × Int) × List Int
  | [] => (cs, ts)
  | ρ :: rs => seenL (seenS cs ts ρ).1 (seenS cs ts ρ).2 rs
theorem seenL_snoc : ∀ {rs : List RowD} {cs : List (Int × Int)} {ts : List Int} {ρ : RowD}, seenL cs ts (rs ++ [ρ]) = seenS (seenL cs ts rs).1 (seenL cs ts rs).2 ρ
  | [], cs, ts, ρ => rfl
  | τ :: rs, cs, ts, ρ => seenL_snoc (rs := rs)
def seenAt (M : Nat) (rs : List RowD) (i : Nat) : List (Int × Int) × List Int := seenL [] (List.replicate M 0) (rs.take i)
theorem seenAt_succ {M : Nat} {rs : List RowD} {i : Nat} {ρ : RowD} (h : rs[i]? = some ρ) : seenAt M rs (i + 1) = seenS (seenAt M rs i).1 (seenAt M rs i).2 ρ := by
  unfold seenAt
  rw [take_snoc h, seenL_snoc]
theorem seenS_len {cs : List (Int × Int)} {ts : List Int} {ρ : RowD} : (seenS cs ts ρ).1.length ≤ cs.length + 1 := by
  cases ρ with
  | sent m w => exact Nat.le_succ _
  | got m s n => exact Nat.le_succ _
  | told m p s n =>
    show (if _ then _ else _ : List (Int × Int)).length ≤ _
    split
    · rw [List.length_append]; exact Nat.le_refl _
    · exact Nat.le_succ _
theorem seenAt_len {M : Nat} {rs : List RowD} : ∀ {i : Nat}, (seenAt M rs i).1.length ≤ i
  | 0 => by rw [show seenAt M rs 0 = seenL [] (List.replicate M 0) [] from rfl]; exact Nat.le_refl _
  | i + 1 => by
    cases h : rs[i]? with
    | some ρ =>
      rw [seenAt_succ h]
      exact Nat.le_trans seenS_len (Nat.succ_le_succ seenAt_len)
    | none =>
      have e : seenAt M rs (i + 1) = seenAt M rs i := by
        have := List.getElem?_eq_none_iff.mp h
        unfold seenAt
        rw [List.take_of_length_le (by omega), List.take_of_length_le (by omega)]
      rw [e]
      exact Nat.le_succ_of_le seenAt_len
/-- all along a history that can be -/
theorem seen_all {M : Nat} {rs : List RowD} (hg : ∀ ρ ∈ rs, ρ.Good (M : Nat)) (hM : 0 < M) (hw : walkH (HS.zero (M : Nat)) rs 0 = none) : ∀ {i : Nat}, i ≤ rs.length → ∃ S, WF (M : Nat) S ∧ SeenOk M S (seenAt M rs i).1 (seenAt M rs i).2 ∧ walkH S (rs.drop i) i = none
  | 0, _ => ⟨HS.zero (M : Nat), WF.zero (by omega), SeenOk.zero hM, hw⟩
  | i + 1, h => by
    obtain ⟨S, h1, h2, h3⟩ := seen_all hg hM hw (i := i) (by omega)
    obtain ⟨ρ, hρ⟩ : ∃ ρ, rs[i]? = some ρ := ⟨_, List.getElem?_eq_getElem (by omega)⟩
    rw [walkH_at hρ] at h3
    have gd := hg ρ (List.mem_of_getElem? hρ)
    cases hy : S.why ρ with
    | some w =>
      rw [hy] at h3
      cases h3
    | none =>
      rw [hy] at h3
      rw [seenAt_succ hρ]
      exact ⟨_, h1.step gd hy, h2.step h1 gd hy, h3⟩
theorem walkH_none {S : HS} {rs : List RowD} {i : Nat} {ρ : RowD} (h : walkH S (rs.drop i) i = none) (hρ : rs[i]? = some ρ) : S.why ρ = none := by
  rw [walkH_at hρ] at h
  cases hy : S.why ρ with
  | some w =>
    rw [hy] at h
    cases h
  | none => rfl
/-! ### rows that keep causes -/
structure KeepsL (M : Nat) (ks : List (Int × Int)) (cg : List (List (Int × Int))) (L : List (Int × Int)) : Prop where
  pc : PreC M L
  kc : ∀ (k : Nat) (c : Int × Int), L[k]? = some c → c ∈ ks ∧ ∀ e ∈ causesOf ks cg c, e ∈ L.take k
theorem KeepsL.nil {M : Nat} {ks : List (Int × Int)} {cg : List (List (Int × Int))} : KeepsL M ks cg [] := ⟨.nil, fun k c h => by simp at h⟩
theorem KeepsL.snoc {M : Nat} {ks : List (Int × Int)} {cg : List (List (Int × Int))} {L : List (Int × Int)} {s n : Int} (h : KeepsL M ks cg L) (h0 : 0 ≤ s) (h1 : s ≤ (M : Int) - 1) (hn : n = cntM L s + 1) (hk : (s, n) ∈ ks) (hc : ∀ e ∈ causesOf ks cg (s, n), e ∈ L) : KeepsL M ks cg (L ++ [(s, n)]) := by
  refine ⟨h.pc.snoc h0 h1 hn, fun k c e => ?_⟩
  by_cases hl : k < L.length
  · rw [List.getElem?_append_left hl] at e
    rw [List.take_append_of_le_length (Nat.le_of_lt hl)]
    exact h.kc k c e
  · have hlt := (List.getElem?_eq_some_iff.mp e).1
    rw [List.length_append] at hlt
    have hlt : k < L.length + 1 := hlt
    obtain rfl : k = L.length := by omega
    rw [List.getElem?_append_right (Nat.le_refl _), Nat.sub_self] at e
    obtain rfl : (s, n) = c := Option.some.inj e
    rw [List.take_append_of_le_length (Nat.le_refl _), List.take_length]
    exact ⟨hk, hc⟩
theorem KeepsL.more {M : Nat} {ks : List (Int × Int)} {cg : List (List (Int × Int))} {L G : List (Int × Int)} {d : Int × Int} (h : KeepsL M ks cg L) (hl : ks.length = cg.length) : KeepsL M (ks ++ [d]) (cg ++ [G]) L :=
  ⟨h.pc, fun k c e => by
    obtain ⟨a, b⟩ := h.kc k c e
    exact ⟨List.mem_append.mpr (.inl a), fun x hx => b x (by rw [← causesOf_old hl a]; exact hx)⟩⟩
structure KInv (M : Nat) (S : HS) : Prop where
  g : ∀ m : Nat, m < M → KeepsL M S.ks S.cg (S.gotOf (m : Nat))
  t : ∀ m : Nat, m < M → KeepsL M S.ks S.cg (S.toldOf (m : Nat))
  tg : ∀ m : Nat, m < M → ∀ c ∈ S.toldOf (m : Nat), c ∈ S.gotOf (m : Nat)
theorem KInv.zero {M : Nat} : KInv M (HS.zero (M : Nat)) :=
  ⟨fun m _ => by rw [zero_got]; exact .nil, fun m _ => by rw [zero_told]; exact .nil, fun m _ c hc => by rw [zero_told] at hc; cases hc⟩
theorem got_go_sent {S : HS} {m j : Nat} {w : Str} (hm : m < S.got.length) : (S.go (.sent (m : Nat) w)).gotOf (j : Nat) = if j = m then S.gotOf (m : Nat) ++ [S.next (m : Nat)] else S.gotOf (j : Nat) := by
  rw [HS.gotOf_nat]
  show (S.got.set ((m : Int).toNat) _).getD j [] = _
  rw [Int.toNat_natCast]
  by_cases e : j = m
  · subst e
    rw [if_pos rfl, HS.set_self hm]
  · rw [if_neg e, HS.set_other (Ne.symm e), HS.gotOf_nat]
theorem got_go_got {S : HS} {m j : Nat} {s n : Int} (hm : m < S.got.length) : (S.go (.got (m : Nat) s n)).gotOf (j : Nat) = if j = m then S.gotOf (m : Nat) ++ [(s, n)] else S.gotOf (j : Nat) := by
  rw [HS.gotOf_nat]
  show (S.got.set ((m : Int).toNat) _).getD j [] = _
  rw [Int.toNat_natCast]
  by_cases e : j = m
  · subst e
    rw [if_pos rfl, HS.set_self hm]
  · rw [if_neg e, HS.set_other (Ne.symm e), HS.gotOf_nat]
theorem KInv.step {M : Nat} {S : HS} {ρ : RowD} (h : KInv M S) (hw : WF (M : Nat) S) (hg : ρ.Good (M : Nat)) (hy : S.why ρ = none) : KInv M (S.go ρ) := by
  obtain ⟨m, hm⟩ := Int.eq_ofNat_of_zero_le hg.mem.1
  have hm1 := hg.mem.2
  cases ρ with
  | sent x w =>
    obtain rfl : x = (m : Int) := hm
    have hm2 : m < M := by have : (m : Int) ≤ (M : Int) - 1 := hm1; omega
    have hml : m < S.got.length := by have := hw.lg; omega
    have old : ∀ {L}, KeepsL M S.ks S.cg L → KeepsL M (S.go (.sent (m : Nat) w)).ks (S.go (.sent (m : Nat) w)).cg L := fun q => q.more hw.lk
    have hown := hw.own (m := m) (by omega)
    refine ⟨fun j hj => ?_, fun j hj => old (h.t j hj), fun j hj c hc => ?_⟩
    · rw [got_go_sent hml]
      by_cases e : j = m
      · rw [if_pos e]
        refine (old (h.g m hm2)).snoc (by omega) (by omega) (by omega) (List.mem_append.mpr (.inr (List.mem_singleton.mpr rfl))) fun e he => ?_
        rw [show (S.go (.sent (m : Nat) w)).ks = S.ks ++ [S.next (m : Nat)] from rfl, show (S.go (.sent (m : Nat) w)).cg = S.cg ++ [S.gotOf (m : Nat)] from rfl] at he
        rw [show ((m : Int), 1 + (cntM S.ks (m : Nat) : Int)) = S.next (m : Nat) from rfl, causesOf_new hw.lk hw.next_new] at he
        exact he
      · rw [if_neg e]
        exact old (h.g j hj)
    · rw [got_go_sent hml]
      have := h.tg j hj c hc
      by_cases e : j = m
      · rw [if_pos e]
        rw [e] at this
        exact List.mem_append.mpr (.inl this)
      · rw [if_neg e]
        exact this
  | got x s n =>
    obtain rfl : x = (m : Int) := hm
    have hm2 : m < M := by have : (m : Int) ≤ (M : Int) - 1 := hm1; omega
    have hml : m < S.got.length := by have := hw.lg; omega
    rw [why_got] at hy
    split at hy
    · cases hy
    split at hy
    · cases hy
    rename_i h1 h2
    split at hy
    · cases hy
    rename_i h3
    have h4 : (causesOf S.ks S.cg (s, n)).all (fun c => decide (c ∈ S.gotOf (m : Nat))) = true := by
      split at hy
      · assumption
      · cases hy
    have h2 := Decidable.not_not.mp h2
    obtain ⟨k0, k1, k2, _⟩ := hw.kc.2 s n h2
    have hc : ∀ c ∈ causesOf S.ks S.cg (s, n), c ∈ S.gotOf (m : Nat) := fun c hc => by simpa using List.all_eq_true.mp h4 c hc
    refine ⟨fun j hj => ?_, fun j hj => h.t j hj, fun j hj c hcc => ?_⟩
    · rw [got_go_got hml]
      by_cases e : j = m
      · rw [if_pos e]
        exact (h.g m hm2).snoc k0 k1 (hw.gotn (by omega) h2 h3 hc) h2 hc
      · rw [if_neg e]
        exact h.g j hj
    · rw [got_go_got hml]
      have := h.tg j hj c hcc
      by_cases e : j = m
      · rw [if_pos e]
        rw [e] at this
        exact List.mem_append.mpr (.inl this)
      · rw [if_neg e]
        exact this
  | told x p s n =>
    obtain rfl : x = (m : Int) := hm
    have hm2 : m < M := by have : (m : Int) ≤ (M : Int) - 1 := hm1; omega
    have hml : m < S.told.length := by have := hw.lt; omega
    rw [why_told] at hy
    split at hy
    · cases hy
    split at hy
    · cases hy
    rename_i h2
    split at hy
    · cases hy
    rename_i h3
    split at hy
    · cases hy
    have h5 : (causesOf S.ks S.cg (s, n)).all (fun c => decide (c ∈ S.toldOf (m : Nat))) = true := by
      split at hy
      · assumption
      · cases hy
    have h2 := Decidable.not_not.mp h2
    have hk := hw.gk m (by omega) _ h2
    obtain ⟨k0, k1, k2, _⟩ := hw.kc.2 s n hk
    have hc : ∀ c ∈ causesOf S.ks S.cg (s, n), c ∈ S.toldOf (m : Nat) := fun c hc => by simpa using List.all_eq_true.mp h5 c hc
    have cl := (h.t m hm2).pc.all
    have hn : n = cntM (S.toldOf (m : Nat)) s + 1 := by
      have a1 := cnt_sub (s := s) (hw.cc _ hk) cl fun n' _ x => hc _ x
      have a2 := hw.cn _ hk
      have a2 : (cntM (causesOf S.ks S.cg (s, n)) s : Int) = n - 1 := a2
      have a3 : ¬ n ≤ cntM (S.toldOf (m : Nat)) s := fun x => h3 ((cl.iff k2).mpr x)
      omega
    refine ⟨fun j hj => h.g j hj, fun j hj => ?_, fun j hj c hcc => ?_⟩
    · rw [HS.toldOf_set hml]
      by_cases e : j = m
      · rw [if_pos e]
        exact (h.t m hm2).snoc k0 k1 hn hk hc
      · rw [if_neg e]
        exact h.t j hj
    · rw [HS.toldOf_set hml] at hcc
      by_cases e : j = m
      · rw [if_pos e] at hcc
        rw [e]
        rcases List.mem_append.mp hcc with hcc | hcc
        · exact h.tg m hm2 c hcc
        · rw [List.mem_singleton.mp hcc]
          exact h2
      · rw [if_neg e] at hcc
        exact h.tg j hj c hcc
def HS.run (S : HS) (rs : List RowD) : HS := rs.foldl HS.go S
theorem run_at {S : HS} {rs : List RowD} {i : Nat} {ρ : RowD} (h : rs[i]? = some ρ) : S.run (rs.take (i + 1)) = (S.run (rs.take i)).go ρ := by
  unfold HS.run
  rw [take_snoc h, List.foldl_append]
  rfl
theorem run_all {M : Nat} : ∀ {rs : List RowD} {S : HS} {i : Nat} {cs : List (Int × Int)} {ts : List Int}, (∀ ρ ∈ rs, ρ.Good (M : Nat)) → WF (M : Nat) S → KInv M S → SeenOk M S cs ts → walkH S rs i = none → WF (M : Nat) (S.run rs) ∧ KInv M (S.run rs) ∧ SeenOk M (S.run rs) (seenL cs ts rs).1 (seenL cs ts rs).2
  | [], S, i, cs, ts, _, h1, h2, h3, _ => ⟨h1, h2, h3⟩
  | ρ :: rs, S, i, cs, ts, hg, h1, h2, h3, hw => by
    have gd := hg ρ (List.mem_cons_self ..)
    have e := walkH_at (S := S) (rs := ρ :: rs) (i := 0) (j := i) rfl
    rw [List.drop_zero, hw] at e
    cases hy : S.why ρ with
    | some w =>
      rw [hy] at e
      cases e
    | none =>
      rw [hy] at e
      exact run_all (rs := rs) (fun τ hτ => hg τ (List.mem_cons_of_mem _ hτ)) (h1.step gd hy) (h2.step h1 gd hy) (h3.step h1 gd hy) e.symm
theorem run_zero {M : Nat} {rs : List RowD} (h0 : 0 < M) (hg : ∀ ρ ∈ rs, ρ.Good (M : Nat)) (hw : walkH (HS.zero (M : Nat)) rs 0 = none) : ∃ cs ts, WF (M : Nat) ((HS.zero (M : Nat)).run rs) ∧ KInv M ((HS.zero (M : Nat)).run rs) ∧ SeenOk M ((HS.zero (M : Nat)).run rs) cs ts :=
  ⟨_, _, run_all hg (WF.zero (by omega)) KInv.zero (SeenOk.zero h0) hw⟩
theorem run_ks : ∀ {rs : List RowD} {S : HS}, (S.run rs).ks.length = S.ks.length + nSent rs
  | [], S => rfl
  | ρ :: rs, S => by
    show ((S.go ρ).run rs).ks.length = _
    rw [run_ks, go_ks, show ρ :: rs = [ρ] ++ rs from rfl, nSent_app]
    omega
/-- a row told by a member with the most: the longest -/
theorem SeenOk.longest {M : Nat} {S : HS} {cs : List (Int × Int)} {ts : List Int} {i : Nat} (h : SeenOk M S cs ts) (hi : i < M) (hm : ∀ j, j < M → (S.toldOf (j : Nat)).length ≤ (S.toldOf (i : Nat)).length) : S.toldOf (i : Nat) = cs := by
  obtain ⟨k, hk, e⟩ := h.top
  have := hm k hk
  have l := h.le i hi
  rw [e] at this
  have q := h.pre i hi
  rw [List.take_of_length_le this] at q
  exact q
theorem pre2_sum {lo : Int} {lo1 : Nat → Int} {m : Nat → Nat} : ∀ {a : Nat}, (pre2 lo lo1 m a).length = ((List.range a).map m).sum
  | 0 => rfl
  | a + 1 => by
    rw [pre2_succ, List.length_append, pre2_sum, List.range_succ, List.map_append, List.sum_append, List.length_map, List.length_range]
    simp
theorem beyond_len {M : Nat} {B : List (Int × Int)} : (((beyond M [] B).length : Nat) : Int) = (vec M B).sum := by
  unfold beyond vec
  rw [pre2_sum]
  have e : (fun k : Nat => cntM B ((k : Nat) : Int) - cntM [] ((k : Nat) : Int)) = fun k : Nat => cntM B ((k : Nat) : Int) := funext fun k => by
    show cntM B k - 0 = _
    omega
  rw [e]
  generalize List.range M = l
  induction l with
  | nil => rfl
  | cons a l ih =>
    rw [List.map_cons, List.map_cons, List.sum_cons, List.sum_cons, ← ih]
    omega
theorem KeepsL.len {M : Nat} {ks : List (Int × Int)} {cg : List (List (Int × Int))} {L : List (Int × Int)} (h : KeepsL M ks cg L) : L.length ≤ ks.length := List.Nodup.length_le_of_subset h.pc.all.1 fun c hc => by
  obtain ⟨k, hk⟩ := List.getElem?_of_mem hc
  exact (h.kc k c hk).1
theorem sum_le_mul {l : List Int} {b : Nat} (h : ∀ x ∈ l, x ≤ (b : Int)) : l.sum ≤ ((l.length * b : Nat) : Int) := by
  induction l with
  | nil => simp
  | cons a l ih =>
    have h1 := h a (List.mem_cons_self ..)
    have h2 := ih fun x hx => h x (List.mem_cons_of_mem _ hx)
    rw [List.sum_cons, List.length_cons, Nat.succ_mul]
    omega
theorem beyond_le {M : Nat} {B : List (Int × Int)} : (beyond M [] B).length ≤ M * B.length := by
  have e := beyond_len (M := M) (B := B)
  have l := sum_le_mul (l := vec M B) (b := B.length) fun x hx => by
    unfold vec at hx
    obtain ⟨k, _, rfl⟩ := List.mem_map.mp hx
    exact Int.ofNat_le.mpr (List.length_filter_le ..)
  rw [vec_len] at l
  omega
def sp_is_whole (K : PySem.W.Frag) : Sp := fun vs H Q E => (∃ (n a : Int), vs = [.int n, .int a, .non] ∧ Q (.bl (decide (a ≤ n))) H) ∨
  (∃ (n a b : Int), vs = [.int n, .int a, .int b] ∧ Q (.bl (decide (a ≤ n) && decide (n ≤ b))) H)
theorem r_is_whole_1 {K : PySem.W.Frag} {H : Hp} {Q : VK} {E : XK} {vv : List V} {n a : Int} (ee : vv = [.int n, .int a, .non])  (k : Q (.bl (decide (a ≤ n))) H) : sp_is_whole K vv H Q E := by
  subst ee
  exact .inl ⟨n, a, rfl, k⟩
theorem r_is_whole_2 {K : PySem.W.Frag} {H : Hp} {Q : VK} {E : XK} {vv : List V} {n a b : Int} (ee : vv = [.int n, .int a, .int b])  (k : Q (.bl (decide (a ≤ n) && decide (n ≤ b))) H) : sp_is_whole K vv H Q E := by
  subst ee
  exact .inr (⟨n, a, b, rfl, k⟩)
def sp_is_text_of (K : PySem.W.Frag) : Sp := fun vs H Q E => (∃ (s f l : Str) (lo hi : Nat) (m : Int), vs = [.str s, .str f, .str l, .int m] ∧ (s.length ≤ 1000) ∧ (f.cps.toList = [lo]) ∧ (l.cps.toList = [hi]) ∧ ∀ H', Same H H' → Q (.bl (textB s lo hi m)) H')
theorem r_is_text_of {K : PySem.W.Frag} {H : Hp} {Q : VK} {E : XK} {vv : List V} {s f l : Str} {lo hi : Nat} {m : Int} (ee : vv = [.str s, .str f, .str l, .int m]) (hl : s.length ≤ 1000) (hf : f.cps.toList = [lo]) (hg : l.cps.toList = [hi]) (k : ∀ H', Same H H' → Q (.bl (textB s lo hi m)) H') : sp_is_text_of K vv H Q E := by
  subst ee
  exact ⟨s, f, l, lo, hi, m, rfl, hl, hf, hg, k⟩
def sp_is_word (K : PySem.W.Frag) : Sp := fun vs H Q E => (∃ (s : Str), vs = [.str s] ∧ (s.length ≤ 1000) ∧ ∀ H', Same H H' → Q (.bl (textB s 97 122 8)) H')
theorem r_is_word {K : PySem.W.Frag} {H : Hp} {Q : VK} {E : XK} {vv : List V} {s : Str} (ee : vv = [.str s]) (hl : s.length ≤ 1000) (k : ∀ H', Same H H' → Q (.bl (textB s 97 122 8)) H') : sp_is_word K vv H Q E := by
  subst ee
  exact ⟨s, rfl, hl, k⟩
def sp_is_list (K : PySem.W.Frag) : Sp := fun vs H Q E => (∃ (x : V) (t : Value) (b : Bool), vs = [x] ∧ (TyX K H x t) ∧ (PySem.W.kitAny K t [.type "list", .type "tuple"] = some b) ∧ ∀ H', Same H H' → Q (.bl b) H')
theorem r_is_list {K : PySem.W.Frag} {H : Hp} {Q : VK} {E : XK} {vv : List V} {x : V} {t : Value} {b : Bool} (ee : vv = [x]) (ht : TyX K H x t) (hk : PySem.W.kitAny K t [.type "list", .type "tuple"] = some b) (k : ∀ H', Same H H' → Q (.bl b) H') : sp_is_list K vv H Q E := by
  subst ee
  exact ⟨x, t, b, rfl, ht, hk, k⟩
def sp_is_member (K : PySem.W.Frag) : Sp := fun vs H Q E => (∃ (n m : Int), vs = [.int n, .int m] ∧ (0 ≤ n) ∧ (n ≤ m - 1) ∧ Q (.bl true) H)
theorem r_is_member {K : PySem.W.Frag} {H : Hp} {Q : VK} {E : XK} {vv : List V} {n m : Int} (ee : vv = [.int n, .int m]) (h0 : 0 ≤ n) (h1 : n ≤ m - 1) (k : Q (.bl true) H) : sp_is_member K vv H Q E := by
  subst ee
  exact ⟨n, m, rfl, h0, h1, k⟩
def sp_is_ident (K : PySem.W.Frag) : Sp := fun vs H Q E => (∃ (t : Addr) (kk n m : Int), vs = [.ref t, .int m, .non] ∧ (H t = some (.tup [.int kk, .int n])) ∧ (0 ≤ kk) ∧ (kk ≤ m - 1) ∧ (1 ≤ n) ∧ Q (.bl true) H)
theorem r_is_ident {K : PySem.W.Frag} {H : Hp} {Q : VK} {E : XK} {vv : List V} {t : Addr} {kk n m : Int} (ee : vv = [.ref t, .int m, .non]) (ht : H t = some (.tup [.int kk, .int n])) (h0 : 0 ≤ kk) (h1 : kk ≤ m - 1) (h2 : 1 ≤ n) (k : Q (.bl true) H) : sp_is_ident K vv H Q E := by
  subst ee
  exact ⟨t, kk, n, m, rfl, ht, h0, h1, h2, k⟩
def sp_check_members (K : PySem.W.Frag) : Sp := fun vs H Q E => (∃ (m : Int), vs = [.int m] ∧ (2 ≤ m) ∧ (m ≤ 5) ∧ Q .non H)
theorem r_check_members {K : PySem.W.Frag} {H : Hp} {Q : VK} {E : XK} {vv : List V} {m : Int} (ee : vv = [.int m]) (h2 : 2 ≤ m) (h5 : m ≤ 5) (k : Q .non H) : sp_check_members K vv H Q E := by
  subst ee
  exact ⟨m, rfl, h2, h5, k⟩
def sp_is_row (K : PySem.W.Frag) : Sp := fun vs H Q E => (∃ (t : Addr) (ρ : RowD) (M : Int), vs = [.ref t, .int M] ∧ (H t = some (.tup ρ.vs)) ∧ (ρ.Good M) ∧ ∀ H', Same H H' → Q (.bl true) H')
theorem r_is_row {K : PySem.W.Frag} {H : Hp} {Q : VK} {E : XK} {vv : List V} {t : Addr} {ρ : RowD} {M : Int} (ee : vv = [.ref t, .int M]) (ht : H t = some (.tup ρ.vs)) (hg : ρ.Good M) (k : ∀ H', Same H H' → Q (.bl true) H') : sp_is_row K vv H Q E := by
  subst ee
  exact ⟨t, ρ, M, rfl, ht, hg, k⟩
def sp_is_history (K : PySem.W.Frag) : Sp := fun vs H Q E => (∃ (a : Addr) (xs : List V) (rs : List RowD) (M : Int), vs = [.int M, .ref a] ∧ (2 ≤ M) ∧ (M ≤ 5) ∧ (Sq2 K H a xs) ∧ (All2 (RowAt H) xs rs) ∧ (GoodH M rs) ∧ ∀ H', Same H H' → Q (.bl true) H')
theorem r_is_history {K : PySem.W.Frag} {H : Hp} {Q : VK} {E : XK} {vv : List V} {a : Addr} {xs : List V} {rs : List RowD} {M : Int} (ee : vv = [.int M, .ref a]) (h2 : 2 ≤ M) (h5 : M ≤ 5) (ha : Sq2 K H a xs) (hx : All2 (RowAt H) xs rs) (hg : GoodH M rs) (k : ∀ H', Same H H' → Q (.bl true) H') : sp_is_history K vv H Q E := by
  subst ee
  exact ⟨a, xs, rs, M, rfl, h2, h5, ha, hx, hg, k⟩
def sp_check_history (K : PySem.W.Frag) : Sp := fun vs H Q E => (∃ (a : Addr) (xs : List V) (rs : List RowD) (M : Int), vs = [.int M, .ref a] ∧ (2 ≤ M) ∧ (M ≤ 5) ∧ (Sq2 K H a xs) ∧ (All2 (RowAt H) xs rs) ∧ (GoodH M rs) ∧ ∀ H', Same H H' → Q .non H')
theorem r_check_history {K : PySem.W.Frag} {H : Hp} {Q : VK} {E : XK} {vv : List V} {a : Addr} {xs : List V} {rs : List RowD} {M : Int} (ee : vv = [.int M, .ref a]) (h2 : 2 ≤ M) (h5 : M ≤ 5) (ha : Sq2 K H a xs) (hx : All2 (RowAt H) xs rs) (hg : GoodH M rs) (k : ∀ H', Same H H' → Q .non H') : sp_check_history K vv H Q E := by
  subst ee
  exact ⟨a, xs, rs, M, rfl, h2, h5, ha, hx, hg, k⟩
def sp_check_member (K : PySem.W.Frag) : Sp := fun vs H Q E => (∃ (n m : Int), vs = [.int n, .int m] ∧ (0 ≤ n) ∧ (n ≤ m - 1) ∧ Q .non H)
theorem r_check_member {K : PySem.W.Frag} {H : Hp} {Q : VK} {E : XK} {vv : List V} {n m : Int} (ee : vv = [.int n, .int m]) (h0 : 0 ≤ n) (h1 : n ≤ m - 1) (k : Q .non H) : sp_check_member K vv H Q E := by
  subst ee
  exact ⟨n, m, rfl, h0, h1, k⟩
def sp_are_changes (K : PySem.W.Frag) : Sp := fun vs H Q E => (∃ (a : Addr) (x : V) (c : Int × Int) (m : Int), vs = [.ref a, .int m, .int 0, .non] ∧ (H a = some (.lst [x])) ∧ (PairAt H x c) ∧ (0 ≤ c.1) ∧ (c.1 ≤ m - 1) ∧ (0 ≤ c.2) ∧ ∀ H', Same H H' → Q (.bl true) H')
theorem r_are_changes {K : PySem.W.Frag} {H : Hp} {Q : VK} {E : XK} {vv : List V} {a : Addr} {x : V} {c : Int × Int} {m : Int} (ee : vv = [.ref a, .int m, .int 0, .non]) (ha : H a = some (.lst [x])) (hx : PairAt H x c) (h0 : 0 ≤ c.1) (h1 : c.1 ≤ m - 1) (h2 : 0 ≤ c.2) (k : ∀ H', Same H H' → Q (.bl true) H') : sp_are_changes K vv H Q E := by
  subst ee
  exact ⟨a, x, c, m, rfl, ha, hx, h0, h1, h2, k⟩
def sp_Counts_init (K : PySem.W.Frag) (C : Addr) : Sp := fun vs H Q E => (∃ (p dx a : Addr) (xs : List V), vs = [.ref p, .ref a] ∧ (H p = some (.ins C dx [])) ∧ (H a = some (.lst xs)) ∧ (2 ≤ xs.length) ∧ (xs.length ≤ 5) ∧ (NN xs) ∧ ∀ (t : Addr) (H' : Hp), Fr1 p H H' → H' p = some (.ins C dx [("_numbers", .ref t)]) → H' t = some (.tup xs) → Q .non H')
theorem r_Counts_init {K : PySem.W.Frag} {C : Addr} {H : Hp} {Q : VK} {E : XK} {vv : List V} {p dx a : Addr} {xs : List V} (ee : vv = [.ref p, .ref a]) (hp : H p = some (.ins C dx [])) (ha : H a = some (.lst xs)) (hl : 2 ≤ xs.length) (hl2 : xs.length ≤ 5) (hn : NN xs) (k : ∀ (t : Addr) (H' : Hp), Fr1 p H H' → H' p = some (.ins C dx [("_numbers", .ref t)]) → H' t = some (.tup xs) → Q .non H') : sp_Counts_init K C vv H Q E := by
  subst ee
  exact ⟨p, dx, a, xs, rfl, hp, ha, hl, hl2, hn, k⟩
def sp_Counts_len (K : PySem.W.Frag) (C : Addr) : Sp := fun vs H Q E => (∃ (p dx t : Addr) (xs : List V), vs = [.ref p] ∧ (H p = some (.ins C dx [("_numbers", .ref t)])) ∧ (H t = some (.tup xs)) ∧ Q (.int (xs.length : Nat)) H)
theorem r_Counts_len {K : PySem.W.Frag} {C : Addr} {H : Hp} {Q : VK} {E : XK} {vv : List V} {p dx t : Addr} {xs : List V} (ee : vv = [.ref p]) (hp : H p = some (.ins C dx [("_numbers", .ref t)])) (ht : H t = some (.tup xs)) (k : Q (.int (xs.length : Nat)) H) : sp_Counts_len K C vv H Q E := by
  subst ee
  exact ⟨p, dx, t, xs, rfl, hp, ht, k⟩
def sp_Counts_told (K : PySem.W.Frag) (C : Addr) : Sp := fun vs H Q E => (∃ (p dx t : Addr), vs = [.ref p] ∧ (H p = some (.ins C dx [("_numbers", .ref t)])) ∧ Q (.ref t) H)
theorem r_Counts_told {K : PySem.W.Frag} {C : Addr} {H : Hp} {Q : VK} {E : XK} {vv : List V} {p dx t : Addr} (ee : vv = [.ref p]) (hp : H p = some (.ins C dx [("_numbers", .ref t)])) (k : Q (.ref t) H) : sp_Counts_told K C vv H Q E := by
  subst ee
  exact ⟨p, dx, t, rfl, hp, k⟩
def sp_Counts_of (K : PySem.W.Frag) (C : Addr) : Sp := fun vs H Q E => (∃ (p dx t : Addr) (ms : List Int) (j : Nat), vs = [.ref p, .int (j : Nat)] ∧ (H p = some (.ins C dx [("_numbers", .ref t)])) ∧ (H t = some (.tup (ms.map V.int))) ∧ (j < ms.length) ∧ Q (.int (ms.getD j 0)) H)
theorem r_Counts_of {K : PySem.W.Frag} {C : Addr} {H : Hp} {Q : VK} {E : XK} {vv : List V} {p dx t : Addr} {ms : List Int} {j : Nat} (ee : vv = [.ref p, .int (j : Nat)]) (hp : H p = some (.ins C dx [("_numbers", .ref t)])) (ht : H t = some (.tup (ms.map V.int))) (h1 : j < ms.length) (k : Q (.int (ms.getD j 0)) H) : sp_Counts_of K C vv H Q E := by
  subst ee
  exact ⟨p, dx, t, ms, j, rfl, hp, ht, h1, k⟩
def sp_Counts_covers (K : PySem.W.Frag) (C : Addr) : Sp := fun vs H Q E => (∃ (p dx t q dy u : Addr) (ms ns : List Int), vs = [.ref p, .ref q] ∧ (H p = some (.ins C dx [("_numbers", .ref t)])) ∧ (H t = some (.tup (ms.map V.int))) ∧ (H q = some (.ins C dy [("_numbers", .ref u)])) ∧ (H u = some (.tup (ns.map V.int))) ∧ (ns.length = ms.length) ∧ (ms.length ≤ 5) ∧ ∀ H', Same H H' → Q (.bl (coversB ms ns)) H')
theorem r_Counts_covers {K : PySem.W.Frag} {C : Addr} {H : Hp} {Q : VK} {E : XK} {vv : List V} {p dx t q dy u : Addr} {ms ns : List Int} (ee : vv = [.ref p, .ref q]) (hp : H p = some (.ins C dx [("_numbers", .ref t)])) (ht : H t = some (.tup (ms.map V.int))) (hq : H q = some (.ins C dy [("_numbers", .ref u)])) (hu : H u = some (.tup (ns.map V.int))) (hl : ns.length = ms.length) (hs : ms.length ≤ 5) (k : ∀ H', Same H H' → Q (.bl (coversB ms ns)) H') : sp_Counts_covers K C vv H Q E := by
  subst ee
  exact ⟨p, dx, t, q, dy, u, ms, ns, rfl, hp, ht, hq, hu, hl, hs, k⟩
def sp_Counts_raised (K : PySem.W.Frag) (C : Addr) : Sp := fun vs H Q E => (∃ (p dx t : Addr) (ms : List Int) (j : Nat), vs = [.ref p, .int (j : Nat), .int 1] ∧ (H p = some (.ins C dx [("_numbers", .ref t)])) ∧ (H t = some (.tup (ms.map V.int))) ∧ (j < ms.length) ∧ (2 ≤ ms.length) ∧ (ms.length ≤ 5) ∧ (∀ n ∈ ms, 0 ≤ n) ∧ ∀ (r dz v : Addr) (H' : Hp), Same H H' → H' r = some (.ins C dz [("_numbers", .ref v)]) → H' v = some (.tup ((ms.set j (ms.getD j 0 + 1)).map V.int)) → Q (.ref r) H')
theorem r_Counts_raised {K : PySem.W.Frag} {C : Addr} {H : Hp} {Q : VK} {E : XK} {vv : List V} {p dx t : Addr} {ms : List Int} {j : Nat} (ee : vv = [.ref p, .int (j : Nat), .int 1]) (hp : H p = some (.ins C dx [("_numbers", .ref t)])) (ht : H t = some (.tup (ms.map V.int))) (h1 : j < ms.length) (h2 : 2 ≤ ms.length) (h5 : ms.length ≤ 5) (hm : ∀ n ∈ ms, 0 ≤ n) (k : ∀ (r dz v : Addr) (H' : Hp), Same H H' → H' r = some (.ins C dz [("_numbers", .ref v)]) → H' v = some (.tup ((ms.set j (ms.getD j 0 + 1)).map V.int)) → Q (.ref r) H') : sp_Counts_raised K C vv H Q E := by
  subst ee
  exact ⟨p, dx, t, ms, j, rfl, hp, ht, h1, h2, h5, hm, k⟩
def sp_Counts_changes_from (K : PySem.W.Frag) (C : Addr) : Sp := fun vs H Q E => (∃ (p dx t q dy u : Addr) (ms ns : List Int), vs = [.ref p, .ref q] ∧ (H p = some (.ins C dx [("_numbers", .ref t)])) ∧ (H t = some (.tup (ms.map V.int))) ∧ (H q = some (.ins C dy [("_numbers", .ref u)])) ∧ (H u = some (.tup (ns.map V.int))) ∧ (ns.length = ms.length) ∧ (ms.length ≤ 5) ∧ ∀ (l : Addr) (xs : List V) (cs : List (Int × Int)) (H' : Hp), Same H H' → H l = none → H' l = some (.lst xs) → All2 (PairD l H') xs cs → xs.length ≤ 5 → Q (.ref l) H')
theorem r_Counts_changes_from {K : PySem.W.Frag} {C : Addr} {H : Hp} {Q : VK} {E : XK} {vv : List V} {p dx t q dy u : Addr} {ms ns : List Int} (ee : vv = [.ref p, .ref q]) (hp : H p = some (.ins C dx [("_numbers", .ref t)])) (ht : H t = some (.tup (ms.map V.int))) (hq : H q = some (.ins C dy [("_numbers", .ref u)])) (hu : H u = some (.tup (ns.map V.int))) (hl : ns.length = ms.length) (hs : ms.length ≤ 5) (k : ∀ (l : Addr) (xs : List V) (cs : List (Int × Int)) (H' : Hp), Same H H' → H l = none → H' l = some (.lst xs) → All2 (PairD l H') xs cs → xs.length ≤ 5 → Q (.ref l) H') : sp_Counts_changes_from K C vv H Q E := by
  subst ee
  exact ⟨p, dx, t, q, dy, u, ms, ns, rfl, hp, ht, hq, hu, hl, hs, k⟩
def sp_Counts_changed (K : PySem.W.Frag) (C : Addr) : Sp := fun vs H Q E => (∃ (p dx t a : Addr) (ms : List Int) (x : V) (j : Nat) (n : Int), vs = [.ref p, .ref a] ∧ (H p = some (.ins C dx [("_numbers", .ref t)])) ∧ (H t = some (.tup (ms.map V.int))) ∧ (H a = some (.lst [x])) ∧ (PairAt H x ((j : Nat), n)) ∧ (j < ms.length) ∧ (0 ≤ n) ∧ (2 ≤ ms.length) ∧ (ms.length ≤ 5) ∧ (∀ n ∈ ms, 0 ≤ n) ∧ ∀ (r dz v : Addr) (H' : Hp), Same H H' → H' r = some (.ins C dz [("_numbers", .ref v)]) → H' v = some (.tup ((ms.set j n).map V.int)) → Q (.ref r) H')
theorem r_Counts_changed {K : PySem.W.Frag} {C : Addr} {H : Hp} {Q : VK} {E : XK} {vv : List V} {p dx t a : Addr} {ms : List Int} {x : V} {j : Nat} {n : Int} (ee : vv = [.ref p, .ref a]) (hp : H p = some (.ins C dx [("_numbers", .ref t)])) (ht : H t = some (.tup (ms.map V.int))) (ha : H a = some (.lst [x])) (hs : PairAt H x ((j : Nat), n)) (h1 : j < ms.length) (hn : 0 ≤ n) (h2 : 2 ≤ ms.length) (h5 : ms.length ≤ 5) (hm : ∀ n ∈ ms, 0 ≤ n) (k : ∀ (r dz v : Addr) (H' : Hp), Same H H' → H' r = some (.ins C dz [("_numbers", .ref v)]) → H' v = some (.tup ((ms.set j n).map V.int)) → Q (.ref r) H') : sp_Counts_changed K C vv H Q E := by
  subst ee
  exact ⟨p, dx, t, a, ms, x, j, n, rfl, hp, ht, ha, hs, h1, hn, h2, h5, hm, k⟩
def sp_Counts_check_like (K : PySem.W.Frag) (C : Addr) : Sp := fun vs H Q E => (∃ (p dx t q dy u : Addr) (ms ns : List Int), vs = [.ref p, .ref q] ∧ (H p = some (.ins C dx [("_numbers", .ref t)])) ∧ (H t = some (.tup (ms.map V.int))) ∧ (H q = some (.ins C dy [("_numbers", .ref u)])) ∧ (H u = some (.tup (ns.map V.int))) ∧ (ns.length = ms.length) ∧ (ms.length ≤ 5) ∧ Q .non H)
theorem r_Counts_check_like {K : PySem.W.Frag} {C : Addr} {H : Hp} {Q : VK} {E : XK} {vv : List V} {p dx t q dy u : Addr} {ms ns : List Int} (ee : vv = [.ref p, .ref q]) (hp : H p = some (.ins C dx [("_numbers", .ref t)])) (ht : H t = some (.tup (ms.map V.int))) (hq : H q = some (.ins C dy [("_numbers", .ref u)])) (hu : H u = some (.tup (ns.map V.int))) (hl : ns.length = ms.length) (hs : ms.length ≤ 5) (k : Q .non H) : sp_Counts_check_like K C vv H Q E := by
  subst ee
  exact ⟨p, dx, t, q, dy, u, ms, ns, rfl, hp, ht, hq, hu, hl, hs, k⟩
def sp_check_number_and_word (K : PySem.W.Frag) : Sp := fun vs H Q E => (∃ (n : Int) (w : Str), vs = [.int n, .str w] ∧ (1 ≤ n) ∧ (n ≤ 30) ∧ (w.length ≤ 8) ∧ (textB w 97 122 8 = true) ∧ ∀ H', Same H H' → Q .non H')
theorem r_check_number_and_word {K : PySem.W.Frag} {H : Hp} {Q : VK} {E : XK} {vv : List V} {n : Int} {w : Str} (ee : vv = [.int n, .str w]) (h1 : 1 ≤ n) (h30 : n ≤ 30) (hw : w.length ≤ 8) (hx : textB w 97 122 8 = true) (k : ∀ H', Same H H' → Q .non H') : sp_check_number_and_word K vv H Q E := by
  subst ee
  exact ⟨n, w, rfl, h1, h30, hw, hx, k⟩
def sp_Letter_init (K : PySem.W.Frag) (CC CL : Addr) : Sp := fun vs H Q E => (∃ (M : Nat) (p dl c : Addr) (s : Nat) (n : Int) (w : Str) (G : List (Int × Int)), vs = [.ref p, .int (s : Nat), .int n, .str w, .ref c] ∧ (H p = some (.ins CL dl [])) ∧ (CtAt CC H c (vec M G)) ∧ (2 ≤ M) ∧ (M ≤ 5) ∧ (s < M) ∧ (1 ≤ n) ∧ (n ≤ 30) ∧ (w.length ≤ 8) ∧ (textB w 97 122 8 = true) ∧ (((cntM G ((s : Nat) : Int) : Nat) : Int) = n - 1) ∧ (G.length ≤ 30) ∧ ∀ H', Fr1 p H H' → H' p = some (.ins CL dl [("_sender", .int (s : Nat)), ("_number", .int n), ("_word", .str w), ("_causes", .ref c)]) → Q .non H')
theorem r_Letter_init {K : PySem.W.Frag} {CC CL : Addr} {H : Hp} {Q : VK} {E : XK} {vv : List V} {M : Nat} {p dl c : Addr} {s : Nat} {n : Int} {w : Str} {G : List (Int × Int)} (ee : vv = [.ref p, .int (s : Nat), .int n, .str w, .ref c]) (hp : H p = some (.ins CL dl [])) (hc : CtAt CC H c (vec M G)) (hM : 2 ≤ M) (hM5 : M ≤ 5) (hs : s < M) (h1 : 1 ≤ n) (h30 : n ≤ 30) (hw : w.length ≤ 8) (hx : textB w 97 122 8 = true) (hn : ((cntM G ((s : Nat) : Int) : Nat) : Int) = n - 1) (hb : G.length ≤ 30) (k : ∀ H', Fr1 p H H' → H' p = some (.ins CL dl [("_sender", .int (s : Nat)), ("_number", .int n), ("_word", .str w), ("_causes", .ref c)]) → Q .non H') : sp_Letter_init K CC CL vv H Q E := by
  subst ee
  exact ⟨M, p, dl, c, s, n, w, G, rfl, hp, hc, hM, hM5, hs, h1, h30, hw, hx, hn, hb, k⟩
def sp_Letter_sender (K : PySem.W.Frag) (CL : Addr) : Sp := fun vs H Q E => (∃ (p dl : Addr) (x y z u : V), vs = [.ref p] ∧ (H p = some (.ins CL dl [("_sender", x), ("_number", y), ("_word", z), ("_causes", u)])) ∧ Q x H)
theorem r_Letter_sender {K : PySem.W.Frag} {CL : Addr} {H : Hp} {Q : VK} {E : XK} {vv : List V} {p dl : Addr} {x y z u : V} (ee : vv = [.ref p]) (hp : H p = some (.ins CL dl [("_sender", x), ("_number", y), ("_word", z), ("_causes", u)])) (k : Q x H) : sp_Letter_sender K CL vv H Q E := by
  subst ee
  exact ⟨p, dl, x, y, z, u, rfl, hp, k⟩
def sp_Letter_number (K : PySem.W.Frag) (CL : Addr) : Sp := fun vs H Q E => (∃ (p dl : Addr) (x y z u : V), vs = [.ref p] ∧ (H p = some (.ins CL dl [("_sender", x), ("_number", y), ("_word", z), ("_causes", u)])) ∧ Q y H)
theorem r_Letter_number {K : PySem.W.Frag} {CL : Addr} {H : Hp} {Q : VK} {E : XK} {vv : List V} {p dl : Addr} {x y z u : V} (ee : vv = [.ref p]) (hp : H p = some (.ins CL dl [("_sender", x), ("_number", y), ("_word", z), ("_causes", u)])) (k : Q y H) : sp_Letter_number K CL vv H Q E := by
  subst ee
  exact ⟨p, dl, x, y, z, u, rfl, hp, k⟩
def sp_Letter_causes (K : PySem.W.Frag) (CL : Addr) : Sp := fun vs H Q E => (∃ (p dl : Addr) (x y z u : V), vs = [.ref p] ∧ (H p = some (.ins CL dl [("_sender", x), ("_number", y), ("_word", z), ("_causes", u)])) ∧ Q u H)
theorem r_Letter_causes {K : PySem.W.Frag} {CL : Addr} {H : Hp} {Q : VK} {E : XK} {vv : List V} {p dl : Addr} {x y z u : V} (ee : vv = [.ref p]) (hp : H p = some (.ins CL dl [("_sender", x), ("_number", y), ("_word", z), ("_causes", u)])) (k : Q u H) : sp_Letter_causes K CL vv H Q E := by
  subst ee
  exact ⟨p, dl, x, y, z, u, rfl, hp, k⟩
def sp_Letter_id_of (K : PySem.W.Frag) (CL : Addr) : Sp := fun vs H Q E => (∃ (p dl : Addr) (x y z u : V), vs = [.ref p] ∧ (H p = some (.ins CL dl [("_sender", x), ("_number", y), ("_word", z), ("_causes", u)])) ∧ ∀ t, H t = none → Q (.ref t) (upd H t (.tup [x, y])))
theorem r_Letter_id_of {K : PySem.W.Frag} {CL : Addr} {H : Hp} {Q : VK} {E : XK} {vv : List V} {p dl : Addr} {x y z u : V} (ee : vv = [.ref p]) (hp : H p = some (.ins CL dl [("_sender", x), ("_number", y), ("_word", z), ("_causes", u)])) (k : ∀ t, H t = none → Q (.ref t) (upd H t (.tup [x, y]))) : sp_Letter_id_of K CL vv H Q E := by
  subst ee
  exact ⟨p, dl, x, y, z, u, rfl, hp, k⟩
def sp_is_letter_ahead (K : PySem.W.Frag) (CC CL : Addr) : Sp := fun vs H Q E => (∃ (s m : Int), vs = [.non, .int s, .int 1, .int m] ∧ Q (.bl true) H) ∨
  (∃ (M : Nat) (a : Addr) (s n : Int) (G : List (Int × Int)), vs = [.ref a, .int s, .int n, .int (M : Nat)] ∧ (LetAt CC CL M H a (s, n - 1) G) ∧ (¬ n = 1) ∧ (M ≤ 5) ∧ ∀ H', Same H H' → Q (.bl true) H')
theorem r_is_letter_ahead_1 {K : PySem.W.Frag} {CC CL : Addr} {H : Hp} {Q : VK} {E : XK} {vv : List V} {s m : Int} (ee : vv = [.non, .int s, .int 1, .int m])  (k : Q (.bl true) H) : sp_is_letter_ahead K CC CL vv H Q E := by
  subst ee
  exact .inl ⟨s, m, rfl, k⟩
theorem r_is_letter_ahead_2 {K : PySem.W.Frag} {CC CL : Addr} {H : Hp} {Q : VK} {E : XK} {vv : List V} {M : Nat} {a : Addr} {s n : Int} {G : List (Int × Int)} (ee : vv = [.ref a, .int s, .int n, .int (M : Nat)]) (ha : LetAt CC CL M H a (s, n - 1) G) (hn : ¬ n = 1) (hM5 : M ≤ 5) (k : ∀ H', Same H H' → Q (.bl true) H') : sp_is_letter_ahead K CC CL vv H Q E := by
  subst ee
  exact .inr (⟨M, a, s, n, G, rfl, ha, hn, hM5, k⟩)
def sp_row_ahead (K : PySem.W.Frag) (CC CL : Addr) : Sp := fun vs H Q E => (∃ (M : Nat), vs = [.non, .int (M : Nat)] ∧ (2 ≤ M) ∧ (M ≤ 5) ∧ ∀ (c : Addr) (H' : Hp), Same H H' → CtAt CC H' c (vec M []) → Q (.ref c) H') ∨
  (∃ (M : Nat) (a : Addr) (kk : Int × Int) (G : List (Int × Int)) (m : Int), vs = [.ref a, .int m] ∧ (LetAt CC CL M H a kk G) ∧ ∀ (c : Addr), CtAt CC H c (vec M G) → Q (.ref c) H)
theorem r_row_ahead_1 {K : PySem.W.Frag} {CC CL : Addr} {H : Hp} {Q : VK} {E : XK} {vv : List V} {M : Nat} (ee : vv = [.non, .int (M : Nat)]) (hM : 2 ≤ M) (hM5 : M ≤ 5) (k : ∀ (c : Addr) (H' : Hp), Same H H' → CtAt CC H' c (vec M []) → Q (.ref c) H') : sp_row_ahead K CC CL vv H Q E := by
  subst ee
  exact .inl ⟨M, rfl, hM, hM5, k⟩
theorem r_row_ahead_2 {K : PySem.W.Frag} {CC CL : Addr} {H : Hp} {Q : VK} {E : XK} {vv : List V} {M : Nat} {a : Addr} {kk : Int × Int} {G : List (Int × Int)} {m : Int} (ee : vv = [.ref a, .int m]) (ha : LetAt CC CL M H a kk G) (k : ∀ (c : Addr), CtAt CC H c (vec M G) → Q (.ref c) H) : sp_row_ahead K CC CL vv H Q E := by
  subst ee
  exact .inr (⟨M, a, kk, G, m, rfl, ha, k⟩)
def sp_changes_of (K : PySem.W.Frag) (CC CL : Addr) : Sp := fun vs H Q E => (∃ (M : Nat) (p : Addr) (s : Int) (G : List (Int × Int)), vs = [.ref p, .non] ∧ (LetAt CC CL M H p (s, 1) G) ∧ (2 ≤ M) ∧ (M ≤ 5) ∧ ∀ (l : Addr) (xs : List V) (cs : List (Int × Int)) (H' : Hp), Same H H' → H l = none → H' l = some (.lst xs) → All2 (PairAt H') xs cs → xs.length ≤ 5 → Q (.ref l) H') ∨
  (∃ (M : Nat) (p a : Addr) (s n : Int) (G G' : List (Int × Int)), vs = [.ref p, .ref a] ∧ (LetAt CC CL M H p (s, n) G) ∧ (LetAt CC CL M H a (s, n - 1) G') ∧ (¬ n = 1) ∧ (2 ≤ M) ∧ (M ≤ 5) ∧ (coversB (vec M G) (vec M G') = true) ∧ ∀ (l : Addr) (xs : List V) (cs : List (Int × Int)) (H' : Hp), Same H H' → H l = none → H' l = some (.lst xs) → All2 (PairAt H') xs cs → xs.length ≤ 5 → Q (.ref l) H')
theorem r_changes_of_1 {K : PySem.W.Frag} {CC CL : Addr} {H : Hp} {Q : VK} {E : XK} {vv : List V} {M : Nat} {p : Addr} {s : Int} {G : List (Int × Int)} (ee : vv = [.ref p, .non]) (hp : LetAt CC CL M H p (s, 1) G) (hM : 2 ≤ M) (hM5 : M ≤ 5) (k : ∀ (l : Addr) (xs : List V) (cs : List (Int × Int)) (H' : Hp), Same H H' → H l = none → H' l = some (.lst xs) → All2 (PairAt H') xs cs → xs.length ≤ 5 → Q (.ref l) H') : sp_changes_of K CC CL vv H Q E := by
  subst ee
  exact .inl ⟨M, p, s, G, rfl, hp, hM, hM5, k⟩
theorem r_changes_of_2 {K : PySem.W.Frag} {CC CL : Addr} {H : Hp} {Q : VK} {E : XK} {vv : List V} {M : Nat} {p a : Addr} {s n : Int} {G G' : List (Int × Int)} (ee : vv = [.ref p, .ref a]) (hp : LetAt CC CL M H p (s, n) G) (ha : LetAt CC CL M H a (s, n - 1) G') (hn : ¬ n = 1) (hM : 2 ≤ M) (hM5 : M ≤ 5) (hv : coversB (vec M G) (vec M G') = true) (k : ∀ (l : Addr) (xs : List V) (cs : List (Int × Int)) (H' : Hp), Same H H' → H l = none → H' l = some (.lst xs) → All2 (PairAt H') xs cs → xs.length ≤ 5 → Q (.ref l) H') : sp_changes_of K CC CL vv H Q E := by
  subst ee
  exact .inr (⟨M, p, a, s, n, G, G', rfl, hp, ha, hn, hM, hM5, hv, k⟩)
def sp_ids_beyond (K : PySem.W.Frag) (CC : Addr) : Sp := fun vs H Q E => (∃ (M : Nat) (c d : Addr) (A B : List (Int × Int)), vs = [.ref c, .ref d] ∧ (CtAt CC H c (vec M A)) ∧ (CtAt CC H d (vec M B)) ∧ (2 ≤ M) ∧ (M ≤ 5) ∧ (A.length ≤ 30) ∧ (B.length ≤ 30) ∧ ∀ (l : Addr) (xs : List V) (H' : Hp), Same H H' → H' l = some (.lst xs) → All2 (PairAt H') xs (beyond M A B) → Q (.ref l) H')
theorem r_ids_beyond {K : PySem.W.Frag} {CC : Addr} {H : Hp} {Q : VK} {E : XK} {vv : List V} {M : Nat} {c d : Addr} {A B : List (Int × Int)} (ee : vv = [.ref c, .ref d]) (hc : CtAt CC H c (vec M A)) (hd : CtAt CC H d (vec M B)) (hM : 2 ≤ M) (hM5 : M ≤ 5) (hA : A.length ≤ 30) (hB : B.length ≤ 30) (k : ∀ (l : Addr) (xs : List V) (H' : Hp), Same H H' → H' l = some (.lst xs) → All2 (PairAt H') xs (beyond M A B) → Q (.ref l) H') : sp_ids_beyond K CC vv H Q E := by
  subst ee
  exact ⟨M, c, d, A, B, rfl, hc, hd, hM, hM5, hA, hB, k⟩
def sp_Book_init (K : PySem.W.Frag) (CC CL CB : Addr) : Sp := fun vs H Q E => (∃ (M : Nat) (p db : Addr), vs = [.ref p, .int (M : Nat)] ∧ (H p = some (.ins CB db [])) ∧ (2 ≤ M) ∧ (M ≤ 5) ∧ ∀ (β : Bk) (H' : Hp), Fr1 p H H' → BkAt CC CL CB M H' p β [] [] → H β.d = none → H β.w = none → (∀ x ∈ β.wl, H x = none) → Q .non H')
theorem r_Book_init {K : PySem.W.Frag} {CC CL CB : Addr} {H : Hp} {Q : VK} {E : XK} {vv : List V} {M : Nat} {p db : Addr} (ee : vv = [.ref p, .int (M : Nat)]) (hp : H p = some (.ins CB db [])) (hM : 2 ≤ M) (hM5 : M ≤ 5) (k : ∀ (β : Bk) (H' : Hp), Fr1 p H H' → BkAt CC CL CB M H' p β [] [] → H β.d = none → H β.w = none → (∀ x ∈ β.wl, H x = none) → Q .non H') : sp_Book_init K CC CL CB vv H Q E := by
  subst ee
  exact ⟨M, p, db, rfl, hp, hM, hM5, k⟩
def sp_Book_len (K : PySem.W.Frag) (CB : Addr) : Sp := fun vs H Q E => (∃ (p db d : Addr) (x z u : V) (kvs : List (List Key × V)), vs = [.ref p] ∧ (H p = some (.ins CB db [("_members", x), ("_letters", .ref d), ("_counts", z), ("_waits", u)])) ∧ (H d = some (.dT kvs)) ∧ Q (.int (kvs.length : Nat)) H)
theorem r_Book_len {K : PySem.W.Frag} {CB : Addr} {H : Hp} {Q : VK} {E : XK} {vv : List V} {p db d : Addr} {x z u : V} {kvs : List (List Key × V)} (ee : vv = [.ref p]) (hp : H p = some (.ins CB db [("_members", x), ("_letters", .ref d), ("_counts", z), ("_waits", u)])) (hd : H d = some (.dT kvs)) (k : Q (.int (kvs.length : Nat)) H) : sp_Book_len K CB vv H Q E := by
  subst ee
  exact ⟨p, db, d, x, z, u, kvs, rfl, hp, hd, k⟩
def sp_Book_counts (K : PySem.W.Frag) (CB : Addr) : Sp := fun vs H Q E => (∃ (p db : Addr) (x y z u : V), vs = [.ref p] ∧ (H p = some (.ins CB db [("_members", x), ("_letters", y), ("_counts", z), ("_waits", u)])) ∧ Q z H)
theorem r_Book_counts {K : PySem.W.Frag} {CB : Addr} {H : Hp} {Q : VK} {E : XK} {vv : List V} {p db : Addr} {x y z u : V} (ee : vv = [.ref p]) (hp : H p = some (.ins CB db [("_members", x), ("_letters", y), ("_counts", z), ("_waits", u)])) (k : Q z H) : sp_Book_counts K CB vv H Q E := by
  subst ee
  exact ⟨p, db, x, y, z, u, rfl, hp, k⟩
def sp_Book_letter (K : PySem.W.Frag) (CC CL CB : Addr) : Sp := fun vs H Q E => (∃ (M : Nat) (p t : Addr) (β : Bk) (ks : List (Int × Int)) (cg : List (List (Int × Int))) (c : Int × Int), vs = [.ref p, .ref t] ∧ (BkAt CC CL CB M H p β ks cg) ∧ (H t = some (.tup [.int c.1, .int c.2])) ∧ (c ∈ ks) ∧ (Closed (M : Nat) ks) ∧ ∀ a, LetAt CC CL M H a c (causesOf ks cg c) → Q (.ref a) H)
theorem r_Book_letter {K : PySem.W.Frag} {CC CL CB : Addr} {H : Hp} {Q : VK} {E : XK} {vv : List V} {M : Nat} {p t : Addr} {β : Bk} {ks : List (Int × Int)} {cg : List (List (Int × Int))} {c : Int × Int} (ee : vv = [.ref p, .ref t]) (hb : BkAt CC CL CB M H p β ks cg) (ht : H t = some (.tup [.int c.1, .int c.2])) (hc : c ∈ ks) (hk : Closed (M : Nat) ks) (k : ∀ a, LetAt CC CL M H a c (causesOf ks cg c) → Q (.ref a) H) : sp_Book_letter K CC CL CB vv H Q E := by
  subst ee
  exact ⟨M, p, t, β, ks, cg, c, rfl, hb, ht, hc, hk, k⟩
def sp_Book_ahead (K : PySem.W.Frag) (CC CL CB : Addr) : Sp := fun vs H Q E => (∃ (M : Nat) (p t : Addr) (β : Bk) (ks : List (Int × Int)) (cg : List (List (Int × Int))) (c : Int × Int), vs = [.ref p, .ref t] ∧ (BkAt CC CL CB M H p β ks cg) ∧ (H t = some (.tup [.int c.1, .int c.2])) ∧ (c ∈ ks) ∧ (Closed (M : Nat) ks) ∧ (2 ≤ M) ∧ (M ≤ 5) ∧ ((causesOf ks cg c).length ≤ 30) ∧ ∀ (l : Addr) (xs : List V) (H' : Hp), Same H H' → H' l = some (.lst xs) → All2 (PairAt H') xs (beyond M [] (causesOf ks cg c)) → Q (.ref l) H')
theorem r_Book_ahead {K : PySem.W.Frag} {CC CL CB : Addr} {H : Hp} {Q : VK} {E : XK} {vv : List V} {M : Nat} {p t : Addr} {β : Bk} {ks : List (Int × Int)} {cg : List (List (Int × Int))} {c : Int × Int} (ee : vv = [.ref p, .ref t]) (hb : BkAt CC CL CB M H p β ks cg) (ht : H t = some (.tup [.int c.1, .int c.2])) (hc : c ∈ ks) (hk : Closed (M : Nat) ks) (hM : 2 ≤ M) (hM5 : M ≤ 5) (hl : (causesOf ks cg c).length ≤ 30) (k : ∀ (l : Addr) (xs : List V) (H' : Hp), Same H H' → H' l = some (.lst xs) → All2 (PairAt H') xs (beyond M [] (causesOf ks cg c)) → Q (.ref l) H') : sp_Book_ahead K CC CL CB vv H Q E := by
  subst ee
  exact ⟨M, p, t, β, ks, cg, c, rfl, hb, ht, hc, hk, hM, hM5, hl, k⟩
def sp_Book_check_new (K : PySem.W.Frag) (CC CL CB : Addr) : Sp := fun vs H Q E => (∃ (M : Nat) (p a : Addr) (β : Bk) (ks : List (Int × Int)) (cg : List (List (Int × Int))) (c : Int × Int) (G : List (Int × Int)), vs = [.ref p, .ref a] ∧ (BkAt CC CL CB M H p β ks cg) ∧ (LetAt CC CL M H a c G) ∧ (c ∉ ks) ∧ (M ≤ 5) ∧ ∀ H', Same H H' → Q .non H')
theorem r_Book_check_new {K : PySem.W.Frag} {CC CL CB : Addr} {H : Hp} {Q : VK} {E : XK} {vv : List V} {M : Nat} {p a : Addr} {β : Bk} {ks : List (Int × Int)} {cg : List (List (Int × Int))} {c : Int × Int} {G : List (Int × Int)} (ee : vv = [.ref p, .ref a]) (hb : BkAt CC CL CB M H p β ks cg) (ha : LetAt CC CL M H a c G) (hc : c ∉ ks) (hM5 : M ≤ 5) (k : ∀ H', Same H H' → Q .non H') : sp_Book_check_new K CC CL CB vv H Q E := by
  subst ee
  exact ⟨M, p, a, β, ks, cg, c, G, rfl, hb, ha, hc, hM5, k⟩
def sp_Book_covers_its_causes (K : PySem.W.Frag) (CC CL CB : Addr) : Sp := fun vs H Q E => (∃ (M : Nat) (p r : Addr) (β : Bk) (ks : List (Int × Int)) (cg : List (List (Int × Int))) (G : List (Int × Int)), vs = [.ref p, .ref r] ∧ (BkAt CC CL CB M H p β ks cg) ∧ (CtAt CC H r (vec M G)) ∧ (M ≤ 5) ∧ (Closed (M : Nat) G) ∧ (∀ e ∈ G, e ∈ ks) ∧ (∀ e ∈ ks, Closed (M : Nat) (causesOf ks cg e)) ∧ (∀ e ∈ G, ∀ f ∈ causesOf ks cg e, f ∈ G) ∧ ∀ H', Same H H' → Q (.bl true) H')
theorem r_Book_covers_its_causes {K : PySem.W.Frag} {CC CL CB : Addr} {H : Hp} {Q : VK} {E : XK} {vv : List V} {M : Nat} {p r : Addr} {β : Bk} {ks : List (Int × Int)} {cg : List (List (Int × Int))} {G : List (Int × Int)} (ee : vv = [.ref p, .ref r]) (hb : BkAt CC CL CB M H p β ks cg) (hr2 : CtAt CC H r (vec M G)) (hM5 : M ≤ 5) (hG : Closed (M : Nat) G) (hGk : ∀ e ∈ G, e ∈ ks) (hcc : ∀ e ∈ ks, Closed (M : Nat) (causesOf ks cg e)) (hsub : ∀ e ∈ G, ∀ f ∈ causesOf ks cg e, f ∈ G) (k : ∀ H', Same H H' → Q (.bl true) H') : sp_Book_covers_its_causes K CC CL CB vv H Q E := by
  subst ee
  exact ⟨M, p, r, β, ks, cg, G, rfl, hb, hr2, hM5, hG, hGk, hcc, hsub, k⟩
def sp_Book_keep (K : PySem.W.Frag) (CC CL CB : Addr) : Sp := fun vs H Q E => (∃ (M : Nat) (p a : Addr) (β : Bk) (ks : List (Int × Int)) (cg : List (List (Int × Int))) (s : Nat) (G : List (Int × Int)), vs = [.ref p, .ref a] ∧ (BkAt CC CL CB M H p β ks cg) ∧ (LetAt CC CL M H a (((s : Nat) : Int), 1 + ((cntM ks ((s : Nat) : Int) : Nat) : Int)) G) ∧ (2 ≤ M) ∧ (M ≤ 5) ∧ (s < M) ∧ (Closed (M : Nat) ks) ∧ (ks.length < 30) ∧ (Closed (M : Nat) G) ∧ (∀ e ∈ G, e ∈ ks) ∧ (∀ e ∈ ks, Closed (M : Nat) (causesOf ks cg e)) ∧ (∀ e ∈ G, ∀ f ∈ causesOf ks cg e, f ∈ G) ∧ (cntM G ((s : Nat) : Int) = cntM ks ((s : Nat) : Int)) ∧ ∀ (β' : Bk) (H' : Hp), (∀ b o, b ≠ p → b ≠ β.d → b ∉ β.wl → H b = some o → H' b = some o) → BkAt CC CL CB M H' p β' (ks ++ [(((s : Nat) : Int), 1 + ((cntM ks ((s : Nat) : Int) : Nat) : Int))]) (cg ++ [G]) → β'.d = β.d → β'.w = β.w → β'.wl = β.wl → Q .non H')
theorem r_Book_keep {K : PySem.W.Frag} {CC CL CB : Addr} {H : Hp} {Q : VK} {E : XK} {vv : List V} {M : Nat} {p a : Addr} {β : Bk} {ks : List (Int × Int)} {cg : List (List (Int × Int))} {s : Nat} {G : List (Int × Int)} (ee : vv = [.ref p, .ref a]) (hb : BkAt CC CL CB M H p β ks cg) (ha : LetAt CC CL M H a (((s : Nat) : Int), 1 + ((cntM ks ((s : Nat) : Int) : Nat) : Int)) G) (hM : 2 ≤ M) (hM5 : M ≤ 5) (hs : s < M) (hk : Closed (M : Nat) ks) (hl : ks.length < 30) (hG : Closed (M : Nat) G) (hGk : ∀ e ∈ G, e ∈ ks) (hcc : ∀ e ∈ ks, Closed (M : Nat) (causesOf ks cg e)) (hsub : ∀ e ∈ G, ∀ f ∈ causesOf ks cg e, f ∈ G) (hgs : cntM G ((s : Nat) : Int) = cntM ks ((s : Nat) : Int)) (k : ∀ (β' : Bk) (H' : Hp), (∀ b o, b ≠ p → b ≠ β.d → b ∉ β.wl → H b = some o → H' b = some o) → BkAt CC CL CB M H' p β' (ks ++ [(((s : Nat) : Int), 1 + ((cntM ks ((s : Nat) : Int) : Nat) : Int))]) (cg ++ [G]) → β'.d = β.d → β'.w = β.w → β'.wl = β.wl → Q .non H') : sp_Book_keep K CC CL CB vv H Q E := by
  subst ee
  exact ⟨M, p, a, β, ks, cg, s, G, rfl, hb, ha, hM, hM5, hs, hk, hl, hG, hGk, hcc, hsub, hgs, k⟩
def sp_is_told_otherwise (K : PySem.W.Frag) : Sp := fun vs H Q E => (∃ (a t : Addr) (xs : List V) (cs : List (Int × Int)) (p : Nat) (c : Int × Int), vs = [.ref a, .int (p : Nat), .ref t] ∧ (H a = some (.lst xs)) ∧ (All2 (PairAt H) xs cs) ∧ (H t = some (.tup [.int c.1, .int c.2])) ∧ (1 ≤ p) ∧ (xs.length ≤ 100) ∧ ∀ H', Same H H' → Q (.bl (toldOther cs p c)) H')
theorem r_is_told_otherwise {K : PySem.W.Frag} {H : Hp} {Q : VK} {E : XK} {vv : List V} {a t : Addr} {xs : List V} {cs : List (Int × Int)} {p : Nat} {c : Int × Int} (ee : vv = [.ref a, .int (p : Nat), .ref t]) (ha : H a = some (.lst xs)) (hx : All2 (PairAt H) xs cs) (ht : H t = some (.tup [.int c.1, .int c.2])) (hp : 1 ≤ p) (hl : xs.length ≤ 100) (k : ∀ H', Same H H' → Q (.bl (toldOther cs p c)) H') : sp_is_told_otherwise K vv H Q E := by
  subst ee
  exact ⟨a, t, xs, cs, p, c, rfl, ha, hx, ht, hp, hl, k⟩
def sp_Course_init (K : PySem.W.Frag) (CC CL CB CR : Addr) : Sp := fun vs H Q E => (∃ (M : Nat) (p dc : Addr), vs = [.ref p, .int (M : Nat)] ∧ (H p = some (.ins CR dc [])) ∧ (2 ≤ M) ∧ (M ≤ 5) ∧ ∀ (γ : Cs) (H' : Hp), Fr1 p H H' → CsAt CC CL CB CR M H' p γ (HS.zero (M : Nat)) → (∀ x ∈ γ.mut, H x = none) → Q .non H')
theorem r_Course_init {K : PySem.W.Frag} {CC CL CB CR : Addr} {H : Hp} {Q : VK} {E : XK} {vv : List V} {M : Nat} {p dc : Addr} (ee : vv = [.ref p, .int (M : Nat)]) (hp : H p = some (.ins CR dc [])) (hM : 2 ≤ M) (hM5 : M ≤ 5) (k : ∀ (γ : Cs) (H' : Hp), Fr1 p H H' → CsAt CC CL CB CR M H' p γ (HS.zero (M : Nat)) → (∀ x ∈ γ.mut, H x = none) → Q .non H') : sp_Course_init K CC CL CB CR vv H Q E := by
  subst ee
  exact ⟨M, p, dc, rfl, hp, hM, hM5, k⟩
def sp_Course_deliver (K : PySem.W.Frag) (CC CL CB CR : Addr) : Sp := fun vs H Q E => (∃ (M : Nat) (p t : Addr) (γ : Cs) (S : HS) (m s : Nat) (n : Int), vs = [.ref p, .int (m : Nat), .ref t] ∧ (CsAt CC CL CB CR M H p γ S) ∧ (H t = some (.tup [.int (s : Nat), .int n])) ∧ (2 ≤ M) ∧ (M ≤ 5) ∧ (m < M) ∧ (s < M) ∧ ((S.gotOf (m : Nat)).length ≤ 30) ∧ ∀ (γ' : Cs) (H' : Hp), (∀ b o, b ∉ γ.mut → H b = some o → H' b = some o) → CsAt CC CL CB CR M H' p γ' { S with got := S.got.set m (S.gotOf (m : Nat) ++ [(((s : Nat) : Int), n)]) } → γ'.mut = γ.mut → Q .non H')
theorem r_Course_deliver {K : PySem.W.Frag} {CC CL CB CR : Addr} {H : Hp} {Q : VK} {E : XK} {vv : List V} {M : Nat} {p t : Addr} {γ : Cs} {S : HS} {m s : Nat} {n : Int} (ee : vv = [.ref p, .int (m : Nat), .ref t]) (hc : CsAt CC CL CB CR M H p γ S) (ht : H t = some (.tup [.int (s : Nat), .int n])) (hM : 2 ≤ M) (hM5 : M ≤ 5) (hm : m < M) (hs : s < M) (hl : (S.gotOf (m : Nat)).length ≤ 30) (k : ∀ (γ' : Cs) (H' : Hp), (∀ b o, b ∉ γ.mut → H b = some o → H' b = some o) → CsAt CC CL CB CR M H' p γ' { S with got := S.got.set m (S.gotOf (m : Nat) ++ [(((s : Nat) : Int), n)]) } → γ'.mut = γ.mut → Q .non H') : sp_Course_deliver K CC CL CB CR vv H Q E := by
  subst ee
  exact ⟨M, p, t, γ, S, m, s, n, rfl, hc, ht, hM, hM5, hm, hs, hl, k⟩
def sp_Course_send (K : PySem.W.Frag) (CC CL CB CR : Addr) : Sp := fun vs H Q E => (∃ (M : Nat) (p : Addr) (γ : Cs) (S : HS) (m : Nat) (w : Str), vs = [.ref p, .int (m : Nat), .str w] ∧ (CsAt CC CL CB CR M H p γ S) ∧ (WF (M : Nat) S) ∧ (2 ≤ M) ∧ (M ≤ 5) ∧ (m < M) ∧ (S.ks.length < 30) ∧ (w.length ≤ 8) ∧ (textB w 97 122 8 = true) ∧ ∀ (t : Addr) (γ' : Cs) (H' : Hp), (∀ b o, b ∉ γ.mut → H b = some o → H' b = some o) → H' t = some (.tup [.int (m : Nat), .int (S.next (m : Nat)).2]) → CsAt CC CL CB CR M H' p γ' { S with ks := S.ks ++ [S.next (m : Nat)], cg := S.cg ++ [S.gotOf (m : Nat)] } → γ'.mut = γ.mut → Q (.ref t) H')
theorem r_Course_send {K : PySem.W.Frag} {CC CL CB CR : Addr} {H : Hp} {Q : VK} {E : XK} {vv : List V} {M : Nat} {p : Addr} {γ : Cs} {S : HS} {m : Nat} {w : Str} (ee : vv = [.ref p, .int (m : Nat), .str w]) (hc : CsAt CC CL CB CR M H p γ S) (hw : WF (M : Nat) S) (hM : 2 ≤ M) (hM5 : M ≤ 5) (hm : m < M) (hk : S.ks.length < 30) (hwl : w.length ≤ 8) (hwx : textB w 97 122 8 = true) (k : ∀ (t : Addr) (γ' : Cs) (H' : Hp), (∀ b o, b ∉ γ.mut → H b = some o → H' b = some o) → H' t = some (.tup [.int (m : Nat), .int (S.next (m : Nat)).2]) → CsAt CC CL CB CR M H' p γ' { S with ks := S.ks ++ [S.next (m : Nat)], cg := S.cg ++ [S.gotOf (m : Nat)] } → γ'.mut = γ.mut → Q (.ref t) H') : sp_Course_send K CC CL CB CR vv H Q E := by
  subst ee
  exact ⟨M, p, γ, S, m, w, rfl, hc, hw, hM, hM5, hm, hk, hwl, hwx, k⟩
def sp_Course_happen (K : PySem.W.Frag) (CC CL CB CR : Addr) : Sp := fun vs H Q E => (∃ (M : Nat) (p t : Addr) (γ : Cs) (S : HS) (ρ : RowD), vs = [.ref p, .ref t] ∧ (CsAt CC CL CB CR M H p γ S) ∧ (WF (M : Nat) S) ∧ (H t = some (.tup ρ.vs)) ∧ (ρ.Good (M : Nat)) ∧ (2 ≤ M) ∧ (M ≤ 5) ∧ (ρ.isSent = true → S.ks.length < 30) ∧ (S.why ρ = none) ∧ (S.ks.length ≤ 30) ∧ ∀ (γ' : Cs) (H' : Hp), (∀ b o, b ∉ γ.mut → H b = some o → H' b = some o) → CsAt CC CL CB CR M H' p γ' (S.go ρ) → γ'.mut = γ.mut → Q .non H')
theorem r_Course_happen {K : PySem.W.Frag} {CC CL CB CR : Addr} {H : Hp} {Q : VK} {E : XK} {vv : List V} {M : Nat} {p t : Addr} {γ : Cs} {S : HS} {ρ : RowD} (ee : vv = [.ref p, .ref t]) (hc : CsAt CC CL CB CR M H p γ S) (hw : WF (M : Nat) S) (ht : H t = some (.tup ρ.vs)) (hg : ρ.Good (M : Nat)) (hM : 2 ≤ M) (hM5 : M ≤ 5) (hk : ρ.isSent = true → S.ks.length < 30) (hy : S.why ρ = none) (hk30 : S.ks.length ≤ 30) (k : ∀ (γ' : Cs) (H' : Hp), (∀ b o, b ∉ γ.mut → H b = some o → H' b = some o) → CsAt CC CL CB CR M H' p γ' (S.go ρ) → γ'.mut = γ.mut → Q .non H') : sp_Course_happen K CC CL CB CR vv H Q E := by
  subst ee
  exact ⟨M, p, t, γ, S, ρ, rfl, hc, hw, ht, hg, hM, hM5, hk, hy, hk30, k⟩
def sp_Course_why_not_got (K : PySem.W.Frag) (CC CL CB CR : Addr) : Sp := fun vs H Q E => (∃ (M : Nat) (p t : Addr) (γ : Cs) (S : HS) (m s : Nat) (n : Int), vs = [.ref p, .int (m : Nat), .ref t] ∧ (CsAt CC CL CB CR M H p γ S) ∧ (WF (M : Nat) S) ∧ (H t = some (.tup [.int (s : Nat), .int n])) ∧ (1 ≤ n) ∧ (2 ≤ M) ∧ (M ≤ 5) ∧ (m < M) ∧ (s < M) ∧ ∀ H', Same H H' → Q (optS (S.why (.got (m : Nat) (s : Nat) n))) H')
theorem r_Course_why_not_got {K : PySem.W.Frag} {CC CL CB CR : Addr} {H : Hp} {Q : VK} {E : XK} {vv : List V} {M : Nat} {p t : Addr} {γ : Cs} {S : HS} {m s : Nat} {n : Int} (ee : vv = [.ref p, .int (m : Nat), .ref t]) (hc : CsAt CC CL CB CR M H p γ S) (hw : WF (M : Nat) S) (ht : H t = some (.tup [.int (s : Nat), .int n])) (hn : 1 ≤ n) (hM : 2 ≤ M) (hM5 : M ≤ 5) (hm : m < M) (hs : s < M) (k : ∀ H', Same H H' → Q (optS (S.why (.got (m : Nat) (s : Nat) n))) H') : sp_Course_why_not_got K CC CL CB CR vv H Q E := by
  subst ee
  exact ⟨M, p, t, γ, S, m, s, n, rfl, hc, hw, ht, hn, hM, hM5, hm, hs, k⟩
def sp_Course_why_not_told (K : PySem.W.Frag) (CC CL CB CR : Addr) : Sp := fun vs H Q E => (∃ (M : Nat) (p t : Addr) (γ : Cs) (S : HS) (m s : Nat) (pl n : Int), vs = [.ref p, .int (m : Nat), .int pl, .ref t] ∧ (CsAt CC CL CB CR M H p γ S) ∧ (WF (M : Nat) S) ∧ (H t = some (.tup [.int (s : Nat), .int n])) ∧ (1 ≤ n) ∧ (1 ≤ pl) ∧ (2 ≤ M) ∧ (M ≤ 5) ∧ (m < M) ∧ (s < M) ∧ (S.ks.length ≤ 30) ∧ ∀ H', Same H H' → Q (optS (S.why (.told (m : Nat) pl (s : Nat) n))) H')
theorem r_Course_why_not_told {K : PySem.W.Frag} {CC CL CB CR : Addr} {H : Hp} {Q : VK} {E : XK} {vv : List V} {M : Nat} {p t : Addr} {γ : Cs} {S : HS} {m s : Nat} {pl n : Int} (ee : vv = [.ref p, .int (m : Nat), .int pl, .ref t]) (hc : CsAt CC CL CB CR M H p γ S) (hw : WF (M : Nat) S) (ht : H t = some (.tup [.int (s : Nat), .int n])) (hn : 1 ≤ n) (hp : 1 ≤ pl) (hM : 2 ≤ M) (hM5 : M ≤ 5) (hm : m < M) (hs : s < M) (hk : S.ks.length ≤ 30) (k : ∀ H', Same H H' → Q (optS (S.why (.told (m : Nat) pl (s : Nat) n))) H') : sp_Course_why_not_told K CC CL CB CR vv H Q E := by
  subst ee
  exact ⟨M, p, t, γ, S, m, s, pl, n, rfl, hc, hw, ht, hn, hp, hM, hM5, hm, hs, hk, k⟩
def sp_Course_why_not (K : PySem.W.Frag) (CC CL CB CR : Addr) : Sp := fun vs H Q E => (∃ (M : Nat) (p t : Addr) (γ : Cs) (S : HS) (ρ : RowD), vs = [.ref p, .ref t] ∧ (CsAt CC CL CB CR M H p γ S) ∧ (WF (M : Nat) S) ∧ (H t = some (.tup ρ.vs)) ∧ (ρ.Good (M : Nat)) ∧ (2 ≤ M) ∧ (M ≤ 5) ∧ (S.ks.length ≤ 30) ∧ ∀ H', Same H H' → Q (optS (S.why ρ)) H')
theorem r_Course_why_not {K : PySem.W.Frag} {CC CL CB CR : Addr} {H : Hp} {Q : VK} {E : XK} {vv : List V} {M : Nat} {p t : Addr} {γ : Cs} {S : HS} {ρ : RowD} (ee : vv = [.ref p, .ref t]) (hc : CsAt CC CL CB CR M H p γ S) (hw : WF (M : Nat) S) (ht : H t = some (.tup ρ.vs)) (hg : ρ.Good (M : Nat)) (hM : 2 ≤ M) (hM5 : M ≤ 5) (hk : S.ks.length ≤ 30) (k : ∀ H', Same H H' → Q (optS (S.why ρ)) H') : sp_Course_why_not K CC CL CB CR vv H Q E := by
  subst ee
  exact ⟨M, p, t, γ, S, ρ, rfl, hc, hw, ht, hg, hM, hM5, hk, k⟩
def sp_Course_follow (K : PySem.W.Frag) (CC CL CB CR : Addr) : Sp := fun vs H Q E => (∃ (M : Nat) (p a : Addr) (γ : Cs) (S : HS) (xs : List V) (rs : List RowD), vs = [.ref p, .ref a] ∧ (CsAt CC CL CB CR M H p γ S) ∧ (WF (M : Nat) S) ∧ (Sq2 K H a xs) ∧ (All2 (RowAt H) xs rs) ∧ (∀ ρ ∈ rs, ρ.Good (M : Nat)) ∧ (2 ≤ M) ∧ (M ≤ 5) ∧ (S.ks.length + nSent rs ≤ 30) ∧ (rs.length ≤ 400) ∧ (a ∉ γ.mut) ∧ ∀ (v : V) (H' : Hp), (∀ b o, b ∉ γ.mut → H b = some o → H' b = some o) → DueAt H' v (walkH S rs 0) → (walkH S rs 0 = none → ∃ γ', CsAt CC CL CB CR M H' p γ' (S.run rs) ∧ γ'.mut = γ.mut) → Q v H')
theorem r_Course_follow {K : PySem.W.Frag} {CC CL CB CR : Addr} {H : Hp} {Q : VK} {E : XK} {vv : List V} {M : Nat} {p a : Addr} {γ : Cs} {S : HS} {xs : List V} {rs : List RowD} (ee : vv = [.ref p, .ref a]) (hc : CsAt CC CL CB CR M H p γ S) (hw : WF (M : Nat) S) (ha : Sq2 K H a xs) (hx : All2 (RowAt H) xs rs) (hg : ∀ ρ ∈ rs, ρ.Good (M : Nat)) (hM : 2 ≤ M) (hM5 : M ≤ 5) (hs : S.ks.length + nSent rs ≤ 30) (hl : rs.length ≤ 400) (na : a ∉ γ.mut) (k : ∀ (v : V) (H' : Hp), (∀ b o, b ∉ γ.mut → H b = some o → H' b = some o) → DueAt H' v (walkH S rs 0) → (walkH S rs 0 = none → ∃ γ', CsAt CC CL CB CR M H' p γ' (S.run rs) ∧ γ'.mut = γ.mut) → Q v H') : sp_Course_follow K CC CL CB CR vv H Q E := by
  subst ee
  exact ⟨M, p, a, γ, S, xs, rs, rfl, hc, hw, ha, hx, hg, hM, hM5, hs, hl, na, k⟩
def sp_first_wrong (K : PySem.W.Frag) (CC CL CB CR : Addr) : Sp := fun vs H Q E => (∃ (a : Addr) (xs : List V) (rs : List RowD) (M : Nat), vs = [.int (M : Nat), .ref a] ∧ (2 ≤ M) ∧ (M ≤ 5) ∧ (Sq2 K H a xs) ∧ (All2 (RowAt H) xs rs) ∧ (GoodH (M : Nat) rs) ∧ ∀ (v : V) (H' : Hp), Same H H' → DueAt H' v (walkH (HS.zero (M : Nat)) rs 0) → Q v H')
theorem r_first_wrong {K : PySem.W.Frag} {CC CL CB CR : Addr} {H : Hp} {Q : VK} {E : XK} {vv : List V} {a : Addr} {xs : List V} {rs : List RowD} {M : Nat} (ee : vv = [.int (M : Nat), .ref a]) (hM : 2 ≤ M) (hM5 : M ≤ 5) (ha : Sq2 K H a xs) (hx : All2 (RowAt H) xs rs) (hg : GoodH (M : Nat) rs) (k : ∀ (v : V) (H' : Hp), Same H H' → DueAt H' v (walkH (HS.zero (M : Nat)) rs 0) → Q v H') : sp_first_wrong K CC CL CB CR vv H Q E := by
  subst ee
  exact ⟨a, xs, rs, M, rfl, hM, hM5, ha, hx, hg, k⟩
def sp_law_cell_at (K : PySem.W.Frag) : Sp := fun vs H Q E => (∃ (a : Addr) (ns : List Int) (n : Int), vs = [.ref a, .int n] ∧ (SqL K H a (ns.map V.int)) ∧ (0 ≤ n) ∧ (ns.length ≤ 63) ∧ ∀ c : Int, Q (.int c) H)
theorem r_law_cell_at {K : PySem.W.Frag} {H : Hp} {Q : VK} {E : XK} {vv : List V} {a : Addr} {ns : List Int} {n : Int} (ee : vv = [.ref a, .int n]) (hs : SqL K H a (ns.map V.int)) (h0 : 0 ≤ n) (hl : ns.length ≤ 63) (k : ∀ c : Int, Q (.int c) H) : sp_law_cell_at K vv H Q E := by
  subst ee
  exact ⟨a, ns, n, rfl, hs, h0, hl, k⟩
def sp_law_pool  : Sp := fun vs H Q E => (∃ (cell : Int), vs = [.int cell] ∧ ∀ (p : Addr) (n : Int), H p = none → 0 ≤ n → Q (.ref p) (upd H p (.lst [.int n])))
theorem r_law_pool  {H : Hp} {Q : VK} {E : XK} {vv : List V} {cell : Int} (ee : vv = [.int cell])  (k : ∀ (p : Addr) (n : Int), H p = none → 0 ≤ n → Q (.ref p) (upd H p (.lst [.int n]))) : sp_law_pool  vv H Q E := by
  subst ee
  exact ⟨cell, rfl, k⟩
def sp_law_take  : Sp := fun vs H Q E => (∃ (p : Addr) (n m : Int), vs = [.ref p, .int m] ∧ (H p = some (.lst [.int n])) ∧ (0 < m) ∧ (m.natAbs < 2 ^ 8000) ∧ Q (.int (n % m)) (upd H p (.lst [.int (n / m)])))
theorem r_law_take  {H : Hp} {Q : VK} {E : XK} {vv : List V} {p : Addr} {n m : Int} (ee : vv = [.ref p, .int m]) (hp : H p = some (.lst [.int n])) (hm : 0 < m) (hb : m.natAbs < 2 ^ 8000) (k : Q (.int (n % m)) (upd H p (.lst [.int (n / m)]))) : sp_law_take  vv H Q E := by
  subst ee
  exact ⟨p, n, m, rfl, hp, hm, hb, k⟩
def sp_law_model  : Sp := fun vs H Q E => (∃ (M : Nat), vs = [.int (M : Nat)] ∧ (2 ≤ M) ∧ (M ≤ 5) ∧ ∀ (μ : Mx) (H' : Hp), Same H H' → MxAt M H' μ (HS.zero (M : Nat)) → H μ.c = none → H μ.wd = none → (∀ x ∈ μ.ga, H x = none) → (∀ x ∈ μ.ta, H x = none) → Q (.ref μ.md) H')
theorem r_law_model  {H : Hp} {Q : VK} {E : XK} {vv : List V} {M : Nat} (ee : vv = [.int (M : Nat)]) (h2 : 2 ≤ M) (h5 : M ≤ 5) (k : ∀ (μ : Mx) (H' : Hp), Same H H' → MxAt M H' μ (HS.zero (M : Nat)) → H μ.c = none → H μ.wd = none → (∀ x ∈ μ.ga, H x = none) → (∀ x ∈ μ.ta, H x = none) → Q (.ref μ.md) H') : sp_law_model  vv H Q E := by
  subst ee
  exact ⟨M, rfl, h2, h5, k⟩
def sp_law_otherwise (K : PySem.W.Frag) : Sp := fun vs H Q E => (∃ (μ : Mx) (M : Nat) (S : HS) (i : Addr) (m p : Int) (c : Int × Int), vs = [.ref μ.md, .int m, .int p, .ref i] ∧ (MxAt M H μ S) ∧ (WF (M : Nat) S) ∧ (M ≤ 5) ∧ (S.ks.length ≤ 30) ∧ (H i = some (.tup [.int c.1, .int c.2])) ∧ (1 ≤ p) ∧ Q (.bl ((List.range S.told.length).any fun k => !decide ((k : Int) = m) && otherwise (S.told.getD k []) p c)) H)
theorem r_law_otherwise {K : PySem.W.Frag} {H : Hp} {Q : VK} {E : XK} {vv : List V} {μ : Mx} {M : Nat} {S : HS} {i : Addr} {m p : Int} {c : Int × Int} (ee : vv = [.ref μ.md, .int m, .int p, .ref i]) (hm : MxAt M H μ S) (hw : WF (M : Nat) S) (h5 : M ≤ 5) (hk : S.ks.length ≤ 30) (hi : H i = some (.tup [.int c.1, .int c.2])) (hp : 1 ≤ p) (k : Q (.bl ((List.range S.told.length).any fun k => !decide ((k : Int) = m) && otherwise (S.told.getD k []) p c)) H) : sp_law_otherwise K vv H Q E := by
  subst ee
  exact ⟨μ, M, S, i, m, p, c, rfl, hm, hw, h5, hk, hi, hp, k⟩
def sp_law_has (K : PySem.W.Frag) : Sp := fun vs H Q E => (∃ (μ : Mx) (M : Nat) (S : HS) (i r : Addr) (ys : List V) (ids : List (Int × Int)) (c : Int × Int), vs = [.ref μ.md, .ref r, .ref i] ∧ (MxAt M H μ S) ∧ (H r = some (.lst ys)) ∧ (All2 (PairAt H) ys ids) ∧ (H i = some (.tup [.int c.1, .int c.2])) ∧ (c ∈ S.ks) ∧ Q (.bl ((causesOf S.ks S.cg c).all fun e => decide (e ∈ ids))) H)
theorem r_law_has {K : PySem.W.Frag} {H : Hp} {Q : VK} {E : XK} {vv : List V} {μ : Mx} {M : Nat} {S : HS} {i r : Addr} {ys : List V} {ids : List (Int × Int)} {c : Int × Int} (ee : vv = [.ref μ.md, .ref r, .ref i]) (hm : MxAt M H μ S) (hr : H r = some (.lst ys)) (hy : All2 (PairAt H) ys ids) (hi : H i = some (.tup [.int c.1, .int c.2])) (hc : c ∈ S.ks) (k : Q (.bl ((causesOf S.ks S.cg c).all fun e => decide (e ∈ ids))) H) : sp_law_has K vv H Q E := by
  subst ee
  exact ⟨μ, M, S, i, r, ys, ids, c, rfl, hm, hr, hy, hi, hc, k⟩
def sp_law_why_got (K : PySem.W.Frag) : Sp := fun vs H Q E => (∃ (μ : Mx) (M : Nat) (S : HS) (i : Addr) (m : Nat) (s n : Int), vs = [.ref μ.md, .int (m : Nat), .ref i] ∧ (MxAt M H μ S) ∧ (WF (M : Nat) S) ∧ (M ≤ 5) ∧ (m < M) ∧ (H i = some (.tup [.int s, .int n])) ∧ Q (optS (S.why (.got (m : Nat) s n))) H)
theorem r_law_why_got {K : PySem.W.Frag} {H : Hp} {Q : VK} {E : XK} {vv : List V} {μ : Mx} {M : Nat} {S : HS} {i : Addr} {m : Nat} {s n : Int} (ee : vv = [.ref μ.md, .int (m : Nat), .ref i]) (hm : MxAt M H μ S) (hw : WF (M : Nat) S) (h5 : M ≤ 5) (h1 : m < M) (hi : H i = some (.tup [.int s, .int n])) (k : Q (optS (S.why (.got (m : Nat) s n))) H) : sp_law_why_got K vv H Q E := by
  subst ee
  exact ⟨μ, M, S, i, m, s, n, rfl, hm, hw, h5, h1, hi, k⟩
def sp_law_why (K : PySem.W.Frag) : Sp := fun vs H Q E => (∃ (μ : Mx) (M : Nat) (S : HS) (t : Addr) (ρ : RowD), vs = [.ref μ.md, .ref t] ∧ (MxAt M H μ S) ∧ (WF (M : Nat) S) ∧ (M ≤ 5) ∧ (S.ks.length ≤ 30) ∧ (H t = some (.tup ρ.vs)) ∧ (ρ.Good (M : Nat)) ∧ ∀ H', Same H H' → Q (optS (S.why ρ)) H')
theorem r_law_why {K : PySem.W.Frag} {H : Hp} {Q : VK} {E : XK} {vv : List V} {μ : Mx} {M : Nat} {S : HS} {t : Addr} {ρ : RowD} (ee : vv = [.ref μ.md, .ref t]) (hm : MxAt M H μ S) (hw : WF (M : Nat) S) (h5 : M ≤ 5) (hk : S.ks.length ≤ 30) (ht : H t = some (.tup ρ.vs)) (hg : ρ.Good (M : Nat)) (k : ∀ H', Same H H' → Q (optS (S.why ρ)) H') : sp_law_why K vv H Q E := by
  subst ee
  exact ⟨μ, M, S, t, ρ, rfl, hm, hw, h5, hk, ht, hg, k⟩
def sp_law_go (K : PySem.W.Frag) : Sp := fun vs H Q E => (∃ (μ : Mx) (M : Nat) (S : HS) (t : Addr) (ρ : RowD), vs = [.ref μ.md, .ref t] ∧ (MxAt M H μ S) ∧ (WF (M : Nat) S) ∧ (M ≤ 5) ∧ (S.ks.length ≤ 30) ∧ (H t = some (.tup ρ.vs)) ∧ (ρ.Good (M : Nat)) ∧ ∀ (μ' : Mx) (H' : Hp), (∀ b o, b ≠ μ.c → b ≠ μ.wd → b ∉ μ.ga → b ∉ μ.ta → H b = some o → H' b = some o) → MxAt M H' μ' (S.go ρ) → μ'.md = μ.md → μ'.c = μ.c → μ'.wd = μ.wd → μ'.ga = μ.ga → μ'.ta = μ.ta → (∀ x ∈ μ'.ls, x ∈ μ.ls ∨ H x = none) → Q .non H')
theorem r_law_go {K : PySem.W.Frag} {H : Hp} {Q : VK} {E : XK} {vv : List V} {μ : Mx} {M : Nat} {S : HS} {t : Addr} {ρ : RowD} (ee : vv = [.ref μ.md, .ref t]) (hm : MxAt M H μ S) (hw : WF (M : Nat) S) (h5 : M ≤ 5) (hk : S.ks.length ≤ 30) (ht : H t = some (.tup ρ.vs)) (hg : ρ.Good (M : Nat)) (k : ∀ (μ' : Mx) (H' : Hp), (∀ b o, b ≠ μ.c → b ≠ μ.wd → b ∉ μ.ga → b ∉ μ.ta → H b = some o → H' b = some o) → MxAt M H' μ' (S.go ρ) → μ'.md = μ.md → μ'.c = μ.c → μ'.wd = μ.wd → μ'.ga = μ.ga → μ'.ta = μ.ta → (∀ x ∈ μ'.ls, x ∈ μ.ls ∨ H x = none) → Q .non H') : sp_law_go K vv H Q E := by
  subst ee
  exact ⟨μ, M, S, t, ρ, rfl, hm, hw, h5, hk, ht, hg, k⟩
def sp_law_may (K : PySem.W.Frag) : Sp := fun vs H Q E => (∃ (μ : Mx) (M : Nat) (S : HS) (m : Nat), vs = [.ref μ.md, .int (m : Nat)] ∧ (MxAt M H μ S) ∧ (WF (M : Nat) S) ∧ (M ≤ 5) ∧ (S.ks.length ≤ 30) ∧ (m < M) ∧ ∀ (l : Addr) (xs : List V) (rs : List RowD) (H' : Hp), Same H H' → H l = none → H' l = some (.lst xs) → All2 (RowAt H') xs rs → (∀ ρ ∈ rs, ρ.Good (M : Nat) ∧ ρ.isSent = false) → xs.length ≤ 1000 → Q (.ref l) H')
theorem r_law_may {K : PySem.W.Frag} {H : Hp} {Q : VK} {E : XK} {vv : List V} {μ : Mx} {M : Nat} {S : HS} {m : Nat} (ee : vv = [.ref μ.md, .int (m : Nat)]) (hm : MxAt M H μ S) (hw : WF (M : Nat) S) (h5 : M ≤ 5) (hk : S.ks.length ≤ 30) (h1 : m < M) (k : ∀ (l : Addr) (xs : List V) (rs : List RowD) (H' : Hp), Same H H' → H l = none → H' l = some (.lst xs) → All2 (RowAt H') xs rs → (∀ ρ ∈ rs, ρ.Good (M : Nat) ∧ ρ.isSent = false) → xs.length ≤ 1000 → Q (.ref l) H') : sp_law_may K vv H Q E := by
  subst ee
  exact ⟨μ, M, S, m, rfl, hm, hw, h5, hk, h1, k⟩
def sp_law_word  : Sp := fun vs H Q E => (∃ (q : Addr) (z : Int), vs = [.ref q] ∧ (H q = some (.lst [.int z])) ∧ ∀ (w : Str) (z' : Int) (H' : Hp), Fr1 q H H' → H' q = some (.lst [.int z']) → w.length ≤ 8 → textB w 97 122 8 = true → Q (.str w) H')
theorem r_law_word  {H : Hp} {Q : VK} {E : XK} {vv : List V} {q : Addr} {z : Int} (ee : vv = [.ref q]) (hq : H q = some (.lst [.int z])) (k : ∀ (w : Str) (z' : Int) (H' : Hp), Fr1 q H H' → H' q = some (.lst [.int z']) → w.length ≤ 8 → textB w 97 122 8 = true → Q (.str w) H') : sp_law_word  vv H Q E := by
  subst ee
  exact ⟨q, z, rfl, hq, k⟩
def sp_law_new_row (K : PySem.W.Frag) : Sp := fun vs H Q E => (∃ (μ : Mx) (M : Nat) (S : HS) (q : Addr) (z : Int), vs = [.ref μ.md, .int (M : Nat), .int 12, .ref q] ∧ (MxAt M H μ S) ∧ (WF (M : Nat) S) ∧ (2 ≤ M) ∧ (M ≤ 5) ∧ (S.ks.length ≤ 30) ∧ (H q = some (.lst [.int z])) ∧ (∀ x ∈ μ.ls, x ∉ [q]) ∧ ∀ (t : Addr) (ρ : RowD) (H' : Hp), Fr1 q H H' → H' t = some (.tup ρ.vs) → ρ.Good (M : Nat) → (ρ.isSent = true → S.ks.length < 14) → Q (.ref t) H')
theorem r_law_new_row {K : PySem.W.Frag} {H : Hp} {Q : VK} {E : XK} {vv : List V} {μ : Mx} {M : Nat} {S : HS} {q : Addr} {z : Int} (ee : vv = [.ref μ.md, .int (M : Nat), .int 12, .ref q]) (hm : MxAt M H μ S) (hw : WF (M : Nat) S) (h2 : 2 ≤ M) (h5 : M ≤ 5) (hk : S.ks.length ≤ 30) (hq : H q = some (.lst [.int z])) (nq : ∀ x ∈ μ.ls, x ∉ [q]) (k : ∀ (t : Addr) (ρ : RowD) (H' : Hp), Fr1 q H H' → H' t = some (.tup ρ.vs) → ρ.Good (M : Nat) → (ρ.isSent = true → S.ks.length < 14) → Q (.ref t) H') : sp_law_new_row K vv H Q E := by
  subst ee
  exact ⟨μ, M, S, q, z, rfl, hm, hw, h2, h5, hk, hq, nq, k⟩
def sp_law_rows (K : PySem.W.Frag) : Sp := fun vs H Q E => (∃ (a : Addr) (ns : List Int), vs = [.ref a, .int 1, .int 12] ∧ (SqL K H a (ns.map V.int)) ∧ (ns.length ≤ 63) ∧ ∀ (M : Nat) (t R : Addr) (xs : List V) (rs : List RowD) (H' : Hp), Same H H' → H' t = some (.tup [.int (M : Nat), .ref R]) → H' R = some (.lst xs) → All2 (RowAt H') xs rs → 2 ≤ M → M ≤ 5 → (∀ ρ ∈ rs, ρ.Good (M : Nat)) → rs.length ≤ 63 → nSent rs ≤ 14 → Q (.ref t) H')
theorem r_law_rows {K : PySem.W.Frag} {H : Hp} {Q : VK} {E : XK} {vv : List V} {a : Addr} {ns : List Int} (ee : vv = [.ref a, .int 1, .int 12]) (hs : SqL K H a (ns.map V.int)) (hl : ns.length ≤ 63) (k : ∀ (M : Nat) (t R : Addr) (xs : List V) (rs : List RowD) (H' : Hp), Same H H' → H' t = some (.tup [.int (M : Nat), .ref R]) → H' R = some (.lst xs) → All2 (RowAt H') xs rs → 2 ≤ M → M ≤ 5 → (∀ ρ ∈ rs, ρ.Good (M : Nat)) → rs.length ≤ 63 → nSent rs ≤ 14 → Q (.ref t) H') : sp_law_rows K vv H Q E := by
  subst ee
  exact ⟨a, ns, rfl, hs, hl, k⟩
def sp_Book_twin (K : PySem.W.Frag) (CC CL CB : Addr) : Sp := fun vs H Q E => (∃ (M : Nat) (p : Addr) (β : Bk) (ks : List (Int × Int)) (cg : List (List (Int × Int))), vs = [.ref p] ∧ (BkAt CC CL CB M H p β ks cg) ∧ (2 ≤ M) ∧ (M ≤ 5) ∧ (Closed (M : Nat) ks) ∧ (ks.length ≤ 30) ∧ ∀ (q : Addr) (β' : Bk) (H' : Hp), Same H H' → BkAt CC CL CB M H' q β' ks cg → Q (.ref q) H')
theorem r_Book_twin {K : PySem.W.Frag} {CC CL CB : Addr} {H : Hp} {Q : VK} {E : XK} {vv : List V} {M : Nat} {p : Addr} {β : Bk} {ks : List (Int × Int)} {cg : List (List (Int × Int))} (ee : vv = [.ref p]) (hb : BkAt CC CL CB M H p β ks cg) (hM : 2 ≤ M) (hM5 : M ≤ 5) (hk : Closed (M : Nat) ks) (hl : ks.length ≤ 30) (k : ∀ (q : Addr) (β' : Bk) (H' : Hp), Same H H' → BkAt CC CL CB M H' q β' ks cg → Q (.ref q) H') : sp_Book_twin K CC CL CB vv H Q E := by
  subst ee
  exact ⟨M, p, β, ks, cg, rfl, hb, hM, hM5, hk, hl, k⟩
def sp_Course_book (K : PySem.W.Frag) (CC CL CB CR : Addr) : Sp := fun vs H Q E => (∃ (M : Nat) (p : Addr) (γ : Cs) (S : HS), vs = [.ref p] ∧ (CsAt CC CL CB CR M H p γ S) ∧ (WF (M : Nat) S) ∧ (2 ≤ M) ∧ (M ≤ 5) ∧ (S.ks.length ≤ 30) ∧ ∀ (q : Addr) (β' : Bk) (H' : Hp), Same H H' → BkAt CC CL CB M H' q β' S.ks S.cg → Q (.ref q) H')
theorem r_Course_book {K : PySem.W.Frag} {CC CL CB CR : Addr} {H : Hp} {Q : VK} {E : XK} {vv : List V} {M : Nat} {p : Addr} {γ : Cs} {S : HS} (ee : vv = [.ref p]) (hc : CsAt CC CL CB CR M H p γ S) (hw : WF (M : Nat) S) (hM : 2 ≤ M) (hM5 : M ≤ 5) (hl : S.ks.length ≤ 30) (k : ∀ (q : Addr) (β' : Bk) (H' : Hp), Same H H' → BkAt CC CL CB M H' q β' S.ks S.cg → Q (.ref q) H') : sp_Course_book K CC CL CB CR vv H Q E := by
  subst ee
  exact ⟨M, p, γ, S, rfl, hc, hw, hM, hM5, hl, k⟩
def sp_Course_got (K : PySem.W.Frag) (CC CL CB CR : Addr) : Sp := fun vs H Q E => (∃ (M : Nat) (p : Addr) (γ : Cs) (S : HS) (m : Nat), vs = [.ref p, .int (m : Nat)] ∧ (CsAt CC CL CB CR M H p γ S) ∧ (m < M) ∧ ∀ (l : Addr) (xs : List V) (H' : Hp), Same H H' → H l = none → H' l = some (.lst xs) → All2 (PairAt H') xs (S.gotOf (m : Nat)) → Q (.ref l) H')
theorem r_Course_got {K : PySem.W.Frag} {CC CL CB CR : Addr} {H : Hp} {Q : VK} {E : XK} {vv : List V} {M : Nat} {p : Addr} {γ : Cs} {S : HS} {m : Nat} (ee : vv = [.ref p, .int (m : Nat)]) (hc : CsAt CC CL CB CR M H p γ S) (hm : m < M) (k : ∀ (l : Addr) (xs : List V) (H' : Hp), Same H H' → H l = none → H' l = some (.lst xs) → All2 (PairAt H') xs (S.gotOf (m : Nat)) → Q (.ref l) H') : sp_Course_got K CC CL CB CR vv H Q E := by
  subst ee
  exact ⟨M, p, γ, S, m, rfl, hc, hm, k⟩
def sp_Course_told (K : PySem.W.Frag) (CC CL CB CR : Addr) : Sp := fun vs H Q E => (∃ (M : Nat) (p : Addr) (γ : Cs) (S : HS) (m : Nat), vs = [.ref p, .int (m : Nat)] ∧ (CsAt CC CL CB CR M H p γ S) ∧ (m < M) ∧ ∀ (l : Addr) (xs : List V) (H' : Hp), Same H H' → H l = none → H' l = some (.lst xs) → All2 (PairAt H') xs (S.toldOf (m : Nat)) → Q (.ref l) H')
theorem r_Course_told {K : PySem.W.Frag} {CC CL CB CR : Addr} {H : Hp} {Q : VK} {E : XK} {vv : List V} {M : Nat} {p : Addr} {γ : Cs} {S : HS} {m : Nat} (ee : vv = [.ref p, .int (m : Nat)]) (hc : CsAt CC CL CB CR M H p γ S) (hm : m < M) (k : ∀ (l : Addr) (xs : List V) (H' : Hp), Same H H' → H l = none → H' l = some (.lst xs) → All2 (PairAt H') xs (S.toldOf (m : Nat)) → Q (.ref l) H') : sp_Course_told K CC CL CB CR vv H Q E := by
  subst ee
  exact ⟨M, p, γ, S, m, rfl, hc, hm, k⟩
def sp_course_of (K : PySem.W.Frag) (CC CL CB CR : Addr) : Sp := fun vs H Q E => (∃ (a : Addr) (xs : List V) (rs : List RowD) (M : Nat), vs = [.int (M : Nat), .ref a] ∧ (2 ≤ M) ∧ (M ≤ 5) ∧ (Sq2 K H a xs) ∧ (All2 (RowAt H) xs rs) ∧ (GoodH (M : Nat) rs) ∧ (walkH (HS.zero (M : Nat)) rs 0 = none) ∧ ∀ (p : Addr) (γ : Cs) (H' : Hp), Same H H' → CsAt CC CL CB CR M H' p γ ((HS.zero (M : Nat)).run rs) → Q (.ref p) H')
theorem r_course_of {K : PySem.W.Frag} {CC CL CB CR : Addr} {H : Hp} {Q : VK} {E : XK} {vv : List V} {a : Addr} {xs : List V} {rs : List RowD} {M : Nat} (ee : vv = [.int (M : Nat), .ref a]) (hM : 2 ≤ M) (hM5 : M ≤ 5) (ha : Sq2 K H a xs) (hx : All2 (RowAt H) xs rs) (hg : GoodH (M : Nat) rs) (hw : walkH (HS.zero (M : Nat)) rs 0 = none) (k : ∀ (p : Addr) (γ : Cs) (H' : Hp), Same H H' → CsAt CC CL CB CR M H' p γ ((HS.zero (M : Nat)).run rs) → Q (.ref p) H') : sp_course_of K CC CL CB CR vv H Q E := by
  subst ee
  exact ⟨a, xs, rs, M, rfl, hM, hM5, ha, hx, hg, hw, k⟩
def sp_book_of (K : PySem.W.Frag) (CC CL CB CR : Addr) : Sp := fun vs H Q E => (∃ (a : Addr) (xs : List V) (rs : List RowD) (M : Nat), vs = [.int (M : Nat), .ref a] ∧ (2 ≤ M) ∧ (M ≤ 5) ∧ (Sq2 K H a xs) ∧ (All2 (RowAt H) xs rs) ∧ (GoodH (M : Nat) rs) ∧ (walkH (HS.zero (M : Nat)) rs 0 = none) ∧ ∀ (q : Addr) (β : Bk) (H' : Hp), Same H H' → BkAt CC CL CB M H' q β ((HS.zero (M : Nat)).run rs).ks ((HS.zero (M : Nat)).run rs).cg → Q (.ref q) H')
theorem r_book_of {K : PySem.W.Frag} {CC CL CB CR : Addr} {H : Hp} {Q : VK} {E : XK} {vv : List V} {a : Addr} {xs : List V} {rs : List RowD} {M : Nat} (ee : vv = [.int (M : Nat), .ref a]) (hM : 2 ≤ M) (hM5 : M ≤ 5) (ha : Sq2 K H a xs) (hx : All2 (RowAt H) xs rs) (hg : GoodH (M : Nat) rs) (hw : walkH (HS.zero (M : Nat)) rs 0 = none) (k : ∀ (q : Addr) (β : Bk) (H' : Hp), Same H H' → BkAt CC CL CB M H' q β ((HS.zero (M : Nat)).run rs).ks ((HS.zero (M : Nat)).run rs).cg → Q (.ref q) H') : sp_book_of K CC CL CB CR vv H Q E := by
  subst ee
  exact ⟨a, xs, rs, M, rfl, hM, hM5, ha, hx, hg, hw, k⟩
def sp_got_by (K : PySem.W.Frag) (CC CL CB CR : Addr) : Sp := fun vs H Q E => (∃ (a : Addr) (xs : List V) (rs : List RowD) (M m : Nat), vs = [.int (M : Nat), .ref a, .int (m : Nat)] ∧ (2 ≤ M) ∧ (M ≤ 5) ∧ (Sq2 K H a xs) ∧ (All2 (RowAt H) xs rs) ∧ (GoodH (M : Nat) rs) ∧ (walkH (HS.zero (M : Nat)) rs 0 = none) ∧ (m < M) ∧ ∀ (l : Addr) (ys : List V) (H' : Hp), Same H H' → H' l = some (.lst ys) → All2 (PairAt H') ys (((HS.zero (M : Nat)).run rs).gotOf (m : Nat)) → Q (.ref l) H')
theorem r_got_by {K : PySem.W.Frag} {CC CL CB CR : Addr} {H : Hp} {Q : VK} {E : XK} {vv : List V} {a : Addr} {xs : List V} {rs : List RowD} {M m : Nat} (ee : vv = [.int (M : Nat), .ref a, .int (m : Nat)]) (hM : 2 ≤ M) (hM5 : M ≤ 5) (ha : Sq2 K H a xs) (hx : All2 (RowAt H) xs rs) (hg : GoodH (M : Nat) rs) (hw : walkH (HS.zero (M : Nat)) rs 0 = none) (hm : m < M) (k : ∀ (l : Addr) (ys : List V) (H' : Hp), Same H H' → H' l = some (.lst ys) → All2 (PairAt H') ys (((HS.zero (M : Nat)).run rs).gotOf (m : Nat)) → Q (.ref l) H') : sp_got_by K CC CL CB CR vv H Q E := by
  subst ee
  exact ⟨a, xs, rs, M, m, rfl, hM, hM5, ha, hx, hg, hw, hm, k⟩
def sp_told_by (K : PySem.W.Frag) (CC CL CB CR : Addr) : Sp := fun vs H Q E => (∃ (a : Addr) (xs : List V) (rs : List RowD) (M m : Nat), vs = [.int (M : Nat), .ref a, .int (m : Nat)] ∧ (2 ≤ M) ∧ (M ≤ 5) ∧ (Sq2 K H a xs) ∧ (All2 (RowAt H) xs rs) ∧ (GoodH (M : Nat) rs) ∧ (walkH (HS.zero (M : Nat)) rs 0 = none) ∧ (m < M) ∧ ∀ (l : Addr) (ys : List V) (H' : Hp), Same H H' → H' l = some (.lst ys) → All2 (PairAt H') ys (((HS.zero (M : Nat)).run rs).toldOf (m : Nat)) → Q (.ref l) H')
theorem r_told_by {K : PySem.W.Frag} {CC CL CB CR : Addr} {H : Hp} {Q : VK} {E : XK} {vv : List V} {a : Addr} {xs : List V} {rs : List RowD} {M m : Nat} (ee : vv = [.int (M : Nat), .ref a, .int (m : Nat)]) (hM : 2 ≤ M) (hM5 : M ≤ 5) (ha : Sq2 K H a xs) (hx : All2 (RowAt H) xs rs) (hg : GoodH (M : Nat) rs) (hw : walkH (HS.zero (M : Nat)) rs 0 = none) (hm : m < M) (k : ∀ (l : Addr) (ys : List V) (H' : Hp), Same H H' → H' l = some (.lst ys) → All2 (PairAt H') ys (((HS.zero (M : Nat)).run rs).toldOf (m : Nat)) → Q (.ref l) H') : sp_told_by K CC CL CB CR vv H Q E := by
  subst ee
  exact ⟨a, xs, rs, M, m, rfl, hM, hM5, ha, hx, hg, hw, hm, k⟩
def sp_longest_told (K : PySem.W.Frag) (CC CL CB CR : Addr) : Sp := fun vs H Q E => (∃ (a : Addr) (xs : List V) (rs : List RowD) (M : Nat), vs = [.int (M : Nat), .ref a] ∧ (2 ≤ M) ∧ (M ≤ 5) ∧ (Sq2 K H a xs) ∧ (All2 (RowAt H) xs rs) ∧ (GoodH (M : Nat) rs) ∧ (walkH (HS.zero (M : Nat)) rs 0 = none) ∧ ∀ (l : Addr) (ys : List V) (i : Nat) (H' : Hp), Same H H' → H' l = some (.lst ys) → i < M → (∀ j, j < M → (((HS.zero (M : Nat)).run rs).toldOf (j : Nat)).length ≤ (((HS.zero (M : Nat)).run rs).toldOf (i : Nat)).length) → All2 (PairAt H') ys (((HS.zero (M : Nat)).run rs).toldOf (i : Nat)) → Q (.ref l) H')
theorem r_longest_told {K : PySem.W.Frag} {CC CL CB CR : Addr} {H : Hp} {Q : VK} {E : XK} {vv : List V} {a : Addr} {xs : List V} {rs : List RowD} {M : Nat} (ee : vv = [.int (M : Nat), .ref a]) (hM : 2 ≤ M) (hM5 : M ≤ 5) (ha : Sq2 K H a xs) (hx : All2 (RowAt H) xs rs) (hg : GoodH (M : Nat) rs) (hw : walkH (HS.zero (M : Nat)) rs 0 = none) (k : ∀ (l : Addr) (ys : List V) (i : Nat) (H' : Hp), Same H H' → H' l = some (.lst ys) → i < M → (∀ j, j < M → (((HS.zero (M : Nat)).run rs).toldOf (j : Nat)).length ≤ (((HS.zero (M : Nat)).run rs).toldOf (i : Nat)).length) → All2 (PairAt H') ys (((HS.zero (M : Nat)).run rs).toldOf (i : Nat)) → Q (.ref l) H') : sp_longest_told K CC CL CB CR vv H Q E := by
  subst ee
  exact ⟨a, xs, rs, M, rfl, hM, hM5, ha, hx, hg, hw, k⟩
def sp_Book_is_order (K : PySem.W.Frag) (CC CL CB : Addr) : Sp := fun vs H Q E => (∃ (M : Nat) (p a : Addr) (β : Bk) (S : HS) (xs : List V) (L : List (Int × Int)), vs = [.ref p, .ref a] ∧ (BkAt CC CL CB M H p β S.ks S.cg) ∧ (WF (M : Nat) S) ∧ (H a = some (.lst xs)) ∧ (All2 (PairAt H) xs L) ∧ (KeepsL M S.ks S.cg L) ∧ (2 ≤ M) ∧ (M ≤ 5) ∧ (L.length = S.ks.length) ∧ (S.ks.length ≤ 30) ∧ ∀ H', Same H H' → Q (.bl true) H')
theorem r_Book_is_order {K : PySem.W.Frag} {CC CL CB : Addr} {H : Hp} {Q : VK} {E : XK} {vv : List V} {M : Nat} {p a : Addr} {β : Bk} {S : HS} {xs : List V} {L : List (Int × Int)} (ee : vv = [.ref p, .ref a]) (hb : BkAt CC CL CB M H p β S.ks S.cg) (hw : WF (M : Nat) S) (ha : H a = some (.lst xs)) (hx : All2 (PairAt H) xs L) (hL : KeepsL M S.ks S.cg L) (hM : 2 ≤ M) (hM5 : M ≤ 5) (hl : L.length = S.ks.length) (hk : S.ks.length ≤ 30) (k : ∀ H', Same H H' → Q (.bl true) H') : sp_Book_is_order K CC CL CB vv H Q E := by
  subst ee
  exact ⟨M, p, a, β, S, xs, L, rfl, hb, hw, ha, hx, hL, hM, hM5, hl, hk, k⟩
def sp_law_left (K : PySem.W.Frag) : Sp := fun vs H Q E => (∃ (a : Addr) (xs : List V) (rs : List RowD) (M : Nat), vs = [.int (M : Nat), .ref a] ∧ (2 ≤ M) ∧ (M ≤ 5) ∧ (H a = some (.lst xs)) ∧ (All2 (RowAt H) xs rs) ∧ (∀ ρ ∈ rs, ρ.Good (M : Nat)) ∧ (rs.length ≤ 63) ∧ (nSent rs ≤ 30) ∧ ∀ (b : Addr) (ys : List V) (os : List RowD) (H' : Hp), Same H H' → H' b = some (.lst ys) → All2 (RowAt H') ys os → GoodH (M : Nat) os → walkH (HS.zero (M : Nat)) os 0 = none → Q (.ref b) H')
theorem r_law_left {K : PySem.W.Frag} {H : Hp} {Q : VK} {E : XK} {vv : List V} {a : Addr} {xs : List V} {rs : List RowD} {M : Nat} (ee : vv = [.int (M : Nat), .ref a]) (hM : 2 ≤ M) (hM5 : M ≤ 5) (ha : H a = some (.lst xs)) (hx : All2 (RowAt H) xs rs) (hg : ∀ ρ ∈ rs, ρ.Good (M : Nat)) (hl : rs.length ≤ 63) (hs : nSent rs ≤ 30) (k : ∀ (b : Addr) (ys : List V) (os : List RowD) (H' : Hp), Same H H' → H' b = some (.lst ys) → All2 (RowAt H') ys os → GoodH (M : Nat) os → walkH (HS.zero (M : Nat)) os 0 = none → Q (.ref b) H') : sp_law_left K vv H Q E := by
  subst ee
  exact ⟨a, xs, rs, M, rfl, hM, hM5, ha, hx, hg, hl, hs, k⟩
def sp_law_keeps (K : PySem.W.Frag) (CC CL CB : Addr) : Sp := fun vs H Q E => (∃ (M : Nat) (p a : Addr) (β : Bk) (S : HS) (xs : List V) (L : List (Int × Int)), vs = [.ref p, .ref a] ∧ (BkAt CC CL CB M H p β S.ks S.cg) ∧ (WF (M : Nat) S) ∧ (H a = some (.lst xs)) ∧ (All2 (PairAt H) xs L) ∧ (KeepsL M S.ks S.cg L) ∧ (2 ≤ M) ∧ (M ≤ 5) ∧ (S.ks.length ≤ 30) ∧ ∀ H', Same H H' → Q (.bl true) H')
theorem r_law_keeps {K : PySem.W.Frag} {CC CL CB : Addr} {H : Hp} {Q : VK} {E : XK} {vv : List V} {M : Nat} {p a : Addr} {β : Bk} {S : HS} {xs : List V} {L : List (Int × Int)} (ee : vv = [.ref p, .ref a]) (hb : BkAt CC CL CB M H p β S.ks S.cg) (hw : WF (M : Nat) S) (ha : H a = some (.lst xs)) (hx : All2 (PairAt H) xs L) (hL : KeepsL M S.ks S.cg L) (hM : 2 ≤ M) (hM5 : M ≤ 5) (hk : S.ks.length ≤ 30) (k : ∀ H', Same H H' → Q (.bl true) H') : sp_law_keeps K CC CL CB vv H Q E := by
  subst ee
  exact ⟨M, p, a, β, S, xs, L, rfl, hb, hw, ha, hx, hL, hM, hM5, hk, k⟩
def sp_law (K : PySem.W.Frag) : Sp := fun vs H Q E => (∃ (a : Addr) (ns : List Int), vs = [.ref a] ∧ (SqL K H a (ns.map V.int)) ∧ (ns.length ≤ 63) ∧ ∀ H', Q (.bl true) H')
theorem r_law {K : PySem.W.Frag} {H : Hp} {Q : VK} {E : XK} {vv : List V} {a : Addr} {ns : List Int} (ee : vv = [.ref a]) (hs : SqL K H a (ns.map V.int)) (hl : ns.length ≤ 63) (k : ∀ H', Q (.bl true) H') : sp_law K vv H Q E := by
  subst ee
  exact ⟨a, ns, rfl, hs, hl, k⟩
theorem tChg_m {K : PySem.W.Frag} {C : Addr} {i j : Nat} {v : V} {f : Str} : ∀ (σ : L2.St) (H : Hp) (Q Q' : Bool → Hp → Prop), (∀ b H, Q b H → Q' b H) → tTest (tOp rNe (tOp (rIxT K) (tVar i) (tC v)) (tMeth C f (sp_Letter_sender K C) [] E0 (tVar j) tNil)) σ H Q → tTest (tOp rNe (tOp (rIxT K) (tVar i) (tC v)) (tMeth C f (sp_Letter_sender K C) [] E0 (tVar j) tNil)) σ H Q' := by
  rintro σ H Q Q' h ⟨v1, e1, p, xs, i, w, e2, e3, h2, ha, v2, e4, a, dx, fs, e5, h5, e6, q⟩
  unfold tNil at q
  dsimp only at q
  obtain ⟨p', dl, x, y, z, u, ea, hp, g1, kb, e7, q3⟩ := q
  refine ⟨v1, e1, p, xs, i, w, e2, e3, h2, ha, v2, e4, a, dx, fs, e5, h5, e6, ?_⟩
  unfold tNil
  dsimp only
  exact ⟨p', dl, x, y, z, u, ea, hp, g1, kb, e7, h _ _ q3⟩
theorem sp_law_why_m {K : PySem.W.Frag} {vs : List V} {H : Hp} {Q Q' : VK} {E : XK} (h : sp_law_why K vs H Q E) (m : ∀ v H, Q v H → Q' v H) : sp_law_why K vs H Q' E := by
  obtain ⟨μ, M, S, t, ρ, e, hm, hw, h5, hk, ht, hg, k⟩ := h
  exact ⟨μ, M, S, t, ρ, e, hm, hw, h5, hk, ht, hg, fun H' s1 => m _ _ (k H' s1)⟩
theorem tWhy_m {K : PySem.W.Frag} {i j : Nat} : ∀ (σ : L2.St) (H : Hp) (Q Q' : Bool → Hp → Prop), (∀ b H, Q b H → Q' b H) → tTest (tOp rIsNon (tCall (sp_law_why K) [] E0 (tCons (tVar i) (tCons (tVar j) tNil))) (tC .non)) σ H Q → tTest (tOp rIsNon (tCall (sp_law_why K) [] E0 (tCons (tVar i) (tCons (tVar j) tNil))) (tC .non)) σ H Q' := by
  rintro σ H Q Q' h ⟨v1, e1, v2, e2, q⟩
  refine ⟨v1, e1, v2, e2, ?_⟩
  unfold tNil at q ⊢
  dsimp only at q ⊢
  refine sp_law_why_m q ?_
  rintro x H1 ⟨g1, b, eb, q3⟩
  exact ⟨g1, b, eb, h _ _ q3⟩

set_option hygiene false
local macro_rules | `(tactic| walk_at "xm1") => `(tactic| first | fail | fail)
local macro_rules | `(tactic| walk_at "xf") => `(tactic| first | fail | fail)
local macro_rules | `(tactic| walk_at "xc") => `(tactic| first | fail | fail)
local macro_rules | `(tactic| walk_at "xn") => `(tactic| first | fail | fail)
local macro_rules | `(tactic| walk_at "tya") => `(tactic| first | fail | ((refine' .base (.ins ?h1 (T.c_Counts) (T.ha_Counts) (T.hn) (T.htk) (T.hm_Counts))); (case h1 => assumption)) | ((refine' .base (.ins ?h1 (T.c_Letter) (T.ha_Letter) (T.hn) (T.htk) (T.hm_Letter))); (case h1 => assumption)) | ((refine' .base (.ins ?h1 (T.c_Book) (T.ha_Book) (T.hn) (T.htk) (T.hm_Book))); (case h1 => assumption)) | ((refine' .base (.ins ?h1 (T.c_Course) (T.ha_Course) (T.hn) (T.htk) (T.hm_Course))); (case h1 => assumption)) | fail)
local macro_rules | `(tactic| walk_at "tyo") => `(tactic| first | fail | ((refine' .base (.ins ?h1 (T.c_Counts) (T.ha_Counts) (T.hn) (T.htk) (T.hm_Counts))); (case h1 => walk_at "lk")) | ((refine' .base (.ins ?h1 (T.c_Letter) (T.ha_Letter) (T.hn) (T.htk) (T.hm_Letter))); (case h1 => walk_at "lk")) | ((refine' .base (.ins ?h1 (T.c_Book) (T.ha_Book) (T.hn) (T.htk) (T.hm_Book))); (case h1 => walk_at "lk")) | ((refine' .base (.ins ?h1 (T.c_Course) (T.ha_Course) (T.hn) (T.htk) (T.hm_Course))); (case h1 => walk_at "lk")) | fail)
local macro_rules | `(tactic| walk_at "kio") => `(tactic| first | fail | exact kit_sub (by decide +kernel) (T.ki_Counts) | exact kit_sub (by decide +kernel) (T.kl_Counts) | exact kit_sub (by decide +kernel) (T.kt_Counts) | with_reducible exact kit_self | exact kit_tyref (T.hdx_Counts) (T.ty_Counts) (T.nt_NoneType_Counts) | exact kit_tyref (T.hdx_Counts) (T.ty_Counts) (T.nt_bool_Counts) | exact kit_tyref (T.hdx_Counts) (T.ty_Counts) (T.nt_int_Counts) | exact kit_tyref (T.hdx_Counts) (T.ty_Counts) (T.nt_str_Counts) | exact kit_tyref (T.hdx_Counts) (T.ty_Counts) (T.nt_list_Counts) | exact kit_tyref (T.hdx_Counts) (T.ty_Counts) (T.nt_tuple_Counts) | exact kit_tyref (T.hdx_Counts) (T.ty_Counts) (T.nt_dict_Counts) | exact kit_tyref (T.hdx_Letter) (T.ty_Letter) (T.nt_NoneType_Letter) | exact kit_tyref (T.hdx_Letter) (T.ty_Letter) (T.nt_bool_Letter) | exact kit_tyref (T.hdx_Letter) (T.ty_Letter) (T.nt_int_Letter) | exact kit_tyref (T.hdx_Letter) (T.ty_Letter) (T.nt_str_Letter) | exact kit_tyref (T.hdx_Letter) (T.ty_Letter) (T.nt_list_Letter) | exact kit_tyref (T.hdx_Letter) (T.ty_Letter) (T.nt_tuple_Letter) | exact kit_tyref (T.hdx_Letter) (T.ty_Letter) (T.nt_dict_Letter) | fail)
local macro_rules | `(tactic| walk_at "cls") => `(tactic| first | assumption | exact T.c_Counts | exact T.c_Letter | exact T.c_Book | exact T.c_Course | fail)
local macro_rules | `(tactic| walk_at "noa") => `(tactic| first | assumption | exact T.n_Counts__numbers | exact T.n_Letter__sender | exact T.n_Letter__number | exact T.n_Letter__word | exact T.n_Letter__causes | exact T.n_Book__members | exact T.n_Book__letters | exact T.n_Book__counts | exact T.n_Book__waits | exact T.n_Course__book | exact T.n_Course__counts | exact T.n_Course__got | exact T.n_Course__told | fail)
local macro_rules | `(tactic| walk_at "rc") => `(tactic| first
  | fail 
  | ((with_reducible refine' r_is_whole_1 ?ze  ?_); (case ze => exact rfl))
  | ((with_reducible refine' r_is_whole_2 ?ze  ?_); (case ze => exact rfl))
  | ((with_reducible refine' r_is_text_of ?ze ?z0 ?z1 ?z2 ?_); (case ze => exact rfl); (case z0 => walk_at "sd"); (case z1 => walk_at "rf"); (case z2 => walk_at "rf"))
  | ((with_reducible refine' r_is_word ?ze ?z0 ?_); (case ze => exact rfl); (case z0 => walk_at "sd"))
  | ((with_reducible refine' r_is_list ?ze ?z0 ?z1 ?_); (case ze => exact rfl); (case z0 => walk_at "tyx"); (case z1 => walk_at "kia"))
  | ((with_reducible refine' r_is_member ?ze ?z0 ?z1 ?_); (case ze => exact rfl); (case z0 => walk_at "sd"); (case z1 => walk_at "sd"))
  | ((with_reducible refine' r_is_ident ?ze ?z0 ?z1 ?z2 ?z3 ?_); (case ze => exact rfl); (case z0 => walk_at "lk"); (case z1 => walk_at "sd"); (case z2 => walk_at "sd"); (case z3 => walk_at "sd"))
  | ((with_reducible refine' r_check_members ?ze ?z0 ?z1 ?_); (case ze => exact rfl); (case z0 => walk_at "sd"); (case z1 => walk_at "sd"))
  | ((with_reducible refine' r_is_row ?ze ?z0 ?z1 ?_); (case ze => exact rfl); (case z0 => walk_at "lk"); (case z1 => walk_at "sd"))
  | ((with_reducible refine' r_is_history ?ze ?z0 ?z1 ?z2 ?z3 ?z4 ?_); (case ze => exact rfl); (case z0 => walk_at "sd"); (case z1 => walk_at "sd"); (case z2 => walk_at "sd"); (case z3 => walk_at "sd"); (case z4 => walk_at "sd"))
  | ((with_reducible refine' r_check_history ?ze ?z0 ?z1 ?z2 ?z3 ?z4 ?_); (case ze => exact rfl); (case z0 => walk_at "sd"); (case z1 => walk_at "sd"); (case z2 => walk_at "sd"); (case z3 => walk_at "sd"); (case z4 => walk_at "sd"))
  | ((with_reducible refine' r_check_member ?ze ?z0 ?z1 ?_); (case ze => exact rfl); (case z0 => walk_at "sd"); (case z1 => walk_at "sd"))
  | ((with_reducible refine' r_are_changes ?ze ?z0 ?z1 ?z2 ?z3 ?z4 ?_); (case ze => exact rfl); (case z0 => walk_at "lk"); (case z1 => walk_at "sd"); (case z2 => walk_at "sd"); (case z3 => walk_at "sd"); (case z4 => walk_at "sd"))
  | ((with_reducible refine' r_Counts_init ?ze ?z0 ?z1 ?z2 ?z3 ?z4 ?_); (case ze => exact rfl); (case z0 => walk_at "lk"); (case z1 => walk_at "lk"); (case z2 => walk_at "sd"); (case z3 => walk_at "sd"); (case z4 => walk_at "nn"))
  | ((with_reducible refine' r_Counts_len ?ze ?z0 ?z1 ?_); (case ze => exact rfl); (case z0 => walk_at "lk"); (case z1 => walk_at "lk"))
  | ((with_reducible refine' r_Counts_told ?ze ?z0 ?_); (case ze => exact rfl); (case z0 => walk_at "lk"))
  | ((with_reducible refine' r_Counts_of ?ze ?z0 ?z1 ?z2 ?_); (case ze => exact rfl); (case z0 => walk_at "lk"); (case z1 => walk_at "lk"); (case z2 => walk_at "sd"))
  | ((with_reducible refine' r_Counts_covers ?ze ?z0 ?z1 ?z2 ?z3 ?z4 ?z5 ?_); (case ze => exact rfl); (case z0 => walk_at "lk"); (case z1 => walk_at "lk"); (case z2 => walk_at "lk"); (case z3 => walk_at "lk"); (case z4 => walk_at "sd"); (case z5 => walk_at "sd"))
  | ((with_reducible refine' r_Counts_raised ?ze ?z0 ?z1 ?z2 ?z3 ?z4 ?z5 ?_); (case ze => exact rfl); (case z0 => walk_at "lk"); (case z1 => walk_at "lk"); (case z2 => walk_at "sd"); (case z3 => walk_at "sd"); (case z4 => walk_at "sd"); (case z5 => walk_at "as"))
  | ((with_reducible refine' r_Counts_changes_from ?ze ?z0 ?z1 ?z2 ?z3 ?z4 ?z5 ?_); (case ze => exact rfl); (case z0 => walk_at "lk"); (case z1 => walk_at "lk"); (case z2 => walk_at "lk"); (case z3 => walk_at "lk"); (case z4 => walk_at "sd"); (case z5 => walk_at "sd"))
  | ((with_reducible refine' r_Counts_changed ?ze ?z0 ?z1 ?z2 ?z3 ?z4 ?z5 ?z6 ?z7 ?z8 ?_); (case ze => exact rfl); (case z0 => walk_at "lk"); (case z1 => walk_at "lk"); (case z2 => walk_at "lk"); (case z3 => walk_at "sd"); (case z4 => walk_at "sd"); (case z5 => walk_at "sd"); (case z6 => walk_at "sd"); (case z7 => walk_at "sd"); (case z8 => walk_at "as"))
  | ((with_reducible refine' r_Counts_check_like ?ze ?z0 ?z1 ?z2 ?z3 ?z4 ?z5 ?_); (case ze => exact rfl); (case z0 => walk_at "lk"); (case z1 => walk_at "lk"); (case z2 => walk_at "lk"); (case z3 => walk_at "lk"); (case z4 => walk_at "sd"); (case z5 => walk_at "sd"))
  | ((with_reducible refine' r_check_number_and_word ?ze ?z0 ?z1 ?z2 ?z3 ?_); (case ze => exact rfl); (case z0 => walk_at "sd"); (case z1 => walk_at "sd"); (case z2 => walk_at "sd"); (case z3 => walk_at "sd"))
  | ((with_reducible refine' r_Letter_init ?ze ?z0 ?z1 ?z2 ?z3 ?z4 ?z5 ?z6 ?z7 ?z8 ?z9 ?z10 ?_); (case ze => exact rfl); (case z0 => walk_at "lk"); (case z1 => walk_at "sd"); (case z2 => walk_at "sd"); (case z3 => walk_at "sd"); (case z4 => walk_at "sd"); (case z5 => walk_at "sd"); (case z6 => walk_at "sd"); (case z7 => walk_at "sd"); (case z8 => walk_at "sd"); (case z9 => walk_at "sd"); (case z10 => walk_at "sd"))
  | ((with_reducible refine' r_Letter_sender ?ze ?z0 ?_); (case ze => exact rfl); (case z0 => walk_at "lk"))
  | ((with_reducible refine' r_Letter_number ?ze ?z0 ?_); (case ze => exact rfl); (case z0 => walk_at "lk"))
  | ((with_reducible refine' r_Letter_causes ?ze ?z0 ?_); (case ze => exact rfl); (case z0 => walk_at "lk"))
  | ((with_reducible refine' r_Letter_id_of ?ze ?z0 ?_); (case ze => exact rfl); (case z0 => walk_at "lk"))
  | ((with_reducible refine' r_is_letter_ahead_1 ?ze  ?_); (case ze => exact rfl))
  | ((with_reducible refine' r_is_letter_ahead_2 ?ze ?z0 ?z1 ?z2 ?_); (case ze => exact rfl); (case z0 => walk_at "sd"); (case z1 => walk_at "sd"); (case z2 => walk_at "sd"))
  | ((with_reducible refine' r_row_ahead_1 ?ze ?z0 ?z1 ?_); (case ze => exact rfl); (case z0 => walk_at "sd"); (case z1 => walk_at "sd"))
  | ((with_reducible refine' r_row_ahead_2 ?ze ?z0 ?_); (case ze => exact rfl); (case z0 => walk_at "sd"))
  | ((with_reducible refine' r_changes_of_1 ?ze ?z0 ?z1 ?z2 ?_); (case ze => exact rfl); (case z0 => walk_at "sd"); (case z1 => walk_at "sd"); (case z2 => walk_at "sd"))
  | ((with_reducible refine' r_changes_of_2 ?ze ?z0 ?z1 ?z2 ?z3 ?z4 ?z5 ?_); (case ze => exact rfl); (case z0 => walk_at "sd"); (case z1 => walk_at "sd"); (case z2 => walk_at "sd"); (case z3 => walk_at "sd"); (case z4 => walk_at "sd"); (case z5 => walk_at "sd"))
  | ((with_reducible refine' r_ids_beyond ?ze ?z0 ?z1 ?z2 ?z3 ?z4 ?z5 ?_); (case ze => exact rfl); (case z0 => walk_at "sd"); (case z1 => walk_at "sd"); (case z2 => walk_at "sd"); (case z3 => walk_at "sd"); (case z4 => walk_at "sd"); (case z5 => walk_at "sd"))
  | ((with_reducible refine' r_Book_init ?ze ?z0 ?z1 ?z2 ?_); (case ze => exact rfl); (case z0 => walk_at "lk"); (case z1 => walk_at "sd"); (case z2 => walk_at "sd"))
  | ((with_reducible refine' r_Book_len ?ze ?z0 ?z1 ?_); (case ze => exact rfl); (case z0 => walk_at "lk"); (case z1 => walk_at "lk"))
  | ((with_reducible refine' r_Book_counts ?ze ?z0 ?_); (case ze => exact rfl); (case z0 => walk_at "lk"))
  | ((with_reducible refine' r_Book_letter ?ze ?z0 ?z1 ?z2 ?z3 ?_); (case ze => exact rfl); (case z0 => walk_at "sd"); (case z1 => walk_at "lk"); (case z2 => walk_at "sd"); (case z3 => walk_at "sd"))
  | ((with_reducible refine' r_Book_ahead ?ze ?z0 ?z1 ?z2 ?z3 ?z4 ?z5 ?z6 ?_); (case ze => exact rfl); (case z0 => walk_at "sd"); (case z1 => walk_at "lk"); (case z2 => walk_at "sd"); (case z3 => walk_at "sd"); (case z4 => walk_at "sd"); (case z5 => walk_at "sd"); (case z6 => walk_at "sd"))
  | ((with_reducible refine' r_Book_check_new ?ze ?z0 ?z1 ?z2 ?z3 ?_); (case ze => exact rfl); (case z0 => walk_at "sd"); (case z1 => walk_at "sd"); (case z2 => walk_at "sd"); (case z3 => walk_at "sd"))
  | ((with_reducible refine' r_Book_covers_its_causes ?ze ?z0 ?z1 ?z2 ?z3 ?z4 ?z5 ?z6 ?_); (case ze => exact rfl); (case z0 => walk_at "sd"); (case z1 => walk_at "sd"); (case z2 => walk_at "sd"); (case z3 => walk_at "sd"); (case z4 => walk_at "as"); (case z5 => walk_at "as"); (case z6 => walk_at "as"))
  | ((with_reducible refine' r_Book_keep ?ze ?z0 ?z1 ?z2 ?z3 ?z4 ?z5 ?z6 ?z7 ?z8 ?z9 ?z10 ?z11 ?_); (case ze => exact rfl); (case z0 => walk_at "sd"); (case z1 => walk_at "sd"); (case z2 => walk_at "sd"); (case z3 => walk_at "sd"); (case z4 => walk_at "sd"); (case z5 => walk_at "sd"); (case z6 => walk_at "sd"); (case z7 => walk_at "sd"); (case z8 => walk_at "as"); (case z9 => walk_at "as"); (case z10 => walk_at "as"); (case z11 => walk_at "sd"))
  | ((with_reducible refine' r_is_told_otherwise ?ze ?z0 ?z1 ?z2 ?z3 ?z4 ?_); (case ze => exact rfl); (case z0 => walk_at "lk"); (case z1 => walk_at "sd"); (case z2 => walk_at "lk"); (case z3 => walk_at "sd"); (case z4 => walk_at "sd"))
  | ((with_reducible refine' r_Course_init ?ze ?z0 ?z1 ?z2 ?_); (case ze => exact rfl); (case z0 => walk_at "lk"); (case z1 => walk_at "sd"); (case z2 => walk_at "sd"))
  | ((with_reducible refine' r_Course_deliver ?ze ?z0 ?z1 ?z2 ?z3 ?z4 ?z5 ?z6 ?_); (case ze => exact rfl); (case z0 => walk_at "sd"); (case z1 => walk_at "lk"); (case z2 => walk_at "sd"); (case z3 => walk_at "sd"); (case z4 => walk_at "sd"); (case z5 => walk_at "sd"); (case z6 => walk_at "sd"))
  | ((with_reducible refine' r_Course_send ?ze ?z0 ?z1 ?z2 ?z3 ?z4 ?z5 ?z6 ?z7 ?_); (case ze => exact rfl); (case z0 => walk_at "sd"); (case z1 => walk_at "sd"); (case z2 => walk_at "sd"); (case z3 => walk_at "sd"); (case z4 => walk_at "sd"); (case z5 => walk_at "sd"); (case z6 => walk_at "sd"); (case z7 => walk_at "sd"))
  | ((with_reducible refine' r_Course_happen ?ze ?z0 ?z1 ?z2 ?z3 ?z4 ?z5 ?z6 ?z7 ?z8 ?_); (case ze => exact rfl); (case z0 => walk_at "sd"); (case z1 => walk_at "sd"); (case z2 => walk_at "lk"); (case z3 => walk_at "sd"); (case z4 => walk_at "sd"); (case z5 => walk_at "sd"); (case z6 => walk_at "sd"); (case z7 => walk_at "sd"); (case z8 => walk_at "sd"))
  | ((with_reducible refine' r_Course_why_not_got ?ze ?z0 ?z1 ?z2 ?z3 ?z4 ?z5 ?z6 ?z7 ?_); (case ze => exact rfl); (case z0 => walk_at "sd"); (case z1 => walk_at "sd"); (case z2 => walk_at "lk"); (case z3 => walk_at "sd"); (case z4 => walk_at "sd"); (case z5 => walk_at "sd"); (case z6 => walk_at "sd"); (case z7 => walk_at "sd"))
  | ((with_reducible refine' r_Course_why_not_told ?ze ?z0 ?z1 ?z2 ?z3 ?z4 ?z5 ?z6 ?z7 ?z8 ?z9 ?_); (case ze => exact rfl); (case z0 => walk_at "sd"); (case z1 => walk_at "sd"); (case z2 => walk_at "lk"); (case z3 => walk_at "sd"); (case z4 => walk_at "sd"); (case z5 => walk_at "sd"); (case z6 => walk_at "sd"); (case z7 => walk_at "sd"); (case z8 => walk_at "sd"); (case z9 => walk_at "sd"))
  | ((with_reducible refine' r_Course_why_not ?ze ?z0 ?z1 ?z2 ?z3 ?z4 ?z5 ?z6 ?_); (case ze => exact rfl); (case z0 => walk_at "sd"); (case z1 => walk_at "sd"); (case z2 => walk_at "lk"); (case z3 => walk_at "sd"); (case z4 => walk_at "sd"); (case z5 => walk_at "sd"); (case z6 => walk_at "sd"))
  | ((with_reducible refine' r_Course_follow ?ze ?z0 ?z1 ?z2 ?z3 ?z4 ?z5 ?z6 ?z7 ?z8 ?z9 ?_); (case ze => exact rfl); (case z0 => walk_at "sd"); (case z1 => walk_at "sd"); (case z2 => walk_at "sd"); (case z3 => walk_at "sd"); (case z4 => walk_at "as"); (case z5 => walk_at "sd"); (case z6 => walk_at "sd"); (case z7 => walk_at "sd"); (case z8 => walk_at "sd"); (case z9 => walk_at "sd"))
  | ((with_reducible refine' r_first_wrong ?ze ?z0 ?z1 ?z2 ?z3 ?z4 ?_); (case ze => exact rfl); (case z0 => walk_at "sd"); (case z1 => walk_at "sd"); (case z2 => walk_at "sd"); (case z3 => walk_at "sd"); (case z4 => walk_at "sd"))
  | ((with_reducible refine' r_law_cell_at ?ze ?z0 ?z1 ?z2 ?_); (case ze => exact rfl); (case z0 => walk_at "sq"); (case z1 => walk_at "sd"); (case z2 => walk_at "sd"))
  | ((with_reducible refine' r_law_pool ?ze  ?_); (case ze => exact rfl))
  | ((with_reducible refine' r_law_take ?ze ?z0 ?z1 ?z2 ?_); (case ze => exact rfl); (case z0 => walk_at "lk"); (case z1 => walk_at "sd"); (case z2 => walk_at "sd"))
  | ((with_reducible refine' r_law_model ?ze ?z0 ?z1 ?_); (case ze => exact rfl); (case z0 => walk_at "sd"); (case z1 => walk_at "sd"))
  | ((with_reducible refine' r_law_otherwise ?ze ?z0 ?z1 ?z2 ?z3 ?z4 ?z5 ?_); (case ze => exact rfl); (case z0 => walk_at "sd"); (case z1 => walk_at "sd"); (case z2 => walk_at "sd"); (case z3 => walk_at "sd"); (case z4 => walk_at "lk"); (case z5 => walk_at "sd"))
  | ((with_reducible refine' r_law_has ?ze ?z0 ?z1 ?z2 ?z3 ?z4 ?_); (case ze => exact rfl); (case z0 => walk_at "sd"); (case z1 => walk_at "lk"); (case z2 => walk_at "sd"); (case z3 => walk_at "lk"); (case z4 => walk_at "sd"))
  | ((with_reducible refine' r_law_why_got ?ze ?z0 ?z1 ?z2 ?z3 ?z4 ?_); (case ze => exact rfl); (case z0 => walk_at "sd"); (case z1 => walk_at "sd"); (case z2 => walk_at "sd"); (case z3 => walk_at "sd"); (case z4 => walk_at "lk"))
  | ((with_reducible refine' r_law_why ?ze ?z0 ?z1 ?z2 ?z3 ?z4 ?z5 ?_); (case ze => exact rfl); (case z0 => walk_at "sd"); (case z1 => walk_at "sd"); (case z2 => walk_at "sd"); (case z3 => walk_at "sd"); (case z4 => walk_at "lk"); (case z5 => walk_at "sd"))
  | ((with_reducible refine' r_law_go ?ze ?z0 ?z1 ?z2 ?z3 ?z4 ?z5 ?_); (case ze => exact rfl); (case z0 => walk_at "sd"); (case z1 => walk_at "sd"); (case z2 => walk_at "sd"); (case z3 => walk_at "sd"); (case z4 => walk_at "lk"); (case z5 => walk_at "sd"))
  | ((with_reducible refine' r_law_may ?ze ?z0 ?z1 ?z2 ?z3 ?z4 ?_); (case ze => exact rfl); (case z0 => walk_at "sd"); (case z1 => walk_at "sd"); (case z2 => walk_at "sd"); (case z3 => walk_at "sd"); (case z4 => walk_at "sd"))
  | ((with_reducible refine' r_law_word ?ze ?z0 ?_); (case ze => exact rfl); (case z0 => walk_at "lk"))
  | ((with_reducible refine' r_law_new_row ?ze ?z0 ?z1 ?z2 ?z3 ?z4 ?z5 ?z6 ?_); (case ze => exact rfl); (case z0 => walk_at "sd"); (case z1 => walk_at "sd"); (case z2 => walk_at "sd"); (case z3 => walk_at "sd"); (case z4 => walk_at "sd"); (case z5 => walk_at "lk"); (case z6 => walk_at "as"))
  | ((with_reducible refine' r_law_rows ?ze ?z0 ?z1 ?_); (case ze => exact rfl); (case z0 => walk_at "sq"); (case z1 => walk_at "sd"))
  | ((with_reducible refine' r_Book_twin ?ze ?z0 ?z1 ?z2 ?z3 ?z4 ?_); (case ze => exact rfl); (case z0 => walk_at "sd"); (case z1 => walk_at "sd"); (case z2 => walk_at "sd"); (case z3 => walk_at "sd"); (case z4 => walk_at "sd"))
  | ((with_reducible refine' r_Course_book ?ze ?z0 ?z1 ?z2 ?z3 ?z4 ?_); (case ze => exact rfl); (case z0 => walk_at "sd"); (case z1 => walk_at "sd"); (case z2 => walk_at "sd"); (case z3 => walk_at "sd"); (case z4 => walk_at "sd"))
  | ((with_reducible refine' r_Course_got ?ze ?z0 ?z1 ?_); (case ze => exact rfl); (case z0 => walk_at "sd"); (case z1 => walk_at "sd"))
  | ((with_reducible refine' r_Course_told ?ze ?z0 ?z1 ?_); (case ze => exact rfl); (case z0 => walk_at "sd"); (case z1 => walk_at "sd"))
  | ((with_reducible refine' r_course_of ?ze ?z0 ?z1 ?z2 ?z3 ?z4 ?z5 ?_); (case ze => exact rfl); (case z0 => walk_at "sd"); (case z1 => walk_at "sd"); (case z2 => walk_at "sd"); (case z3 => walk_at "sd"); (case z4 => walk_at "sd"); (case z5 => walk_at "sd"))
  | ((with_reducible refine' r_book_of ?ze ?z0 ?z1 ?z2 ?z3 ?z4 ?z5 ?_); (case ze => exact rfl); (case z0 => walk_at "sd"); (case z1 => walk_at "sd"); (case z2 => walk_at "sd"); (case z3 => walk_at "sd"); (case z4 => walk_at "sd"); (case z5 => walk_at "sd"))
  | ((with_reducible refine' r_got_by ?ze ?z0 ?z1 ?z2 ?z3 ?z4 ?z5 ?z6 ?_); (case ze => exact rfl); (case z0 => walk_at "sd"); (case z1 => walk_at "sd"); (case z2 => walk_at "sd"); (case z3 => walk_at "sd"); (case z4 => walk_at "sd"); (case z5 => walk_at "sd"); (case z6 => walk_at "sd"))
  | ((with_reducible refine' r_told_by ?ze ?z0 ?z1 ?z2 ?z3 ?z4 ?z5 ?z6 ?_); (case ze => exact rfl); (case z0 => walk_at "sd"); (case z1 => walk_at "sd"); (case z2 => walk_at "sd"); (case z3 => walk_at "sd"); (case z4 => walk_at "sd"); (case z5 => walk_at "sd"); (case z6 => walk_at "sd"))
  | ((with_reducible refine' r_longest_told ?ze ?z0 ?z1 ?z2 ?z3 ?z4 ?z5 ?_); (case ze => exact rfl); (case z0 => walk_at "sd"); (case z1 => walk_at "sd"); (case z2 => walk_at "sd"); (case z3 => walk_at "sd"); (case z4 => walk_at "sd"); (case z5 => walk_at "sd"))
  | ((with_reducible refine' r_Book_is_order ?ze ?z0 ?z1 ?z2 ?z3 ?z4 ?z5 ?z6 ?z7 ?z8 ?_); (case ze => exact rfl); (case z0 => walk_at "sd"); (case z1 => walk_at "sd"); (case z2 => walk_at "lk"); (case z3 => walk_at "sd"); (case z4 => walk_at "sd"); (case z5 => walk_at "sd"); (case z6 => walk_at "sd"); (case z7 => walk_at "sd"); (case z8 => walk_at "sd"))
  | ((with_reducible refine' r_law_left ?ze ?z0 ?z1 ?z2 ?z3 ?z4 ?z5 ?z6 ?_); (case ze => exact rfl); (case z0 => walk_at "sd"); (case z1 => walk_at "sd"); (case z2 => walk_at "lk"); (case z3 => walk_at "sd"); (case z4 => walk_at "as"); (case z5 => walk_at "sd"); (case z6 => walk_at "sd"))
  | ((with_reducible refine' r_law_keeps ?ze ?z0 ?z1 ?z2 ?z3 ?z4 ?z5 ?z6 ?z7 ?_); (case ze => exact rfl); (case z0 => walk_at "sd"); (case z1 => walk_at "sd"); (case z2 => walk_at "lk"); (case z3 => walk_at "sd"); (case z4 => walk_at "sd"); (case z5 => walk_at "sd"); (case z6 => walk_at "sd"); (case z7 => walk_at "sd"))
  | ((with_reducible refine' r_law ?ze ?z0 ?z1 ?_); (case ze => exact rfl); (case z0 => walk_at "sq"); (case z1 => walk_at "sd"))
  | fail)
set_option hygiene true
section
variable {P : Program} [PF P] {w : World} {K : PySem.W.Frag} {mg : Str → Option Value} {base : Heap}

theorem ok_is_whole (T : Tx K mg) : FnOk P w K mg base CX0 1 T.f_is_whole T.d_is_whole ["thing", "low", "high"] (sp_is_whole K) := by
  refine T.F_is_whole.ok sc_is_whole (fun vs H Q E h => ?_) (fun cdv A outer s H vs Q E hr h => ?_)
  · rcases h with ⟨n, a, rfl, k⟩ | ⟨n, a, b, rfl, k⟩
    all_goals rfl
  · have hu := hu_of hr
    refine ⟨_, (pss_cons (ps_if (PW.pt (pw_or (pt_not (pt_val (pe_callB (id := "isinstance") (kx_isi (K := K) rfl) (by rfl) T.z_isinstance (by decide +kernel) (pa_cons (pv 0) (pa_cons (pe_bltn (v := .ty "int") (u := .type "int") (by rfl) T.z_int (by decide +kernel) rfl) (pa_nil)))))) (pw_or1 (pt_val (pe_callB (id := "isinstance") (kx_isi (K := K) rfl) (by rfl) T.z_isinstance (by decide +kernel) (pa_cons (pv 0) (pa_cons (pe_bltn (v := .ty "bool") (u := .type "bool") (by rfl) T.z_bool (by decide +kernel) rfl) (pa_nil))))))))
      (pss_one (ps_ret pe_bl)) pss_nil)
      (pss_one (ps_ret (pe_and (pe_cmpR op_le (pv 1) (pv 0) (nomark _)) (pe_one (pe_or (pe_cmpR op_isNon (pv 2) pe_non (nomark _)) (pe_one (pe_cmpR op_le (pv 0) (pv 2) (nomark _))))))))), ?_⟩
    rcases h with ⟨n, a, rfl, k⟩ | ⟨n, a, b, rfl, k⟩
    · walk_at "rdx"
      all_goals exact R_of k (by walk_at "sv")
    · walk_at "rdx"
      all_goals exact R_of k (by walk_at "sv")
theorem ok_is_text_of (T : Tx K mg) : FnOk P w K mg base CX0 1 T.f_is_text_of T.d_is_text_of ["thing", "first", "last", "most"] (sp_is_text_of K) := by
  refine T.F_is_text_of.ok sc_is_text_of (fun vs H Q E h => ?_) (fun cdv A outer s H vs Q E hr h => ?_)
  · rcases h with ⟨s, f, l, lo, hi, m, rfl, hl, hf, hg, k⟩
    all_goals rfl
  · have hu := hu_of hr
    refine ⟨_, (pss_cons (ps_if (PW.pt (pw_or (pt_not (pt_val (pe_callB (id := "isinstance") (kx_isi (K := K) rfl) (by rfl) T.z_isinstance (by decide +kernel) (pa_cons (pv 0) (pa_cons (pe_bltn (v := .ty "str") (u := .type "str") (by rfl) T.z_str (by decide +kernel) rfl) (pa_nil)))))) (pw_or1 (pt_not (pt_chain op_le op_le pe_int (pe_callB (id := "len") (kx_len (K := K) rfl) (by rfl) T.z_len (by decide +kernel) (pa_cons (pv 0) (pa_nil))) (pv 3))))))
      (pss_one (ps_ret pe_bl)) pss_nil)
      (pss_one (ps_ret (pe_callB (id := "all") (kx_all (K := K) rfl rfl) (by rfl) T.z_all (by decide +kernel) (pa_cons (pe_lc (own := [("sign", 4)]) (g := gName 4) (tt := tYes) rfl sc_is_text_of.nd (pi_str (pv 0)) (blkOk_by (own := [("sign", 4)]) (N := ["thing", "first", "last", "most", "sign"]) (sc := defScope s_is_text_of) (by decide +kernel)) (fun _ _ _ _ _ => (pg_name (i := 4) sc_is_text_of.nd rfl (Or.inl rfl))) (fun _ _ _ _ _ => pts_nil) (fun _ _ _ _ _ => (pe_chain op_leStr op_leStr (pv 1) (pv 4) (pv 2)))) (pa_nil)))))), ?_⟩
    rcases h with ⟨s, f, l, lo, hi, m, rfl, hl, hf, hg, k⟩
    walk_at "rdx"
    · refine lc_signsB (fun c => decide (lo ≤ c) && decide (c ≤ hi)) (by omega) (by assumption) ?_ ?_
      · intro c H2 R s2 hR
        walk_at "rdx"
        all_goals exact R_of (hR H2 (Same.refl H2)) (by walk_at "sv")
      · intro H' s2 e
        walk_at "rd"
        exact R_of (k H' s2) (by unfold textB; simp_all [List.all_map])
    all_goals exact R_of (k H (Same.refl H)) (by unfold textB; walk_at "sv")
theorem ok_is_word (T : Tx K mg) : FnOk P w K mg base CX0 2 T.f_is_word T.d_is_word ["thing"] (sp_is_word K) := by
  refine T.F_is_word.ok sc_is_word (fun vs H Q E h => ?_) (fun cdv A outer s H vs Q E hr h => ?_)
  · rcases h with ⟨s, rfl, hl, k⟩
    all_goals rfl
  · have hu := hu_of hr
    refine ⟨_, (pss_one (ps_ret (pe_call (ok_is_text_of (P := P) T) (hr.mono (by decide)) rfl T.m_is_text_of T.k_is_text_of T.b_is_text_of .nil pass0 (pa_cons (pv 0) (pa_cons pe_str (pa_cons pe_str (pa_cons (pe_glob (v := .int 8) rfl T.g_MOST_SIGNS ⟨_, rfl⟩) (pa_nil)))))))), ?_⟩
    rcases h with ⟨s, rfl, hl, k⟩
    walk_at "rd"
    exact k _ (by assumption)
theorem ok_is_list (T : Tx K mg) : FnOk P w K mg base CX0 1 T.f_is_list T.d_is_list ["thing"] (sp_is_list K) := by
  refine T.F_is_list.ok sc_is_list (fun vs H Q E h => ?_) (fun cdv A outer s H vs Q E hr h => ?_)
  · rcases h with ⟨x, t, b, rfl, ht, hk, k⟩
    all_goals rfl
  · have hu := hu_of hr
    refine ⟨_, (pss_one (ps_ret (pe_callB (id := "isinstance") (kx_isiT (K := K) rfl) (by rfl) T.z_isinstance (by decide +kernel) (pa_cons (pv 0) (pa_cons (pe_tup (pa_cons (pe_bltn (v := .ty "list") (u := .type "list") (by rfl) T.z_list (by decide +kernel) rfl) (pa_cons (pe_bltn (v := .ty "tuple") (u := .type "tuple") (by rfl) T.z_tuple (by decide +kernel) rfl) (pa_nil)))) (pa_nil)))))), ?_⟩
    rcases h with ⟨x, t, b, rfl, ht, hk, k⟩
    (repeat walk_at "rd0")
    intro q hq
    with_reducible refine q_nil ?_
    refine q_isiT (us := [.type "list", .type "tuple"]) upd_same (.cons (.ty _) (.cons (.ty _) .nil)) (TyX.mono ht (Same.snew (Same.refl H) hq)) hk ?_
    exact k _ (Same.snew (Same.refl H) hq)
theorem ok_is_member (T : Tx K mg) : FnOk P w K mg base CX0 2 T.f_is_member T.d_is_member ["thing", "members"] (sp_is_member K) := by
  refine T.F_is_member.ok sc_is_member (fun vs H Q E h => ?_) (fun cdv A outer s H vs Q E hr h => ?_)
  · rcases h with ⟨n, m, rfl, h0, h1, k⟩
    all_goals rfl
  · have hu := hu_of hr
    refine ⟨_, (pss_one (ps_ret (pe_call (ok_is_whole (P := P) T) (hr.mono (by decide)) rfl T.m_is_whole T.k_is_whole T.b_is_whole .nil pass0 (pa_cons (pv 0) (pa_cons pe_int (pa_cons (pe_op op_sub (pv 1) pe_int) (pa_nil))))))), ?_⟩
    rcases h with ⟨n, m, rfl, h0, h1, k⟩
    walk_at "rdx"
    exact R_of k (by simp [h0, h1])
theorem ok_is_ident (T : Tx K mg) : FnOk P w K mg base CX0 3 T.f_is_ident T.d_is_ident ["thing", "members", "high"] (sp_is_ident K) := by
  refine T.F_is_ident.ok sc_is_ident (fun vs H Q E h => ?_) (fun cdv A outer s H vs Q E hr h => ?_)
  · rcases h with ⟨t, kk, n, m, rfl, ht, h0, h1, h2, k⟩
    all_goals rfl
  · have hu := hu_of hr
    refine ⟨_, (pss_cons (ps_if (PW.pt (pw_or (pt_not (pt_val (pe_callB (id := "isinstance") (kx_isi (K := K) rfl) (by rfl) T.z_isinstance (by decide +kernel) (pa_cons (pv 0) (pa_cons (pe_bltn (v := .ty "tuple") (u := .type "tuple") (by rfl) T.z_tuple (by decide +kernel) rfl) (pa_nil)))))) (pw_or1 (pt_cmpR op_ne (pe_callB (id := "len") (kx_len (K := K) rfl) (by rfl) T.z_len (by decide +kernel) (pa_cons (pv 0) (pa_nil))) pe_int (nomark _)))))
      (pss_one (ps_ret pe_bl)) pss_nil)
      (pss_one (ps_ret (pe_and (pe_call (ok_is_member (P := P) T) (hr.mono (by decide)) rfl T.m_is_member T.k_is_member T.b_is_member .nil pass0 (pa_cons (pe_ix (ki_tup (K := K) rfl) (pv 0) pe_int (fun _ _ => rfl)) (pa_cons (pv 1) (pa_nil)))) (pe_one (pe_call (ok_is_whole (P := P) T) (hr.mono (by decide)) rfl T.m_is_whole T.k_is_whole T.b_is_whole .nil pass0 (pa_cons (pe_ix (ki_tup (K := K) rfl) (pv 0) pe_int (fun _ _ => rfl)) (pa_cons pe_int (pa_cons (pv 2) (pa_nil)))))))))), ?_⟩
    rcases h with ⟨t, kk, n, m, rfl, ht, h0, h1, h2, k⟩
    walk_at "rdx"
    exact R_of k (by simp [h2])
theorem ok_check_members (T : Tx K mg) : FnOk P w K mg base CX0 3 T.f_check_members T.d_check_members ["members"] (sp_check_members K) := by
  refine T.F_check_members.ok sc_check_members (fun vs H Q E h => ?_) (fun cdv A outer s H vs Q E hr h => ?_)
  · rcases h with ⟨m, rfl, h2, h5, k⟩
    all_goals rfl
  · have hu := hu_of hr
    refine ⟨_, (pss_one (ps_if (pt_not (pt_val (pe_call (ok_is_whole (P := P) T) (hr.mono (by decide)) rfl T.m_is_whole T.k_is_whole T.b_is_whole .nil pass0 (pa_cons (pv 0) (pa_cons (pe_glob (v := .int 2) rfl T.g_LEAST_MEMBERS ⟨_, rfl⟩) (pa_cons (pe_glob (v := .int 5) rfl T.g_MOST_MEMBERS ⟨_, rfl⟩) (pa_nil)))))))
      (pss_one ps_never) pss_nil)), ?_⟩
    rcases h with ⟨m, rfl, h2, h5, k⟩
    walk_at "rdx"
    all_goals exact k
theorem ok_is_row (T : Tx K mg) : FnOk P w K mg base CX0 4 T.f_is_row T.d_is_row ["thing", "members"] (sp_is_row K) := by
  refine T.F_is_row.ok sc_is_row (fun vs H Q E h => ?_) (fun cdv A outer s H vs Q E hr h => ?_)
  · rcases h with ⟨t, ρ, M, rfl, ht, hg, k⟩
    all_goals rfl
  · have hu := hu_of hr
    refine ⟨_, (pss_cons (ps_if (PW.pt (pw_or (pt_not (pt_val (pe_callB (id := "isinstance") (kx_isi (K := K) rfl) (by rfl) T.z_isinstance (by decide +kernel) (pa_cons (pv 0) (pa_cons (pe_bltn (v := .ty "tuple") (u := .type "tuple") (by rfl) T.z_tuple (by decide +kernel) rfl) (pa_nil)))))) (pw_or (pt_cmpR op_lt (pe_callB (id := "len") (kx_len (K := K) rfl) (by rfl) T.z_len (by decide +kernel) (pa_cons (pv 0) (pa_nil))) pe_int (nomark _)) (pw_or1 (pt_not (pt_val (pe_call (ok_is_member (P := P) T) (hr.mono (by decide)) rfl T.m_is_member T.k_is_member T.b_is_member .nil pass0 (pa_cons (pe_ix (ki_tup (K := K) rfl) (pv 0) pe_int (fun _ _ => rfl)) (pa_cons (pv 1) (pa_nil))))))))))
      (pss_one (ps_ret pe_bl)) pss_nil)
      (pss_cons (ps_if (pt_cmpR op_eq (pe_ix (ki_tup (K := K) rfl) (pv 0) pe_int (fun _ _ => rfl)) pe_str (nomark _))
      (pss_one (ps_ret (pe_and (pe_cmpR op_eq (pe_callB (id := "len") (kx_len (K := K) rfl) (by rfl) T.z_len (by decide +kernel) (pa_cons (pv 0) (pa_nil))) pe_int (nomark _)) (pe_one (pe_call (ok_is_word (P := P) T) (hr.mono (by decide)) rfl T.m_is_word T.k_is_word T.b_is_word .nil pass0 (pa_cons (pe_ix (ki_tup (K := K) rfl) (pv 0) pe_int (fun _ _ => rfl)) (pa_nil))))))) pss_nil)
      (pss_cons (ps_if (pt_cmpR op_eq (pe_ix (ki_tup (K := K) rfl) (pv 0) pe_int (fun _ _ => rfl)) pe_str (nomark _))
      (pss_one (ps_ret (pe_call (ok_is_ident (P := P) T) (hr.mono (by decide)) rfl T.m_is_ident T.k_is_ident T.b_is_ident_2 T.v_is_ident_2 pass0 (pa_cons (pe_slice (ks_tup (K := K) rfl) (pv 0) (po_some pe_int) po_none) (pa_cons (pv 1) (pa_nil)))))) pss_nil)
      (pss_one (ps_ret (pe_and (pe_cmpR op_eq (pe_ix (ki_tup (K := K) rfl) (pv 0) pe_int (fun _ _ => rfl)) pe_str (nomark _)) (pe_and (pe_call (ok_is_whole (P := P) T) (hr.mono (by decide)) rfl T.m_is_whole T.k_is_whole T.b_is_whole_2 T.v_is_whole_2 pass0 (pa_cons (pe_ix (ki_tup (K := K) rfl) (pv 0) pe_int (fun _ _ => rfl)) (pa_cons pe_int (pa_nil)))) (pe_one (pe_call (ok_is_ident (P := P) T) (hr.mono (by decide)) rfl T.m_is_ident T.k_is_ident T.b_is_ident_2 T.v_is_ident_2 pass0 (pa_cons (pe_slice (ks_tup (K := K) rfl) (pv 0) (po_some pe_int) po_none) (pa_cons (pv 1) (pa_nil)))))))))))), ?_⟩
    rcases h with ⟨t, ρ, M, rfl, ht, hg, k⟩
    have n1 : ¬ (Str.ofString "got" = Str.ofString "sent") := by decide +kernel
    have n2 : ¬ (Str.ofString "told" = Str.ofString "sent") := by decide +kernel
    have n3 : ¬ (Str.ofString "told" = Str.ofString "got") := by decide +kernel
    cases ρ with
    | sent m w =>
      obtain ⟨g0, g1, g2, g3⟩ := hg
      have ht : H t = some (.tup [.str "sent", .int m, .str w]) := ht
      walk_at "rdn"
      intro H1 s1
      exact R_of (k _ s1) (by rw [g3])
    | got m s n =>
      obtain ⟨g0, g1, g2, g3, g4⟩ := hg
      have ht : H t = some (.tup [.str "got", .int m, .int s, .int n]) := ht
      walk_at "rdn"
      refine q_slTe (ys := [.int s, .int n]) (SqT.of ht) (show ¬ (HT.sIx 4 0 (some 2) = 0 ∧ HT.sIx 4 4 none = 4) by decide) rfl ?_
      intro d hd
      walk_at "rdn"
      exact k _ (Same.new hd)
    | told m p s n =>
      obtain ⟨g0, g1, g2, g3, g4, g5⟩ := hg
      have ht : H t = some (.tup [.str "told", .int m, .int p, .int s, .int n]) := ht
      walk_at "rdn"
      refine q_slTe (ys := [.int s, .int n]) (SqT.of ht) (show ¬ (HT.sIx 5 0 (some 3) = 0 ∧ HT.sIx 5 5 none = 5) by decide) rfl ?_
      intro d hd
      walk_at "rdn"
      exact k _ (Same.new hd)
theorem ok_is_history (T : Tx K mg) : FnOk P w K mg base CX0 5 T.f_is_history T.d_is_history ["members", "rows"] (sp_is_history K) := by
  refine T.F_is_history.ok sc_is_history (fun vs H Q E h => ?_) (fun cdv A outer s H vs Q E hr h => ?_)
  · rcases h with ⟨a, xs, rs, M, rfl, h2, h5, ha, hx, hg, k⟩
    all_goals rfl
  · have hu := hu_of hr
    refine ⟨_, (pss_cons (ps_expr (pe_call (ok_check_members (P := P) T) (hr.mono (by decide)) rfl T.m_check_members T.k_check_members T.b_check_members .nil pass0 (pa_cons (pv 0) (pa_nil))))
      (pss_cons (ps_if (PW.pt (pw_or (pt_not (pt_val (pe_call (ok_is_list (P := P) T) (hr.mono (by decide)) rfl T.m_is_list T.k_is_list T.b_is_list .nil pass0 (pa_cons (pv 1) (pa_nil))))) (pw_or1 (pt_cmpR op_gt (pe_callB (id := "len") (kx_len (K := K) rfl) (by rfl) T.z_len (by decide +kernel) (pa_cons (pv 1) (pa_nil))) (pe_glob (v := .int 400) rfl T.g_MOST_ROWS ⟨_, rfl⟩) (nomark _)))))
      (pss_one (ps_ret pe_bl)) pss_nil)
      (pss_cons (ps_if (pt_not (pt_val (pe_callB (id := "all") (kx_all (K := K) rfl rfl) (by rfl) T.z_all (by decide +kernel) (pa_cons (pe_lc (own := [("row", 2)]) (g := gName 2) (tt := tYes) rfl sc_is_history.nd (kpi_seq (K := K) rfl (pv 1)) (blkOk_by (own := [("row", 2)]) (N := ["members", "rows", "row"]) (sc := defScope s_is_history) (by decide +kernel)) (fun _ _ _ _ _ => (pg_name (i := 2) sc_is_history.nd rfl (Or.inl rfl))) (fun _ _ _ _ _ => pts_nil) (fun _ _ _ _ _ => (pe_call (ok_is_row (P := P) T) (hr.mono (by decide)) rfl T.m_is_row T.k_is_row T.b_is_row .nil pass0 (pa_cons (pv 2) (pa_cons (pv 0) (pa_nil)))))) (pa_nil)))))
      (pss_one (ps_ret pe_bl)) pss_nil)
      (pss_one (ps_ret (pe_cmpR op_le (pe_callB (id := "len") (kx_len (K := K) rfl) (by rfl) T.z_len (by decide +kernel) (pa_cons (pe_lc (own := [("row", 2)]) (g := gName 2) rfl sc_is_history.nd (kpi_seq (K := K) rfl (pv 1)) (blkOk_by (own := [("row", 2)]) (N := ["members", "rows", "row"]) (sc := defScope s_is_history) (by decide +kernel)) (fun _ _ _ _ _ => (pg_name (i := 2) sc_is_history.nd rfl (Or.inl rfl))) (fun _ _ _ _ _ => (pts_one (pt_cmpR op_eq (pe_ix (ki_tup (K := K) rfl) (pv 2) pe_int (fun _ _ => rfl)) pe_str (nomark _)))) (fun _ _ _ _ _ => (pv 2))) (pa_nil))) (pe_glob (v := .int 30) rfl T.g_MOST_LETTERS ⟨_, rfl⟩) (nomark _))))))), ?_⟩
    rcases h with ⟨a, xs, rs, M, rfl, h2, h5, ha, hx, hg, k⟩
    have hlx := hx.len
    have hlr := hg.len
    have hall : ∀ (i : Nat) (ρ : RowD), rs[i]? = some ρ → ρ.Good M := fun i ρ h => hg.all ρ (List.mem_of_getElem? h)
    rcases ha with ha | ha
    · walk_at "rdn"
      intro H1 s1
      have ha := s1 _ _ ha
      have hx := RowAt.all hx s1
      have hlr2 : (xs.length : Int) ≤ 400 := by omega
      walk_at "rdn"
      refine q_seqL ?_
      walk_at "rdn"
      intro D hD
      refine lc_any walk_list (fun i ys _ => ys = List.replicate i (V.bl true)) (by omega) (fun _ _ _ _ h _ => h) (fun _ _ _ _ h => h) rfl (fun H' s => SqL.of (s _ _ ha)) hD ?_ ?_ gName_m tYes_m
      · rintro i v ys B1 B2 R R2 hi s6 hP hDB ⟨rfl, hv⟩ hR hR2
        obtain ⟨ρ, hρ, ok, t, rfl, ht⟩ := hx.get hv
        have gg := hall i ρ hρ
        refine ⟨wipe_set, q_yes ⟨hR true _ (Same.refl _) (fun h => nomatch h), fun _ => ?_⟩⟩
        walk_at "rdn"
        intro H2 s2
        exact hR2 _ _ s2 (by rw [hP, List.replicate_succ'])
      · intro ys B1 s6 hP hD3
        rw [rep_true] at hP
        subst hP
        walk_at "rdn"
        rw [all_rep]
        walk_at "rdn"
        refine q_seqL ?_
        walk_at "rdn"
        intro D2 hD2
        refine lc_any walk_list (fun i ys _ => ys.length = nSent (rs.take i)) (by omega) (fun _ _ _ _ h _ => h) (fun _ _ _ _ h => h) rfl (fun H' s => SqL.of (s _ _ (s6 _ _ ha))) hD2 ?_ ?_ gName_m tTestIxC_m
        · rintro i v ys B1 B2 R R2 hi s7 hP hDB ⟨rfl, hv⟩ hR hR2
          obtain ⟨ρ, hρ, ok, t, rfl, ht⟩ := hx.get hv
          have ht := s7 _ _ (s6 _ _ ht)
          refine ⟨wipe_set, ?_⟩
          walk_at "rdn"
          refine q_ixT (SqT.of ht) RowD.at0 ?_
          walk_at "rdn"
          rw [RowD.kind_sent]
          refine ⟨hR _ _ (Same.refl _) (fun hb => by rw [nSent_step hρ, hb]; exact hP), fun hb => ?_⟩
          walk_at "rdn"
          exact hR2 _ _ (Same.refl _) (by rw [nSent_step hρ, hb, List.length_append, hP]; rfl)
        · intro ys B2 s7 hP hD4
          walk_at "rdn"
          rw [List.take_of_length_le (by omega)] at hP
          have hsn := hg.snt
          exact R_of (k _ (s1.trans (s6.trans s7))) (by rw [decide_eq_true (by omega)])
    · walk_at "rdn"
      refine r_is_list rfl (ht := .base (.tup ha)) (hk := ka_f kt_tuple_list (ka_t kt_tuple_tuple)) ?_
      intro H1 s1
      have ha := s1 _ _ ha
      have hx := RowAt.all hx s1
      have hlr2 : (xs.length : Int) ≤ 400 := by omega
      walk_at "rdn"
      refine q_seqT ?_
      walk_at "rdn"
      intro D hD
      refine lc_any walk_tup (fun i ys _ => ys = List.replicate i (V.bl true)) (by omega) (fun _ _ _ _ h _ => h) (fun _ _ _ _ h => h) rfl (fun H' s => SqT.of (s _ _ ha)) hD ?_ ?_ gName_m tYes_m
      · rintro i v ys B1 B2 R R2 hi s6 hP hDB ⟨rfl, hv⟩ hR hR2
        obtain ⟨ρ, hρ, ok, t, rfl, ht⟩ := hx.get hv
        have gg := hall i ρ hρ
        refine ⟨wipe_set, q_yes ⟨hR true _ (Same.refl _) (fun h => nomatch h), fun _ => ?_⟩⟩
        walk_at "rdn"
        intro H2 s2
        exact hR2 _ _ s2 (by rw [hP, List.replicate_succ'])
      · intro ys B1 s6 hP hD3
        rw [rep_true] at hP
        subst hP
        walk_at "rdn"
        rw [all_rep]
        walk_at "rdn"
        refine q_seqT ?_
        walk_at "rdn"
        intro D2 hD2
        refine lc_any walk_tup (fun i ys _ => ys.length = nSent (rs.take i)) (by omega) (fun _ _ _ _ h _ => h) (fun _ _ _ _ h => h) rfl (fun H' s => SqT.of (s _ _ (s6 _ _ ha))) hD2 ?_ ?_ gName_m tTestIxC_m
        · rintro i v ys B1 B2 R R2 hi s7 hP hDB ⟨rfl, hv⟩ hR hR2
          obtain ⟨ρ, hρ, ok, t, rfl, ht⟩ := hx.get hv
          have ht := s7 _ _ (s6 _ _ ht)
          refine ⟨wipe_set, ?_⟩
          walk_at "rdn"
          refine q_ixT (SqT.of ht) RowD.at0 ?_
          walk_at "rdn"
          rw [RowD.kind_sent]
          refine ⟨hR _ _ (Same.refl _) (fun hb => by rw [nSent_step hρ, hb]; exact hP), fun hb => ?_⟩
          walk_at "rdn"
          exact hR2 _ _ (Same.refl _) (by rw [nSent_step hρ, hb, List.length_append, hP]; rfl)
        · intro ys B2 s7 hP hD4
          walk_at "rdn"
          rw [List.take_of_length_le (by omega)] at hP
          have hsn := hg.snt
          exact R_of (k _ (s1.trans (s6.trans s7))) (by rw [decide_eq_true (by omega)])
theorem ok_check_history (T : Tx K mg) : FnOk P w K mg base CX0 6 T.f_check_history T.d_check_history ["members", "rows"] (sp_check_history K) := by
  refine T.F_check_history.ok sc_check_history (fun vs H Q E h => ?_) (fun cdv A outer s H vs Q E hr h => ?_)
  · rcases h with ⟨a, xs, rs, M, rfl, h2, h5, ha, hx, hg, k⟩
    all_goals rfl
  · have hu := hu_of hr
    refine ⟨_, (pss_one (ps_if (pt_not (pt_val (pe_call (ok_is_history (P := P) T) (hr.mono (by decide)) rfl T.m_is_history T.k_is_history T.b_is_history .nil pass0 (pa_cons (pv 0) (pa_cons (pv 1) (pa_nil))))))
      (pss_one ps_never) pss_nil)), ?_⟩
    rcases h with ⟨a, xs, rs, M, rfl, h2, h5, ha, hx, hg, k⟩
    walk_at "rdn"
    intro H1 s1
    walk_at "rdn"
    exact k _ s1
theorem ok_law_cell_at (T : Tx K mg) : FnOk P w K mg base CX0 1 T.f_law_cell_at T.d_law_cell_at ["script", "k"] (sp_law_cell_at K) := by
  refine T.F_law_cell_at.ok sc_law_cell_at (fun vs H Q E h => ?_) (fun cdv A outer s H vs Q E hr h => ?_)
  · rcases h with ⟨a, ns, n, rfl, hs, h0, hl, k⟩
    all_goals rfl
  · have hu := hu_of hr
    refine ⟨_, (pss_cons (ps_if (pt_cmpR op_lt (pv 1) (pe_callB (id := "len") (kx_len (K := K) rfl) (by rfl) T.z_len (by decide +kernel) (pa_cons (pv 0) (pa_nil))) (nomark _))
      (pss_one (ps_ret (pe_ix (ki_list (K := K) rfl) (pv 0) (pv 1) (fun _ _ => rfl)))) pss_nil)
      (pss_one (ps_ret pe_int))), ?_⟩
    rcases h with ⟨a, ns, n, rfl, hs, h0, hl, k⟩
    walk_at "rdn"
    refine q_ifx (fun hc => ?_) (fun hc => ?_)
    · obtain ⟨j, rfl⟩ := Int.eq_ofNat_of_zero_le h0
      simp only [List.length_map] at hc
      have hj : j < ns.length := by omega
      walk_at "rdn"
      exact k _
    · walk_at "rdn"
      exact k _
theorem ok_law_take (T : Tx K mg) : FnOk P w K mg base CX0 1 T.f_law_take T.d_law_take ["pool", "size"] (sp_law_take ) := by
  refine T.F_law_take.ok sc_law_take (fun vs H Q E h => ?_) (fun cdv A outer s H vs Q E hr h => ?_)
  · rcases h with ⟨p, n, m, rfl, hp, hm, hb, k⟩
    all_goals rfl
  · have hu := hu_of hr
    refine ⟨_, (pss_cons (ps_set (i := 2) sc_law_take.nd rfl (Or.inl rfl) (pe_op op_mod (pe_ix (ki_list (K := K) rfl) (pv 0) pe_int (fun _ _ => rfl)) (pv 1)))
      (pss_cons (ps_asg (pe_op op_fdivW (pe_ix (ki_list (K := K) rfl) (pv 0) pe_int (fun _ _ => rfl)) (pv 1)) (pg_sub (pv 0) pe_int set_list))
      (pss_one (ps_ret (pv 2))))), ?_⟩
    rcases h with ⟨p, n, m, rfl, hp, hm, hb, k⟩
    walk_at "rd"
    exact k
theorem ok_law_pool (T : Tx K mg) : FnOk P w K mg base CX0 1 T.f_law_pool T.d_law_pool ["cell"] (sp_law_pool ) := by
  refine T.F_law_pool.ok sc_law_pool (fun vs H Q E h => ?_) (fun cdv A outer s H vs Q E hr h => ?_)
  · rcases h with ⟨cell, rfl, k⟩
    all_goals rfl
  · have hu := hu_of hr
    refine ⟨_, (pss_cons (ps_if (pt_cmpR op_ge (pv 0) (pe_op op_pow pe_int pe_int) (nomark _))
      (pss_one (ps_ret (pe_lst (pa_cons (pv 0) (pa_nil))))) pss_nil)
      (pss_cons (ps_set (i := 1) sc_law_pool.nd rfl (Or.inl rfl) pe_int)
      (pss_cons (ps_for PassesOwn.never rfl (pi_range1 rfl T.z_range (pa_cons pe_int (pa_nil))) (pg_name (i := 2) sc_law_pool.nd rfl (Or.inl rfl))
      (pss_cons (ps_set (i := 3) sc_law_pool.nd rfl (Or.inl rfl) (pe_op op_mod (pe_op op_pow (pe_op op_add (pe_op op_add (pe_op op_mul (pe_op op_mod (pv 0) pe_int) pe_int) (pe_op op_mul pe_int (pv 2))) pe_int) pe_int) pe_int))
      (pss_one (ps_set (i := 1) sc_law_pool.nd rfl (Or.inl rfl) (pe_op op_add (pe_op op_mul (pv 1) pe_int) (pe_op op_mod (pe_op op_pow (pe_op op_add (pe_op op_mul (pv 3) pe_int) (pv 2)) pe_int) pe_int))))))
      (pss_one (ps_ret (pe_lst (pa_cons (pv 1) (pa_nil)))))))), ?_⟩
    rcases h with ⟨cell, rfl, k⟩
    walk_at "rd"
    refine q_ifx (fun hc => ?_) (fun hc => ?_)
    · walk_at "rd"
      have : (10:Int) ^ Int.toNat 18 = 1000000000000000000 := by decide
      exact k _ _ (by assumption) (by omega)
    · walk_at "rd"
      refine for_range (n := 9) (fun i σ H' => ∃ (z : Int) (a b : Option V), σ = [some (.int cell), some (.int z), a, b] ∧ 0 ≤ z ∧ H' = H) ⟨0, none, none, rfl, Int.le_refl _, rfl⟩ ?_ ?_
      · rintro i σ H' hi ⟨z, a, b, rfl, hz, rfl⟩
        walk_at "rd"
        exact ⟨_, _, _, rfl, by omega, rfl⟩
      · rintro σ H' ⟨z, a, b, rfl, hz, rfl⟩
        walk_at "rd"
        exact k _ _ (by assumption) hz
theorem ok_law_word (T : Tx K mg) : FnOk P w K mg base CX0 2 T.f_law_word T.d_law_word ["pool"] (sp_law_word ) := by
  refine T.F_law_word.ok sc_law_word (fun vs H Q E h => ?_) (fun cdv A outer s H vs Q E hr h => ?_)
  · rcases h with ⟨q, z, rfl, hq, k⟩
    all_goals rfl
  · have hu := hu_of hr
    refine ⟨_, (pss_cons (ps_set (i := 1) sc_law_word.nd rfl (Or.inl rfl) pe_str)
      (pss_cons (ps_for PassesOwn.never rfl (pi_range1 rfl T.z_range (pa_cons (pe_op op_add pe_int (pe_call (ok_law_take (P := P) T) (hr.mono (by decide)) rfl T.m_law_take T.k_law_take T.b_law_take .nil pass0 (pa_cons (pv 0) (pa_cons pe_int (pa_nil))))) (pa_nil))) (pg_name (i := 2) sc_law_word.nd rfl (Or.inl rfl))
      (pss_one (ps_set (i := 1) sc_law_word.nd rfl (Or.inl rfl) (pe_op op_addStr (pv 1) (pe_ix ix_str pe_str (pe_call (ok_law_take (P := P) T) (hr.mono (by decide)) rfl T.m_law_take T.k_law_take T.b_law_take .nil pass0 (pa_cons (pv 0) (pa_cons pe_int (pa_nil)))) (fun _ _ => rfl))))))
      (pss_one (ps_ret (pv 1))))), ?_⟩
    rcases h with ⟨q, z, rfl, hq, k⟩
    walk_at "rdn"
    obtain ⟨n, hn⟩ := Int.eq_ofNat_of_zero_le (show 0 ≤ 1 + z % 8 by omega)
    rw [hn, Int.toNat_natCast]
    have e1 : upd H q (.lst [.int (z / 8)]) q = some (.lst [.int (z / 8)]) := upd_same
    have f1 : Fr1 q H (upd H q (.lst [.int (z / 8)])) := fun b o nb e => (upd_ne nb).trans e
    generalize upd H q (.lst [.int (z / 8)]) = G at e1 f1 ⊢
    refine for_range (fun j σ H' => (∃ (u : Option V) (w : Str), σ = [some (.ref q), some (.str w), u] ∧ w.length = j ∧ w.cps.toList.all (fun c => decide (97 ≤ c) && decide (c ≤ 122)) = true) ∧ Fr1 q H H' ∧ ∃ z' : Int, H' q = some (.lst [.int z'])) ⟨⟨none, _, rfl, rfl, rfl⟩, f1, _, e1⟩ ?_ ?_
    · rintro j σ H' hj ⟨⟨u, w, rfl, hw1, hw2⟩, f2, z', e2⟩
      walk_at "rdn"
      obtain ⟨cc, hcc, hlo, hhi⟩ := at_all (Str.ofString "abcdefghijklmnopqrstuvwxyz").cps.toList (fun c => 97 ≤ c ∧ c ≤ 122) (i := z' % 26) (by decide +kernel) (by omega) (by
        have : ((Str.ofString "abcdefghijklmnopqrstuvwxyz").cps.toList.length : Int) = 26 := by decide +kernel
        omega)
      refine q_ixS (line_of (by decide +kernel)) hcc ?_
      refine q_addStr (line_of (by show w.length + 1 ≤ _; omega)) ?_
      walk_at "rdn"
      refine ⟨⟨_, _, rfl, by rw [PySem.Str.length_append, hw1]; rfl, ?_⟩, fun b o nb e => (upd_ne nb).trans (f2 b o nb e), _, upd_same⟩
      show ((w.cps ++ #[cc]).toList.all _) = true
      rw [Array.toList_append, List.all_append, hw2]
      simp [hlo, hhi]
    · rintro σ H' ⟨⟨u, w, rfl, hw1, hw2⟩, f2, z', e2⟩
      walk_at "rdn"
      refine k w z' H' f2 e2 (by omega) ?_
      unfold textB
      rw [hw2, hw1, decide_eq_true (show 1 ≤ ((n : Nat) : Int) by omega), decide_eq_true (show ((n : Nat) : Int) ≤ 8 by omega)]
      rfl
theorem ok_check_member (T : Tx K mg) : FnOk P w K mg base CX0 4 T.f_check_member T.d_check_member ["member", "members"] (sp_check_member K) := by
  refine T.F_check_member.ok sc_check_member (fun vs H Q E h => ?_) (fun cdv A outer s H vs Q E hr h => ?_)
  · rcases h with ⟨n, m, rfl, h0, h1, k⟩
    all_goals rfl
  · have hu := hu_of hr
    refine ⟨_, (pss_one (ps_if (pt_not (pt_val (pe_call (ok_is_member (P := P) T) (hr.mono (by decide)) rfl T.m_is_member T.k_is_member T.b_is_member .nil pass0 (pa_cons (pv 0) (pa_cons (pv 1) (pa_nil))))))
      (pss_one ps_never) pss_nil)), ?_⟩
    rcases h with ⟨n, m, rfl, h0, h1, k⟩
    walk_at "rdx"
    all_goals exact k
theorem ok_are_changes (T : Tx K mg) : FnOk P w K mg base CX0 3 T.f_are_changes T.d_are_changes ["thing", "members", "low", "high"] (sp_are_changes K) := by
  refine T.F_are_changes.ok sc_are_changes (fun vs H Q E h => ?_) (fun cdv A outer s H vs Q E hr h => ?_)
  · rcases h with ⟨a, x, c, m, rfl, ha, hx, h0, h1, h2, k⟩
    all_goals rfl
  · have hu := hu_of hr
    refine ⟨_, (pss_cons (ps_if (pt_not (pt_val (pe_call (ok_is_list (P := P) T) (hr.mono (by decide)) rfl T.m_is_list T.k_is_list T.b_is_list .nil pass0 (pa_cons (pv 0) (pa_nil)))))
      (pss_one (ps_ret pe_bl)) pss_nil)
      (pss_cons (ps_set (i := 4) sc_are_changes.nd rfl (Or.inl rfl) (pe_lst pa_nil))
      (pss_cons (ps_for (passes_of rfl) rfl (kpi_seq (K := K) rfl (pv 0)) (pg_name (i := 5) sc_are_changes.nd rfl (Or.inl rfl))
      (pss_cons (ps_if (PW.pt (pw_or (pt_not (pt_val (pe_callB (id := "isinstance") (kx_isi (K := K) rfl) (by rfl) T.z_isinstance (by decide +kernel) (pa_cons (pv 5) (pa_cons (pe_bltn (v := .ty "tuple") (u := .type "tuple") (by rfl) T.z_tuple (by decide +kernel) rfl) (pa_nil)))))) (pw_or1 (pt_cmpR op_ne (pe_callB (id := "len") (kx_len (K := K) rfl) (by rfl) T.z_len (by decide +kernel) (pa_cons (pv 5) (pa_nil))) pe_int (nomark _)))))
      (pss_one (ps_ret pe_bl)) pss_nil)
      (pss_cons (ps_asg (pv 5) (kg_tup (K := K) (n := 2) rfl rfl (pgs_cons (pg_name (i := 6) sc_are_changes.nd rfl (Or.inl rfl)) (pgs_cons (pg_name (i := 7) sc_are_changes.nd rfl (Or.inl rfl)) pgs_nil))))
      (pss_cons (ps_if (PW.pt (pw_or (pt_not (pt_val (pe_call (ok_is_member (P := P) T) (hr.mono (by decide)) rfl T.m_is_member T.k_is_member T.b_is_member .nil pass0 (pa_cons (pv 6) (pa_cons (pv 1) (pa_nil)))))) (pw_or (pt_not (pt_val (pe_call (ok_is_whole (P := P) T) (hr.mono (by decide)) rfl T.m_is_whole T.k_is_whole T.b_is_whole .nil pass0 (pa_cons (pv 7) (pa_cons (pv 2) (pa_cons (pv 3) (pa_nil))))))) (pw_or1 (pt_cmpR (ko_in (K := K) rfl) (pv 6) (pv 4) rfl)))))
      (pss_one (ps_ret pe_bl)) pss_nil)
      (pss_one (ps_expr (pe_bm PySem.F.plainAttrs_list PySem.F.slot_list_append PySem.F.type_list_append mt_append (pv 4) (pa_cons (pv 6) (pa_nil)))))))))
      (pss_one (ps_ret pe_bl))))), ?_⟩
    rcases h with ⟨a, x, c, m, rfl, ha, hx, h0, h1, h2, k⟩
    obtain ⟨t, rfl, ht⟩ := hx
    walk_at "rdn"
    intro H1 s1
    have ha := s1 _ _ ha
    have ht := s1 _ _ ht
    walk_at "rdn"
    intro D hD
    walk_at "rdn"
    have hDH : H1 D = none := by walk_at "fr"
    have hDt : D ≠ t := by walk_at "ne"
    refine q_forSeq (xs := [.ref t]) rfl (.inl rfl) (by walk_at "lk") (fun i σ H9 => ∃ (seen : List Int) (u5 u6 u7 : Option V), σ = [some (.ref a), some (.int m), some (.int 0), some .non, some (.ref D), u5, u6, u7] ∧ Same H1 H9 ∧ H9 D = some (.lst (seen.map V.int)) ∧ (i = 0 → seen = [])) ⟨[], none, none, none, rfl, Same.new hDH, upd_same, fun _ => rfl⟩ (fun i σ H9 _ h => by obtain ⟨_, _, _, _, _, s9, _⟩ := h; exact s9 _ _ ha) ?_ ?_
    · rintro i x σ H9 hx ⟨seen, u5, u6, u7, rfl, s9, f1, f2⟩
      have hi := (List.getElem?_eq_some_iff.mp hx).1
      obtain rfl : i = 0 := by simpa using hi
      obtain rfl : x = .ref t := by simpa using hx.symm
      obtain rfl := f2 rfl
      have ht9 := s9 _ _ ht
      walk_at "rdn"
      rw [if_neg (by simp)]
      walk_at "rdn"
      exact ⟨[c.1], _, _, _, rfl, s9.snew hDH, upd_same, fun h => absurd h (by omega)⟩
    · rintro σ H9 ⟨seen, u5, u6, u7, rfl, s9, f1, f2⟩
      walk_at "rdn"
      exact k _ (s1.trans s9)
theorem ok_Counts_init (T : Tx K mg) : FnOk P w K mg base CX0 3 T.f_Counts_init T.d_Counts_init ["self", "numbers"] (sp_Counts_init K T.C_Counts) := by
  refine T.F_Counts_init.ok sc_Counts_init (fun vs H Q E h => ?_) (fun cdv A outer s H vs Q E hr h => ?_)
  · rcases h with ⟨p, dx, a, xs, rfl, hp, ha, hl, hl2, hn, k⟩
    all_goals rfl
  · have hu := hu_of hr
    refine ⟨_, (pss_cons (ps_if (PW.pt (pw_or (pt_not (pt_val (pe_call (ok_is_list (P := P) T) (hr.mono (by decide)) rfl T.m_is_list T.k_is_list T.b_is_list .nil pass0 (pa_cons (pv 1) (pa_nil))))) (pw_or1 (pt_not (pt_chain op_le op_le (pe_glob (v := .int 2) rfl T.g_LEAST_MEMBERS ⟨_, rfl⟩) (pe_callB (id := "len") (kx_len (K := K) rfl) (by rfl) T.z_len (by decide +kernel) (pa_cons (pv 1) (pa_nil))) (pe_glob (v := .int 5) rfl T.g_MOST_MEMBERS ⟨_, rfl⟩))))))
      (pss_one ps_never) pss_nil)
      (pss_cons (ps_if (pt_not (pt_val (pe_callB (id := "all") (kx_all (K := K) rfl rfl) (by rfl) T.z_all (by decide +kernel) (pa_cons (pe_lc (own := [("number", 2)]) (g := gName 2) (tt := tYes) rfl sc_Counts_init.nd (kpi_list (K := K) rfl (pv 1)) (blkOk_by (own := [("number", 2)]) (N := ["self", "numbers", "number"]) (sc := defScope s_Counts_init) (by decide +kernel)) (fun _ _ _ _ _ => (pg_name (i := 2) sc_Counts_init.nd rfl (Or.inl rfl))) (fun _ _ _ _ _ => pts_nil) (fun _ _ _ _ _ => (pe_call (ok_is_whole (P := P) T) (hr.mono (by decide)) rfl T.m_is_whole T.k_is_whole T.b_is_whole_2 T.v_is_whole_2 pass0 (pa_cons (pv 2) (pa_cons pe_int (pa_nil)))))) (pa_nil)))))
      (pss_one ps_never) pss_nil)
      (pss_one (kps_fld (K := K) rfl (ps_fld (pv 0) (pe_callTy (T := "tuple") (kx_tuple (K := K) rfl) (by rfl) T.z_tuple (by decide +kernel) (pa_cons (pv 1) (pa_nil))) rfl))))), ?_⟩
    rcases h with ⟨p, dx, a, xs, rfl, hp, ha, hl, hl2, hn, k⟩
    walk_at "rdx"
    refine lc_itemsB (fun _ => true) (by walk_at "sq") (by omega) (by assumption) (fun x hx H2 R s2 hR => ?_) (fun H2 s2 e => ?_)
    · obtain ⟨n, rfl, h0⟩ := hn x hx
      walk_at "rd"
      exact R_of (hR H2 (Same.refl H2)) (by rw [decide_eq_true h0])
    · walk_at "rd"
      refine q_ifs (fun _ => ?_) (fun hf => absurd hf (by simp))
      walk_at "rd"
      exact k _ _ (fun b o hb e => by walk_at "lk") upd_same (by walk_at "lk")
theorem ok_Counts_len (T : Tx K mg) : FnOk P w K mg base CX0 1 T.f_Counts_len T.d_Counts_len ["self"] (sp_Counts_len K T.C_Counts) := by
  refine T.F_Counts_len.ok sc_Counts_len (fun vs H Q E h => ?_) (fun cdv A outer s H vs Q E hr h => ?_)
  · rcases h with ⟨p, dx, t, xs, rfl, hp, ht, k⟩
    all_goals rfl
  · have hu := hu_of hr
    refine ⟨_, (pss_one (ps_ret (pe_callB (id := "len") (kx_len (K := K) rfl) (by rfl) T.z_len (by decide +kernel) (pa_cons (kp_fld (K := K) rfl (pv 0) rfl) (pa_nil))))), ?_⟩
    rcases h with ⟨p, dx, t, xs, rfl, hp, ht, k⟩
    walk_at "rd"
    exact k
theorem ok_Counts_told (T : Tx K mg) : FnOk P w K mg base CX0 1 T.f_Counts_told T.d_Counts_told ["self"] (sp_Counts_told K T.C_Counts) := by
  refine T.F_Counts_told.ok sc_Counts_told (fun vs H Q E h => ?_) (fun cdv A outer s H vs Q E hr h => ?_)
  · rcases h with ⟨p, dx, t, rfl, hp, k⟩
    all_goals rfl
  · have hu := hu_of hr
    refine ⟨_, (pss_one (ps_ret (kp_fld (K := K) rfl (pv 0) rfl))), ?_⟩
    rcases h with ⟨p, dx, t, rfl, hp, k⟩
    walk_at "rd"
    exact k
theorem ok_Counts_of (T : Tx K mg) : FnOk P w K mg base CX0 5 T.f_Counts_of T.d_Counts_of ["self", "member"] (sp_Counts_of K T.C_Counts) := by
  refine T.F_Counts_of.ok sc_Counts_of (fun vs H Q E h => ?_) (fun cdv A outer s H vs Q E hr h => ?_)
  · rcases h with ⟨p, dx, t, ms, j, rfl, hp, ht, h1, k⟩
    all_goals rfl
  · have hu := hu_of hr
    refine ⟨_, (pss_cons (ps_expr (pe_call (ok_check_member (P := P) T) (hr.mono (by decide)) rfl T.m_check_member T.k_check_member T.b_check_member .nil pass0 (pa_cons (pv 1) (pa_cons (pe_callB (id := "len") (kx_len (K := K) rfl) (by rfl) T.z_len (by decide +kernel) (pa_cons (kp_fld (K := K) rfl (pv 0) rfl) (pa_nil))) (pa_nil)))))
      (pss_one (ps_ret (pe_ix (ki_tup (K := K) rfl) (kp_fld (K := K) rfl (pv 0) rfl) (pv 1) (fun _ _ => rfl))))), ?_⟩
    rcases h with ⟨p, dx, t, ms, j, rfl, hp, ht, h1, k⟩
    walk_at "rdn"
    exact k
theorem ok_Counts_changed (T : Tx K mg) : FnOk P w K mg base CX0 5 T.f_Counts_changed T.d_Counts_changed ["self", "changes"] (sp_Counts_changed K T.C_Counts) := by
  refine T.F_Counts_changed.ok sc_Counts_changed (fun vs H Q E h => ?_) (fun cdv A outer s H vs Q E hr h => ?_)
  · rcases h with ⟨p, dx, t, a, ms, x, j, n, rfl, hp, ht, ha, hs, h1, hn, h2, h5, hm, k⟩
    all_goals rfl
  · have hu := hu_of hr
    refine ⟨_, (pss_cons (ps_if (pt_not (pt_val (pe_call (ok_are_changes (P := P) T) (hr.mono (by decide)) rfl T.m_are_changes T.k_are_changes T.b_are_changes_3 T.v_are_changes_3 pass0 (pa_cons (pv 1) (pa_cons (pe_callB (id := "len") (kx_len (K := K) rfl) (by rfl) T.z_len (by decide +kernel) (pa_cons (kp_fld (K := K) rfl (pv 0) rfl) (pa_nil))) (pa_cons pe_int (pa_nil)))))))
      (pss_one ps_never) pss_nil)
      (pss_cons (ps_set (i := 2) sc_Counts_changed.nd rfl (Or.inl rfl) (pe_callTy (T := "list") (kx_list (K := K) rfl) (by rfl) T.z_list (by decide +kernel) (pa_cons (kp_fld (K := K) rfl (pv 0) rfl) (pa_nil))))
      (pss_cons (ps_for PassesOwn.never rfl (kpi_seq (K := K) rfl (pv 1)) (kg_tup (K := K) (n := 2) rfl rfl (pgs_cons (pg_name (i := 3) sc_Counts_changed.nd rfl (Or.inl rfl)) (pgs_cons (pg_name (i := 4) sc_Counts_changed.nd rfl (Or.inl rfl)) pgs_nil)))
      (pss_one (ps_asg (pv 4) (pg_sub (pv 2) (pv 3) set_list))))
      (pss_one (ps_ret (pe_make T.mk_Counts (ok_Counts_init (P := P) T) (hr.mono (by decide)) rfl T.g_Counts T.b_Counts_init .nil pass0 (pa_cons (pv 2) (pa_nil)))))))), ?_⟩
    rcases h with ⟨p, dx, t, a, ms, x, j, n, rfl, hp, ht, ha, hs, h1, hn, h2, h5, hm, k⟩
    obtain ⟨tt, rfl, hT⟩ := hs
    have hs2 : PairAt H (.ref tt) ((j : Nat), n) := ⟨tt, rfl, hT⟩
    walk_at "rdn"
    intro H1 s1
    have ha := s1 _ _ ha
    have hT := s1 _ _ hT
    have hp := s1 _ _ hp
    have ht := s1 _ _ ht
    walk_at "rdn"
    intro D hD
    walk_at "rdn"
    have hDH : H1 D = none := by walk_at "fr"
    have hDt : D ≠ tt := by walk_at "ne"
    refine q_forSeq (xs := [.ref tt]) rfl (.inl rfl) (by walk_at "lk") (fun i σ H9 => ∃ (u3 u4 : Option V), σ = [some (.ref p), some (.ref a), some (.ref D), u3, u4] ∧ Same H1 H9 ∧ H9 D = some (.lst ((if i = 0 then ms else ms.set j n).map V.int))) ⟨none, none, rfl, Same.new hDH, upd_same⟩ (fun i σ H9 _ h => by obtain ⟨_, _, _, s9, _⟩ := h; exact s9 _ _ ha) ?_ ?_
    · rintro i x σ H9 hx ⟨u3, u4, rfl, s9, f1⟩
      have hi := (List.getElem?_eq_some_iff.mp hx).1
      obtain rfl : i = 0 := by simpa using hi
      obtain rfl : x = .ref tt := by simpa using hx.symm
      rw [if_pos rfl] at f1
      have ht9 := s9 _ _ hT
      walk_at "rdn"
      exact ⟨_, _, rfl, s9.snew hDH, by rw [upd_same, if_neg (by omega), List.map_set]⟩
    · rintro σ H9 ⟨u3, u4, rfl, s9, f1⟩
      rw [if_neg (by simp)] at f1
      have l9 : (ms.set j n).length = ms.length := List.length_set
      have nn : NN ((ms.set j n).map V.int) := NN.of fun x hx => by
        rcases List.mem_or_eq_of_mem_set hx with hx | rfl
        · exact hm x hx
        · exact hn
      walk_at "rdn"
      intro r dr nr ndr ner
      walk_at "rdn"
      intro v H8 f8 g1 g2
      walk_at "rdn"
      exact k r dr v H8 (fun b o eb => f8 b o (by walk_at "ne") (by walk_at "lk")) g1 g2
theorem ok_Counts_raised (T : Tx K mg) : FnOk P w K mg base CX0 6 T.f_Counts_raised T.d_Counts_raised ["self", "member", "by"] (sp_Counts_raised K T.C_Counts) := by
  refine T.F_Counts_raised.ok sc_Counts_raised (fun vs H Q E h => ?_) (fun cdv A outer s H vs Q E hr h => ?_)
  · rcases h with ⟨p, dx, t, ms, j, rfl, hp, ht, h1, h2, h5, hm, k⟩
    all_goals rfl
  · have hu := hu_of hr
    refine ⟨_, (pss_cons (ps_expr (pe_call (ok_check_member (P := P) T) (hr.mono (by decide)) rfl T.m_check_member T.k_check_member T.b_check_member .nil pass0 (pa_cons (pv 1) (pa_cons (pe_callB (id := "len") (kx_len (K := K) rfl) (by rfl) T.z_len (by decide +kernel) (pa_cons (kp_fld (K := K) rfl (pv 0) rfl) (pa_nil))) (pa_nil)))))
      (pss_cons (ps_if (pt_not (pt_val (pe_call (ok_is_whole (P := P) T) (hr.mono (by decide)) rfl T.m_is_whole T.k_is_whole T.b_is_whole_2 T.v_is_whole_2 pass0 (pa_cons (pv 2) (pa_cons pe_int (pa_nil))))))
      (pss_one ps_never) pss_nil)
      (pss_one (ps_ret (pe_meth (pv 0) T.c_Counts T.mt_Counts_changed (ok_Counts_changed (P := P) T) (hr.mono (by decide)) T.b_Counts_changed .nil pass0 (pa_cons (pe_lst (pa_cons (pe_tup (pa_cons (pv 1) (pa_cons (pe_op op_add (pe_ix (ki_tup (K := K) rfl) (kp_fld (K := K) rfl (pv 0) rfl) (pv 1) (fun _ _ => rfl)) (pv 2)) (pa_nil)))) (pa_nil))) (pa_nil))))))), ?_⟩
    rcases h with ⟨p, dx, t, ms, j, rfl, hp, ht, h1, h2, h5, hm, k⟩
    walk_at "rdn"
    intro p1 hp1
    walk_at "rdn"
    intro p2 hp2
    walk_at "rdn"
    have hmi : 0 ≤ ms.getD j 0 := by
      rw [List.getD_eq_getElem?_getD, List.getElem?_eq_getElem h1]
      exact hm _ (List.getElem_mem _)
    refine r_Counts_changed rfl (hp := by walk_at "lk") (ht := by walk_at "lk") (ha := upd_same) (hs := ⟨p1, rfl, by walk_at "lk"⟩) (h1 := h1) (hn := by omega) (h2 := h2) (h5 := h5) (hm := hm) ?_
    intro r dz v H9 s9 g1 g2
    exact k r dz v H9 (by walk_at "sm") g1 g2
theorem ok_Counts_check_like (T : Tx K mg) : FnOk P w K mg base CX0 3 T.f_Counts_check_like T.d_Counts_check_like ["self", "other"] (sp_Counts_check_like K T.C_Counts) := by
  refine T.F_Counts_check_like.ok sc_Counts_check_like (fun vs H Q E h => ?_) (fun cdv A outer s H vs Q E hr h => ?_)
  · rcases h with ⟨p, dx, t, q, dy, u, ms, ns, rfl, hp, ht, hq, hu, hl, hs, k⟩
    all_goals rfl
  · have hu := hu_of hr
    refine ⟨_, (pss_cons (ps_if (pt_not (pt_val (pe_callB (id := "isinstance") (kx_isi (K := K) rfl) (by rfl) T.z_isinstance (by decide +kernel) (pa_cons (pv 1) (pa_cons (pe_glob (v := .ref T.C_Counts) rfl T.g_Counts rfl) (pa_nil))))))
      (pss_one ps_never) pss_nil)
      (pss_one (ps_if (pt_cmpR op_ne (pe_callB (id := "len") (call_lenO rfl T.mt_Counts_len.at_ T.mt_Counts_len.fn (ok_Counts_len (P := P) T) (hr.mono (by decide)) T.b_Counts_len pass0) (by rfl) T.z_len (by decide +kernel) (pa_cons (pv 1) (pa_nil))) (pe_callB (id := "len") (kx_len (K := K) rfl) (by rfl) T.z_len (by decide +kernel) (pa_cons (kp_fld (K := K) rfl (pv 0) rfl) (pa_nil))) (nomark _))
      (pss_one ps_never) pss_nil))), ?_⟩
    rcases h with ⟨p, dx, t, q, dy, u, ms, ns, rfl, hp, ht, hq, hu, hl, hs, k⟩
    walk_at "rd"
    exact k
theorem ok_Counts_changes_from (T : Tx K mg) : FnOk P w K mg base CX0 6 T.f_Counts_changes_from T.d_Counts_changes_from ["self", "other"] (sp_Counts_changes_from K T.C_Counts) := by
  refine T.F_Counts_changes_from.ok sc_Counts_changes_from (fun vs H Q E h => ?_) (fun cdv A outer s H vs Q E hr h => ?_)
  · rcases h with ⟨p, dx, t, q, dy, u, ms, ns, rfl, hp, ht, hq, hu, hl, hs, k⟩
    all_goals rfl
  · have hu := hu_of hr
    refine ⟨_, (pss_cons (ps_expr (pe_meth (pv 0) T.c_Counts T.mt_Counts_check_like (ok_Counts_check_like (P := P) T) (hr.mono (by decide)) T.b_Counts_check_like .nil pass0 (pa_cons (pv 1) (pa_nil))))
      (pss_one (ps_ret (pe_lc (own := [("member", 2), ("number", 3)]) (g := (gTup K 2 ((gCons (gName 2) (gCons (gName 3) gNil))))) rfl sc_Counts_changes_from.nd (pi_enumT (K := K) rfl (by rfl) T.z_enumerate (pa_cons (kp_fld (K := K) rfl (pv 0) rfl) (pa_nil))) (blkOk_by (own := [("member", 2), ("number", 3)]) (N := ["self", "other", "member", "number"]) (sc := defScope s_Counts_changes_from) (by decide +kernel)) (fun _ _ _ _ _ => (kg_tup (K := K) (n := 2) rfl rfl (pgs_cons (pg_name (i := 2) sc_Counts_changes_from.nd rfl (Or.inl rfl)) (pgs_cons (pg_name (i := 3) sc_Counts_changes_from.nd rfl (Or.inl rfl)) pgs_nil)))) (fun _ _ _ _ _ => (pts_one (pt_cmpR op_ne (pv 3) (pe_meth (pv 1) T.c_Counts T.mt_Counts_of (ok_Counts_of (P := P) T) (hr.mono (by decide)) T.b_Counts_of .nil pass0 (pa_cons (pv 2) (pa_nil))) (nomark _)))) (fun _ _ _ _ _ => (pe_tup (pa_cons (pv 2) (pa_cons (pv 3) (pa_nil))))))))), ?_⟩
    rcases h with ⟨p, dx, t, q, dy, u, ms, ns, rfl, hp, ht, hq, hu, hl, hs, k⟩
    walk_at "rdn"
    intro D hD
    refine lc_it walk_enumT (fun i H9 => Same H H9 ∧ ∃ ys cs, All2 (PairD D H9) ys cs ∧ ys.length ≤ i ∧ H9 D = some (.lst ys)) ⟨Same.new hD, [], [], .nil, Nat.le_refl _, upd_same⟩ (fun i H9 _ h => SqT.of (h.1 _ _ ht)) ?_ ?_
    · rintro i x H2 H3 hi ⟨s2, ys, cs, hP, hl2, hD2⟩ ⟨tt, u1, u2, rfl, hT, rfl, e1, e2⟩
      have hi2 : i < ms.length := by simpa using hi
      obtain rfl : u1 = .int (i : Nat) := (Option.some.inj e1).symm
      obtain rfl : u2 = .int (ms.getD i 0) := by
        dsimp only at e2
        rw [List.getElem?_map, List.getElem?_eq_getElem hi2] at e2
        rw [List.getD_eq_getElem?_getD, List.getElem?_eq_getElem hi2]
        exact (Option.some.inj e2).symm
      have hDD : D ≠ tt := by walk_at "ne"
      have hi3 : i < ns.length := by omega
      walk_at "rdn"
      refine ⟨rfl, ?_⟩
      walk_at "rdn"
      refine q_ifx (fun hb => ?_) (fun hb => ?_)
      · exact ⟨s2.trans (Same.new hT), ys, cs, hP.mono fun x c z => z.same (Same.new hT), by omega, by walk_at "lk"⟩
      · walk_at "rdn"
        intro p3 hp3
        walk_at "rdn"
        refine ⟨ys, by walk_at "lk", line_lt (by omega), ((s2.trans (Same.new hT)).trans (Same.new hp3)).snew hD, ys ++ [.ref p3], cs ++ [(((i : Nat) : Int), ms.getD i 0)], ?_, by rw [List.length_append]; simp; omega, upd_same⟩
        exact All2.snoc (hP.mono fun x c z => (z.same ((Same.new hT).trans (Same.new hp3))).upd) ⟨p3, rfl, by walk_at "ne", (upd_ne (by walk_at "ne")).trans upd_same⟩
    · rintro H9 ⟨s9, ys, cs, hP, hl9, e9⟩
      rw [List.length_map] at hl9
      exact k D ys cs H9 s9 hD e9 hP (by omega)
theorem ok_Counts_covers (T : Tx K mg) : FnOk P w K mg base CX0 4 T.f_Counts_covers T.d_Counts_covers ["self", "other"] (sp_Counts_covers K T.C_Counts) := by
  refine T.F_Counts_covers.ok sc_Counts_covers (fun vs H Q E h => ?_) (fun cdv A outer s H vs Q E hr h => ?_)
  · rcases h with ⟨p, dx, t, q, dy, u, ms, ns, rfl, hp, ht, hq, hu, hl, hs, k⟩
    all_goals rfl
  · have hu := hu_of hr
    refine ⟨_, (pss_cons (ps_expr (pe_meth (pv 0) T.c_Counts T.mt_Counts_check_like (ok_Counts_check_like (P := P) T) (hr.mono (by decide)) T.b_Counts_check_like .nil pass0 (pa_cons (pv 1) (pa_nil))))
      (pss_one (ps_ret (pe_callB (id := "all") (kx_all (K := K) rfl rfl) (by rfl) T.z_all (by decide +kernel) (pa_cons (pe_lc (own := [("own", 2), ("its", 3)]) (g := (gTup K 2 ((gCons (gName 2) (gCons (gName 3) gNil))))) (tt := tYes) rfl sc_Counts_covers.nd (RZ.pi_zipA (by rfl) T.z_zip (pa_cons (kp_fld (K := K) rfl (pv 0) rfl) (pa_cons (pe_meth0 (pv 1) T.c_Counts T.mt_Counts_told (ok_Counts_told (P := P) T) (hr.mono (by decide)) T.b_Counts_told .nil pass0) (pa_nil)))) (blkOk_by (own := [("own", 2), ("its", 3)]) (N := ["self", "other", "own", "its"]) (sc := defScope s_Counts_covers) (by decide +kernel)) (fun _ _ _ _ _ => (kg_tup (K := K) (n := 2) rfl rfl (pgs_cons (pg_name (i := 2) sc_Counts_covers.nd rfl (Or.inl rfl)) (pgs_cons (pg_name (i := 3) sc_Counts_covers.nd rfl (Or.inl rfl)) pgs_nil)))) (fun _ _ _ _ _ => pts_nil) (fun _ _ _ _ _ => (pe_cmpR op_ge (pv 2) (pv 3) (nomark _)))) (pa_nil)))))), ?_⟩
    rcases h with ⟨p, dx, t, q, dy, u, ms, ns, rfl, hp, ht, hq, hu, hl, hs, k⟩
    walk_at "rd"
    refine lc_zipF fGe (SqT.of ht) (SqT.of hu) (by walk_at "sd") (by assumption) (fun x hx y hy w H2 R s2 hw hR => ?_) (fun H' s2 e => ?_) ?_
    · obtain ⟨i, _, rfl⟩ := List.mem_map.mp hx
      obtain ⟨j, _, rfl⟩ := List.mem_map.mp hy
      walk_at "rd"
      refine ⟨rfl, ?_⟩
      walk_at "rd"
      exact hR _ (Same.refl _)
    · rw [zipGe] at e
      walk_at "rd"
      exact k _ s2
    · exact gTup2_m
theorem ok_check_number_and_word (T : Tx K mg) : FnOk P w K mg base CX0 3 T.f_check_number_and_word T.d_check_number_and_word ["number", "word"] (sp_check_number_and_word K) := by
  refine T.F_check_number_and_word.ok sc_check_number_and_word (fun vs H Q E h => ?_) (fun cdv A outer s H vs Q E hr h => ?_)
  · rcases h with ⟨n, w, rfl, h1, h30, hw, hx, k⟩
    all_goals rfl
  · have hu := hu_of hr
    refine ⟨_, (pss_cons (ps_if (pt_not (pt_val (pe_call (ok_is_whole (P := P) T) (hr.mono (by decide)) rfl T.m_is_whole T.k_is_whole T.b_is_whole .nil pass0 (pa_cons (pv 0) (pa_cons pe_int (pa_cons (pe_glob (v := .int 30) rfl T.g_MOST_LETTERS ⟨_, rfl⟩) (pa_nil)))))))
      (pss_one ps_never) pss_nil)
      (pss_one (ps_if (pt_not (pt_val (pe_call (ok_is_word (P := P) T) (hr.mono (by decide)) rfl T.m_is_word T.k_is_word T.b_is_word .nil pass0 (pa_cons (pv 1) (pa_nil)))))
      (pss_one ps_never) pss_nil))), ?_⟩
    rcases h with ⟨n, w, rfl, h1, h30, hw, hx, k⟩
    walk_at "rdn"
    intro H1 s1
    rw [hx]
    walk_at "rdn"
    exact k _ s1
theorem ok_Letter_init (T : Tx K mg) : FnOk P w K mg base CX0 6 T.f_Letter_init T.d_Letter_init ["self", "sender", "number", "word", "causes"] (sp_Letter_init K T.C_Counts T.C_Letter) := by
  refine T.F_Letter_init.ok sc_Letter_init (fun vs H Q E h => ?_) (fun cdv A outer s H vs Q E hr h => ?_)
  · rcases h with ⟨M, p, dl, c, s, n, w, G, rfl, hp, hc, hM, hM5, hs, h1, h30, hw, hx, hn, hb, k⟩
    all_goals rfl
  · have hu := hu_of hr
    refine ⟨_, (pss_cons (ps_if (pt_not (pt_val (pe_call (ok_is_whole (P := P) T) (hr.mono (by decide)) rfl T.m_is_whole T.k_is_whole T.b_is_whole .nil pass0 (pa_cons (pv 1) (pa_cons pe_int (pa_cons (pe_op op_sub (pe_glob (v := .int 5) rfl T.g_MOST_MEMBERS ⟨_, rfl⟩) pe_int) (pa_nil)))))))
      (pss_one ps_never) pss_nil)
      (pss_cons (ps_expr (pe_call (ok_check_number_and_word (P := P) T) (hr.mono (by decide)) rfl T.m_check_number_and_word T.k_check_number_and_word T.b_check_number_and_word .nil pass0 (pa_cons (pv 2) (pa_cons (pv 3) (pa_nil)))))
      (pss_cons (ps_if (pt_not (pt_val (pe_callB (id := "isinstance") (kx_isi (K := K) rfl) (by rfl) T.z_isinstance (by decide +kernel) (pa_cons (pv 4) (pa_cons (pe_glob (v := .ref T.C_Counts) rfl T.g_Counts rfl) (pa_nil))))))
      (pss_one ps_never) pss_nil)
      (pss_cons (ps_expr (pe_call (ok_check_member (P := P) T) (hr.mono (by decide)) rfl T.m_check_member T.k_check_member T.b_check_member .nil pass0 (pa_cons (pv 1) (pa_cons (pe_callB (id := "len") (call_lenO rfl T.mt_Counts_len.at_ T.mt_Counts_len.fn (ok_Counts_len (P := P) T) (hr.mono (by decide)) T.b_Counts_len pass0) (by rfl) T.z_len (by decide +kernel) (pa_cons (pv 4) (pa_nil))) (pa_nil)))))
      (pss_cons (ps_if (PW.pt (pw_or (pt_cmpR op_ne (pe_meth (pv 4) T.c_Counts T.mt_Counts_of (ok_Counts_of (P := P) T) (hr.mono (by decide)) T.b_Counts_of .nil pass0 (pa_cons (pv 1) (pa_nil))) (pe_op op_sub (pv 2) pe_int) (nomark _)) (pw_or1 (pt_cmpR op_gt (pe_callB (id := "max") (kx_maxT (K := K) rfl rfl) (by rfl) T.z_max (by decide +kernel) (pa_cons (pe_meth0 (pv 4) T.c_Counts T.mt_Counts_told (ok_Counts_told (P := P) T) (hr.mono (by decide)) T.b_Counts_told .nil pass0) (pa_nil))) (pe_glob (v := .int 30) rfl T.g_MOST_LETTERS ⟨_, rfl⟩) (nomark _)))))
      (pss_one ps_never) pss_nil)
      (pss_cons (kps_fld (K := K) rfl (ps_fld (pv 0) (pv 1) rfl))
      (pss_cons (kps_fld (K := K) rfl (ps_fld (pv 0) (pv 2) rfl))
      (pss_cons (kps_fld (K := K) rfl (ps_fld (pv 0) (pv 3) rfl))
      (pss_one (kps_fld (K := K) rfl (ps_fld (pv 0) (pv 4) rfl))))))))))), ?_⟩
    rcases h with ⟨M, p, dl, c, s, n, w, G, rfl, hp, hc, hM, hM5, hs, h1, h30, hw, hx, hn, hb, k⟩
    obtain ⟨dx, t, hc1, hc2⟩ := hc
    have hvl : (vec M G).length = M := vec_len
    have hvg := vec_get (G := G) hs
    walk_at "rdn"
    intro H1 s1
    have hp := s1 _ _ hp
    have hc1 := s1 _ _ hc1
    have hc2 := s1 _ _ hc2
    walk_at "rdn"
    refine q_maxT (ns := vec M G) (SqT.of hc2) (by omega) ?_
    intro mx hmx _
    have hmx := vec_le hb mx hmx
    walk_at "rdn"
    refine q_sfldb (fs := [("_sender", .int (s : Nat))]) upd_same T.c_Letter T.n_Letter__number (by simp) ?_
    rw [putF_ne (by decide +kernel), putF_nil]
    walk_at "rdn"
    refine q_sfldb (fs := [("_sender", .int (s : Nat)), ("_number", .int n)]) upd_same T.c_Letter T.n_Letter__word (by simp) ?_
    rw [putF_ne (by decide +kernel), putF_ne (by decide +kernel), putF_nil]
    walk_at "rdn"
    refine q_sfldb (fs := [("_sender", .int (s : Nat)), ("_number", .int n), ("_word", .str w)]) upd_same T.c_Letter T.n_Letter__causes (by simp) ?_
    rw [putF_ne (by decide +kernel), putF_ne (by decide +kernel), putF_ne (by decide +kernel), putF_nil]
    walk_at "rdn"
    exact k _ (fun b o nb e => by walk_at "lk") upd_same
theorem ok_Letter_sender (T : Tx K mg) : FnOk P w K mg base CX0 1 T.f_Letter_sender T.d_Letter_sender ["self"] (sp_Letter_sender K T.C_Letter) := by
  refine T.F_Letter_sender.ok sc_Letter_sender (fun vs H Q E h => ?_) (fun cdv A outer s H vs Q E hr h => ?_)
  · rcases h with ⟨p, dl, x, y, z, u, rfl, hp, k⟩
    all_goals rfl
  · have hu := hu_of hr
    refine ⟨_, (pss_one (ps_ret (kp_fld (K := K) rfl (pv 0) rfl))), ?_⟩
    rcases h with ⟨p, dl, x, y, z, u, rfl, hp, k⟩
    walk_at "rd"
    exact k
theorem ok_Letter_number (T : Tx K mg) : FnOk P w K mg base CX0 1 T.f_Letter_number T.d_Letter_number ["self"] (sp_Letter_number K T.C_Letter) := by
  refine T.F_Letter_number.ok sc_Letter_number (fun vs H Q E h => ?_) (fun cdv A outer s H vs Q E hr h => ?_)
  · rcases h with ⟨p, dl, x, y, z, u, rfl, hp, k⟩
    all_goals rfl
  · have hu := hu_of hr
    refine ⟨_, (pss_one (ps_ret (kp_fld (K := K) rfl (pv 0) rfl))), ?_⟩
    rcases h with ⟨p, dl, x, y, z, u, rfl, hp, k⟩
    walk_at "rd"
    exact k
theorem ok_Letter_causes (T : Tx K mg) : FnOk P w K mg base CX0 1 T.f_Letter_causes T.d_Letter_causes ["self"] (sp_Letter_causes K T.C_Letter) := by
  refine T.F_Letter_causes.ok sc_Letter_causes (fun vs H Q E h => ?_) (fun cdv A outer s H vs Q E hr h => ?_)
  · rcases h with ⟨p, dl, x, y, z, u, rfl, hp, k⟩
    all_goals rfl
  · have hu := hu_of hr
    refine ⟨_, (pss_one (ps_ret (kp_fld (K := K) rfl (pv 0) rfl))), ?_⟩
    rcases h with ⟨p, dl, x, y, z, u, rfl, hp, k⟩
    walk_at "rd"
    exact k
theorem ok_Letter_id_of (T : Tx K mg) : FnOk P w K mg base CX0 1 T.f_Letter_id_of T.d_Letter_id_of ["self"] (sp_Letter_id_of K T.C_Letter) := by
  refine T.F_Letter_id_of.ok sc_Letter_id_of (fun vs H Q E h => ?_) (fun cdv A outer s H vs Q E hr h => ?_)
  · rcases h with ⟨p, dl, x, y, z, u, rfl, hp, k⟩
    all_goals rfl
  · have hu := hu_of hr
    refine ⟨_, (pss_one (ps_ret (pe_tup (pa_cons (kp_fld (K := K) rfl (pv 0) rfl) (pa_cons (kp_fld (K := K) rfl (pv 0) rfl) (pa_nil)))))), ?_⟩
    rcases h with ⟨p, dl, x, y, z, u, rfl, hp, k⟩
    walk_at "rdn"
    exact k
theorem ok_is_letter_ahead (T : Tx K mg) : FnOk P w K mg base CX0 4 T.f_is_letter_ahead T.d_is_letter_ahead ["thing", "sender", "number", "members"] (sp_is_letter_ahead K T.C_Counts T.C_Letter) := by
  refine T.F_is_letter_ahead.ok sc_is_letter_ahead (fun vs H Q E h => ?_) (fun cdv A outer s H vs Q E hr h => ?_)
  · rcases h with ⟨s, m, rfl, k⟩ | ⟨M, a, s, n, G, rfl, ha, hn, hM5, k⟩
    all_goals rfl
  · have hu := hu_of hr
    refine ⟨_, (pss_cons (ps_if (pt_cmpR op_eq (pv 2) pe_int (nomark _))
      (pss_one (ps_ret (pe_cmpR op_isNon (pv 0) pe_non (nomark _)))) pss_nil)
      (pss_cons (ps_if (PW.pt (pw_or (pt_not (pt_val (pe_callB (id := "isinstance") (kx_isi (K := K) rfl) (by rfl) T.z_isinstance (by decide +kernel) (pa_cons (pv 0) (pa_cons (pe_glob (v := .ref T.C_Letter) rfl T.g_Letter rfl) (pa_nil)))))) (pw_or1 (pt_cmpR op_ne (pe_callB (id := "len") (call_lenO rfl T.mt_Counts_len.at_ T.mt_Counts_len.fn (ok_Counts_len (P := P) T) (hr.mono (by decide)) T.b_Counts_len pass0) (by rfl) T.z_len (by decide +kernel) (pa_cons (pe_meth0 (pv 0) T.c_Letter T.mt_Letter_causes (ok_Letter_causes (P := P) T) (hr.mono (by decide)) T.b_Letter_causes .nil pass0) (pa_nil))) (pv 3) (nomark _)))))
      (pss_one (ps_ret pe_bl)) pss_nil)
      (pss_one (ps_ret (pe_cmpR (ko_eqD (K := K) rfl hr.units) (pe_meth0 (pv 0) T.c_Letter T.mt_Letter_id_of (ok_Letter_id_of (P := P) T) (hr.mono (by decide)) T.b_Letter_id_of .nil pass0) (pe_tup (pa_cons (pv 1) (pa_cons (pe_op op_sub (pv 2) pe_int) (pa_nil)))) (nomark _)))))), ?_⟩
    rcases h with ⟨s, m, rfl, k⟩ | ⟨M, a, s, n, G, rfl, ha, hn, hM5, k⟩
    · walk_at "rdn"
      exact k
    · obtain ⟨dl, w, c, h1, dx, t, h2, h3⟩ := ha
      walk_at "rdn"
      rw [vm_len]
      refine ⟨by omega, by omega, ?_⟩
      walk_at "rdn"
      intro t1 ht1
      walk_at "rdn"
      intro t2 ht2
      walk_at "rdn"
      exact k _ ((Same.new ht1).trans (Same.new ht2))
theorem ok_row_ahead (T : Tx K mg) : FnOk P w K mg base CX0 5 T.f_row_ahead T.d_row_ahead ["ahead", "members"] (sp_row_ahead K T.C_Counts T.C_Letter) := by
  refine T.F_row_ahead.ok sc_row_ahead (fun vs H Q E h => ?_) (fun cdv A outer s H vs Q E hr h => ?_)
  · rcases h with ⟨M, rfl, hM, hM5, k⟩ | ⟨M, a, kk, G, m, rfl, ha, k⟩
    all_goals rfl
  · have hu := hu_of hr
    refine ⟨_, (pss_cons (ps_if (pt_cmpR op_isNon (pv 0) pe_non (nomark _))
      (pss_one (ps_ret (pe_make T.mk_Counts (ok_Counts_init (P := P) T) (hr.mono (by decide)) rfl T.g_Counts T.b_Counts_init .nil pass0 (pa_cons (pe_op op_rep (pe_lst (pa_cons pe_int (pa_nil))) (pv 1)) (pa_nil))))) pss_nil)
      (pss_one (ps_ret (pe_meth0 (pv 0) T.c_Letter T.mt_Letter_causes (ok_Letter_causes (P := P) T) (hr.mono (by decide)) T.b_Letter_causes .nil pass0)))), ?_⟩
    rcases h with ⟨M, rfl, hM, hM5, k⟩ | ⟨M, a, kk, G, m, rfl, ha, k⟩
    · walk_at "rdn"
      intro l0 hl0
      walk_at "rdn"
      refine q_rep (xs := [V.int 0]) upd_same (by omega) (by omega) (line_of (by simp only [List.length_cons, List.length_nil]; omega)) ?_
      rw [rep_ints, Int.toNat_natCast, ← vec_nil]
      have nn := NN.of (vec_pos (M := M) (G := []))
      have hvl : (vec M []).length = M := vec_len
      intro w hw
      walk_at "rdn"
      intro x dx hx hdx ne
      walk_at "rdn"
      intro t H' f g1 g2
      walk_at "rdn"
      exact k x H' (fun b o e => f b o (by walk_at "ne") (by walk_at "lk")) ⟨dx, t, g1, g2⟩
    · obtain ⟨dl, w, c, h1, h2⟩ := ha
      walk_at "rdn"
      exact k _ h2
theorem ok_changes_of (T : Tx K mg) : FnOk P w K mg base CX0 7 T.f_changes_of T.d_changes_of ["letter", "ahead"] (sp_changes_of K T.C_Counts T.C_Letter) := by
  refine T.F_changes_of.ok sc_changes_of (fun vs H Q E h => ?_) (fun cdv A outer s H vs Q E hr h => ?_)
  · rcases h with ⟨M, p, s, G, rfl, hp, hM, hM5, k⟩ | ⟨M, p, a, s, n, G, G', rfl, hp, ha, hn, hM, hM5, hv, k⟩
    all_goals rfl
  · have hu := hu_of hr
    refine ⟨_, (pss_cons (ps_if (pt_not (pt_val (pe_callB (id := "isinstance") (kx_isi (K := K) rfl) (by rfl) T.z_isinstance (by decide +kernel) (pa_cons (pv 0) (pa_cons (pe_glob (v := .ref T.C_Letter) rfl T.g_Letter rfl) (pa_nil))))))
      (pss_one ps_never) pss_nil)
      (pss_cons (ps_set (i := 2) sc_changes_of.nd rfl (Or.inl rfl) (pe_meth0 (pv 0) T.c_Letter T.mt_Letter_causes (ok_Letter_causes (P := P) T) (hr.mono (by decide)) T.b_Letter_causes .nil pass0))
      (pss_cons (ps_if (pt_not (pt_val (pe_call (ok_is_letter_ahead (P := P) T) (hr.mono (by decide)) rfl T.m_is_letter_ahead T.k_is_letter_ahead T.b_is_letter_ahead .nil pass0 (pa_cons (pv 1) (pa_cons (pe_meth0 (pv 0) T.c_Letter T.mt_Letter_sender (ok_Letter_sender (P := P) T) (hr.mono (by decide)) T.b_Letter_sender .nil pass0) (pa_cons (pe_meth0 (pv 0) T.c_Letter T.mt_Letter_number (ok_Letter_number (P := P) T) (hr.mono (by decide)) T.b_Letter_number .nil pass0) (pa_cons (pe_callB (id := "len") (call_lenO rfl T.mt_Counts_len.at_ T.mt_Counts_len.fn (ok_Counts_len (P := P) T) (hr.mono (by decide)) T.b_Counts_len pass0) (by rfl) T.z_len (by decide +kernel) (pa_cons (pv 2) (pa_nil))) (pa_nil))))))))
      (pss_one ps_never) pss_nil)
      (pss_cons (ps_set (i := 3) sc_changes_of.nd rfl (Or.inl rfl) (pe_call (ok_row_ahead (P := P) T) (hr.mono (by decide)) rfl T.m_row_ahead T.k_row_ahead T.b_row_ahead .nil pass0 (pa_cons (pv 1) (pa_cons (pe_callB (id := "len") (call_lenO rfl T.mt_Counts_len.at_ T.mt_Counts_len.fn (ok_Counts_len (P := P) T) (hr.mono (by decide)) T.b_Counts_len pass0) (by rfl) T.z_len (by decide +kernel) (pa_cons (pv 2) (pa_nil))) (pa_nil)))))
      (pss_cons (ps_if (pt_not (pt_val (pe_meth (pv 2) T.c_Counts T.mt_Counts_covers (ok_Counts_covers (P := P) T) (hr.mono (by decide)) T.b_Counts_covers .nil pass0 (pa_cons (pv 3) (pa_nil)))))
      (pss_one ps_never) pss_nil)
      (pss_one (ps_ret (pe_lc (own := [("change", 4)]) (g := gName 4) rfl sc_changes_of.nd (kpi_list (K := K) rfl (pe_meth (pv 2) T.c_Counts T.mt_Counts_changes_from (ok_Counts_changes_from (P := P) T) (hr.mono (by decide)) T.b_Counts_changes_from .nil pass0 (pa_cons (pv 3) (pa_nil)))) (blkOk_by (own := [("change", 4)]) (N := ["letter", "ahead", "row", "base", "change"]) (sc := defScope s_changes_of) (by decide +kernel)) (fun _ _ _ _ _ => (pg_name (i := 4) sc_changes_of.nd rfl (Or.inl rfl))) (fun _ _ _ _ _ => (pts_one (pt_cmpR op_ne (pe_ix (ki_tup (K := K) rfl) (pv 4) pe_int (fun _ _ => rfl)) (pe_meth0 (pv 0) T.c_Letter T.mt_Letter_sender (ok_Letter_sender (P := P) T) (hr.mono (by decide)) T.b_Letter_sender .nil pass0) (nomark _)))) (fun _ _ _ _ _ => (pv 4)))))))))), ?_⟩
    rcases h with ⟨M, p, s, G, rfl, hp, hM, hM5, k⟩ | ⟨M, p, a, s, n, G, G', rfl, hp, ha, hn, hM, hM5, hv, k⟩
    · obtain ⟨dl, w, c, h1, dx, t, h2, h3⟩ := hp
      have hvl : (vec M G).length = M := vec_len
      walk_at "rdn"
      intro c1 H1 s1 hc1
      rw [vm_len] at hc1
      obtain ⟨dx1, t1, g2, g3⟩ := hc1
      have h1 := s1 _ _ h1
      have h2 := s1 _ _ h2
      have h3 := s1 _ _ h3
      have hcv : coversB (vec M G) (vec M []) = true := cov_iff.mpr fun s _ => Nat.zero_le _
      have hl1 : (vec M []).length = (vec M G).length := by rw [vec_len, vec_len]
      have hl2 : (vec M G).length ≤ 5 := by rw [vec_len]; exact hM5
      walk_at "rdn"
      intro H2 s2
      have h1 := s2 _ _ h1
      have h2 := s2 _ _ h2
      have h3 := s2 _ _ h3
      have g2 := s2 _ _ g2
      have g3 := s2 _ _ g3
      rw [hcv]
      walk_at "rdn"
      intro l xs cs H3 s3 hl0 hl hx hxl
      have h1 := s3 _ _ h1
      walk_at "rdn"
      intro D hD
      refine lc_any walk_list (fun i ys _ => ∃ cs, All2 (PairAt H3) ys cs ∧ ys.length ≤ i) (by omega) (fun _ _ _ _ h _ => h) (fun _ _ _ _ h => h) ⟨[], .nil, Nat.le_refl _⟩ (fun H' s => SqL.of (s _ _ hl)) hD ?_ ?_ gName_m tChg_m
      · rintro i v ys B1 B2 R R2 hi s6 ⟨ds, hds, hdl⟩ hDB ⟨rfl, hv2⟩ hR hR2
        obtain ⟨c9, hc9, hP9⟩ := hx.get hv2
        obtain ⟨u, rfl, hu⟩ := hP9.at
        have hu6 := s6 _ _ hu
        have h16 := s6 _ _ h1
        refine ⟨wipe_set, ?_⟩
        walk_at "rdn"
        refine ⟨hR _ _ (Same.refl _) (fun _ => ⟨ds, hds, by omega⟩), fun hb => ?_⟩
        walk_at "rdn"
        exact hR2 _ _ (Same.refl _) ⟨ds ++ [c9], hds.snoc ⟨u, rfl, hu⟩, by rw [List.length_append]; simp; omega⟩
      · rintro ys B1 s6 ⟨ds, hds, hdl⟩ hDB
        exact k D ys ds B1 (s1.trans (s2.trans (s3.trans s6))) (by walk_at "fr") hDB (hds.mono fun x c z => z.same s6) (by omega)
    · obtain ⟨dl, w, c, h1, dx, t, h2, h3⟩ := hp
      have hvl : (vec M G).length = M := vec_len
      walk_at "rdn"
      rw [vm_len]
      refine r_is_letter_ahead_2 rfl (ha := ha) (hn := hn) (hM5 := hM5) ?_
      intro H1 s1
      have h1 := s1 _ _ h1
      have h2 := s1 _ _ h2
      have h3 := s1 _ _ h3
      have ha := ha.same s1
      walk_at "rdn"
      intro c2 hc2
      obtain ⟨dx1, t1, g2, g3⟩ := hc2
      have hl1 : (vec M G').length = (vec M G).length := by rw [vec_len, vec_len]
      have hl2 : (vec M G).length ≤ 5 := by rw [vec_len]; exact hM5
      walk_at "rdn"
      intro H2 s2
      have h1 := s2 _ _ h1
      have h2 := s2 _ _ h2
      have h3 := s2 _ _ h3
      have g2 := s2 _ _ g2
      have g3 := s2 _ _ g3
      rw [hv]
      walk_at "rdn"
      intro l xs cs H3 s3 hl0 hl hx hxl
      have h1 := s3 _ _ h1
      walk_at "rdn"
      intro D hD
      refine lc_any walk_list (fun i ys _ => ∃ cs, All2 (PairAt H3) ys cs ∧ ys.length ≤ i) (by omega) (fun _ _ _ _ h _ => h) (fun _ _ _ _ h => h) ⟨[], .nil, Nat.le_refl _⟩ (fun H' s => SqL.of (s _ _ hl)) hD ?_ ?_ gName_m tChg_m
      · rintro i v ys B1 B2 R R2 hi s6 ⟨ds, hds, hdl⟩ hDB ⟨rfl, hv2⟩ hR hR2
        obtain ⟨c9, hc9, hP9⟩ := hx.get hv2
        obtain ⟨u, rfl, hu⟩ := hP9.at
        have hu6 := s6 _ _ hu
        have h16 := s6 _ _ h1
        refine ⟨wipe_set, ?_⟩
        walk_at "rdn"
        refine ⟨hR _ _ (Same.refl _) (fun _ => ⟨ds, hds, by omega⟩), fun hb => ?_⟩
        walk_at "rdn"
        exact hR2 _ _ (Same.refl _) ⟨ds ++ [c9], hds.snoc ⟨u, rfl, hu⟩, by rw [List.length_append]; simp; omega⟩
      · rintro ys B1 s6 ⟨ds, hds, hdl⟩ hDB
        exact k D ys ds B1 (s1.trans (s2.trans (s3.trans s6))) (by walk_at "fr") hDB (hds.mono fun x c z => z.same s6) (by omega)
theorem ok_ids_beyond (T : Tx K mg) : FnOk P w K mg base CX0 6 T.f_ids_beyond T.d_ids_beyond ["counts", "row"] (sp_ids_beyond K T.C_Counts) := by
  refine T.F_ids_beyond.ok sc_ids_beyond (fun vs H Q E h => ?_) (fun cdv A outer s H vs Q E hr h => ?_)
  · rcases h with ⟨M, c, d, A, B, rfl, hc, hd, hM, hM5, hA, hB, k⟩
    all_goals rfl
  · have hu := hu_of hr
    refine ⟨_, (pss_cons (ps_set (i := 2) sc_ids_beyond.nd rfl (Or.inl rfl) (pe_callTy (T := "range") cr_range1 (by rfl) T.z_range (by decide +kernel) (pa_cons (pe_callB (id := "len") (call_lenO rfl T.mt_Counts_len.at_ T.mt_Counts_len.fn (ok_Counts_len (P := P) T) (hr.mono (by decide)) T.b_Counts_len pass0) (by rfl) T.z_len (by decide +kernel) (pa_cons (pv 1) (pa_nil))) (pa_nil))))
      (pss_one (ps_ret (pe_lc2 (own := [("member", 3), ("number", 4)]) (vs1 := [4]) (g := gName 3) (g1 := gName 4) (tt := tYes) (tt1 := tYes) rfl sc_ids_beyond.nd (pi_rngV (pv 2)) (blkOk_by (own := [("member", 3), ("number", 4)]) (N := ["counts", "row", "members", "member", "number"]) (sc := defScope s_ids_beyond) (by decide +kernel)) (by decide) (fun _ _ _ _ _ => (pg_name (i := 3) sc_ids_beyond.nd rfl (Or.inl rfl))) (fun _ _ _ _ _ => pts_nil) (fun _ _ _ _ _ => (pi_range2 rfl T.z_range (pa_cons (pe_op op_add (pe_meth (pv 0) T.c_Counts T.mt_Counts_of (ok_Counts_of (P := P) T) (hr.mono (by decide)) T.b_Counts_of .nil pass0 (pa_cons (pv 3) (pa_nil))) pe_int) (pa_cons (pe_op op_add (pe_meth (pv 1) T.c_Counts T.mt_Counts_of (ok_Counts_of (P := P) T) (hr.mono (by decide)) T.b_Counts_of .nil pass0 (pa_cons (pv 3) (pa_nil))) pe_int) (pa_nil))))) (fun _ _ _ _ _ => (pg_name (i := 4) sc_ids_beyond.nd rfl (Or.inl rfl))) (fun _ _ _ _ _ => pts_nil) (fun _ _ _ _ _ => (pe_tup (pa_cons (pv 3) (pa_cons (pv 4) (pa_nil))))))))), ?_⟩
    rcases h with ⟨M, c, d, A, B, rfl, hc, hd, hM, hM5, hA, hB, k⟩
    obtain ⟨dx, t, hc1, hc2⟩ := hc
    obtain ⟨dy, u, hd1, hd2⟩ := hd
    have hvA : (vec M A).length = M := vec_len
    have hvB : (vec M B).length = M := vec_len
    have hMs : (M : Int) ≤ 5 := by omega
    walk_at "rdn"
    rw [vm_len]
    refine ⟨_, rfl, ?_⟩
    intro r hr0
    have s1 := Same.new (o := HO.rng 0 (M : Nat)) hr0
    have e1 : upd H r (HO.rng 0 (M : Nat)) r = some (HO.rng 0 (M : Nat)) := upd_same
    generalize upd H r (HO.rng 0 (M : Nat)) = H1 at s1 e1 ⊢
    have hc1 := s1 _ _ hc1
    have hc2 := s1 _ _ hc2
    have hd1 := s1 _ _ hd1
    have hd2 := s1 _ _ hd2
    walk_at "rdn"
    refine ⟨_, rfl, r, 0, (M : Nat), rfl, e1, ⟨by omega, by omega, by omega, by omega⟩, ?_⟩
    intro D hD
    rw [show (((M : Nat) : Int) - 0).toNat = M by omega]
    refine lc2_pairs 0 (fun k => ((cntM A ((k : Nat) : Int) : Nat) : Int) + 1) (fun k => cntM B ((k : Nat) : Int) - cntM A ((k : Nat) : Int)) (by omega) (fun k hk => by have := cntM_le (ks := B) (m := ((k : Nat) : Int)); omega) hD (fun _ => rfl) (fun _ _ => rfl) ?_ ?_ ?_
    · intro j hj H2 R s2 hR
      have a1 := vec_get (G := A) hj
      have b1 := vec_get (G := B) hj
      have a2 := cntM_le (ks := A) (m := ((j : Nat) : Int))
      have b2 := cntM_le (ks := B) (m := ((j : Nat) : Int))
      have hjA : j < (vec M A).length := by omega
      have hjB : j < (vec M B).length := by omega
      rw [Int.zero_add]
      unfold iRng2
      walk_at "rdn"
      rw [a1, b1]
      refine ⟨_, _, rfl, ⟨by omega, by omega, by omega, by omega⟩, ?_⟩
      rw [show ((((cntM B ((j : Nat) : Int) : Nat) : Int) + 1) - (((cntM A ((j : Nat) : Int) : Nat) : Int) + 1)).toNat = cntM B ((j : Nat) : Int) - cntM A ((j : Nat) : Int) by omega]
      exact hR _ (Same.refl _)
    · intro j hj t ht H2 R s2 hR
      walk_at "rdn"
      exact hR
    · intro ys H' s2 hy e2
      exact k D ys H' (s1.trans s2) e2 (hy.mono fun x c z => z.at)
theorem ok_Book_init (T : Tx K mg) : FnOk P w K mg base CX0 5 T.f_Book_init T.d_Book_init ["self", "members"] (sp_Book_init K T.C_Counts T.C_Letter T.C_Book) := by
  refine T.F_Book_init.ok sc_Book_init (fun vs H Q E h => ?_) (fun cdv A outer s H vs Q E hr h => ?_)
  · rcases h with ⟨M, p, db, rfl, hp, hM, hM5, k⟩
    all_goals rfl
  · have hu := hu_of hr
    refine ⟨_, (pss_cons (ps_expr (pe_call (ok_check_members (P := P) T) (hr.mono (by decide)) rfl T.m_check_members T.k_check_members T.b_check_members .nil pass0 (pa_cons (pv 1) (pa_nil))))
      (pss_cons (kps_fld (K := K) rfl (ps_fld (pv 0) (pv 1) rfl))
      (pss_cons (kps_fld (K := K) rfl (ps_fld (pv 0) pe_dnewT rfl))
      (pss_cons (kps_fld (K := K) rfl (ps_fld (pv 0) (pe_make T.mk_Counts (ok_Counts_init (P := P) T) (hr.mono (by decide)) rfl T.g_Counts T.b_Counts_init .nil pass0 (pa_cons (pe_op op_rep (pe_lst (pa_cons pe_int (pa_nil))) (pv 1)) (pa_nil))) rfl))
      (pss_one (kps_fld (K := K) rfl (ps_fld (pv 0) (pe_lc (own := [("_", 2)]) (g := gName 2) (tt := tYes) rfl sc_Book_init.nd (pi_range1 rfl T.z_range (pa_cons (pv 1) (pa_nil))) (blkOk_by (own := [("_", 2)]) (N := ["self", "members", "_"]) (sc := defScope s_Book_init) (by decide +kernel)) (fun _ _ _ _ _ => (pg_name (i := 2) sc_Book_init.nd rfl (Or.inl rfl))) (fun _ _ _ _ _ => pts_nil) (fun _ _ _ _ _ => (pe_lst pa_nil))) rfl))))))), ?_⟩
    rcases h with ⟨M, p, db, rfl, hp, hM, hM5, k⟩
    walk_at "rdn"
    intro d hd
    have npd : p ≠ d := by walk_at "ne"
    have hd0 : H d = none := by walk_at "fr"
    walk_at "rdn"
    refine q_sfldb (fs := [("_members", .int (M : Nat))]) ((upd_ne npd).trans upd_same) T.c_Book T.n_Book__letters (by simp) ?_
    rw [putF_ne (by decide +kernel), putF_nil]
    refine abs_s (fun H1 => Fr1 p H H1 ∧ H1 p = some (.ins T.C_Book db [("_members", .int (M : Nat)), ("_letters", .ref d)]) ∧ H1 d = some (.dT [])) ⟨fun b o nb e => by walk_at "lk", upd_same, by walk_at "lk"⟩ ?_
    rintro H1 ⟨f1, e1, e2⟩
    walk_at "rdn"
    intro l hl
    walk_at "rdn"
    refine q_rep (xs := [V.int 0]) upd_same (by omega) (by omega) (line_of (by simp only [List.length_cons, List.length_nil]; omega)) ?_
    rw [rep_ints, Int.toNat_natCast, ← vec_nil]
    have nn := NN.of (vec_pos (M := M) (G := []))
    have hvl : (vec M []).length = M := vec_len
    intro w hw
    walk_at "rdn"
    intro x dx hx hdx ne
    walk_at "rdn"
    intro t H2 f2 g1 g2
    walk_at "rdn"
    have npx : p ≠ x := by walk_at "ne"
    have nxd : d ≠ x := by walk_at "ne"
    have npt : p ≠ t := fun e => by
      have e1' : H2 p = some (.ins T.C_Book db [("_members", .int (M : Nat)), ("_letters", .ref d)]) := f2 _ _ npx (by walk_at "lk")
      rw [e, g2] at e1'
      cases e1'
    rw [putF_ne (by decide +kernel), putF_ne (by decide +kernel), putF_nil]
    have f3 : Fr1 p H (upd H2 p (.ins T.C_Book db [("_members", .int (M : Nat)), ("_letters", .ref d), ("_counts", .ref x)])) := fun b o nb e => (upd_ne nb).trans (f2 b o (fun z => by rw [z] at e; have := f1 _ _ npx.symm e; exact absurd this (by rw [show H1 x = none by walk_at "fr"]; simp)) (by walk_at "lk"))
    have e3 : upd H2 p (.ins T.C_Book db [("_members", .int (M : Nat)), ("_letters", .ref d), ("_counts", .ref x)]) p = some (.ins T.C_Book db [("_members", .int (M : Nat)), ("_letters", .ref d), ("_counts", .ref x)]) := upd_same
    have e4 : upd H2 p (.ins T.C_Book db [("_members", .int (M : Nat)), ("_letters", .ref d), ("_counts", .ref x)]) d = some (.dT []) := (upd_ne npd.symm).trans (f2 _ _ nxd (by walk_at "lk"))
    have e5 : CtAt T.C_Counts (upd H2 p (.ins T.C_Book db [("_members", .int (M : Nat)), ("_letters", .ref d), ("_counts", .ref x)])) x (vec M []) := ⟨dx, t, (upd_ne npx.symm).trans g1, (upd_ne npt.symm).trans g2⟩
    generalize upd H2 p (.ins T.C_Book db [("_members", .int (M : Nat)), ("_letters", .ref d), ("_counts", .ref x)]) = H3 at f3 e3 e4 e5 ⊢
    intro D hD
    have hDp : D ≠ p := fun z => by rw [z, e3] at hD; cases hD
    refine lc_any walk_range (fun i ys H' => Empt D H3 i ys H') (by simp; omega) (fun _ _ _ _ h s => h.same s) (fun _ _ _ _ h => h.put) (Empt.zero) (fun _ _ => trivial) hD ?_ ?_ gName_m tYes_m
    · rintro i v ys B1 B2 R R2 hi s6 hP hDB ⟨rfl, rfl⟩ hR hR2
      refine ⟨wipe_set, q_yes ⟨hR true _ (Same.refl _) (fun h => nomatch h), fun _ => ?_⟩⟩
      walk_at "rdn"
      intro z hz
      exact hR2 _ _ (Same.new hz) (hP.snoc (Same.new hz) (s6.free hz) hz upd_same (ne_of_none hDB hz).symm)
    · intro ys H4 s4 hP4 hD4
      walk_at "rdn"
      rw [putF_ne (by decide +kernel), putF_ne (by decide +kernel), putF_ne (by decide +kernel), putF_nil]
      obtain ⟨as, rfl, la, na, pa⟩ := hP4
      have w0 : ∀ {b o}, b ≠ p → H4 b = some o → upd H4 p (.ins T.C_Book db [("_members", .int (M : Nat)), ("_letters", .ref d), ("_counts", .ref x), ("_waits", .ref D)]) b = some o := fun n e => (upd_ne n).trans e
      obtain ⟨dx5, t5, e51, e52⟩ := e5
      have ntp : t5 ≠ p := fun z => by rw [z, e3] at e52; cases e52
      refine k ⟨d, x, D, as, []⟩ _ (fun b o nb e => w0 nb (s4 _ _ (f3 b o nb e))) ?_ hd0 ?_ ?_
      · exact { o := ⟨db, upd_same⟩, d := w0 npd.symm (s4 _ _ e4), kl := rfl, gl := rfl, lt := fun i a k G h => (by simp at h), c := ⟨dx5, t5, w0 npx.symm (s4 _ _ e51), w0 ntp (s4 _ _ e52)⟩, w := w0 hDp hD4, wl := by simpa using la, we := fun a ha => ⟨[], w0 (fun z => by have := (pa a ha).2.1; rw [z, e3] at this; cases this) (pa a ha).1, Nat.le_refl _⟩, nd := List.nodup_cons.mpr ⟨fun hm => (pa D hm).2.2 rfl, na⟩ }
      · exact Fr1.free2 f3 hDp hD
      · exact fun z hz => Fr1.free2 f3 (fun w => by have := (pa z hz).2.1; rw [w, e3] at this; cases this) (pa z hz).2.1
theorem ok_Book_len (T : Tx K mg) : FnOk P w K mg base CX0 1 T.f_Book_len T.d_Book_len ["self"] (sp_Book_len K T.C_Book) := by
  refine T.F_Book_len.ok sc_Book_len (fun vs H Q E h => ?_) (fun cdv A outer s H vs Q E hr h => ?_)
  · rcases h with ⟨p, db, d, x, z, u, kvs, rfl, hp, hd, k⟩
    all_goals rfl
  · have hu := hu_of hr
    refine ⟨_, (pss_one (ps_ret (pe_callB (id := "len") call_len_dT (by rfl) T.z_len (by decide +kernel) (pa_cons (kp_fld (K := K) rfl (pv 0) rfl) (pa_nil))))), ?_⟩
    rcases h with ⟨p, db, d, x, z, u, kvs, rfl, hp, hd, k⟩
    walk_at "rdn"
    refine q_lenT2 hd ?_
    walk_at "rdn"
    exact k
theorem ok_Book_counts (T : Tx K mg) : FnOk P w K mg base CX0 1 T.f_Book_counts T.d_Book_counts ["self"] (sp_Book_counts K T.C_Book) := by
  refine T.F_Book_counts.ok sc_Book_counts (fun vs H Q E h => ?_) (fun cdv A outer s H vs Q E hr h => ?_)
  · rcases h with ⟨p, db, x, y, z, u, rfl, hp, k⟩
    all_goals rfl
  · have hu := hu_of hr
    refine ⟨_, (pss_one (ps_ret (kp_fld (K := K) rfl (pv 0) rfl))), ?_⟩
    rcases h with ⟨p, db, x, y, z, u, rfl, hp, k⟩
    walk_at "rd"
    exact k
theorem ok_Book_letter (T : Tx K mg) : FnOk P w K mg base CX0 4 T.f_Book_letter T.d_Book_letter ["self", "ident"] (sp_Book_letter K T.C_Counts T.C_Letter T.C_Book) := by
  refine T.F_Book_letter.ok sc_Book_letter (fun vs H Q E h => ?_) (fun cdv A outer s H vs Q E hr h => ?_)
  · rcases h with ⟨M, p, t, β, ks, cg, c, rfl, hb, ht, hc, hk, k⟩
    all_goals rfl
  · have hu := hu_of hr
    refine ⟨_, (pss_cons (ps_if (PW.pt (pw_or (pt_not (pt_val (pe_call (ok_is_ident (P := P) T) (hr.mono (by decide)) rfl T.m_is_ident T.k_is_ident T.b_is_ident_2 T.v_is_ident_2 pass0 (pa_cons (pv 1) (pa_cons (kp_fld (K := K) rfl (pv 0) rfl) (pa_nil)))))) (pw_or1 (pt_cmp (pc_dnotin (room1 hr) (pv 1) (kp_fld (K := K) rfl (pv 0) rfl))))))
      (pss_one ps_never) pss_nil)
      (pss_one (ps_ret (pe_dget (room1 hr) (kp_fld (K := K) rfl (pv 0) rfl) (pv 1) (fun _ _ => rfl))))), ?_⟩
    rcases h with ⟨M, p, t, β, ks, cg, c, rfl, hb, ht, hc, hk, k⟩
    obtain ⟨db, hp⟩ := hb.o
    have hd := hb.d
    obtain ⟨h0, h1, h2, _⟩ := hk.2 c.1 c.2 hc
    obtain ⟨a, hv, hla⟩ := hb.find hc
    walk_at "rdn"
    refine q_dT hd (PairAt.key ht) ?_
    rw [zk_isSome hb.kl, decide_eq_true hc]
    walk_at "rdn"
    refine q_dTs hd (PairAt.key ht) hv ?_
    walk_at "rdn"
    exact k _ hla
theorem ok_Book_ahead (T : Tx K mg) : FnOk P w K mg base CX0 7 T.f_Book_ahead T.d_Book_ahead ["self", "ident"] (sp_Book_ahead K T.C_Counts T.C_Letter T.C_Book) := by
  refine T.F_Book_ahead.ok sc_Book_ahead (fun vs H Q E h => ?_) (fun cdv A outer s H vs Q E hr h => ?_)
  · rcases h with ⟨M, p, t, β, ks, cg, c, rfl, hb, ht, hc, hk, hM, hM5, hl, k⟩
    all_goals rfl
  · have hu := hu_of hr
    refine ⟨_, (pss_one (ps_ret (pe_call (ok_ids_beyond (P := P) T) (hr.mono (by decide)) rfl T.m_ids_beyond T.k_ids_beyond T.b_ids_beyond .nil pass0 (pa_cons (pe_make T.mk_Counts (ok_Counts_init (P := P) T) (hr.mono (by decide)) rfl T.g_Counts T.b_Counts_init .nil pass0 (pa_cons (pe_op op_rep (pe_lst (pa_cons pe_int (pa_nil))) (kp_fld (K := K) rfl (pv 0) rfl)) (pa_nil))) (pa_cons (pe_meth0 (pe_meth (pv 0) T.c_Book T.mt_Book_letter (ok_Book_letter (P := P) T) (hr.mono (by decide)) T.b_Book_letter .nil pass0 (pa_cons (pv 1) (pa_nil))) T.c_Letter T.mt_Letter_causes (ok_Letter_causes (P := P) T) (hr.mono (by decide)) T.b_Letter_causes .nil pass0) (pa_nil)))))), ?_⟩
    rcases h with ⟨M, p, t, β, ks, cg, c, rfl, hb, ht, hc, hk, hM, hM5, hl, k⟩
    obtain ⟨db, hp⟩ := hb.o
    walk_at "rdn"
    intro l0 hl0
    walk_at "rdn"
    refine q_rep (xs := [V.int 0]) upd_same (by omega) (by omega) (line_of (by simp only [List.length_cons, List.length_nil]; omega)) ?_
    rw [rep_ints, Int.toNat_natCast, ← vec_nil]
    have nn := NN.of (vec_pos (M := M) (G := []))
    have hvl : (vec M []).length = M := vec_len
    intro w hw
    walk_at "rdn"
    intro x dx hx hdx ne
    walk_at "rdn"
    intro t2 H' f g1 g2
    have S : Same H H' := fun b o e => f b o (by walk_at "ne") (by walk_at "lk")
    have hb := hb.same S
    have ht := S _ _ ht
    have hp := S _ _ hp
    walk_at "rdn"
    intro a hla
    obtain ⟨dl, w2, c6, g4, hc6⟩ := hla
    walk_at "rdn"
    refine r_ids_beyond rfl (hc := ⟨dx, t2, g1, g2⟩) (hd := hc6) (hM := hM) (hM5 := hM5) (hA := by simp) (hB := hl) ?_
    intro l xs H2 s2 hl2 hx2
    exact k l xs H2 (S.trans s2) hl2 hx2
theorem ok_Book_check_new (T : Tx K mg) : FnOk P w K mg base CX0 3 T.f_Book_check_new T.d_Book_check_new ["self", "letter"] (sp_Book_check_new K T.C_Counts T.C_Letter T.C_Book) := by
  refine T.F_Book_check_new.ok sc_Book_check_new (fun vs H Q E h => ?_) (fun cdv A outer s H vs Q E hr h => ?_)
  · rcases h with ⟨M, p, a, β, ks, cg, c, G, rfl, hb, ha, hc, hM5, k⟩
    all_goals rfl
  · have hu := hu_of hr
    refine ⟨_, (pss_cons (ps_if (pt_not (pt_val (pe_callB (id := "isinstance") (kx_isi (K := K) rfl) (by rfl) T.z_isinstance (by decide +kernel) (pa_cons (pv 1) (pa_cons (pe_glob (v := .ref T.C_Letter) rfl T.g_Letter rfl) (pa_nil))))))
      (pss_one ps_never) pss_nil)
      (pss_cons (ps_if (pt_cmpR op_ne (pe_callB (id := "len") (call_lenO rfl T.mt_Counts_len.at_ T.mt_Counts_len.fn (ok_Counts_len (P := P) T) (hr.mono (by decide)) T.b_Counts_len pass0) (by rfl) T.z_len (by decide +kernel) (pa_cons (pe_meth0 (pv 1) T.c_Letter T.mt_Letter_causes (ok_Letter_causes (P := P) T) (hr.mono (by decide)) T.b_Letter_causes .nil pass0) (pa_nil))) (kp_fld (K := K) rfl (pv 0) rfl) (nomark _))
      (pss_one ps_never) pss_nil)
      (pss_cons (ps_set (i := 2) sc_Book_check_new.nd rfl (Or.inl rfl) (pe_meth0 (pv 1) T.c_Letter T.mt_Letter_id_of (ok_Letter_id_of (P := P) T) (hr.mono (by decide)) T.b_Letter_id_of .nil pass0))
      (pss_cons (ps_if (pt_cmp (pc_dnotin (room1 hr) (pv 2) (kp_fld (K := K) rfl (pv 0) rfl)))
      (pss_one ps_retN) pss_nil)
      (pss_cons (ps_if (pt_cmpR op_eq (pe_dget (room1 hr) (kp_fld (K := K) rfl (pv 0) rfl) (pv 2) (fun _ _ => rfl)) (pv 1) (nomark _))
      (pss_one ps_never) pss_nil)
      (pss_one ps_never)))))), ?_⟩
    rcases h with ⟨M, p, a, β, ks, cg, c, G, rfl, hb, ha, hc, hM5, k⟩
    obtain ⟨db, hp⟩ := hb.o
    have hd := hb.d
    obtain ⟨dl, w, c2, h1, dx, t, h2, h3⟩ := ha
    have hvl : (vec M G).length = M := vec_len
    walk_at "rdn"
    intro t2 ht2
    have ndt : β.d ≠ t2 := by walk_at "ne"
    have hd2 : upd H t2 (HO.tup [V.int c.fst, V.int c.snd]) β.d = some (.dT (zk ks β.ls)) := (upd_ne ndt).trans hd
    walk_at "rdn"
    refine q_dT hd2 (PairAt.key upd_same) ?_
    rw [zk_isSome hb.kl, decide_eq_false hc]
    walk_at "rdn"
    exact k _ (Same.new ht2)
theorem ok_Book_covers_its_causes (T : Tx K mg) : FnOk P w K mg base CX0 5 T.f_Book_covers_its_causes T.d_Book_covers_its_causes ["self", "row"] (sp_Book_covers_its_causes K T.C_Counts T.C_Letter T.C_Book) := by
  refine T.F_Book_covers_its_causes.ok sc_Book_covers_its_causes (fun vs H Q E h => ?_) (fun cdv A outer s H vs Q E hr h => ?_)
  · rcases h with ⟨M, p, r, β, ks, cg, G, rfl, hb, hr2, hM5, hG, hGk, hcc, hsub, k⟩
    all_goals rfl
  · have hu := hu_of hr
    refine ⟨_, (pss_cons (ps_setLc (i := 2) (own := [("member", 3), ("count", 4)]) (g := (gTup K 2 ((gCons (gName 3) (gCons (gName 4) gNil))))) rfl sc_Book_covers_its_causes.nd rfl rfl (sw_true rfl rfl rfl (by decide +kernel)) (pi_enumT (K := K) rfl (by rfl) T.z_enumerate (pa_cons (pe_meth0 (pv 1) T.c_Counts T.mt_Counts_told (ok_Counts_told (P := P) T) (hr.mono (by decide)) T.b_Counts_told .nil pass0) (pa_nil))) (blkOk_by (own := [("member", 3), ("count", 4)]) (N := ["self", "row", "last", "member", "count", "ident"]) (sc := defScope s_Book_covers_its_causes) (by decide +kernel)) (fun _ _ _ _ _ => (kg_tup (K := K) (n := 2) rfl rfl (pgs_cons (pg_name (i := 3) sc_Book_covers_its_causes.nd rfl (Or.inl rfl)) (pgs_cons (pg_name (i := 4) sc_Book_covers_its_causes.nd rfl (Or.inl rfl)) pgs_nil)))) (fun _ _ _ _ _ => (pts_one (pt_cmpR op_gt (pv 4) pe_int (nomark _)))) (fun _ _ _ _ _ => (pe_tup (pa_cons (pv 3) (pa_cons (pv 4) (pa_nil))))))
      (pss_one (ps_ret (pe_callB (id := "all") (kx_all (K := K) rfl rfl) (by rfl) T.z_all (by decide +kernel) (pa_cons (pe_lc (own := [("ident", 5)]) (g := gName 5) (tt := tYes) rfl sc_Book_covers_its_causes.nd (kpi_list (K := K) rfl (pv 2)) (blkOk_by (own := [("ident", 5)]) (N := ["self", "row", "last", "member", "count", "ident"]) (sc := defScope s_Book_covers_its_causes) (by decide +kernel)) (fun _ _ _ _ _ => (pg_name (i := 5) sc_Book_covers_its_causes.nd rfl (Or.inl rfl))) (fun _ _ _ _ _ => pts_nil) (fun _ _ _ _ _ => (pe_meth (pv 1) T.c_Counts T.mt_Counts_covers (ok_Counts_covers (P := P) T) (hr.mono (by decide)) T.b_Counts_covers .nil pass0 (pa_cons (pe_meth0 (pe_dget (room1 hr) (kp_fld (K := K) rfl (pv 0) rfl) (pv 5) (fun _ _ => rfl)) T.c_Letter T.mt_Letter_causes (ok_Letter_causes (P := P) T) (hr.mono (by decide)) T.b_Letter_causes .nil pass0) (pa_nil))))) (pa_nil)))))), ?_⟩
    rcases h with ⟨M, p, r, β, ks, cg, G, rfl, hb, hr2, hM5, hG, hGk, hcc, hsub, k⟩
    obtain ⟨db, hp⟩ := hb.o
    have hd := hb.d
    obtain ⟨dx, t, h2, h3⟩ := hr2
    have hvl : (vec M G).length = M := vec_len
    walk_at "rdn"
    intro D hD
    refine lc_it walk_enumT (fun i H9 => Same H H9 ∧ ∃ ys cs, All2 (PairD D H9) ys cs ∧ ys.length ≤ i ∧ (∀ c ∈ cs, c ∈ G) ∧ H9 D = some (.lst ys)) ⟨Same.new hD, [], [], .nil, Nat.le_refl _, (fun c h => by cases h), upd_same⟩ (fun i H9 _ h => SqT.of (h.1 _ _ h3)) ?_ ?_
    · rintro i x H2 H3 hi ⟨s2, ys, cs, hP, hl2, hcs, hD2⟩ ⟨tt, u1, u2, rfl, hT, rfl, e1, e2⟩
      have hi2 : i < M := by simpa [hvl] using hi
      obtain rfl : u1 = .int (i : Nat) := (Option.some.inj e1).symm
      obtain rfl : u2 = .int ((cntM G ((i : Nat) : Int) : Nat) : Int) := by
        dsimp only at e2
        rw [List.getElem?_map, vec_at hi2] at e2
        exact (Option.some.inj e2).symm
      have hDD : D ≠ tt := by walk_at "ne"
      walk_at "rdn"
      refine ⟨rfl, ?_⟩
      walk_at "rdn"
      refine q_ifx (fun hb2 => ?_) (fun hb2 => ?_)
      · walk_at "rdn"
        intro p3 hp3
        walk_at "rdn"
        refine ⟨ys, by walk_at "lk", line_lt (by omega), ((s2.trans (Same.new hT)).trans (Same.new hp3)).snew hD, ys ++ [.ref p3], cs ++ [(((i : Nat) : Int), ((cntM G ((i : Nat) : Int) : Nat) : Int))], ?_, by rw [List.length_append]; simp; omega, fun c hc => ?_, upd_same⟩
        · exact All2.snoc (hP.mono fun x c z => (z.same ((Same.new hT).trans (Same.new hp3))).upd) ⟨p3, rfl, by walk_at "ne", (upd_ne (by walk_at "ne")).trans upd_same⟩
        · rcases List.mem_append.mp hc with hc | hc
          · exact hcs c hc
          · rw [List.mem_singleton.mp hc]
            exact (hG.iff (by omega)).mpr (Int.le_refl _)
      · exact ⟨s2.trans (Same.new hT), ys, cs, hP.mono fun x c z => z.same (Same.new hT), by omega, hcs, by walk_at "lk"⟩
    · rintro H9 ⟨s9, ys, cs, hP, hl9, hcs, e9⟩
      rw [vm_len] at hl9
      have hb9 := hb.same s9
      have hd9 := hb9.d
      have h29 := s9 _ _ h2
      have h39 := s9 _ _ h3
      have hp9 := s9 _ _ hp
      walk_at "rdn"
      intro D2 hD2
      refine lc_any walk_list (fun i zs _ => zs = List.replicate i (V.bl true)) (by omega) (fun _ _ _ _ h _ => h) (fun _ _ _ _ h => h) rfl (fun H' s => SqL.of (s _ _ e9)) hD2 ?_ ?_ gName_m tYes_m
      · rintro i v zs B1 B2 R R2 hi s6 hP6 hDB ⟨rfl, hv⟩ hR hR2
        obtain ⟨c, hc, u, rfl, _, hu⟩ := hP.get hv
        have hcG := hcs c (List.mem_of_getElem? hc)
        have hb6 := hb9.same s6
        have hd6 := hb6.d
        have hu6 := s6 _ _ hu
        have hp6 := s6 _ _ hp9
        have h26 := s6 _ _ h29
        have h36 := s6 _ _ h39
        obtain ⟨a, hva, dl, w, c6, g1, dy, t6, g2, g3⟩ := hb6.find (hGk c hcG)
        refine ⟨wipe_set, q_yes ⟨hR true _ (Same.refl _) (fun h => nomatch h), fun _ => ?_⟩⟩
        have hcov : coversB (vec M G) (vec M (causesOf ks cg c)) = true := (cov_sub hG (hcc c (hGk c hcG))).mpr (hsub c hcG)
        have hl1 : (vec M (causesOf ks cg c)).length = (vec M G).length := by rw [vec_len, vec_len]
        have hl2 : (vec M G).length ≤ 5 := by rw [vec_len]; exact hM5
        walk_at "rdn"
        refine q_dTs hd6 (PairAt.key hu6) hva ?_
        walk_at "rdn"
        intro H7 s7
        rw [hcov]
        exact hR2 _ _ s7 (by rw [hP6, List.replicate_succ'])
      · intro zs B1 s6 hP6 hD3
        rw [rep_true] at hP6
        subst hP6
        walk_at "rdn"
        rw [all_rep]
        exact k _ (s9.trans s6)
theorem ok_Book_keep (T : Tx K mg) : FnOk P w K mg base CX0 8 T.f_Book_keep T.d_Book_keep ["self", "letter"] (sp_Book_keep K T.C_Counts T.C_Letter T.C_Book) := by
  refine T.F_Book_keep.ok sc_Book_keep (fun vs H Q E h => ?_) (fun cdv A outer s H vs Q E hr h => ?_)
  · rcases h with ⟨M, p, a, β, ks, cg, s, G, rfl, hb, ha, hM, hM5, hs, hk, hl, hG, hGk, hcc, hsub, hgs, k⟩
    all_goals rfl
  · have hu := hu_of hr
    refine ⟨_, (pss_cons (ps_expr (pe_meth (pv 0) T.c_Book T.mt_Book_check_new (ok_Book_check_new (P := P) T) (hr.mono (by decide)) T.b_Book_check_new .nil pass0 (pa_cons (pv 1) (pa_nil))))
      (pss_cons (ps_set (i := 2) sc_Book_keep.nd rfl (Or.inl rfl) (pe_meth0 (pv 1) T.c_Letter T.mt_Letter_causes (ok_Letter_causes (P := P) T) (hr.mono (by decide)) T.b_Letter_causes .nil pass0))
      (pss_cons (ps_set (i := 3) sc_Book_keep.nd rfl (Or.inl rfl) (pe_call (ok_ids_beyond (P := P) T) (hr.mono (by decide)) rfl T.m_ids_beyond T.k_ids_beyond T.b_ids_beyond .nil pass0 (pa_cons (kp_fld (K := K) rfl (pv 0) rfl) (pa_cons (pv 2) (pa_nil)))))
      (pss_cons (ps_if (pt_truth (pv 3) (by intro _; rfl))
      (pss_one ps_never) pss_nil)
      (pss_cons (ps_if (pt_not (pt_val (pe_meth (pv 0) T.c_Book T.mt_Book_covers_its_causes (ok_Book_covers_its_causes (P := P) T) (hr.mono (by decide)) T.b_Book_covers_its_causes .nil pass0 (pa_cons (pv 2) (pa_nil)))))
      (pss_one ps_never) pss_nil)
      (pss_cons (ps_if (pt_cmpR op_eq (pe_callB (id := "len") call_len_dT (by rfl) T.z_len (by decide +kernel) (pa_cons (kp_fld (K := K) rfl (pv 0) rfl) (pa_nil))) (pe_glob (v := .int 30) rfl T.g_MOST_LETTERS ⟨_, rfl⟩) (nomark _))
      (pss_one ps_never) pss_nil)
      (pss_cons (ps_set (i := 4) sc_Book_keep.nd rfl (Or.inl rfl) (pe_call (ok_changes_of (P := P) T) (hr.mono (by decide)) rfl T.m_changes_of T.k_changes_of T.b_changes_of .nil pass0 (pa_cons (pv 1) (pa_cons (pe_dget1 (room1 hr) (kp_fld (K := K) rfl (pv 0) rfl) (pe_tup (pa_cons (pe_meth0 (pv 1) T.c_Letter T.mt_Letter_sender (ok_Letter_sender (P := P) T) (hr.mono (by decide)) T.b_Letter_sender .nil pass0) (pa_cons (pe_op op_sub (pe_meth0 (pv 1) T.c_Letter T.mt_Letter_number (ok_Letter_number (P := P) T) (hr.mono (by decide)) T.b_Letter_number .nil pass0) pe_int) (pa_nil)))) ⟨rfl, rfl, rfl, rfl⟩) (pa_nil)))))
      (pss_cons (ps_expr (pe_bm PySem.F.plainAttrs_list PySem.F.slot_list_append PySem.F.type_list_append mt_append (pe_ix (ki_list (K := K) rfl) (kp_fld (K := K) rfl (pv 0) rfl) (pe_meth0 (pv 1) T.c_Letter T.mt_Letter_sender (ok_Letter_sender (P := P) T) (hr.mono (by decide)) T.b_Letter_sender .nil pass0) (fun _ _ => rfl)) (pa_cons (pe_lc (own := [("member", 5), ("count", 6)]) (g := (gTup K 2 ((gCons (gName 5) (gCons (gName 6) gNil))))) (tt := tYes) rfl sc_Book_keep.nd (kpi_list (K := K) rfl (pv 4)) (blkOk_by (own := [("member", 5), ("count", 6)]) (N := ["self", "letter", "row", "lacking", "changes", "member", "count"]) (sc := defScope s_Book_keep) (by decide +kernel)) (fun _ _ _ _ _ => (kg_tup (K := K) (n := 2) rfl rfl (pgs_cons (pg_name (i := 5) sc_Book_keep.nd rfl (Or.inl rfl)) (pgs_cons (pg_name (i := 6) sc_Book_keep.nd rfl (Or.inl rfl)) pgs_nil)))) (fun _ _ _ _ _ => pts_nil) (fun _ _ _ _ _ => (pe_tup (pa_cons (pe_op op_mul (pe_glob (v := .int 5) rfl T.g_BITS ⟨_, rfl⟩) (pv 5)) (pa_cons (pv 6) (pa_nil)))))) (pa_nil))))
      (pss_cons (ps_asg (pv 1) (pg_sub (kp_fld (K := K) rfl (pv 0) rfl) (pe_meth0 (pv 1) T.c_Letter T.mt_Letter_id_of (ok_Letter_id_of (P := P) T) (hr.mono (by decide)) T.b_Letter_id_of .nil pass0) (set_dict (room1 hr))))
      (pss_one (kps_fld (K := K) rfl (ps_fld (pv 0) (pe_meth (kp_fld (K := K) rfl (pv 0) rfl) T.c_Counts T.mt_Counts_raised (ok_Counts_raised (P := P) T) (hr.mono (by decide)) T.b_Counts_raised_2 T.v_Counts_raised_2 pass0 (pa_cons (pe_meth0 (pv 1) T.c_Letter T.mt_Letter_sender (ok_Letter_sender (P := P) T) (hr.mono (by decide)) T.b_Letter_sender .nil pass0) (pa_nil))) rfl)))))))))))), ?_⟩
    rcases h with ⟨M, p, a, β, ks, cg, s, G, rfl, hb, ha, hM, hM5, hs, hk, hl, hG, hGk, hcc, hsub, hgs, k⟩
    have hnew : (((s : Nat) : Int), 1 + ((cntM ks ((s : Nat) : Int) : Nat) : Int)) ∉ ks := fun hm => by
      have := (hk.iff (by omega)).mp hm
      omega
    have hbey : beyond M ks G = [] := beyond_nil fun j hj => cnt_sub hG hk fun n _ hn => hGk _ hn
    obtain ⟨db, hp⟩ := hb.o
    walk_at "rdn"
    intro H1 s1
    have hp1 := s1 _ _ hp
    have hb1 := hb.same s1
    have ha1 := ha.same s1
    obtain ⟨dl, w, c1, g1, hc1⟩ := ha1
    have hbc := hb1.c
    have hgl : G.length ≤ 30 := by
      have := List.Nodup.length_le_of_subset hG.1 (l₂ := ks) (fun e he => hGk e he)
      omega
    walk_at "rdn"
    have hkl30 : ks.length ≤ 30 := by omega
    walk_at "rdn"
    intro l xs H2 s2 hl0 hx
    rw [hbey] at hx
    cases hx
    have hp2 := s2 _ _ hp1
    have hb2 := hb1.same s2
    have hc2 := hc1.same s2
    have g2 := s2 _ _ g1
    walk_at "rdn"
    refine ⟨false, .inl ⟨[], SqL.of hl0, rfl⟩, ?_⟩
    walk_at "rdn"
    intro H3 s3
    have hp3 := s3 _ _ hp2
    have hb3 := hb2.same s3
    have hc3 := hc2.same s3
    have g3 := s3 _ _ g2
    have hd3 := hb3.d
    walk_at "rdn"
    refine q_lenT2 hd3 ?_
    rw [zk_len hb3.kl]
    walk_at "rdn"
    unfold tDGet1
    walk_at "rdn"
    refine ⟨β.d, rfl, .inr ⟨_, .inl hd3⟩, ?_⟩
    walk_at "rdn"
    intro t6 ht6
    have s6 : Same H3 (upd H3 t6 (.tup [.int (s : Nat), .int (1 + ((cntM ks ((s : Nat) : Int) : Nat) : Int) - 1)])) := Same.new ht6
    have e6 : upd H3 t6 (.tup [.int (s : Nat), .int (1 + ((cntM ks ((s : Nat) : Int) : Nat) : Int) - 1)]) t6 = some (.tup [.int (s : Nat), .int (1 + ((cntM ks ((s : Nat) : Int) : Nat) : Int) - 1)]) := upd_same
    generalize upd H3 t6 (.tup [.int (s : Nat), .int (1 + ((cntM ks ((s : Nat) : Int) : Nat) : Int) - 1)]) = H6 at s6 e6 ⊢
    have hp6 := s6 _ _ hp3
    have hb6 := hb3.same s6
    have hc6 := hc3.same s6
    have g6 := s6 _ _ g3
    have ha6 : LetAt T.C_Counts T.C_Letter M H6 a (((s : Nat) : Int), 1 + ((cntM ks ((s : Nat) : Int) : Nat) : Int)) G := ⟨dl, w, c1, g6, hc6⟩
    have hch : ∀ (Q' : VK), (∀ (l : Addr) (xs : List V) (cs : List (Int × Int)) (H' : Hp), Same H6 H' → H6 l = none → H' l = some (.lst xs) → All2 (PairAt H') xs cs → xs.length ≤ 5 → Q' (.ref l) H') → sp_changes_of K T.C_Counts T.C_Letter [.ref a, (valV (zk ks β.ls) (keyOf (((s : Nat) : Int), 1 + ((cntM ks ((s : Nat) : Int) : Nat) : Int) - 1))).getD .non] H6 Q' E0 := fun Q' q => by
      by_cases h0 : cntM ks ((s : Nat) : Int) = 0
      · rw [zk_none (fun hm => by have := (hk.2 _ _ hm).2.2.1; omega)]
        rw [h0] at ha6
        exact r_changes_of_1 rfl (hp := ha6) (hM := hM) (hM5 := hM5) q
      · have hmem : (((s : Nat) : Int), 1 + ((cntM ks ((s : Nat) : Int) : Nat) : Int) - 1) ∈ ks := (hk.iff (by omega)).mpr (by omega)
        have hmemG : (((s : Nat) : Int), 1 + ((cntM ks ((s : Nat) : Int) : Nat) : Int) - 1) ∈ G := (hG.iff (by omega)).mpr (by omega)
        obtain ⟨a2, hv2, hla2⟩ := hb6.find hmem
        rw [hv2]
        exact r_changes_of_2 rfl (hp := ha6) (ha := hla2) (hn := by omega) (hM := hM) (hM5 := hM5) (hv := (cov_sub hG (hcc _ hmem)).mpr (hsub _ hmemG)) q
    refine ⟨_, DGet.t hb6.d (PairAt.key (c := (((s : Nat) : Int), 1 + ((cntM ks ((s : Nat) : Int) : Nat) : Int) - 1)) e6), ?_⟩
    walk_at "rdn"
    refine hch _ ?_
    intro l2 xs2 cs2 H7 s7 hl20 hl2 hx2 hxl2
    have hp7 := s7 _ _ hp6
    have hb7 := hb6.same s7
    have hc7 := hc6.same s7
    have g7 := s7 _ _ g6
    have hw7 := hb7.w
    obtain ⟨wa, hwa⟩ : ∃ wa, β.wl[s]? = some wa := ⟨_, List.getElem?_eq_getElem (by have := hb.wl; omega)⟩
    obtain ⟨ws, hws, hwsl⟩ := hb7.we wa (List.mem_of_getElem? hwa)
    have hat : atI (β.wl.map V.ref) (s : Int) = some (.ref wa) := atI_nat (by rw [List.getElem?_map, hwa]; rfl)
    walk_at "rdn"
    intro D hD
    refine lc_any walk_list (fun i ys _ => ys.length ≤ i) (by omega) (fun _ _ _ _ h _ => h) (fun _ _ _ _ h => h) (Nat.le_refl _) (fun H' s => SqL.of (s _ _ hl2)) hD ?_ ?_ gTup2_m tYes_m
    · rintro i v ys B1 B2 R R2 hi s8 hP hDB ⟨rfl, hv⟩ hR hR2
      obtain ⟨c9, _, u, rfl, hu⟩ := hx2.get hv
      have hu8 := s8 _ _ hu
      walk_at "rdn"
      refine ⟨rfl, q_yes ⟨hR true _ (Same.refl _) (fun h => nomatch h), fun _ => ?_⟩⟩
      walk_at "rdn"
      intro z hz
      exact hR2 _ _ (Same.new hz) (by rw [List.length_append]; simp; omega)
    · intro ys H8 s8 hP8 hD8
      have S8 : Same H H8 := s1.trans (s2.trans (s3.trans (s6.trans (s7.trans s8))))
      have hp8 := S8 _ _ hp
      have hb8 := hb.same S8
      have g8 := s8 _ _ g7
      have hws8 := s8 _ _ hws
      walk_at "rdn"
      have w9 : ∀ b o, b ≠ wa → H8 b = some o → upd H8 wa (.lst (ws ++ [.ref D])) b = some o := fun b o n e => (upd_ne n).trans e
      have e9 : upd H8 wa (.lst (ws ++ [.ref D])) wa = some (.lst (ws ++ [.ref D])) := upd_same
      generalize upd H8 wa (.lst (ws ++ [.ref D])) = H9 at w9 e9 ⊢
      have hp9 := w9 _ _ (fun z => by rw [z, hws8] at hp8; cases hp8) hp8
      have g9 := w9 _ _ (fun z => by rw [z, hws8] at g8; cases g8) g8
      have hd9 := w9 _ _ (fun z => by have := hb8.d; rw [z, hws8] at this; cases this) hb8.d
      obtain ⟨dxc, tc, hc1, hc2⟩ := hb8.c
      have hc19 := w9 _ _ (fun z => by rw [z, hws8] at hc1; cases hc1) hc1
      have hc29 := w9 _ _ (fun z => by rw [z, hws8] at hc2; cases hc2) hc2
      walk_at "rdn"
      intro t9 ht9
      have ndt : β.d ≠ t9 := by walk_at "ne"
      walk_at "rdn"
      refine q_setT ((upd_ne ndt).trans hd9) (k := keyOf (((s : Nat) : Int), 1 + ((cntM ks ((s : Nat) : Int) : Nat) : Int))) (PairAt.key upd_same) (by rw [zk_len hb.kl]; omega) ?_
      rw [zk_put hb.kl hnew]
      have w10 : ∀ b o, b ≠ β.d → H9 b = some o → upd (upd H9 t9 (.tup [.int (((s : Nat) : Int), 1 + ((cntM ks ((s : Nat) : Int) : Nat) : Int)).1, .int (((s : Nat) : Int), 1 + ((cntM ks ((s : Nat) : Int) : Nat) : Int)).2])) β.d (.dT (zk (ks ++ [(((s : Nat) : Int), 1 + ((cntM ks ((s : Nat) : Int) : Nat) : Int))]) (β.ls ++ [a]))) b = some o := fun b o n e => (upd_ne n).trans ((Same.new ht9) _ _ e)
      have e10 : upd (upd H9 t9 (.tup [.int (((s : Nat) : Int), 1 + ((cntM ks ((s : Nat) : Int) : Nat) : Int)).1, .int (((s : Nat) : Int), 1 + ((cntM ks ((s : Nat) : Int) : Nat) : Int)).2])) β.d (.dT (zk (ks ++ [(((s : Nat) : Int), 1 + ((cntM ks ((s : Nat) : Int) : Nat) : Int))]) (β.ls ++ [a]))) β.d = some (.dT (zk (ks ++ [(((s : Nat) : Int), 1 + ((cntM ks ((s : Nat) : Int) : Nat) : Int))]) (β.ls ++ [a]))) := upd_same
      generalize upd (upd H9 t9 (.tup [.int (((s : Nat) : Int), 1 + ((cntM ks ((s : Nat) : Int) : Nat) : Int)).1, .int (((s : Nat) : Int), 1 + ((cntM ks ((s : Nat) : Int) : Nat) : Int)).2])) β.d (.dT (zk (ks ++ [(((s : Nat) : Int), 1 + ((cntM ks ((s : Nat) : Int) : Nat) : Int))]) (β.ls ++ [a]))) = H10 at w10 e10 ⊢
      have npd : p ≠ β.d := fun z => by rw [z, hd9] at hp9; cases hp9
      have hp10 := w10 _ _ npd hp9
      have g10 := w10 _ _ (fun z => by rw [z, hd9] at g9; cases g9) g9
      have hc110 := w10 _ _ (fun z => by rw [z, hd9] at hc19; cases hc19) hc19
      have hc210 := w10 _ _ (fun z => by rw [z, hd9] at hc29; cases hc29) hc29
      have nwd : wa ≠ β.d := fun z => by rw [z, hd9] at e9; cases e9
      have e910 := w10 _ _ nwd e9
      have hvk : (vec M ks).length = M := vec_len
      have hvp := vec_pos (M := M) (G := ks)
      walk_at "rdn"
      intro r dz v H11 s11 r1 r2
      rw [vec_raise hs (n := 1 + ((cntM ks ((s : Nat) : Int) : Nat) : Int))] at r2
      have hp11 := s11 _ _ hp10
      have g11 := s11 _ _ g10
      walk_at "rdn"
      rw [putF_ne (by decide +kernel), putF_ne (by decide +kernel), putF_hit]
      have w12 : ∀ b o, b ≠ p → H11 b = some o → upd H11 p (.ins T.C_Book db [("_members", .int (M : Nat)), ("_letters", .ref β.d), ("_counts", .ref r), ("_waits", .ref β.w)]) b = some o := fun b o n e => (upd_ne n).trans e
      have e12 : upd H11 p (.ins T.C_Book db [("_members", .int (M : Nat)), ("_letters", .ref β.d), ("_counts", .ref r), ("_waits", .ref β.w)]) p = some (.ins T.C_Book db [("_members", .int (M : Nat)), ("_letters", .ref β.d), ("_counts", .ref r), ("_waits", .ref β.w)]) := upd_same
      generalize upd H11 p (.ins T.C_Book db [("_members", .int (M : Nat)), ("_letters", .ref β.d), ("_counts", .ref r), ("_waits", .ref β.w)]) = H12 at w12 e12 ⊢
      have fr : ∀ b o, b ≠ p → b ≠ β.d → b ≠ wa → H b = some o → H12 b = some o := fun b o n1 n2 n3 e => w12 _ _ n1 (s11 _ _ (w10 _ _ n2 (w9 _ _ n3 (S8 _ _ e))))
      have fr2 : ∀ b o, b ≠ p → b ≠ β.d → b ∉ β.wl → H b = some o → H12 b = some o := fun b o n1 n2 n3 e => fr b o n1 n2 (fun z => n3 (by rw [z]; exact List.mem_of_getElem? hwa)) e
      have hnd := List.nodup_cons.mp hb.nd
      have npl : ∀ {b : Addr} {xs : List V}, H b = some (.lst xs) → b ≠ p ∧ b ≠ β.d := by
        intro b xs e
        exact ⟨fun z => (by rw [z, hp] at e; cases e), fun z => (by rw [z, hb.d] at e; cases e)⟩
      have nrp : r ≠ p := fun z => by rw [z, hp11] at r1; simp at r1
      have nvp : v ≠ p := fun z => by rw [z, hp11] at r2; cases r2
      have e912 : H12 wa = some (.lst (ws ++ [.ref D])) := w12 _ _ (fun z => by rw [z, hp10] at e910; cases e910) (s11 _ _ e910)
      refine k ⟨β.d, r, β.w, β.wl, β.ls ++ [a]⟩ H12 fr2 ?_ rfl rfl rfl
      exact {
        o := ⟨db, e12⟩
        d := w12 _ _ npd.symm (s11 _ _ e10)
        kl := by show (ks ++ _).length = (β.ls ++ [a]).length; rw [List.length_append, List.length_append, hb.kl]; rfl
        gl := by rw [List.length_append, List.length_append, hb.gl]; rfl
        lt := fun i a' k' G' e1 e2 e3 => by
          have e1 : (β.ls ++ [a])[i]? = some a' := e1
          by_cases hi : i < ks.length
          · rw [List.getElem?_append_left (by have := hb.kl; omega)] at e1
            rw [List.getElem?_append_left hi] at e2
            rw [List.getElem?_append_left (by have := hb.gl; omega)] at e3
            exact (hb.lt i a' k' G' e1 e2 e3).fr hb fr2
          · have hi2 := (List.getElem?_eq_some_iff.mp e2).1
            rw [List.length_append] at hi2
            obtain rfl : i = ks.length := by simp at hi2; omega
            have q1 : a = a' := by simpa [hb.kl] using e1
            have q2 : (((s : Nat) : Int), 1 + ((cntM ks ((s : Nat) : Int) : Nat) : Int)) = k' := by simpa using e2
            have q3 : G = G' := by simpa [hb.gl] using e3
            subst q1
            subst q3
            rw [← q2]
            exact ha.fr hb fr2
        c := ⟨dz, v, w12 _ _ nrp r1, w12 _ _ nvp r2⟩
        w := fr2 _ _ (npl hb.w).1 (npl hb.w).2 hnd.1 hb.w
        wl := hb.wl
        we := fun b hm => by
          obtain ⟨xs, q1, q2⟩ := hb.we b hm
          by_cases hbw : b = wa
          · rw [hbw]
            exact ⟨_, e912, by rw [List.length_append, List.length_append]; simp; omega⟩
          · exact ⟨xs, fr _ _ (npl q1).1 (npl q1).2 hbw q1, by rw [List.length_append]; omega⟩
        nd := hb.nd }
theorem ok_is_told_otherwise (T : Tx K mg) : FnOk P w K mg base CX0 1 T.f_is_told_otherwise T.d_is_told_otherwise ["row", "place", "ident"] (sp_is_told_otherwise K) := by
  refine T.F_is_told_otherwise.ok sc_is_told_otherwise (fun vs H Q E h => ?_) (fun cdv A outer s H vs Q E hr h => ?_)
  · rcases h with ⟨a, t, xs, cs, p, c, rfl, ha, hx, ht, hp, hl, k⟩
    all_goals rfl
  · have hu := hu_of hr
    refine ⟨_, (pss_cons (ps_if (PW.pt (pw_and (pt_cmpR op_lt (pe_callB (id := "len") (kx_len (K := K) rfl) (by rfl) T.z_len (by decide +kernel) (pa_cons (pv 0) (pa_nil))) (pv 1) (nomark _)) (pw_and1 (pt_cmpR (ko_notInD (K := K) rfl (room65 hr)) (pv 2) (pv 0) rfl))))
      (pss_one (ps_ret pe_bl)) pss_nil)
      (pss_one (ps_ret (pe_cmpR (ko_neD (K := K) rfl hr.units) (pe_slice (ks_list (K := K) rfl) (pv 0) (po_some (pe_op op_sub (pv 1) pe_int)) (po_some (pv 1))) (pe_lst (pa_cons (pv 2) (pa_nil))) (nomark _))))), ?_⟩
    rcases h with ⟨a, t, xs, cs, p, c, rfl, ha, hx, ht, hp, hl, k⟩
    have hxl := hx.len
    have hbig : ∀ H', Same H H' → ∀ d, H' d = none → ∀ e, upd H' d (.lst (cutV xs (some ((p : Int) - 1)) (some (p : Int)))) e = none → ¬ (cs.length < p ∧ c ∉ cs) → rNeD K (.ref d) (.ref e) (upd (upd H' d (.lst (cutV xs (some ((p : Int) - 1)) (some (p : Int))))) e (.lst [.ref t])) Q := fun H' s d hd e he hno => by
      have S2 : Same H' (upd (upd H' d (.lst (cutV xs (some ((p : Int) - 1)) (some (p : Int))))) e (.lst [.ref t])) := (Same.new hd).trans (Same.new he)
      have nde : d ≠ e := fun z => by rw [← z, upd_same] at he; cases he
      refine q_neLP (SqL.of ((upd_ne nde).trans upd_same)) (SqL.of upd_same) ((hx.cut _ _).mono fun x c z => z.same (s.trans S2)) (.cons ⟨t, rfl, S2 _ _ (s _ _ ht)⟩ .nil) ?_
      rw [told_slice hp hxl]
      refine R_of (k _ (s.trans S2)) ?_
      unfold toldOther
      rw [if_neg hno]
    walk_at "rdn"
    refine q_ifx (fun h1 => ?_) (fun h1 => ?_)
    · walk_at "rdn"
      refine q_notInP (SqL.of ha) hx ⟨t, rfl, ht⟩ ?_
      walk_at "rdn"
      refine q_ifx (fun h2 => ?_) (fun h2 => ?_)
      · walk_at "rdn"
        intro d hd
        walk_at "rdn"
        intro e he
        walk_at "rdn"
        exact hbig H (Same.refl _) d hd e he (fun z => z.2 h2)
      · walk_at "rdn"
        exact R_of (k _ (Same.refl _)) (by unfold toldOther; rw [if_pos ⟨by omega, h2⟩])
    · walk_at "rdn"
      intro d hd
      walk_at "rdn"
      intro e he
      walk_at "rdn"
      exact hbig H (Same.refl _) d hd e he (fun z => h1 (by omega))
theorem ok_Course_init (T : Tx K mg) : FnOk P w K mg base CX0 7 T.f_Course_init T.d_Course_init ["self", "members"] (sp_Course_init K T.C_Counts T.C_Letter T.C_Book T.C_Course) := by
  refine T.F_Course_init.ok sc_Course_init (fun vs H Q E h => ?_) (fun cdv A outer s H vs Q E hr h => ?_)
  · rcases h with ⟨M, p, dc, rfl, hp, hM, hM5, k⟩
    all_goals rfl
  · have hu := hu_of hr
    refine ⟨_, (pss_cons (kps_fld (K := K) rfl (ps_fld (pv 0) (pe_make T.mk_Book (ok_Book_init (P := P) T) (hr.mono (by decide)) rfl T.g_Book T.b_Book_init .nil pass0 (pa_cons (pv 1) (pa_nil))) rfl))
      (pss_cons (kps_fld (K := K) rfl (ps_fld (pv 0) (pe_lc (own := [("_", 2)]) (g := gName 2) (tt := tYes) rfl sc_Course_init.nd (pi_range1 rfl T.z_range (pa_cons (pv 1) (pa_nil))) (blkOk_by (own := [("_", 2)]) (N := ["self", "members", "_"]) (sc := defScope s_Course_init) (by decide +kernel)) (fun _ _ _ _ _ => (pg_name (i := 2) sc_Course_init.nd rfl (Or.inl rfl))) (fun _ _ _ _ _ => pts_nil) (fun _ _ _ _ _ => (pe_make T.mk_Counts (ok_Counts_init (P := P) T) (hr.mono (by decide)) rfl T.g_Counts T.b_Counts_init .nil pass0 (pa_cons (pe_op op_rep (pe_lst (pa_cons pe_int (pa_nil))) (pv 1)) (pa_nil))))) rfl))
      (pss_cons (kps_fld (K := K) rfl (ps_fld (pv 0) (pe_lc (own := [("_", 2)]) (g := gName 2) (tt := tYes) rfl sc_Course_init.nd (pi_range1 rfl T.z_range (pa_cons (pv 1) (pa_nil))) (blkOk_by (own := [("_", 2)]) (N := ["self", "members", "_"]) (sc := defScope s_Course_init) (by decide +kernel)) (fun _ _ _ _ _ => (pg_name (i := 2) sc_Course_init.nd rfl (Or.inl rfl))) (fun _ _ _ _ _ => pts_nil) (fun _ _ _ _ _ => (pe_lst pa_nil))) rfl))
      (pss_one (kps_fld (K := K) rfl (ps_fld (pv 0) (pe_lc (own := [("_", 2)]) (g := gName 2) (tt := tYes) rfl sc_Course_init.nd (pi_range1 rfl T.z_range (pa_cons (pv 1) (pa_nil))) (blkOk_by (own := [("_", 2)]) (N := ["self", "members", "_"]) (sc := defScope s_Course_init) (by decide +kernel)) (fun _ _ _ _ _ => (pg_name (i := 2) sc_Course_init.nd rfl (Or.inl rfl))) (fun _ _ _ _ _ => pts_nil) (fun _ _ _ _ _ => (pe_lst pa_nil))) rfl)))))), ?_⟩
    rcases h with ⟨M, p, dc, rfl, hp, hM, hM5, k⟩
    walk_at "rdn"
    intro b db hb hdb ne
    walk_at "rdn"
    intro β H1 f1 bk1 fd fw fwl
    walk_at "rdn"
    rw [putF_nil]
    have npb : p ≠ b := by walk_at "ne"
    have hp1 : H1 p = some (.ins T.C_Course dc []) := f1 _ _ npb (by walk_at "lk")
    have F1 : Fr1 p H H1 := fun x o nx e => f1 _ _ (by walk_at "ne") (by walk_at "lk")
    have fd0 : H β.d = none := by walk_at "fr"
    have fw0 : H β.w = none := by walk_at "fr"
    have fl0 : ∀ x ∈ β.wl, H x = none := fun x hx => by
      have := fwl x hx
      walk_at "fr"
    clear fd fw fwl f1
    have w2 : ∀ x o, x ≠ p → H1 x = some o → upd H1 p (.ins T.C_Course dc [("_book", .ref b)]) x = some o := fun x o n e => (upd_ne n).trans e
    have e2 : upd H1 p (.ins T.C_Course dc [("_book", .ref b)]) p = some (.ins T.C_Course dc [("_book", .ref b)]) := upd_same
    generalize upd H1 p (.ins T.C_Course dc [("_book", .ref b)]) = H2 at w2 e2 ⊢
    have bk2 := bk1.frp0 hp1 (by simp) (by simp) w2
    have F2 : Fr1 p H H2 := fun x o nx e => w2 _ _ nx (F1 _ _ nx e)
    clear bk1 w2 F1 hp1
    intro D1 hD1
    refine lc_any walk_range (fun i ys H' => CtsD T.C_Counts D1 (vec M []) i ys H') (by simp; omega) (fun _ _ _ _ h s => h.same s) (fun _ _ _ _ h => h.put) (CtsD.zero) (fun _ _ => trivial) hD1 ?_ ?_ gName_m tYes_m
    · rintro i v ys B1 B2 R R2 hi s6 hP hDB ⟨rfl, rfl⟩ hR hR2
      refine ⟨wipe_set, q_yes ⟨hR true _ (Same.refl _) (fun h => nomatch h), fun _ => ?_⟩⟩
      walk_at "rdn"
      intro l hl
      walk_at "rdn"
      refine q_rep (xs := [V.int 0]) upd_same (by omega) (by omega) (line_of (by simp only [List.length_cons, List.length_nil]; omega)) ?_
      rw [rep_ints, Int.toNat_natCast, ← vec_nil]
      have nn := NN.of (vec_pos (M := M) (G := []))
      have hvl : (vec M []).length = M := vec_len
      intro w hw
      walk_at "rdn"
      intro x dx hx hdx ne
      walk_at "rdn"
      intro t G f g1 g2
      have SG : Same B2 G := fun b o e => f b o (by walk_at "ne") (by walk_at "lk")
      have hDG := SG _ _ hDB
      walk_at "rdn"
      exact hR2 _ _ SG (hP.snoc SG ⟨dx, t, (fun z => by rw [z, hDG] at g1; cases g1), (fun z => by rw [z, hDG] at g2; cases g2), g1, g2⟩)
    · intro ys H3 s3 hP3 hD3
      have e3 := s3 _ _ e2
      walk_at "rdn"
      rw [putF_ne (by decide +kernel), putF_nil]
      have bk3 := bk2.same s3
      have hnf : ∀ x : V, ([("_book", .ref b)] : List (Str × V)) ≠ ([("_numbers", x)] : List (Str × V)) := fun x e => nm_bn (Prod.mk.inj (List.cons.inj e).1).1
      have w4 : ∀ x o, x ≠ p → H3 x = some o → upd H3 p (.ins T.C_Course dc [("_book", .ref b), ("_counts", .ref D1)]) x = some o := fun x o n e => (upd_ne n).trans e
      have e4 : upd H3 p (.ins T.C_Course dc [("_book", .ref b), ("_counts", .ref D1)]) p = some (.ins T.C_Course dc [("_book", .ref b), ("_counts", .ref D1)]) := upd_same
      generalize upd H3 p (.ins T.C_Course dc [("_book", .ref b), ("_counts", .ref D1)]) = H4 at w4 e4 ⊢
      have bk4 := bk3.frp0 e3 hnf (by simp) w4
      have F4 : Fr1 p H H4 := fun x o nx e => w4 _ _ nx (s3 _ _ (F2 _ _ nx e))
      have npD1 : D1 ≠ p := fun z => by rw [z, e2] at hD1; cases hD1
      have hD4 := w4 _ _ npD1 hD3
      obtain ⟨as, rfl, la, pa⟩ := hP3
      have pa4 : ∀ a ∈ as, CtAt T.C_Counts H4 a (vec M []) := fun a ha => ((pa a ha).at).frp e3 hnf w4
      have al2 := bk2.alive
      clear bk2 bk3 e2 e3 pa s3
      intro D2 hD2
      refine lc_any walk_range (fun i ys H' => Empt D2 H4 i ys H') (by simp; omega) (fun _ _ _ _ h s => h.same s) (fun _ _ _ _ h => h.put) (Empt.zero) (fun _ _ => trivial) hD2 ?_ ?_ gName_m tYes_m
      · rintro i v ys B1 B2 R R2 hi s6 hP hDB ⟨rfl, rfl⟩ hR hR2
        refine ⟨wipe_set, q_yes ⟨hR true _ (Same.refl _) (fun h => nomatch h), fun _ => ?_⟩⟩
        walk_at "rdn"
        intro z hz
        exact hR2 _ _ (Same.new hz) (hP.snoc (Same.new hz) (s6.free hz) hz upd_same (ne_of_none hDB hz).symm)
      · intro ys2 H5 s5 hP5 hD5
        have e5 := s5 _ _ e4
        walk_at "rdn"
        rw [putF_ne (by decide +kernel), putF_ne (by decide +kernel), putF_nil]
        have w6 : ∀ x o, x ≠ p → H5 x = some o → upd H5 p (.ins T.C_Course dc [("_book", .ref b), ("_counts", .ref D1), ("_got", .ref D2)]) x = some o := fun x o n e => (upd_ne n).trans e
        have e6 : upd H5 p (.ins T.C_Course dc [("_book", .ref b), ("_counts", .ref D1), ("_got", .ref D2)]) p = some (.ins T.C_Course dc [("_book", .ref b), ("_counts", .ref D1), ("_got", .ref D2)]) := upd_same
        generalize upd H5 p (.ins T.C_Course dc [("_book", .ref b), ("_counts", .ref D1), ("_got", .ref D2)]) = H6 at w6 e6 ⊢
        have hnf2 : ∀ x : V, ([("_book", .ref b), ("_counts", .ref D1)] : List (Str × V)) ≠ ([("_numbers", x)] : List (Str × V)) := fun x e => nm_bn (Prod.mk.inj (List.cons.inj e).1).1
        have bk6 := (bk4.same s5).frp0 e5 hnf2 (by simp) w6
        have F6 : Fr1 p H H6 := fun x o nx e => w6 _ _ nx (s5 _ _ (F4 _ _ nx e))
        have npD2 : D2 ≠ p := fun z => by rw [z, e4] at hD2; cases hD2
        have hD16 := w6 _ _ npD1 (s5 _ _ hD4)
        have hD26 := w6 _ _ npD2 hD5
        have pa6 : ∀ a ∈ as, CtAt T.C_Counts H6 a (vec M []) := fun a ha => ((pa4 a ha).same s5).frp e5 hnf2 w6
        obtain ⟨as2, rfl, la2, na2, pb⟩ := hP5
        have pb6 : ∀ a ∈ as2, H6 a = some (.lst []) := fun a ha => w6 _ _ (fun z => by have := (pb a ha).2.1; rw [z, e4] at this; cases this) (pb a ha).1
        have fr2 : ∀ y ∈ D2 :: as2, H4 y = none := fun y hy => by
          rcases List.mem_cons.mp hy with rfl | hy
          · exact hD2
          · exact (pb y hy).2.1
        have nd2 : (D2 :: as2).Nodup := List.nodup_cons.mpr ⟨fun hm => (pb D2 hm).2.2 rfl, na2⟩
        clear e5 w6 w4
        intro D3 hD3
        refine lc_any walk_range (fun i ys H' => Empt D3 H6 i ys H') (by simp; omega) (fun _ _ _ _ h s => h.same s) (fun _ _ _ _ h => h.put) (Empt.zero) (fun _ _ => trivial) hD3 ?_ ?_ gName_m tYes_m
        · rintro i v ys B1 B2 R R2 hi s6 hP hDB ⟨rfl, rfl⟩ hR hR2
          refine ⟨wipe_set, q_yes ⟨hR true _ (Same.refl _) (fun h => nomatch h), fun _ => ?_⟩⟩
          walk_at "rdn"
          intro z hz
          exact hR2 _ _ (Same.new hz) (hP.snoc (Same.new hz) (s6.free hz) hz upd_same (ne_of_none hDB hz).symm)
        · intro ys3 H7 s7 hP7 hD37
          have e7 := s7 _ _ e6
          walk_at "rdn"
          rw [putF_ne (by decide +kernel), putF_ne (by decide +kernel), putF_ne (by decide +kernel), putF_nil]
          have w8 : ∀ x o, x ≠ p → H7 x = some o → upd H7 p (.ins T.C_Course dc [("_book", .ref b), ("_counts", .ref D1), ("_got", .ref D2), ("_told", .ref D3)]) x = some o := fun x o n e => (upd_ne n).trans e
          have e8 : upd H7 p (.ins T.C_Course dc [("_book", .ref b), ("_counts", .ref D1), ("_got", .ref D2), ("_told", .ref D3)]) p = some (.ins T.C_Course dc [("_book", .ref b), ("_counts", .ref D1), ("_got", .ref D2), ("_told", .ref D3)]) := upd_same
          generalize upd H7 p (.ins T.C_Course dc [("_book", .ref b), ("_counts", .ref D1), ("_got", .ref D2), ("_told", .ref D3)]) = H8 at w8 e8 ⊢
          have hnf3 : ∀ x : V, ([("_book", .ref b), ("_counts", .ref D1), ("_got", .ref D2)] : List (Str × V)) ≠ ([("_numbers", x)] : List (Str × V)) := fun x e => nm_bn (Prod.mk.inj (List.cons.inj e).1).1
          have npD3 : D3 ≠ p := fun z => by rw [z, e6] at hD3; cases hD3
          obtain ⟨as3, rfl, la3, na3, pc⟩ := hP7
          have fr3 : ∀ y ∈ D3 :: as3, H6 y = none := fun y hy => by
            rcases List.mem_cons.mp hy with rfl | hy
            · exact hD3
            · exact (pc y hy).2.1
          have nd3 : (D3 :: as3).Nodup := List.nodup_cons.mpr ⟨fun hm => (pc D3 hm).2.2 rfl, na3⟩
          refine k ⟨b, β, D1, as, D2, as2, D3, as3⟩ H8 (fun x o nx e => w8 _ _ nx (s7 _ _ (F6 _ _ nx e))) ?_ ?_
          · exact {
              o := ⟨dc, e8⟩
              b := (bk6.same s7).frp0 e7 hnf3 (by simp) w8
              cs := w8 _ _ npD1 (s7 _ _ hD16)
              cll := by simpa using la
              cl := fun m a e => by rw [zero_got]; exact ((pa6 a (List.mem_of_getElem? e)).same s7).frp e7 hnf3 w8
              g := w8 _ _ npD2 (s7 _ _ hD26)
              gl := by simpa using la2
              ga := fun m a e => ⟨[], w8 _ _ (fun z => by have := fr2 a (List.mem_cons_of_mem _ (List.mem_of_getElem? e)); rw [z, e4] at this; cases this) (s7 _ _ (pb6 a (List.mem_of_getElem? e))), by rw [zero_got]; exact .nil⟩
              t := w8 _ _ npD3 hD37
              tl := by simpa using la3
              ta := fun m a e => ⟨[], w8 _ _ (fun z => by have := fr3 a (List.mem_cons_of_mem _ (List.mem_of_getElem? e)); rw [z, e6] at this; cases this) (pc a (List.mem_of_getElem? e)).1, by rw [zero_told]; exact .nil⟩
              sg := zero_gl
              st := zero_tl
              nd := nd_of bk6.nd nd2 nd3 (fun x hx => ⟨fun z => al2 x hx (z ▸ hD1), fun hy => bk4.alive x hx (fr2 x hy), fun hy => bk6.alive x hx (fr3 x hy)⟩) ⟨(fun hy => by rw [fr2 D1 hy] at hD4; cases hD4), (fun hy => by rw [fr3 D1 hy] at hD16; cases hD16)⟩ (fun x hx hy => by
                rcases List.mem_cons.mp hx with rfl | hx
                · rw [fr3 x hy] at hD26; cases hD26
                · have := pb6 x hx
                  rw [fr3 x hy] at this; cases this) }
          · intro x hx
            rcases List.mem_cons.mp hx with rfl | hx
            · exact hb
            rcases List.mem_cons.mp hx with rfl | hx
            · exact fd0
            rcases List.mem_append.mp hx with hx | hx
            · exact fl0 x hx
            rcases List.mem_cons.mp hx with rfl | hx
            · exact F2.free2 npD1 hD1
            rcases List.mem_append.mp hx with hx | hx
            · exact F4.free2 (fun z => by have := fr2 x (List.mem_cons_of_mem _ hx); rw [z, e4] at this; cases this) (fr2 x (List.mem_cons_of_mem _ hx))
            · exact F6.free2 (fun z => by have := fr3 x (List.mem_cons_of_mem _ hx); rw [z, e6] at this; cases this) (fr3 x (List.mem_cons_of_mem _ hx))
theorem ok_Course_deliver (T : Tx K mg) : FnOk P w K mg base CX0 8 T.f_Course_deliver T.d_Course_deliver ["self", "member", "ident"] (sp_Course_deliver K T.C_Counts T.C_Letter T.C_Book T.C_Course) := by
  refine T.F_Course_deliver.ok sc_Course_deliver (fun vs H Q E h => ?_) (fun cdv A outer s H vs Q E hr h => ?_)
  · rcases h with ⟨M, p, t, γ, S, m, s, n, rfl, hc, ht, hM, hM5, hm, hs, hl, k⟩
    all_goals rfl
  · have hu := hu_of hr
    refine ⟨_, (pss_cons (ps_expr (pe_bm PySem.F.plainAttrs_list PySem.F.slot_list_append PySem.F.type_list_append mt_append (pe_ix (ki_list (K := K) rfl) (kp_fld (K := K) rfl (pv 0) rfl) (pv 1) (fun _ _ => rfl)) (pa_cons (pv 2) (pa_nil))))
      (pss_one (ps_asg (pe_meth (pe_ix (ki_list (K := K) rfl) (kp_fld (K := K) rfl (pv 0) rfl) (pv 1) (fun _ _ => rfl)) T.c_Counts T.mt_Counts_raised (ok_Counts_raised (P := P) T) (hr.mono (by decide)) T.b_Counts_raised_2 T.v_Counts_raised_2 pass0 (pa_cons (pe_ix (ki_tup (K := K) rfl) (pv 2) pe_int (fun _ _ => rfl)) (pa_nil))) (pg_sub (kp_fld (K := K) rfl (pv 0) rfl) (pv 1) set_list)))), ?_⟩
    rcases h with ⟨M, p, t, γ, S, m, s, n, rfl, hc, ht, hM, hM5, hm, hs, hl, k⟩
    obtain ⟨dc, hp⟩ := hc.o
    have hcs := hc.cs
    have hg := hc.g
    obtain ⟨ga, hga⟩ : ∃ ga, γ.ga[m]? = some ga := ⟨_, List.getElem?_eq_getElem (by have := hc.gl; omega)⟩
    obtain ⟨xs, e1, e2⟩ := hc.ga m ga hga
    obtain ⟨ca, hca⟩ : ∃ ca, γ.cl[m]? = some ca := ⟨_, List.getElem?_eq_getElem (by have := hc.cll; omega)⟩
    have hgat : atI (γ.ga.map V.ref) (m : Int) = some (.ref ga) := atI_nat (by rw [List.getElem?_map, hga]; rfl)
    have hcat : atI (γ.cl.map V.ref) (m : Int) = some (.ref ca) := atI_nat (by rw [List.getElem?_map, hca]; rfl)
    have hxl := e2.len
    obtain ⟨dx, tc, c1, c2⟩ := hc.cl m ca hca
    have ncg : γ.cs ≠ ga := fun z => hc.nda.1 (List.mem_append.mpr (.inl (by rw [z]; exact List.mem_of_getElem? hga)))
    walk_at "rdn"
    have w9 : ∀ b o, b ≠ ga → H b = some o → upd H ga (.lst (xs ++ [.ref t])) b = some o := fun b o n e => (upd_ne n).trans e
    have e9 : upd H ga (.lst (xs ++ [.ref t])) ga = some (.lst (xs ++ [.ref t])) := upd_same
    generalize upd H ga (.lst (xs ++ [.ref t])) = H9 at w9 e9 ⊢
    have hp9 := w9 _ _ (fun z => by rw [z, e1] at hp; cases hp) hp
    have ht9 := w9 _ _ (fun z => by rw [z, e1] at ht; cases ht) ht
    have hcs9 := w9 _ _ ncg hcs
    have c19 := w9 _ _ (fun z => by rw [z, e1] at c1; cases c1) c1
    have c29 := w9 _ _ (fun z => by rw [z, e1] at c2; cases c2) c2
    have hvk : (vec M (S.gotOf (m : Nat))).length = M := vec_len
    have hvp := vec_pos (M := M) (G := S.gotOf (m : Nat))
    walk_at "rdn"
    intro r dz v H11 s11 r1 r2
    rw [vec_raise hs (n := n)] at r2
    have hp11 := s11 _ _ hp9
    have hcs11 := s11 _ _ hcs9
    have hcll := hc.cll
    walk_at "rdn"
    have w12 : ∀ b o, b ≠ γ.cs → H11 b = some o → upd H11 γ.cs (.lst ((γ.cl.map V.ref).set m (.ref r))) b = some o := fun b o n e => (upd_ne n).trans e
    have e12 : upd H11 γ.cs (.lst ((γ.cl.map V.ref).set m (.ref r))) γ.cs = some (.lst ((γ.cl.map V.ref).set m (.ref r))) := upd_same
    generalize upd H11 γ.cs (.lst ((γ.cl.map V.ref).set m (.ref r))) = H12 at w12 e12 ⊢
    have fr : ∀ b o, ¬ (b = ga ∨ b = γ.cs) → H b = some o → H12 b = some o := fun b o n e => w12 _ _ (fun z => n (.inr z)) (s11 _ _ (w9 _ _ (fun z => n (.inl z)) e))
    have no : ∀ {b o}, H b = some o → (∀ xs, o ≠ .lst xs) → H12 b = some o := fun {b o} e n => fr b o (fun z => by
      rcases z with z | z
      · rw [z, e1] at e
        exact n _ (Option.some.inj e).symm
      · rw [z, hcs] at e
        exact n _ (Option.some.inj e).symm) e
    have pr : ∀ {ys ids}, All2 (PairAt H) ys ids → All2 (PairAt H12) ys ids := fun q => q.mono fun v c z => by
      obtain ⟨i, q1, q2⟩ := z
      exact ⟨i, q1, no q2 (fun _ => by simp)⟩
    have mga := List.mem_of_getElem? hga
    have nda := hc.nda
    obtain ⟨n1, n2⟩ := List.nodup_cons.mp hc.nd
    obtain ⟨n3, n4⟩ := List.nodup_cons.mp n2
    obtain ⟨n5, n6⟩ := List.nodup_cons.mp n4
    obtain ⟨n7, n8, n9⟩ := List.nodup_append.mp n6
    obtain ⟨m1, m2, m3⟩ := List.nodup_append.mp nda.2
    have inL : ∀ {b}, (b = ga ∨ b = γ.cs) → b ∈ γ.cs :: (γ.ga ++ γ.ta) := fun {b} z => by
      rcases z with rfl | rfl
      · exact List.mem_cons_of_mem _ (List.mem_append.mpr (.inl mga))
      · exact List.mem_cons_self ..
    have sgl : m < S.got.length := by have := hc.sg; omega
    refine k { γ with cl := γ.cl.set m r } H12 (fun b o n e => fr b o (fun z => n (List.mem_cons_of_mem _ (List.mem_cons_of_mem _ (List.mem_append.mpr (.inr (inL z)))))) e) ?_ rfl
    have gE : HS.gotOf { S with got := S.got.set m (S.gotOf (m : Nat) ++ [(((s : Nat) : Int), n)]) } ((m : Nat) : Int) = S.gotOf (m : Nat) ++ [(((s : Nat) : Int), n)] := by rw [HS.gotOf_nat]; exact HS.set_self sgl
    have gN : ∀ j : Nat, j ≠ m → HS.gotOf { S with got := S.got.set m (S.gotOf (m : Nat) ++ [(((s : Nat) : Int), n)]) } ((j : Nat) : Int) = S.gotOf (j : Nat) := fun j hj => by rw [HS.gotOf_nat, HS.gotOf_nat]; exact HS.set_other (Ne.symm hj)
    exact {
      o := ⟨dc, no hp (fun _ => by simp)⟩
      b := hc.b.keep (fun b => b = ga ∨ b = γ.cs) fr (fun b z => by
        rcases z with rfl | rfl
        · exact ⟨_, e1⟩
        · exact ⟨_, hcs⟩) (fun b hb z => by
        rcases List.mem_cons.mp hb with rfl | hb
        · exact n1 (List.mem_cons_of_mem _ (List.mem_cons_of_mem _ (List.mem_append.mpr (.inr (inL z)))))
        · exact n9 b hb b (inL z) rfl)
      cs := by rw [e12, List.map_set]
      cll := by rw [List.length_set]; exact hc.cll
      cl := fun j a e => by
        by_cases hj : j = m
        · subst hj
          rw [List.getElem?_set_self (by omega)] at e
          cases e
          rw [gE]
          exact ⟨dz, v, w12 _ _ (fun z => by rw [z, hcs11] at r1; cases r1) r1, w12 _ _ (fun z => by rw [z, hcs11] at r2; cases r2) r2⟩
        · rw [List.getElem?_set_ne (Ne.symm hj)] at e
          obtain ⟨dy, u, q1, q2⟩ := hc.cl j a e
          rw [gN j hj]
          exact ⟨dy, u, no q1 (fun _ => by simp), no q2 (fun _ => by simp)⟩
      g := fr _ _ (fun z => n3 (List.mem_cons_of_mem _ (List.mem_append.mpr (.inr (inL z))))) hc.g
      gl := hc.gl
      ga := fun j a e => by
        by_cases hj : j = m
        · subst hj
          have : a = ga := Option.some.inj (e.symm.trans hga)
          subst this
          rw [gE]
          exact ⟨_, w12 _ _ ncg.symm (s11 _ _ e9), (pr e2).snoc ⟨t, rfl, no ht (fun _ => by simp)⟩⟩
        · obtain ⟨ys, q1, q2⟩ := hc.ga j a e
          rw [gN j hj]
          exact ⟨ys, fr _ _ (fun z => by
            rcases z with z | z
            · exact hj (nodup_at m1 (z ▸ e) hga)
            · exact nda.1 (List.mem_append.mpr (.inl (z ▸ List.mem_of_getElem? e)))) q1, pr q2⟩
      t := fr _ _ (fun z => n5 (List.mem_append.mpr (.inr (inL z)))) hc.t
      tl := hc.tl
      ta := fun j a e => by
        obtain ⟨ys, q1, q2⟩ := hc.ta j a e
        exact ⟨ys, fr _ _ (fun z => by
          rcases z with z | z
          · exact m3 ga mga a (List.mem_of_getElem? e) z.symm
          · exact nda.1 (List.mem_append.mpr (.inr (z ▸ List.mem_of_getElem? e)))) q1, pr q2⟩
      sg := by rw [List.length_set]; exact hc.sg
      st := hc.st
      nd := hc.nd }
theorem ok_Course_send (T : Tx K mg) : FnOk P w K mg base CX0 9 T.f_Course_send T.d_Course_send ["self", "member", "word"] (sp_Course_send K T.C_Counts T.C_Letter T.C_Book T.C_Course) := by
  refine T.F_Course_send.ok sc_Course_send (fun vs H Q E h => ?_) (fun cdv A outer s H vs Q E hr h => ?_)
  · rcases h with ⟨M, p, γ, S, m, w, rfl, hc, hw, hM, hM5, hm, hk, hwl, hwx, k⟩
    all_goals rfl
  · have hu := hu_of hr
    refine ⟨_, (pss_cons (ps_set (i := 3) sc_Course_send.nd rfl (Or.inl rfl) (pe_ix (ki_list (K := K) rfl) (kp_fld (K := K) rfl (pv 0) rfl) (pv 1) (fun _ _ => rfl)))
      (pss_cons (ps_set (i := 4) sc_Course_send.nd rfl (Or.inl rfl) (pe_make T.mk_Letter (ok_Letter_init (P := P) T) (hr.mono (by decide)) rfl T.g_Letter T.b_Letter_init .nil pass0 (pa_cons (pv 1) (pa_cons (pe_op op_add (pe_meth (pv 3) T.c_Counts T.mt_Counts_of (ok_Counts_of (P := P) T) (hr.mono (by decide)) T.b_Counts_of .nil pass0 (pa_cons (pv 1) (pa_nil))) pe_int) (pa_cons (pv 2) (pa_cons (pv 3) (pa_nil)))))))
      (pss_cons (ps_expr (pe_meth (kp_fld (K := K) rfl (pv 0) rfl) T.c_Book T.mt_Book_keep (ok_Book_keep (P := P) T) (hr.mono (by decide)) T.b_Book_keep .nil pass0 (pa_cons (pv 4) (pa_nil))))
      (pss_one (ps_ret (pe_meth0 (pv 4) T.c_Letter T.mt_Letter_id_of (ok_Letter_id_of (P := P) T) (hr.mono (by decide)) T.b_Letter_id_of .nil pass0)))))), ?_⟩
    rcases h with ⟨M, p, γ, S, m, w, rfl, hc, hw, hM, hM5, hm, hk, hwl, hwx, k⟩
    obtain ⟨dc, hp⟩ := hc.o
    have hb := hc.b
    obtain ⟨db, hbp⟩ := hb.o
    have hcs := hc.cs
    obtain ⟨ca, hca⟩ : ∃ ca, γ.cl[m]? = some ca := ⟨_, List.getElem?_eq_getElem (by have := hc.cll; omega)⟩
    obtain ⟨dx, tc, c1, c2⟩ := hc.cl m ca hca
    have hcat : atI (γ.cl.map V.ref) (m : Int) = some (.ref ca) := atI_nat (by rw [List.getElem?_map, hca]; rfl)
    have hvc : (vec M (S.gotOf (m : Nat))).length = M := vec_len
    have hvg := vec_get (G := S.gotOf (m : Nat)) hm
    walk_at "rdn"
    intro x dl hx hdl ne
    have hown := hw.own (m := m) (by omega)
    have hgl := hw.glen (m := m) (by omega)
    have S1 : Same H (upd (upd H dl (HO.own x)) x (HO.ins T.C_Letter dl [])) := by walk_at "sm"
    have hct : CtAt T.C_Counts (upd (upd H dl (HO.own x)) x (HO.ins T.C_Letter dl [])) ca (vec M (S.gotOf (m : Nat))) := (CtAt.same ⟨dx, tc, c1, c2⟩ S1)
    rw [hvg]
    refine r_Letter_init rfl (G := S.gotOf (m : Nat)) (hp := upd_same) (hc := hct) (hM := hM) (hM5 := hM5) (hs := hm) (h1 := by omega) (h30 := by have := cntM_le (ks := S.ks) (m := ((m : Nat) : Int)); omega) (hw := hwl) (hx := hwx) (hn := by omega) (hb := by omega) ?_
    intro H1 f1 e1
    have SH : Same H H1 := fun b o e => f1 b o (by walk_at "ne") (S1 _ _ e)
    have hc1 := hc.same SH
    have hp1 := SH _ _ hp
    clear hct S1 f1
    rw [hown, Int.add_comm] at e1
    have hbp1 := SH _ _ hbp
    have e1' := e1
    walk_at "rdn"
    refine r_Book_keep rfl (s := m) (G := S.gotOf (m : Nat)) (hb := hc1.b) (ha := ⟨dl, w, ca, e1, dx, tc, SH _ _ c1, SH _ _ c2⟩) (hM := hM) (hM5 := hM5) (hs := hm) (hk := hw.kc) (hl := hk) (hG := hw.gc m (by omega)) (hGk := hw.gk m (by omega)) (hcc := hw.cc) (hsub := hw.gd m (by omega)) (hgs := hown) ?_
    intro β' H2 f2 bk2 d2 w2 wl2
    have nl : ∀ {b o}, H1 b = some o → (∀ xs, o ≠ .lst xs) → b ∉ γ.β.wl := fun {b o} e n hm => by
      obtain ⟨xs, q, _⟩ := hc1.b.we b hm
      rw [q] at e
      exact n _ (Option.some.inj e).symm
    have no : ∀ {b o}, H1 b = some o → b ∉ γ.β.wl → (∀ v1 v2 v3 v4, o ≠ .ins T.C_Book db [("_members", v1), ("_letters", v2), ("_counts", v3), ("_waits", v4)]) → (∀ kvs, o ≠ .dT kvs) → H2 b = some o := fun {b o} e n1 n2 n3 => f2 _ _ (fun z => n2 _ _ _ _ (by rw [z, hbp1] at e; exact (Option.some.inj e).symm)) (fun z => n3 _ (by rw [z, hc1.b.d] at e; exact (Option.some.inj e).symm)) n1 e
    have e2 := no e1 (nl e1 (fun _ => by simp)) (fun _ _ _ _ => by simp [nm_ne]) (fun _ => by simp)
    walk_at "rdn"
    intro i hi
    have hnd := hc.nd
    obtain ⟨n1, n2⟩ := List.nodup_cons.mp hc.nd
    obtain ⟨n3, n4⟩ := List.nodup_cons.mp n2
    obtain ⟨n5, n6⟩ := List.nodup_cons.mp n4
    obtain ⟨n7, n8, n9⟩ := List.nodup_append.mp n6
    have SN : Same H2 (upd H2 i (.tup [.int (m : Nat), .int (1 + ((cntM S.ks ((m : Nat) : Int) : Nat) : Int))])) := Same.new hi
    have ei : upd H2 i (.tup [.int (m : Nat), .int (1 + ((cntM S.ks ((m : Nat) : Int) : Nat) : Int))]) i = some (.tup [.int (m : Nat), .int (1 + ((cntM S.ks ((m : Nat) : Int) : Nat) : Int))]) := upd_same
    generalize upd H2 i (.tup [.int (m : Nat), .int (1 + ((cntM S.ks ((m : Nat) : Int) : Nat) : Int))]) = H3 at SN ei ⊢
    have no3 : ∀ {b o}, H1 b = some o → b ∉ γ.β.wl → (∀ v1 v2 v3 v4, o ≠ .ins T.C_Book db [("_members", v1), ("_letters", v2), ("_counts", v3), ("_waits", v4)]) → (∀ kvs, o ≠ .dT kvs) → H3 b = some o := fun e n1 n2 n3 => SN _ _ (no e n1 n2 n3)
    have nll : ∀ {b xs}, H1 b = some (.lst xs) → b ∉ γ.β.wl → H3 b = some (.lst xs) := fun e n => no3 e n (fun _ _ _ _ => by simp) (fun _ => by simp)
    have nt : ∀ {b xs}, H1 b = some (.tup xs) → H3 b = some (.tup xs) := fun e => no3 e (nl e (fun _ => by simp)) (fun _ _ _ _ => by simp) (fun _ => by simp)
    have pr : ∀ {us ids}, All2 (PairAt H1) us ids → All2 (PairAt H3) us ids := fun q => q.mono fun v c z => by
      obtain ⟨j, q1, q2⟩ := z
      exact ⟨j, q1, nt q2⟩
    refine k i { γ with β := β' } H3 (fun b o n e => SN _ _ (f2 b o (fun z => n (by rw [z]; exact List.mem_cons_self ..)) (fun z => n (by rw [z]; exact List.mem_cons_of_mem _ (List.mem_cons_self ..))) (fun z => n (List.mem_cons_of_mem _ (List.mem_cons_of_mem _ (List.mem_append.mpr (.inl z))))) (SH _ _ e))) ei ?_ (by simp only [Cs.mut, d2, wl2])
    exact {
      o := ⟨dc, no3 hp1 (nl hp1 (fun _ => by simp)) (fun _ _ _ _ => by simp [nm_bm]) (fun _ => by simp)⟩
      b := bk2.same SN
      cs := nll hc1.cs (fun z => n9 _ z _ (List.mem_cons_self ..) rfl)
      cll := hc.cll
      cl := fun j a e => by
        obtain ⟨dy, u, q1, q2⟩ := hc1.cl j a e
        exact ⟨dy, u, no3 q1 (nl q1 (fun _ => by simp)) (fun _ _ _ _ => by simp) (fun _ => by simp), nt q2⟩
      g := nll hc1.g (fun z => n3 (List.mem_cons_of_mem _ (List.mem_append.mpr (.inl z))))
      gl := hc.gl
      ga := fun j a e => by
        obtain ⟨us, q1, q2⟩ := hc1.ga j a e
        exact ⟨us, nll q1 (fun z => n9 _ z _ (List.mem_cons_of_mem _ (List.mem_append.mpr (.inl (List.mem_of_getElem? e)))) rfl), pr q2⟩
      t := nll hc1.t (fun z => n5 (List.mem_append.mpr (.inl z)))
      tl := hc.tl
      ta := fun j a e => by
        obtain ⟨us, q1, q2⟩ := hc1.ta j a e
        exact ⟨us, nll q1 (fun z => n9 _ z _ (List.mem_cons_of_mem _ (List.mem_append.mpr (.inr (List.mem_of_getElem? e)))) rfl), pr q2⟩
      sg := hc.sg
      st := hc.st
      nd := by
        show (β'.w :: γ.g :: γ.t :: (β'.wl ++ (γ.cs :: (γ.ga ++ γ.ta)))).Nodup
        rw [w2, wl2]
        exact hc.nd }
theorem ok_Course_happen (T : Tx K mg) : FnOk P w K mg base CX0 10 T.f_Course_happen T.d_Course_happen ["self", "row"] (sp_Course_happen K T.C_Counts T.C_Letter T.C_Book T.C_Course) := by
  refine T.F_Course_happen.ok sc_Course_happen (fun vs H Q E h => ?_) (fun cdv A outer s H vs Q E hr h => ?_)
  · rcases h with ⟨M, p, t, γ, S, ρ, rfl, hc, hw, ht, hg, hM, hM5, hk, hy, hk30, k⟩
    all_goals rfl
  · have hu := hu_of hr
    refine ⟨_, (pss_cons (ps_set (i := 2) sc_Course_happen.nd rfl (Or.inl rfl) (pe_ix (ki_tup (K := K) rfl) (pv 1) pe_int (fun _ _ => rfl)))
      (pss_one (ps_if (pt_cmpR op_eq (pe_ix (ki_tup (K := K) rfl) (pv 1) pe_int (fun _ _ => rfl)) pe_str (nomark _))
      (pss_one (ps_expr (pe_meth (pv 0) T.c_Course T.mt_Course_deliver (ok_Course_deliver (P := P) T) (hr.mono (by decide)) T.b_Course_deliver .nil pass0 (pa_cons (pv 2) (pa_cons (pe_meth (pv 0) T.c_Course T.mt_Course_send (ok_Course_send (P := P) T) (hr.mono (by decide)) T.b_Course_send .nil pass0 (pa_cons (pv 2) (pa_cons (pe_ix (ki_tup (K := K) rfl) (pv 1) pe_int (fun _ _ => rfl)) (pa_nil)))) (pa_nil)))))) (pss_one (ps_if (pt_cmpR op_eq (pe_ix (ki_tup (K := K) rfl) (pv 1) pe_int (fun _ _ => rfl)) pe_str (nomark _))
      (pss_one (ps_expr (pe_meth (pv 0) T.c_Course T.mt_Course_deliver (ok_Course_deliver (P := P) T) (hr.mono (by decide)) T.b_Course_deliver .nil pass0 (pa_cons (pv 2) (pa_cons (pe_slice (ks_tup (K := K) rfl) (pv 1) (po_some pe_int) po_none) (pa_nil)))))) (pss_one (ps_expr (pe_bm PySem.F.plainAttrs_list PySem.F.slot_list_append PySem.F.type_list_append mt_append (pe_ix (ki_list (K := K) rfl) (kp_fld (K := K) rfl (pv 0) rfl) (pv 2) (fun _ _ => rfl)) (pa_cons (pe_slice (ks_tup (K := K) rfl) (pv 1) (po_some pe_int) po_none) (pa_nil)))))))))), ?_⟩
    rcases h with ⟨M, p, t, γ, S, ρ, rfl, hc, hw, ht, hg, hM, hM5, hk, hy, hk30, k⟩
    have n3 : ¬ (Str.ofString "got" = Str.ofString "sent") := by decide +kernel
    have n1 : ¬ (Str.ofString "told" = Str.ofString "sent") := by decide +kernel
    have n2 : ¬ (Str.ofString "told" = Str.ofString "got") := by decide +kernel
    obtain ⟨mm, hmm⟩ := Int.eq_ofNat_of_zero_le hg.mem.1
    have hm1 := hg.mem.2
    obtain ⟨dc, hp⟩ := hc.o
    cases ρ with
    | sent m w =>
      have ht : H t = some (.tup [.str "sent", .int m, .str w]) := ht
      have hmm : m = (mm : Int) := hmm
      subst hmm
      obtain ⟨g0, g1, g2, g3⟩ := hg
      have hkk := hk rfl
      have hgl := hw.glen (m := mm) (by omega)
      have hmM : mm < M := by
        have : ((mm : Nat) : Int) ≤ (M : Nat) - 1 := hm1
        omega
      walk_at "rdn"
      intro i γ1 H1 f1 ei hc1 m1
      walk_at "rdn"
      refine r_Course_deliver rfl (hc := hc1) (ht := ei) (hM := hM) (hM5 := hM5) (hm := hmM) (hs := hmM) (hl := Nat.le_trans hgl hk30) ?_
      intro γ2 H2 f2 hc2 m2
      exact k γ2 H2 (fun b o n e => f2 b o (by rw [m1]; exact n) (f1 b o n e)) hc2 (m2.trans m1)
    | got m s n =>
      have ht : H t = some (.tup [.str "got", .int m, .int s, .int n]) := ht
      have hmm : m = (mm : Int) := hmm
      subst hmm
      obtain ⟨g0, g1, g2, g3, g4⟩ := hg
      obtain ⟨ss, rfl⟩ := Int.eq_ofNat_of_zero_le g2
      have hgl := hw.glen (m := mm) (by omega)
      walk_at "rdn"
      refine q_slTe (ys := [.int (ss : Nat), .int n]) (SqT.of ht) (show ¬ (HT.sIx 4 0 (some 2) = 0 ∧ HT.sIx 4 4 none = 4) by decide) rfl ?_
      intro d hd
      walk_at "rdn"
      refine r_Course_deliver rfl (hc := hc.same (Same.new hd)) (ht := upd_same) (hM := hM) (hM5 := hM5) (hm := by omega) (hs := by omega) (hl := Nat.le_trans hgl hk30) ?_
      intro γ2 H2 f2 hc2 m2
      exact k γ2 H2 (fun b o n e => f2 b o n (Same.new hd _ _ e)) hc2 m2
    | told m pl s n =>
      have ht : H t = some (.tup [.str "told", .int m, .int pl, .int s, .int n]) := ht
      have hmm : m = (mm : Int) := hmm
      subst hmm
      have htt := hc.t
      have htl := hc.tl
      have hml := hw.tlen (m := mm) (by omega)
      obtain ⟨ta, hta⟩ : ∃ ta, γ.ta[mm]? = some ta := ⟨_, List.getElem?_eq_getElem (by omega)⟩
      obtain ⟨ys, f1, f2⟩ := hc.ta mm ta hta
      have htat : atI (γ.ta.map V.ref) (mm : Int) = some (.ref ta) := atI_nat (by rw [List.getElem?_map, hta]; rfl)
      have hyl := f2.len
      walk_at "rdn"
      refine q_slTe (ys := [.int s, .int n]) (SqT.of ht) (show ¬ (HT.sIx 5 0 (some 3) = 0 ∧ HT.sIx 5 5 none = 5) by decide) rfl ?_
      intro d hd
      walk_at "rdn"
      exact k γ _ (fun b o n e => (upd_ne (fun z => n (by rw [z]; exact List.mem_cons_of_mem _ (List.mem_cons_of_mem _ (List.mem_append.mpr (.inr (List.mem_cons_of_mem _ (List.mem_append.mpr (.inr (List.mem_of_getElem? hta)))))))))).trans (Same.new hd _ _ e)) ((hc.same (Same.new hd)).tells (c := (s, n)) hta (Same.new hd _ _ f1) ⟨d, rfl, upd_same⟩) rfl
theorem ok_Course_why_not_got (T : Tx K mg) : FnOk P w K mg base CX0 8 T.f_Course_why_not_got T.d_Course_why_not_got ["self", "member", "ident"] (sp_Course_why_not_got K T.C_Counts T.C_Letter T.C_Book T.C_Course) := by
  refine T.F_Course_why_not_got.ok sc_Course_why_not_got (fun vs H Q E h => ?_) (fun cdv A outer s H vs Q E hr h => ?_)
  · rcases h with ⟨M, p, t, γ, S, m, s, n, rfl, hc, hw, ht, hn, hM, hM5, hm, hs, k⟩
    all_goals rfl
  · have hu := hu_of hr
    refine ⟨_, (pss_cons (ps_asg (pv 2) (kg_tup (K := K) (n := 2) rfl rfl (pgs_cons (pg_name (i := 3) sc_Course_why_not_got.nd rfl (Or.inl rfl)) (pgs_cons (pg_name (i := 4) sc_Course_why_not_got.nd rfl (Or.inl rfl)) pgs_nil))))
      (pss_cons (ps_if (pt_cmpR op_eq (pv 3) (pv 1) (nomark _))
      (pss_one (ps_ret pe_str)) pss_nil)
      (pss_cons (ps_if (pt_cmpR op_gt (pv 4) (pe_meth (pe_meth0 (kp_fld (K := K) rfl (pv 0) rfl) T.c_Book T.mt_Book_counts (ok_Book_counts (P := P) T) (hr.mono (by decide)) T.b_Book_counts .nil pass0) T.c_Counts T.mt_Counts_of (ok_Counts_of (P := P) T) (hr.mono (by decide)) T.b_Counts_of .nil pass0 (pa_cons (pv 3) (pa_nil))) (nomark _))
      (pss_one (ps_ret pe_str)) pss_nil)
      (pss_cons (ps_if (pt_cmpR (ko_inD (K := K) rfl (room65 hr)) (pv 2) (pe_ix (ki_list (K := K) rfl) (kp_fld (K := K) rfl (pv 0) rfl) (pv 1) (fun _ _ => rfl)) rfl)
      (pss_one (ps_ret pe_str)) pss_nil)
      (pss_cons (ps_if (pt_not (pt_val (pe_meth (pe_ix (ki_list (K := K) rfl) (kp_fld (K := K) rfl (pv 0) rfl) (pv 1) (fun _ _ => rfl)) T.c_Counts T.mt_Counts_covers (ok_Counts_covers (P := P) T) (hr.mono (by decide)) T.b_Counts_covers .nil pass0 (pa_cons (pe_meth0 (pe_meth (kp_fld (K := K) rfl (pv 0) rfl) T.c_Book T.mt_Book_letter (ok_Book_letter (P := P) T) (hr.mono (by decide)) T.b_Book_letter .nil pass0 (pa_cons (pv 2) (pa_nil))) T.c_Letter T.mt_Letter_causes (ok_Letter_causes (P := P) T) (hr.mono (by decide)) T.b_Letter_causes .nil pass0) (pa_nil)))))
      (pss_one (ps_ret pe_str)) pss_nil)
      (pss_one (ps_ret pe_non))))))), ?_⟩
    rcases h with ⟨M, p, t, γ, S, m, s, n, rfl, hc, hw, ht, hn, hM, hM5, hm, hs, k⟩
    obtain ⟨dc, hp⟩ := hc.o
    have hb := hc.b
    obtain ⟨db, hbp⟩ := hb.o
    have hcs := hc.cs
    have hg := hc.g
    obtain ⟨ga, hga⟩ : ∃ ga, γ.ga[m]? = some ga := ⟨_, List.getElem?_eq_getElem (by have := hc.gl; omega)⟩
    obtain ⟨xs, e1, e2⟩ := hc.ga m ga hga
    obtain ⟨ca, hca⟩ : ∃ ca, γ.cl[m]? = some ca := ⟨_, List.getElem?_eq_getElem (by have := hc.cll; omega)⟩
    obtain ⟨dx, tc, c1, c2⟩ := hc.cl m ca hca
    have hgat : atI (γ.ga.map V.ref) (m : Int) = some (.ref ga) := atI_nat (by rw [List.getElem?_map, hga]; rfl)
    have hcat : atI (γ.cl.map V.ref) (m : Int) = some (.ref ca) := atI_nat (by rw [List.getElem?_map, hca]; rfl)
    obtain ⟨dxk, tk, k1, k2⟩ := hb.c
    have hvk : (vec M S.ks).length = M := vec_len
    have hvc : (vec M (S.gotOf (m : Nat))).length = M := vec_len
    have hvg := vec_get (G := S.ks) hs
    walk_at "rdn"
    refine q_ifx (fun h1 => ?_) (fun h1 => ?_)
    · walk_at "rdn"
      exact R_of (k _ (Same.refl _)) (by rw [why_got, if_pos (by omega)]; rfl)
    · walk_at "rdn"
      rw [hvg]
      have hkc := hw.kc
      have hiff := hkc.iff (s := ((s : Nat) : Int)) hn
      refine q_ifx (fun h2 => ?_) (fun h2 => ?_)
      · walk_at "rdn"
        exact R_of (k _ (Same.refl _)) (by rw [why_got, if_neg (by omega), if_pos (fun h => by have := hiff.mp h; omega)]; rfl)
      · have hin : (((s : Nat) : Int), n) ∈ S.ks := hiff.mpr (by omega)
        walk_at "rdn"
        refine q_inP (c := (((s : Nat) : Int), n)) (SqL.of e1) e2 ⟨t, rfl, ht⟩ ?_
        walk_at "rdn"
        refine q_ifx (fun h3 => ?_) (fun h3 => ?_)
        · walk_at "rdn"
          exact R_of (k _ (Same.refl _)) (by rw [why_got, if_neg (by omega), if_neg (fun h => h hin), if_pos h3]; rfl)
        · walk_at "rdn"
          refine r_Book_letter rfl (c := (((s : Nat) : Int), n)) (hb := hb) (ht := ht) (hc := hin) (hk := hkc) ?_
          intro a hla
          obtain ⟨dl, w, c6, g1, dy, t6, g2, g3⟩ := hla
          have hl1 : (vec M (causesOf S.ks S.cg (((s : Nat) : Int), n))).length = (vec M (S.gotOf (m : Nat))).length := by rw [vec_len, vec_len]
          have hl2 : (vec M (S.gotOf (m : Nat))).length ≤ 5 := by rw [vec_len]; exact hM5
          have hcv := cov_sub (hw.gc m (by omega)) (hw.cc _ hin)
          walk_at "rdn"
          intro H7 s7
          by_cases hcov : coversB (vec M (S.gotOf (m : Nat))) (vec M (causesOf S.ks S.cg (((s : Nat) : Int), n))) = true
          · rw [hcov]
            walk_at "rdn"
            exact R_of (k _ s7) (by rw [why_got, if_neg (by omega), if_neg (fun h => h hin), if_neg h3, if_pos (List.all_eq_true.mpr fun e he => decide_eq_true (hcv.mp hcov e he))]; rfl)
          · rw [Bool.not_eq_true] at hcov
            rw [hcov]
            walk_at "rdn"
            exact R_of (k _ s7) (by rw [why_got, if_neg (by omega), if_neg (fun h => h hin), if_neg h3, if_neg (fun h => by rw [hcv.mpr (fun e he => of_decide_eq_true (List.all_eq_true.mp h e he))] at hcov; cases hcov)]; rfl)
theorem ok_Course_why_not_told (T : Tx K mg) : FnOk P w K mg base CX0 8 T.f_Course_why_not_told T.d_Course_why_not_told ["self", "member", "place", "ident"] (sp_Course_why_not_told K T.C_Counts T.C_Letter T.C_Book T.C_Course) := by
  refine T.F_Course_why_not_told.ok sc_Course_why_not_told (fun vs H Q E h => ?_) (fun cdv A outer s H vs Q E hr h => ?_)
  · rcases h with ⟨M, p, t, γ, S, m, s, pl, n, rfl, hc, hw, ht, hn, hp, hM, hM5, hm, hs, hk, k⟩
    all_goals rfl
  · have hu := hu_of hr
    refine ⟨_, (pss_cons (ps_set (i := 4) sc_Course_why_not_told.nd rfl (Or.inr rfl) (pe_ix (ki_list (K := K) rfl) (kp_fld (K := K) rfl (pv 0) rfl) (pv 1) (fun _ _ => rfl)))
      (pss_cons (ps_if (pt_cmpR op_ne (pv 2) (pe_op op_add (pe_callB (id := "len") (kx_len (K := K) rfl) (by rfl) T.z_len (by decide +kernel) (pa_cons (pv 4) (pa_nil))) pe_int) (nomark _))
      (pss_one (ps_ret pe_str)) pss_nil)
      (pss_cons (ps_if (pt_cmpR (ko_notInD (K := K) rfl (room65 hr)) (pv 3) (pe_ix (ki_list (K := K) rfl) (kp_fld (K := K) rfl (pv 0) rfl) (pv 1) (fun _ _ => rfl)) rfl)
      (pss_one (ps_ret pe_str)) pss_nil)
      (pss_cons (ps_if (pt_cmpR (ko_inD (K := K) rfl (room65 hr)) (pv 3) (pv 4) rfl)
      (pss_one (ps_ret pe_str)) pss_nil)
      (pss_cons (ps_if (pt_val (pe_callB (id := "any") (kx_any (K := K) rfl rfl) (by rfl) T.z_any (by decide +kernel) (pa_cons (pe_lc (own := [("row", 5)]) (g := gName 5) (tt := tYes) rfl sc_Course_why_not_told.nd (kpi_list (K := K) rfl (kp_fld (K := K) rfl (pv 0) rfl)) (blkOk_by (own := [("row", 5)]) (N := ["self", "member", "place", "ident", "told", "row", "cause"]) (sc := defScope s_Course_why_not_told) (by decide +kernel)) (fun _ _ _ _ _ => (pg_name (i := 5) sc_Course_why_not_told.nd rfl (Or.inl rfl))) (fun _ _ _ _ _ => pts_nil) (fun _ _ _ _ _ => (pe_call (ok_is_told_otherwise (P := P) T) (hr.mono (by decide)) rfl T.m_is_told_otherwise T.k_is_told_otherwise T.b_is_told_otherwise .nil pass0 (pa_cons (pv 5) (pa_cons (pv 2) (pa_cons (pv 3) (pa_nil))))))) (pa_nil))))
      (pss_one (ps_ret pe_str)) pss_nil)
      (pss_cons (ps_if (pt_val (pe_callB (id := "any") (kx_any (K := K) rfl rfl) (by rfl) T.z_any (by decide +kernel) (pa_cons (pe_lc (own := [("cause", 6)]) (g := gName 6) (tt := tYes) rfl sc_Course_why_not_told.nd (kpi_list (K := K) rfl (pe_meth (kp_fld (K := K) rfl (pv 0) rfl) T.c_Book T.mt_Book_ahead (ok_Book_ahead (P := P) T) (hr.mono (by decide)) T.b_Book_ahead .nil pass0 (pa_cons (pv 3) (pa_nil)))) (blkOk_by (own := [("cause", 6)]) (N := ["self", "member", "place", "ident", "told", "row", "cause"]) (sc := defScope s_Course_why_not_told) (by decide +kernel)) (fun _ _ _ _ _ => (pg_name (i := 6) sc_Course_why_not_told.nd rfl (Or.inl rfl))) (fun _ _ _ _ _ => pts_nil) (fun _ _ _ _ _ => (pe_cmpR (ko_notInD (K := K) rfl (room65 hr)) (pv 6) (pv 4) rfl))) (pa_nil))))
      (pss_one (ps_ret pe_str)) pss_nil)
      (pss_one (ps_ret pe_non)))))))), ?_⟩
    rcases h with ⟨M, p, t, γ, S, m, s, pl, n, rfl, hc, hw, ht, hn, hp, hM, hM5, hm, hs, hk, k⟩
    obtain ⟨dc, hpo⟩ := hc.o
    have hb := hc.b
    have hg := hc.g
    have htt := hc.t
    have htl := hc.tl
    obtain ⟨pp, rfl⟩ := Int.eq_ofNat_of_zero_le (show 0 ≤ pl by omega)
    obtain ⟨ga, hga⟩ : ∃ ga, γ.ga[m]? = some ga := ⟨_, List.getElem?_eq_getElem (by have := hc.gl; omega)⟩
    obtain ⟨xs, e1, e2⟩ := hc.ga m ga hga
    obtain ⟨ta, hta⟩ : ∃ ta, γ.ta[m]? = some ta := ⟨_, List.getElem?_eq_getElem (by omega)⟩
    obtain ⟨ys, f1, f2⟩ := hc.ta m ta hta
    have hgat : atI (γ.ga.map V.ref) (m : Int) = some (.ref ga) := atI_nat (by rw [List.getElem?_map, hga]; rfl)
    have htat : atI (γ.ta.map V.ref) (m : Int) = some (.ref ta) := atI_nat (by rw [List.getElem?_map, hta]; rfl)
    have hyl := f2.len
    walk_at "rdn"
    refine q_ifx (fun h1 => ?_) (fun h1 => ?_)
    · walk_at "rdn"
      refine q_notInP (c := (((s : Nat) : Int), n)) (SqL.of e1) e2 ⟨t, rfl, ht⟩ ?_
      walk_at "rdn"
      refine q_ifx (fun h2 => ?_) (fun h2 => ?_)
      · walk_at "rdn"
        refine q_inP (c := (((s : Nat) : Int), n)) (SqL.of f1) f2 ⟨t, rfl, ht⟩ ?_
        walk_at "rdn"
        refine q_ifx (fun h3 => ?_) (fun h3 => ?_)
        · walk_at "rdn"
          exact R_of (k _ (Same.refl _)) (by rw [why_told, if_neg (by omega), if_neg (fun z => z h2), if_pos h3]; rfl)
        · have hoth := other_any hw hc.st hm (pl := pp) (c := (((s : Nat) : Int), n)) (by omega) (by omega) h3
          walk_at "rdn"
          intro D hD
          refine lc_any walk_list (fun i zs _ => zs = ((List.range i).map fun j => toldOther (S.toldOf (j : Nat)) pp (((s : Nat) : Int), n)).map V.bl) (by simp; omega) (fun _ _ _ _ h _ => h) (fun _ _ _ _ h => h) rfl (fun H' s => SqL.of (s _ _ htt)) hD ?_ ?_ gName_m tYes_m
          · rintro i v zs B1 B2 R R2 hi s6 hP6 hDB ⟨rfl, hv⟩ hR hR2
            obtain ⟨a, ha⟩ : ∃ a, γ.ta[i]? = some a := ⟨_, List.getElem?_eq_getElem (by simpa using hi)⟩
            obtain rfl : v = .ref a := by rw [List.getElem?_map, ha] at hv; exact (Option.some.inj hv).symm
            obtain ⟨us, u1, u2⟩ := hc.ta i a ha
            have hi2 := (List.getElem?_eq_some_iff.mp ha).1
            have hul := u2.len
            have hil := hw.tlen (m := i) (by omega)
            refine ⟨wipe_set, q_yes ⟨hR true _ (Same.refl _) (fun h => nomatch h), fun _ => ?_⟩⟩
            walk_at "rdn"
            refine r_is_told_otherwise rfl (c := (((s : Nat) : Int), n)) (ha := s6 _ _ u1) (hx := PairAt.all u2 s6) (ht := s6 _ _ ht) (hp := by omega) (hl := by omega) ?_
            intro H7 s7
            exact hR2 _ _ s7 (by rw [hP6, List.range_succ, List.map_append, List.map_append]; rfl)
          · intro zs B1 s6 hP6 hD6
            simp only [List.length_map, htl] at hP6
            subst hP6
            have hp6 := s6 _ _ hpo
            have hb6 := hb.same s6
            obtain ⟨db6, hbp6⟩ := hb6.o
            have ht6 := s6 _ _ ht
            have f16 := s6 _ _ f1
            have f26 := PairAt.all f2 s6
            walk_at "rdn"
            rw [hoth]
            refine q_ifs (fun h4 => ?_) (fun h4 => ?_)
            · walk_at "rdn"
              exact R_of (k _ s6) (by rw [why_told, if_neg (by omega), if_neg (fun z => z h2), if_neg h3, if_pos h4]; rfl)
            · have hin := hw.gk m (by omega) _ h2
              have hcl := hw.clen hin
              walk_at "rdn"
              refine r_Book_ahead rfl (c := (((s : Nat) : Int), n)) (hb := hb6) (ht := ht6) (hc := hin) (hk := hw.kc) (hM := hM) (hM5 := hM5) (hl := by omega) ?_
              intro l us H7 s7 e7 u7
              have hul := u7.len
              have hbl : (beyond M [] (causesOf S.ks S.cg (((s : Nat) : Int), n))).length ≤ 100 * M := pre2_len (n := M) (fun j _ => by have := cntM_le (ks := causesOf S.ks S.cg (((s : Nat) : Int), n)) (m := ((j : Nat) : Int)); omega) M (Nat.le_refl _)
              walk_at "rdn"
              intro D2 hD2
              refine lc_any walk_list (fun i zs _ => zs = (((beyond M [] (causesOf S.ks S.cg (((s : Nat) : Int), n))).take i).map fun e => !decide (e ∈ S.toldOf (m : Nat))).map V.bl) (by omega) (fun _ _ _ _ h _ => h) (fun _ _ _ _ h => h) rfl (fun H' s => SqL.of (s _ _ e7)) hD2 ?_ ?_ gName_m tYes_m
              · rintro i v zs B1 B2 R R2 hi s8 hP8 hDB ⟨rfl, hv⟩ hR hR2
                obtain ⟨c2, hc2, hP2⟩ := u7.get hv
                refine ⟨wipe_set, q_yes ⟨hR true _ (Same.refl _) (fun h => nomatch h), fun _ => ?_⟩⟩
                walk_at "rdn"
                refine q_notInP (SqL.of (s8 _ _ (s7 _ _ f16))) (PairAt.all f26 (s7.trans s8)) (hP2.same s8) ?_
                walk_at "rdn"
                exact hR2 _ _ (Same.refl _) (by rw [hP8, take_snoc hc2, List.map_append, List.map_append]; rfl)
              · intro zs B2 s8 hP8 hD8
                rw [List.take_of_length_le (by omega)] at hP8
                subst hP8
                have hS := s6.trans (s7.trans s8)
                have hbz : ∀ e, e ∈ beyond M [] (causesOf S.ks S.cg (((s : Nat) : Int), n)) ↔ e ∈ causesOf S.ks S.cg (((s : Nat) : Int), n) := fun e => beyond_zero (hw.cc _ hin)
                walk_at "rdn"
                refine q_ifs (fun h5 => ?_) (fun h5 => ?_)
                · walk_at "rdn"
                  refine R_of (k _ hS) ?_
                  rw [why_told, if_neg (by omega), if_neg (fun z => z h2), if_neg h3, if_neg (by rw [h4]; simp), if_neg (fun h6 => ?_)]
                  · rfl
                  · rw [List.any_map, List.any_eq_true] at h5
                    obtain ⟨e, he, hne⟩ := h5
                    have := of_decide_eq_true (List.all_eq_true.mp h6 e ((hbz e).mp he))
                    simp [this] at hne
                · walk_at "rdn"
                  refine R_of (k _ hS) ?_
                  rw [why_told, if_neg (by omega), if_neg (fun z => z h2), if_neg h3, if_neg (by rw [h4]; simp), if_pos (List.all_eq_true.mpr fun e he => ?_)]
                  · rfl
                  · rw [List.any_map, List.any_eq_false] at h5
                    have := h5 e ((hbz e).mpr he)
                    simpa using this
      · walk_at "rdn"
        exact R_of (k _ (Same.refl _)) (by rw [why_told, if_neg (by omega), if_pos h2]; rfl)
    · walk_at "rdn"
      exact R_of (k _ (Same.refl _)) (by rw [why_told, if_pos (by omega)]; rfl)
theorem ok_Course_why_not (T : Tx K mg) : FnOk P w K mg base CX0 9 T.f_Course_why_not T.d_Course_why_not ["self", "row"] (sp_Course_why_not K T.C_Counts T.C_Letter T.C_Book T.C_Course) := by
  refine T.F_Course_why_not.ok sc_Course_why_not (fun vs H Q E h => ?_) (fun cdv A outer s H vs Q E hr h => ?_)
  · rcases h with ⟨M, p, t, γ, S, ρ, rfl, hc, hw, ht, hg, hM, hM5, hk, k⟩
    all_goals rfl
  · have hu := hu_of hr
    refine ⟨_, (pss_cons (ps_if (pt_cmpR op_eq (pe_ix (ki_tup (K := K) rfl) (pv 1) pe_int (fun _ _ => rfl)) pe_str (nomark _))
      (pss_one (ps_ret (pe_meth (pv 0) T.c_Course T.mt_Course_why_not_got (ok_Course_why_not_got (P := P) T) (hr.mono (by decide)) T.b_Course_why_not_got .nil pass0 (pa_cons (pe_ix (ki_tup (K := K) rfl) (pv 1) pe_int (fun _ _ => rfl)) (pa_cons (pe_slice (ks_tup (K := K) rfl) (pv 1) (po_some pe_int) po_none) (pa_nil)))))) pss_nil)
      (pss_cons (ps_if (pt_cmpR op_eq (pe_ix (ki_tup (K := K) rfl) (pv 1) pe_int (fun _ _ => rfl)) pe_str (nomark _))
      (pss_one (ps_ret (pe_meth (pv 0) T.c_Course T.mt_Course_why_not_told (ok_Course_why_not_told (P := P) T) (hr.mono (by decide)) T.b_Course_why_not_told .nil pass0 (pa_cons (pe_ix (ki_tup (K := K) rfl) (pv 1) pe_int (fun _ _ => rfl)) (pa_cons (pe_ix (ki_tup (K := K) rfl) (pv 1) pe_int (fun _ _ => rfl)) (pa_cons (pe_slice (ks_tup (K := K) rfl) (pv 1) (po_some pe_int) po_none) (pa_nil))))))) pss_nil)
      (pss_one (ps_ret pe_non)))), ?_⟩
    rcases h with ⟨M, p, t, γ, S, ρ, rfl, hc, hw, ht, hg, hM, hM5, hk, k⟩
    have n3 : ¬ (Str.ofString "told" = Str.ofString "got") := by decide +kernel
    have n1 : ¬ (Str.ofString "sent" = Str.ofString "got") := by decide +kernel
    have n2 : ¬ (Str.ofString "sent" = Str.ofString "told") := by decide +kernel
    obtain ⟨mm, hmm⟩ := Int.eq_ofNat_of_zero_le hg.mem.1
    have hm1 := hg.mem.2
    obtain ⟨dc, hp⟩ := hc.o
    cases ρ with
    | sent m w =>
      have ht : H t = some (.tup [.str "sent", .int m, .str w]) := ht
      walk_at "rdn"
      exact k _ (Same.refl _)
    | got m s n =>
      have ht : H t = some (.tup [.str "got", .int m, .int s, .int n]) := ht
      have hmm : m = (mm : Int) := hmm
      subst hmm
      obtain ⟨g0, g1, g2, g3, g4⟩ := hg
      obtain ⟨ss, rfl⟩ := Int.eq_ofNat_of_zero_le g2
      walk_at "rdn"
      refine q_slTe (ys := [.int (ss : Nat), .int n]) (SqT.of ht) (show ¬ (HT.sIx 4 0 (some 2) = 0 ∧ HT.sIx 4 4 none = 4) by decide) rfl ?_
      intro d hd
      walk_at "rdn"
      refine r_Course_why_not_got rfl (hc := hc.same (Same.new hd)) (hw := hw) (ht := upd_same) (hn := g4) (hM := hM) (hM5 := hM5) (hm := by omega) (hs := by omega) ?_
      intro H1 s1
      exact k _ ((Same.new hd).trans s1)
    | told m pl s n =>
      have ht : H t = some (.tup [.str "told", .int m, .int pl, .int s, .int n]) := ht
      have hmm : m = (mm : Int) := hmm
      subst hmm
      obtain ⟨g0, g1, g5, g2, g3, g4⟩ := hg
      obtain ⟨ss, rfl⟩ := Int.eq_ofNat_of_zero_le g2
      walk_at "rdn"
      refine q_slTe (ys := [.int (ss : Nat), .int n]) (SqT.of ht) (show ¬ (HT.sIx 5 0 (some 3) = 0 ∧ HT.sIx 5 5 none = 5) by decide) rfl ?_
      intro d hd
      walk_at "rdn"
      refine r_Course_why_not_told rfl (hc := hc.same (Same.new hd)) (hw := hw) (ht := upd_same) (hn := g4) (hp := g5) (hM := hM) (hM5 := hM5) (hm := by omega) (hs := by omega) (hk := hk) ?_
      intro H1 s1
      exact k _ ((Same.new hd).trans s1)
theorem ok_Course_follow (T : Tx K mg) : FnOk P w K mg base CX0 11 T.f_Course_follow T.d_Course_follow ["self", "rows"] (sp_Course_follow K T.C_Counts T.C_Letter T.C_Book T.C_Course) := by
  refine T.F_Course_follow.ok sc_Course_follow (fun vs H Q E h => ?_) (fun cdv A outer s H vs Q E hr h => ?_)
  · rcases h with ⟨M, p, a, γ, S, xs, rs, rfl, hc, hw, ha, hx, hg, hM, hM5, hs, hl, na, k⟩
    all_goals rfl
  · have hu := hu_of hr
    refine ⟨_, (pss_cons (ps_for PassesOwn.never rfl (pi_enumS (K := K) rfl (by rfl) T.z_enumerate (pa_cons (pv 1) (pa_nil))) (kg_tup (K := K) (n := 2) rfl rfl (pgs_cons (pg_name (i := 2) sc_Course_follow.nd rfl (Or.inl rfl)) (pgs_cons (pg_name (i := 3) sc_Course_follow.nd rfl (Or.inl rfl)) pgs_nil)))
      (pss_cons (ps_set (i := 4) sc_Course_follow.nd rfl (Or.inl rfl) (pe_meth (pv 0) T.c_Course T.mt_Course_why_not (ok_Course_why_not (P := P) T) (hr.mono (by decide)) T.b_Course_why_not .nil pass0 (pa_cons (pv 3) (pa_nil))))
      (pss_cons (ps_if (pt_cmpR op_notNon (pv 4) pe_non (nomark _))
      (pss_one (ps_ret (pe_tup (pa_cons (pv 2) (pa_cons (pv 4) (pa_nil)))))) pss_nil)
      (pss_one (ps_expr (pe_meth (pv 0) T.c_Course T.mt_Course_happen (ok_Course_happen (P := P) T) (hr.mono (by decide)) T.b_Course_happen .nil pass0 (pa_cons (pv 3) (pa_nil))))))))
      (pss_one (ps_ret pe_non))), ?_⟩
    rcases h with ⟨M, p, a, γ, S, xs, rs, rfl, hc, hw, ha, hx, hg, hM, hM5, hs, hl, na, k⟩
    obtain ⟨dc, hp⟩ := hc.o
    have hxl := hx.len
    walk_at "rdn"
    rcases ha with ha | ha
    · refine q_enumL2 ?_
      walk_at "rdn"
      refine ⟨a, xs, rfl, SqL.of ha, ?_⟩
      refine for_it walk_enumL (fun i σ H' => (∃ u v w : Option V, σ = [some (.ref p), some (.ref a), u, v, w]) ∧ ∃ (γ' : Cs) (S' : HS), CsAt T.C_Counts T.C_Letter T.C_Book T.C_Course M H' p γ' S' ∧ γ'.mut = γ.mut ∧ WF (M : Nat) S' ∧ (∀ b o, b ∉ γ.mut → H b = some o → H' b = some o) ∧ walkH S' (rs.drop i) i = walkH S rs 0 ∧ S'.ks.length + nSent (rs.drop i) ≤ 30 ∧ S' = S.run (rs.take i)) ⟨⟨none, none, none, rfl⟩, γ, S, hc, rfl, hw, fun _ _ _ e => e, rfl, hs, rfl⟩ (fun i σ H' _ h => by
        obtain ⟨_, γ', S', _, _, _, f, _⟩ := h
        exact SqL.of (f _ _ na ha)) ?_ ?_
      · rintro i x σ G1 G2 hi ⟨⟨u, v, w, rfl⟩, γ', S', hc', m', hw', f', e', hs', er'⟩ ⟨tt, u1, u2, rfl, hT, rfl, q1, q2⟩
        obtain rfl : u1 = .int (i : Nat) := (Option.some.inj q1).symm
        have q2 : xs[i]? = some u2 := q2
        have hx1 := hc.rows f' hx
        obtain ⟨ρ, hρ, ok, t, rfl, ht⟩ := hx1.get q2
        have gd := hg ρ (List.mem_of_getElem? hρ)
        have sT : Same G1 (upd G1 tt (.tup [.int (i : Nat), .ref t])) := Same.new hT
        have eT : upd G1 tt (.tup [.int (i : Nat), .ref t]) tt = some (.tup [.int (i : Nat), .ref t]) := upd_same
        generalize upd G1 tt (.tup [.int (i : Nat), .ref t]) = G2 at sT eT ⊢
        have hc2 := hc'.same sT
        have ht2 := sT _ _ ht
        obtain ⟨dc2, hp2⟩ := hc2.o
        rw [walkH_at hρ] at e'
        rw [nSent_drop hρ] at hs'
        have hk30 : S'.ks.length ≤ 30 := by omega
        walk_at "rdn"
        intro H3 s3
        have ht3 := s3 _ _ ht2
        have hc3 := hc2.same s3
        obtain ⟨dc3, hp3⟩ := hc3.o
        have f3 : ∀ b o, b ∉ γ.mut → H b = some o → H3 b = some o := fun b o n e => s3 _ _ (sT _ _ (f' b o n e))
        have st : nSent [ρ] = (if ρ.isSent = true then 1 else 0) := nSent_one
        cases hy : S'.why ρ with
        | some wd =>
          rw [hy] at e'
          rw [show optS (some wd) = V.str wd from rfl]
          walk_at "rdn"
          intro t9 ht9
          walk_at "rdn"
          exact k _ _ (fun b o n e => Same.new ht9 _ _ (f3 b o n e)) (by rw [← e']; exact ⟨t9, rfl, upd_same⟩) (fun z => by rw [← e'] at z; cases z)
        | none =>
          rw [hy] at e'
          rw [show optS none = V.non from rfl]
          have hks : ρ.isSent = true → S'.ks.length < 30 := fun z => by rw [z] at st; simp at st; omega
          walk_at "rdn"
          intro γ4 H4 f4 hc4 m4
          walk_at "rdn"
          exact ⟨⟨_, _, _, rfl⟩, γ4, S'.go ρ, hc4, m4.trans m', hw'.step gd hy, fun b o n e => f4 b o (by rw [m']; exact n) (f3 b o n e), e', by rw [go_ks]; omega, by rw [run_at hρ, ← er']⟩
      · rintro σ G1 ⟨⟨u, v, w, rfl⟩, γ', S', hc', m', hw', f', e', hs', er'⟩
        rw [List.drop_of_length_le (by omega)] at e'
        walk_at "rdn"
        rw [List.take_of_length_le (by omega)] at er'
        exact k _ _ f' (by rw [← e']; rfl) (fun _ => ⟨γ', er' ▸ hc', m'⟩)
    · refine q_enumT2 ?_
      walk_at "rdn"
      refine for_it walk_enumT (fun i σ H' => (∃ u v w : Option V, σ = [some (.ref p), some (.ref a), u, v, w]) ∧ ∃ (γ' : Cs) (S' : HS), CsAt T.C_Counts T.C_Letter T.C_Book T.C_Course M H' p γ' S' ∧ γ'.mut = γ.mut ∧ WF (M : Nat) S' ∧ (∀ b o, b ∉ γ.mut → H b = some o → H' b = some o) ∧ walkH S' (rs.drop i) i = walkH S rs 0 ∧ S'.ks.length + nSent (rs.drop i) ≤ 30 ∧ S' = S.run (rs.take i)) ⟨⟨none, none, none, rfl⟩, γ, S, hc, rfl, hw, fun _ _ _ e => e, rfl, hs, rfl⟩ (fun i σ H' _ h => by
        obtain ⟨_, γ', S', _, _, _, f, _⟩ := h
        exact SqT.of (f _ _ na ha)) ?_ ?_
      · rintro i x σ G1 G2 hi ⟨⟨u, v, w, rfl⟩, γ', S', hc', m', hw', f', e', hs', er'⟩ ⟨tt, u1, u2, rfl, hT, rfl, q1, q2⟩
        obtain rfl : u1 = .int (i : Nat) := (Option.some.inj q1).symm
        have q2 : xs[i]? = some u2 := q2
        have hx1 := hc.rows f' hx
        obtain ⟨ρ, hρ, ok, t, rfl, ht⟩ := hx1.get q2
        have gd := hg ρ (List.mem_of_getElem? hρ)
        have sT : Same G1 (upd G1 tt (.tup [.int (i : Nat), .ref t])) := Same.new hT
        have eT : upd G1 tt (.tup [.int (i : Nat), .ref t]) tt = some (.tup [.int (i : Nat), .ref t]) := upd_same
        generalize upd G1 tt (.tup [.int (i : Nat), .ref t]) = G2 at sT eT ⊢
        have hc2 := hc'.same sT
        have ht2 := sT _ _ ht
        obtain ⟨dc2, hp2⟩ := hc2.o
        rw [walkH_at hρ] at e'
        rw [nSent_drop hρ] at hs'
        have hk30 : S'.ks.length ≤ 30 := by omega
        walk_at "rdn"
        intro H3 s3
        have ht3 := s3 _ _ ht2
        have hc3 := hc2.same s3
        obtain ⟨dc3, hp3⟩ := hc3.o
        have f3 : ∀ b o, b ∉ γ.mut → H b = some o → H3 b = some o := fun b o n e => s3 _ _ (sT _ _ (f' b o n e))
        have st : nSent [ρ] = (if ρ.isSent = true then 1 else 0) := nSent_one
        cases hy : S'.why ρ with
        | some wd =>
          rw [hy] at e'
          rw [show optS (some wd) = V.str wd from rfl]
          walk_at "rdn"
          intro t9 ht9
          walk_at "rdn"
          exact k _ _ (fun b o n e => Same.new ht9 _ _ (f3 b o n e)) (by rw [← e']; exact ⟨t9, rfl, upd_same⟩) (fun z => by rw [← e'] at z; cases z)
        | none =>
          rw [hy] at e'
          rw [show optS none = V.non from rfl]
          have hks : ρ.isSent = true → S'.ks.length < 30 := fun z => by rw [z] at st; simp at st; omega
          walk_at "rdn"
          intro γ4 H4 f4 hc4 m4
          walk_at "rdn"
          exact ⟨⟨_, _, _, rfl⟩, γ4, S'.go ρ, hc4, m4.trans m', hw'.step gd hy, fun b o n e => f4 b o (by rw [m']; exact n) (f3 b o n e), e', by rw [go_ks]; omega, by rw [run_at hρ, ← er']⟩
      · rintro σ G1 ⟨⟨u, v, w, rfl⟩, γ', S', hc', m', hw', f', e', hs', er'⟩
        rw [List.drop_of_length_le (by omega)] at e'
        walk_at "rdn"
        rw [List.take_of_length_le (by omega)] at er'
        exact k _ _ f' (by rw [← e']; rfl) (fun _ => ⟨γ', er' ▸ hc', m'⟩)
theorem ok_first_wrong (T : Tx K mg) : FnOk P w K mg base CX0 12 T.f_first_wrong T.d_first_wrong ["members", "rows"] (sp_first_wrong K T.C_Counts T.C_Letter T.C_Book T.C_Course) := by
  refine T.F_first_wrong.ok sc_first_wrong (fun vs H Q E h => ?_) (fun cdv A outer s H vs Q E hr h => ?_)
  · rcases h with ⟨a, xs, rs, M, rfl, hM, hM5, ha, hx, hg, k⟩
    all_goals rfl
  · have hu := hu_of hr
    refine ⟨_, (pss_cons (ps_expr (pe_call (ok_check_history (P := P) T) (hr.mono (by decide)) rfl T.m_check_history T.k_check_history T.b_check_history .nil pass0 (pa_cons (pv 0) (pa_cons (pv 1) (pa_nil)))))
      (pss_one (ps_ret (pe_meth (pe_make T.mk_Course (ok_Course_init (P := P) T) (hr.mono (by decide)) rfl T.g_Course T.b_Course_init .nil pass0 (pa_cons (pv 0) (pa_nil))) T.c_Course T.mt_Course_follow (ok_Course_follow (P := P) T) (hr.mono (by decide)) T.b_Course_follow .nil pass0 (pa_cons (pv 1) (pa_nil)))))), ?_⟩
    rcases h with ⟨a, xs, rs, M, rfl, hM, hM5, ha, hx, hg, k⟩
    have hxl := hx.len
    have hrl := hg.len
    walk_at "rdn"
    intro H1 s1
    have ha1 := Sq2.up s1 ha
    have hx1 := RowAt.all hx s1
    walk_at "rdn"
    intro p dc hp hdc ne
    walk_at "rdn"
    intro γ H2 f2 hc fr
    obtain ⟨dc2, hp2⟩ := hc.o
    have hm0 : ∀ x ∈ γ.mut, H1 x = none := fun x hx => by
      have := fr x hx
      walk_at "fr"
    have SA : Same H1 H2 := fun b o e => f2 b o (by walk_at "ne") (by walk_at "lk")
    have na : a ∉ γ.mut := fun hx => by
      rcases ha1 with e | e
      · rw [hm0 a hx] at e; cases e
      · rw [hm0 a hx] at e; cases e
    walk_at "rdn"
    refine r_Course_follow rfl (hc := hc) (hw := WF.zero (by omega)) (ha := Sq2.up SA ha1) (hx := RowAt.all hx1 SA) (hg := hg.all) (hM := hM) (hM5 := hM5) (hs := by show 0 + _ ≤ _; have := hg.snt; omega) (hl := hrl) (na := na) ?_
    intro v H3 f3 hd _
    exact k v H3 (fun b o e => f3 b o (fun hx => by have e1 := s1 _ _ e; rw [hm0 b hx] at e1; cases e1) (SA _ _ (s1 _ _ e))) hd
theorem ok_law_model (T : Tx K mg) : FnOk P w K mg base CX0 1 T.f_law_model T.d_law_model ["members"] (sp_law_model ) := by
  refine T.F_law_model.ok sc_law_model (fun vs H Q E h => ?_) (fun cdv A outer s H vs Q E hr h => ?_)
  · rcases h with ⟨M, rfl, h2, h5, k⟩
    all_goals rfl
  · have hu := hu_of hr
    refine ⟨_, (pss_cons (ps_setLc (i := 1) (own := [("k", 3)]) (g := gName 3) (tt := tYes) rfl sc_law_model.nd rfl rfl (sw_true rfl rfl rfl (by decide +kernel)) (pi_range1 rfl T.z_range (pa_cons (pv 0) (pa_nil))) (blkOk_by (own := [("k", 3)]) (N := ["members", "got", "later", "k"]) (sc := defScope s_law_model) (by decide +kernel)) (fun _ _ _ _ _ => (pg_name (i := 3) sc_law_model.nd rfl (Or.inl rfl))) (fun _ _ _ _ _ => pts_nil) (fun _ _ _ _ _ => (pe_lst pa_nil)))
      (pss_cons (ps_setLc (i := 2) (own := [("k", 3)]) (g := gName 3) (tt := tYes) rfl sc_law_model.nd rfl rfl (sw_true rfl rfl rfl (by decide +kernel)) (pi_range1 rfl T.z_range (pa_cons (pv 0) (pa_nil))) (blkOk_by (own := [("k", 3)]) (N := ["members", "got", "later", "k"]) (sc := defScope s_law_model) (by decide +kernel)) (fun _ _ _ _ _ => (pg_name (i := 3) sc_law_model.nd rfl (Or.inl rfl))) (fun _ _ _ _ _ => pts_nil) (fun _ _ _ _ _ => (pe_lst pa_nil)))
      (pss_one (ps_ret (pe_disp (pps_cons pe_str pe_dnewT (pps_cons pe_str pe_dnewT (pps_cons pe_str (pv 1) (pps_cons pe_str (pv 2) pps_nil)))) (by rfl) (by rfl) (fun z => by cases z) (by decide)))))), ?_⟩
    rcases h with ⟨M, rfl, h2, h5, k⟩
    walk_at "rdn"
    intro D hD
    refine lc_any walk_range (fun i ys H' => Empt D H i ys H') (by simp; omega) (fun _ _ _ _ h s => h.same s) (fun _ _ _ _ h => h.put) (Empt.zero) (fun _ _ => trivial) hD ?_ ?_ gName_m tYes_m
    · rintro i v ys B1 B2 R R2 hi s6 hP hDB ⟨rfl, rfl⟩ hR hR2
      refine ⟨wipe_set, q_yes ⟨hR true _ (Same.refl _) (fun h => nomatch h), fun _ => ?_⟩⟩
      walk_at "rdn"
      intro z hz
      exact hR2 _ _ (Same.new hz) (hP.snoc (Same.new hz) (s6.free hz) hz upd_same (ne_of_none hDB hz).symm)
    · intro ys H1 s1 hP1 hD1
      walk_at "rdn"
      intro D2 hD2
      refine lc_any walk_range (fun i ys H' => Empt D2 H1 i ys H') (by simp; omega) (fun _ _ _ _ h s => h.same s) (fun _ _ _ _ h => h.put) (Empt.zero) (fun _ _ => trivial) hD2 ?_ ?_ gName_m tYes_m
      · rintro i v ys B1 B2 R R2 hi s6 hP hDB ⟨rfl, rfl⟩ hR hR2
        refine ⟨wipe_set, q_yes ⟨hR true _ (Same.refl _) (fun h => nomatch h), fun _ => ?_⟩⟩
        walk_at "rdn"
        intro z hz
        exact hR2 _ _ (Same.new hz) (hP.snoc (Same.new hz) (s6.free hz) hz upd_same (ne_of_none hDB hz).symm)
      · intro ys2 H2 s2 hP2 hD3
        walk_at "rdn"
        intro p hp
        walk_at "rdn"
        intro c hc
        walk_at "rdn"
        intro wd hwd
        walk_at "rdn"
        refine q_kvs [(.inr "causes", .ref c), (.inr "words", .ref wd), (.inr "got", .ref D), (.inr "told", .ref D2)] (by walk_at "lk") rfl (by simp) ?_
        rw [mergeK4 (by decide +kernel) (by decide +kernel) (by decide +kernel) (by decide +kernel) (by decide +kernel) (by decide +kernel)]
        have m1 : c ≠ wd := by walk_at "ne"
        have m2 : p ≠ c := by walk_at "ne"
        have m3 : p ≠ wd := by walk_at "ne"
        obtain ⟨as, rfl, la, na, pa⟩ := hP1
        obtain ⟨bs, rfl, lb, nb, pb⟩ := hP2
        have S : Same H2 (upd (upd (upd (upd H2 p (.dK [])) c (.dT [])) wd (.dT [])) p (.dK [(.inr "causes", .ref c), (.inr "words", .ref wd), (.inr "got", .ref D), (.inr "told", .ref D2)])) := Same.snew (((Same.new hp).trans (Same.new hc)).trans (Same.new hwd)) hp
        have w1 : (upd (upd (upd (upd H2 p (.dK [])) c (.dT [])) wd (.dT [])) p (.dK [(.inr "causes", .ref c), (.inr "words", .ref wd), (.inr "got", .ref D), (.inr "told", .ref D2)])) c = some (.dT []) := by walk_at "lk"
        have w2 : (upd (upd (upd (upd H2 p (.dK [])) c (.dT [])) wd (.dT [])) p (.dK [(.inr "causes", .ref c), (.inr "words", .ref wd), (.inr "got", .ref D), (.inr "told", .ref D2)])) wd = some (.dT []) := by walk_at "lk"
        have w3 : (upd (upd (upd (upd H2 p (.dK [])) c (.dT [])) wd (.dT [])) p (.dK [(.inr "causes", .ref c), (.inr "words", .ref wd), (.inr "got", .ref D), (.inr "told", .ref D2)])) p = some (.dK [(.inr "causes", .ref c), (.inr "words", .ref wd), (.inr "got", .ref D), (.inr "told", .ref D2)]) := upd_same
        refine k ⟨p, c, wd, D, D2, as, bs, []⟩ _ (s1.trans (s2.trans S)) (MxAt.new w3 w1 w2 m1 (S _ _ (s2 _ _ hD1)) (S _ _ hD3) (by simpa using la) (by simpa using lb) (fun a ha => S _ _ (s2 _ _ (pa a ha).1)) (fun a ha => S _ _ (pb a ha).1) ?_) ((s1.trans s2).free (upd_free hc)) ((s1.trans s2).free (upd_free (upd_free hwd))) (fun a ha => (pa a ha).2.1) (fun a ha => s1.free (pb a ha).2.1)
        have nDD : D ≠ D2 := ne_of_none hD1 hD2
        refine List.nodup_append.mpr ⟨by simp [nDD], List.nodup_append.mpr ⟨na, nb, fun x hx y hy e => ?_⟩, fun x hx y hy e => ?_⟩
        · have z1 := (pa x hx).1
          rw [e, (pb y hy).2.1] at z1
          cases z1
        · simp only [List.mem_cons, List.not_mem_nil, or_false] at hx
          rcases List.mem_append.mp hy with hy | hy
          · rcases hx with rfl | rfl
            · exact (pa y hy).2.2 e.symm
            · have z1 := (pa y hy).1
              rw [← e, hD2] at z1
              cases z1
          · rcases hx with rfl | rfl
            · have z1 := (pb y hy).2.1
              rw [← e, hD1] at z1
              cases z1
            · exact (pb y hy).2.2 e.symm
theorem ok_law_otherwise (T : Tx K mg) : FnOk P w K mg base CX0 1 T.f_law_otherwise T.d_law_otherwise ["model", "member", "place", "ident"] (sp_law_otherwise K) := by
  refine T.F_law_otherwise.ok sc_law_otherwise (fun vs H Q E h => ?_) (fun cdv A outer s H vs Q E hr h => ?_)
  · rcases h with ⟨μ, M, S, i, m, p, c, rfl, hm, hw, h5, hk, hi, hp, k⟩
    all_goals rfl
  · have hu := hu_of hr
    refine ⟨_, (pss_cons (ps_for PassesOwn.never rfl (pi_range1 rfl T.z_range (pa_cons (pe_callB (id := "len") (kx_len (K := K) rfl) (by rfl) T.z_len (by decide +kernel) (pa_cons (pe_dget (room1 hr) (pv 0) pe_str (fun _ _ => rfl)) (pa_nil))) (pa_nil))) (pg_name (i := 4) sc_law_otherwise.nd rfl (Or.inl rfl))
      (pss_cons (ps_set (i := 5) sc_law_otherwise.nd rfl (Or.inl rfl) (pe_ix (ki_list (K := K) rfl) (pe_dget (room1 hr) (pv 0) pe_str (fun _ _ => rfl)) (pv 4) (fun _ _ => rfl)))
      (pss_cons (ps_if (PW.pt (pw_and (pt_cmpR op_ne (pv 4) (pv 1) (nomark _)) (pw_and (pt_cmpR op_le (pv 2) (pe_callB (id := "len") (kx_len (K := K) rfl) (by rfl) T.z_len (by decide +kernel) (pa_cons (pv 5) (pa_nil))) (nomark _)) (pw_and1 (pt_cmpR (ko_neD (K := K) rfl hr.units) (pe_ix (ki_list (K := K) rfl) (pv 5) (pe_op op_sub (pv 2) pe_int) (fun _ _ => rfl)) (pv 3) (nomark _))))))
      (pss_one (ps_ret pe_bl)) pss_nil)
      (pss_one (ps_if (PW.pt (pw_and (pt_cmpR op_ne (pv 4) (pv 1) (nomark _)) (pw_and (pt_cmpR (ko_inD (K := K) rfl (room65 hr)) (pv 3) (pv 5) rfl) (pw_and1 (pt_cmpR op_ne (pe_bm PySem.F.plainAttrs_list PySem.F.slot_list_index PySem.F.type_list_index (kmt_indexD (K := K) rfl (room65 hr)) (pv 5) (pa_cons (pv 3) (pa_nil))) (pe_op op_sub (pv 2) pe_int) (nomark _))))))
      (pss_one (ps_ret pe_bl)) pss_nil)))))
      (pss_one (ps_ret pe_bl))), ?_⟩
    rcases h with ⟨μ, M, S, i, m, p, c, rfl, hm, hw, h5, hk, hi, hp, k⟩
    have hmd := hm.md
    have htl := hm.tl
    have hlen : (μ.ta.map V.ref).length = μ.ta.length := List.length_map ..
    have htll := hm.tll
    have hst := hm.st
    have hT : ∀ j : Nat, j < M → (!decide ((j : Int) = m) && otherwise (S.told.getD j []) p c) = true → ((List.range S.told.length).any fun k => !decide ((k : Int) = m) && otherwise (S.told.getD k []) p c) = true := fun j h1 h2 => List.any_eq_true.mpr ⟨j, List.mem_range.mpr (by omega), h2⟩
    walk_at "rdn"
    rw [hlen, Int.toNat_natCast]
    refine for_range (fun j σ H' => (∃ u v : Option V, σ = [some (.ref μ.md), some (.int m), some (.int p), some (.ref i), u, v]) ∧ H' = H ∧ ∀ q, q < j → (!decide ((q : Int) = m) && otherwise (S.told.getD q []) p c) = false) ⟨⟨none, none, rfl⟩, rfl, fun q h => nomatch h⟩ ?_ ?_
    · rintro j σ H' hj ⟨⟨u, v, rfl⟩, rfl, hall⟩
      rw [Int.zero_add]
      obtain ⟨a, ha⟩ : ∃ a, μ.ta[j]? = some a := ⟨_, List.getElem?_eq_getElem hj⟩
      obtain ⟨xs, e1, e2⟩ := hm.ta j a ha
      rw [HS.toldOf_nat] at e2
      have hxl := e2.len
      have hrl := hw.tlen (m := j) (by omega)
      rw [HS.toldOf_nat] at hrl
      generalize hr : S.told.getD j [] = r at e2 hxl hrl
      have hat : atI (μ.ta.map V.ref) (j : Int) = some (.ref a) := atI_nat (by rw [List.getElem?_map, ha]; rfl)
      have step : (!decide ((j : Int) = m) && otherwise r p c) = false → ∀ q, q < j + 1 → (!decide ((q : Int) = m) && otherwise (S.told.getD q []) p c) = false := fun h q hq => by
        by_cases e : q = j
        · rw [e, hr]; exact h
        · exact hall q (by omega)
      have hTj := hT j (by omega)
      rw [hr] at hTj
      by_cases hjm : (j : Int) = m
      · walk_at "rdn"
        exact ⟨⟨_, _, rfl⟩, rfl, step (by simp [hjm])⟩
      · with_reducible refine q_gname ?_
        refine q_seqC (fun σ' H2 => σ' = [some (.ref μ.md), some (.int m), some (.int p), some (.ref i), some (.int j), some (.ref a)] ∧ H2 = H') (fun N k1 => ?_) ?_
        · walk_at "rdn"
          exact k1 _ _ ⟨rfl, rfl⟩
        rintro σ H2 ⟨rfl, rfl⟩
        refine q_seqC (fun σ' H3 => σ' = [some (.ref μ.md), some (.int m), some (.int p), some (.ref i), some (.int j), some (.ref a)] ∧ H3 = H2 ∧ (decide (p ≤ r.length) && !decide (r[(p - 1).toNat]? = some c)) = false) (fun N k1 => ?_) ?_
        · by_cases hpl : p ≤ (xs.length : Int)
          · obtain ⟨pp, hpp⟩ := Int.eq_ofNat_of_zero_le (show 0 ≤ p - 1 by omega)
            obtain ⟨x, hx⟩ : ∃ x, xs[pp]? = some x := ⟨_, List.getElem?_eq_getElem (by omega)⟩
            obtain ⟨c2, hc2, i2, rfl, hi2⟩ := e2.get hx
            have hxt : atI xs (p - 1) = some (.ref i2) := by rw [hpp]; exact atI_nat hx
            have hrp : r[(p - 1).toNat]? = some c2 := by rw [hpp, Int.toNat_natCast]; exact hc2
            walk_at "rdn"
            refine q_nePair ⟨i2, rfl, hi2⟩ ⟨i, rfl, hi⟩ ?_
            walk_at "rdn"
            refine q_ifx (fun hx3 => ?_) (fun hx3 => ?_)
            · walk_at "rdn"
              exact k1 _ _ ⟨rfl, rfl, by rw [hrp, hx3]; simp⟩
            · walk_at "rdn"
              refine R_of k (congrArg V.bl (hTj ?_))
              unfold otherwise
              rw [hrp, decide_eq_true (show p ≤ ((r.length : Nat) : Int) by omega)]
              simp [hjm, hx3]
          · walk_at "rdn"
            exact k1 _ _ ⟨rfl, rfl, by rw [decide_eq_false (show ¬ p ≤ ((r.length : Nat) : Int) by omega)]; rfl⟩
        rintro σ H3 ⟨rfl, rfl, hfst⟩
        by_cases hci : c ∈ r
        · walk_at "rdn"
          refine q_inP (SqL.of e1) e2 ⟨i, rfl, hi⟩ ?_
          walk_at "rdn"
          refine q_indexE (SqL.of e1) e2 ⟨i, rfl, hi⟩ hci ?_
          walk_at "rdn"
          refine q_ifx (fun hx3 => ?_) (fun hx3 => ?_)
          · walk_at "rdn"
            refine ⟨⟨_, _, rfl⟩, rfl, step ?_⟩
            unfold otherwise
            rw [hfst]
            have hx3 : ((r.findIdx fun z => decide (z = c) : Nat) : Int) = p - 1 := hx3
            simp [hx3]
          · walk_at "rdn"
            refine R_of k (congrArg V.bl (hTj ?_))
            unfold otherwise
            have hx3 : ¬ ((r.findIdx fun z => decide (z = c) : Nat) : Int) = p - 1 := hx3
            rw [decide_eq_true hci, decide_eq_false hx3]
            simp [hjm]
        · walk_at "rdn"
          refine q_inP (SqL.of e1) e2 ⟨i, rfl, hi⟩ ?_
          walk_at "rdn"
          refine ⟨⟨_, _, rfl⟩, rfl, step ?_⟩
          unfold otherwise
          rw [hfst]
          simp [hci]
    · rintro σ H' ⟨⟨u, v, rfl⟩, rfl, hall⟩
      walk_at "rdn"
      refine R_of k (congrArg V.bl ?_)
      rw [List.any_eq_false]
      intro q hq
      rw [hall q (by have := List.mem_range.mp hq; omega)]
      simp
theorem ok_law_has (T : Tx K mg) : FnOk P w K mg base CX0 1 T.f_law_has T.d_law_has ["model", "rows", "ident"] (sp_law_has K) := by
  refine T.F_law_has.ok sc_law_has (fun vs H Q E h => ?_) (fun cdv A outer s H vs Q E hr h => ?_)
  · rcases h with ⟨μ, M, S, i, r, ys, ids, c, rfl, hm, hr, hy, hi, hc, k⟩
    all_goals rfl
  · have hu := hu_of hr
    refine ⟨_, (pss_cons (ps_for PassesOwn.never rfl (kpi_list (K := K) rfl (pe_dget (room1 hr) (pe_dget (room1 hr) (pv 0) pe_str (fun _ _ => rfl)) (pv 2) (fun _ _ => rfl))) (pg_name (i := 3) sc_law_has.nd rfl (Or.inl rfl))
      (pss_one (ps_if (pt_cmpR (ko_notInD (K := K) rfl (room65 hr)) (pv 3) (pv 1) rfl)
      (pss_one (ps_ret pe_bl)) pss_nil)))
      (pss_one (ps_ret pe_bl))), ?_⟩
    rcases h with ⟨μ, M, S, i, r, ys, ids, c, rfl, hm, hr, hy, hi, hc, k⟩
    have hmd := hm.md
    have hcc := hm.c
    obtain ⟨a, xs, hv, e1, e2⟩ := hm.find hc
    walk_at "rdn"
    refine q_dTs hcc (PairAt.key hi) hv ?_
    walk_at "rdn"
    refine for_list (K := K) (a := a) (xs := xs) (fun i' σ H' => (∃ u : Option V, σ = [some (.ref μ.md), some (.ref r), some (.ref i), u]) ∧ H' = H ∧ ∀ e ∈ (causesOf S.ks S.cg c).take i', e ∈ ids) ⟨⟨none, rfl⟩, rfl, fun e h => by simp at h⟩ (fun i σ H' _ h => by rw [h.2.1]; exact SqL.of e1) ?_ ?_
    · rintro j x σ H' hx ⟨⟨u, rfl⟩, rfl, hall⟩
      obtain ⟨c2, hc2, hP⟩ := e2.get hx
      walk_at "rdn"
      refine q_notInP (SqL.of hr) hy hP ?_
      walk_at "rdn"
      refine q_ifx (fun hx3 => ?_) (fun hx3 => ?_)
      · walk_at "rdn"
        refine ⟨⟨_, rfl⟩, rfl, fun e he => ?_⟩
        rw [take_snoc hc2] at he
        rcases List.mem_append.mp he with he | he
        · exact hall e he
        · rw [List.mem_singleton.mp he]; exact hx3
      · walk_at "rdn"
        refine R_of k (congrArg V.bl ?_)
        rw [List.all_eq_false]
        exact ⟨c2, List.mem_of_getElem? hc2, by simpa using hx3⟩
    · rintro σ H' ⟨⟨u, rfl⟩, rfl, hall⟩
      walk_at "rdn"
      refine R_of k (congrArg V.bl ?_)
      rw [List.all_eq_true]
      intro e he
      rw [List.take_of_length_le (by have := e2.len; omega)] at hall
      exact decide_eq_true (hall e he)
theorem ok_law_why_got (T : Tx K mg) : FnOk P w K mg base CX0 2 T.f_law_why_got T.d_law_why_got ["model", "member", "ident"] (sp_law_why_got K) := by
  refine T.F_law_why_got.ok sc_law_why_got (fun vs H Q E h => ?_) (fun cdv A outer s H vs Q E hr h => ?_)
  · rcases h with ⟨μ, M, S, i, m, s, n, rfl, hm, hw, h5, h1, hi, k⟩
    all_goals rfl
  · have hu := hu_of hr
    refine ⟨_, (pss_cons (ps_if (pt_cmpR op_eq (pe_ix (ki_tup (K := K) rfl) (pv 2) pe_int (fun _ _ => rfl)) (pv 1) (nomark _))
      (pss_one (ps_ret pe_str)) pss_nil)
      (pss_cons (ps_if (pt_cmp (pc_dnotin (room1 hr) (pv 2) (pe_dget (room1 hr) (pv 0) pe_str (fun _ _ => rfl))))
      (pss_one (ps_ret pe_str)) pss_nil)
      (pss_cons (ps_set (i := 3) sc_law_why_got.nd rfl (Or.inl rfl) (pe_ix (ki_list (K := K) rfl) (pe_dget (room1 hr) (pv 0) pe_str (fun _ _ => rfl)) (pv 1) (fun _ _ => rfl)))
      (pss_cons (ps_if (pt_cmpR (ko_inD (K := K) rfl (room65 hr)) (pv 2) (pv 3) rfl)
      (pss_one (ps_ret pe_str)) pss_nil)
      (pss_one (ps_ret (pe_ifExp (pt_val (pe_call (ok_law_has (P := P) T) (hr.mono (by decide)) rfl T.m_law_has T.k_law_has T.b_law_has .nil pass0 (pa_cons (pv 0) (pa_cons (pv 3) (pa_cons (pv 2) (pa_nil)))))) pe_non pe_str))))))), ?_⟩
    rcases h with ⟨μ, M, S, i, m, s, n, rfl, hm, hw, h5, h1, hi, k⟩
    have hmd := hm.md
    have hcc := hm.c
    have hgg := hm.g
    have hgl := hm.gl
    obtain ⟨a, ha⟩ : ∃ a, μ.ga[m]? = some a := ⟨_, List.getElem?_eq_getElem (by omega)⟩
    obtain ⟨xs, e1, e2⟩ := hm.ga m a ha
    have hat : atI (μ.ga.map V.ref) (m : Int) = some (.ref a) := atI_nat (by rw [List.getElem?_map, ha]; rfl)
    walk_at "rdn"
    refine q_ifx (fun hx => ?_) (fun hx => ?_)
    · walk_at "rdn"
      exact R_of k (by rw [why_got, if_pos hx]; rfl)
    · walk_at "rdn"
      refine q_dT hcc (PairAt.key (c := (s, n)) hi) ?_
      rw [zk_isSome hm.kl]
      by_cases hck : (s, n) ∈ S.ks
      · rw [decide_eq_true hck]
        walk_at "rdn"
        refine q_inP (c := (s, n)) (SqL.of e1) e2 ⟨i, rfl, hi⟩ ?_
        walk_at "rdn"
        refine q_ifx (fun hx2 => ?_) (fun hx2 => ?_)
        · walk_at "rdn"
          exact R_of k (by rw [why_got, if_neg hx, if_neg (fun z => z hck), if_pos hx2]; rfl)
        · walk_at "rdn"
          refine r_law_has rfl (c := (s, n)) (hm := hm) (hr := e1) (hy := e2) (hi := hi) (hc := hck) ?_
          walk_at "rdn"
          refine q_ifs (fun hx3 => ?_) (fun hx3 => ?_)
          · walk_at "rdn"
            exact R_of k (by rw [why_got, if_neg hx, if_neg (fun z => z hck), if_neg hx2, if_pos hx3]; rfl)
          · walk_at "rdn"
            exact R_of k (by rw [why_got, if_neg hx, if_neg (fun z => z hck), if_neg hx2, hx3]; rfl)
      · rw [decide_eq_false hck]
        walk_at "rdn"
        exact R_of k (by rw [why_got, if_neg hx, if_pos hck]; rfl)
theorem ok_law_why (T : Tx K mg) : FnOk P w K mg base CX0 3 T.f_law_why T.d_law_why ["model", "row"] (sp_law_why K) := by
  refine T.F_law_why.ok sc_law_why (fun vs H Q E h => ?_) (fun cdv A outer s H vs Q E hr h => ?_)
  · rcases h with ⟨μ, M, S, t, ρ, rfl, hm, hw, h5, hk, ht, hg, k⟩
    all_goals rfl
  · have hu := hu_of hr
    refine ⟨_, (pss_cons (ps_set (i := 2) sc_law_why.nd rfl (Or.inl rfl) (pe_ix (ki_tup (K := K) rfl) (pv 1) pe_int (fun _ _ => rfl)))
      (pss_cons (ps_set (i := 3) sc_law_why.nd rfl (Or.inl rfl) (pe_slice (ks_tup (K := K) rfl) (pv 1) (po_some (pe_un un_neg pe_int)) po_none))
      (pss_cons (ps_if (pt_cmpR op_eq (pe_ix (ki_tup (K := K) rfl) (pv 1) pe_int (fun _ _ => rfl)) pe_str (nomark _))
      (pss_one (ps_ret pe_non)) pss_nil)
      (pss_cons (ps_if (pt_cmpR op_eq (pe_ix (ki_tup (K := K) rfl) (pv 1) pe_int (fun _ _ => rfl)) pe_str (nomark _))
      (pss_one (ps_ret (pe_call (ok_law_why_got (P := P) T) (hr.mono (by decide)) rfl T.m_law_why_got T.k_law_why_got T.b_law_why_got .nil pass0 (pa_cons (pv 0) (pa_cons (pv 2) (pa_cons (pv 3) (pa_nil))))))) pss_nil)
      (pss_cons (ps_set (i := 4) sc_law_why.nd rfl (Or.inl rfl) (pe_ix (ki_list (K := K) rfl) (pe_dget (room1 hr) (pv 0) pe_str (fun _ _ => rfl)) (pv 2) (fun _ _ => rfl)))
      (pss_cons (ps_if (pt_cmpR op_ne (pe_ix (ki_tup (K := K) rfl) (pv 1) pe_int (fun _ _ => rfl)) (pe_op op_add (pe_callB (id := "len") (kx_len (K := K) rfl) (by rfl) T.z_len (by decide +kernel) (pa_cons (pv 4) (pa_nil))) pe_int) (nomark _))
      (pss_one (ps_ret pe_str)) pss_nil)
      (pss_cons (ps_if (pt_cmpR (ko_notInD (K := K) rfl (room65 hr)) (pv 3) (pe_ix (ki_list (K := K) rfl) (pe_dget (room1 hr) (pv 0) pe_str (fun _ _ => rfl)) (pv 2) (fun _ _ => rfl)) rfl)
      (pss_one (ps_ret pe_str)) pss_nil)
      (pss_cons (ps_if (pt_cmpR (ko_inD (K := K) rfl (room65 hr)) (pv 3) (pv 4) rfl)
      (pss_one (ps_ret pe_str)) pss_nil)
      (pss_cons (ps_if (pt_val (pe_call (ok_law_otherwise (P := P) T) (hr.mono (by decide)) rfl T.m_law_otherwise T.k_law_otherwise T.b_law_otherwise .nil pass0 (pa_cons (pv 0) (pa_cons (pv 2) (pa_cons (pe_ix (ki_tup (K := K) rfl) (pv 1) pe_int (fun _ _ => rfl)) (pa_cons (pv 3) (pa_nil)))))))
      (pss_one (ps_ret pe_str)) pss_nil)
      (pss_one (ps_ret (pe_ifExp (pt_val (pe_call (ok_law_has (P := P) T) (hr.mono (by decide)) rfl T.m_law_has T.k_law_has T.b_law_has .nil pass0 (pa_cons (pv 0) (pa_cons (pv 4) (pa_cons (pv 3) (pa_nil)))))) pe_non pe_str)))))))))))), ?_⟩
    rcases h with ⟨μ, M, S, t, ρ, rfl, hm, hw, h5, hk, ht, hg, k⟩
    have n1 : ¬ (Str.ofString "got" = Str.ofString "sent") := by decide +kernel
    have n2 : ¬ (Str.ofString "told" = Str.ofString "sent") := by decide +kernel
    have n3 : ¬ (Str.ofString "told" = Str.ofString "got") := by decide +kernel
    have hmd := hm.md
    have htl := hm.tl
    have htll := hm.tll
    have hgg := hm.g
    have hgl := hm.gl
    have h0 := hg.mem.1
    have h1 := hg.mem.2
    cases ρ with
    | sent m w =>
      have ht : H t = some (.tup [.str "sent", .int m, .str w]) := ht
      walk_at "rdn"
      refine q_slTe (ys := [.int m, .str w]) (SqT.of ht) (show ¬ (HT.sIx 3 0 (some (-2)) = 0 ∧ HT.sIx 3 3 none = 3) by decide) rfl ?_
      intro d hd
      walk_at "rdn"
      exact k _ (Same.new hd)
    | got m s n =>
      have ht : H t = some (.tup [.str "got", .int m, .int s, .int n]) := ht
      have h0 : 0 ≤ m := h0
      have h1 : m ≤ (M : Nat) - 1 := h1
      obtain ⟨mm, rfl⟩ := Int.eq_ofNat_of_zero_le h0
      walk_at "rdn"
      refine q_slTe (ys := [.int s, .int n]) (SqT.of ht) (show ¬ (HT.sIx 4 0 (some (-2)) = 0 ∧ HT.sIx 4 4 none = 4) by decide) rfl ?_
      intro d hd
      walk_at "rdn"
      refine r_law_why_got rfl (hm := hm.same (Same.new hd)) (hw := hw) (h5 := h5) (h1 := by omega) (hi := upd_same) ?_
      exact k _ (Same.new hd)
    | told m p s n =>
      have ht : H t = some (.tup [.str "told", .int m, .int p, .int s, .int n]) := ht
      have h0 : 0 ≤ m := h0
      have h1 : m ≤ (M : Nat) - 1 := h1
      obtain ⟨mm, rfl⟩ := Int.eq_ofNat_of_zero_le h0
      obtain ⟨a, ha⟩ : ∃ a, μ.ga[mm]? = some a := ⟨_, List.getElem?_eq_getElem (by omega)⟩
      obtain ⟨xs, e1, e2⟩ := hm.ga mm a ha
      have hat : atI (μ.ga.map V.ref) (mm : Int) = some (.ref a) := atI_nat (by rw [List.getElem?_map, ha]; rfl)
      obtain ⟨b, hb⟩ : ∃ b, μ.ta[mm]? = some b := ⟨_, List.getElem?_eq_getElem (by omega)⟩
      obtain ⟨ys, f1, f2⟩ := hm.ta mm b hb
      have hbt : atI (μ.ta.map V.ref) (mm : Int) = some (.ref b) := atI_nat (by rw [List.getElem?_map, hb]; rfl)
      have hyl := f2.len
      walk_at "rdn"
      refine q_slTe (ys := [.int s, .int n]) (SqT.of ht) (show ¬ (HT.sIx 5 0 (some (-2)) = 0 ∧ HT.sIx 5 5 none = 5) by decide) rfl ?_
      intro d hd
      have S1 : Same H (upd H d (.tup [.int s, .int n])) := Same.new hd
      have hm' := hm.same S1
      have ed : upd H d (.tup [.int s, .int n]) d = some (.tup [.int s, .int n]) := upd_same
      have hmd := S1 _ _ hmd
      have htl := S1 _ _ htl
      have hgg := S1 _ _ hgg
      have ht := S1 _ _ ht
      have e1 := S1 _ _ e1
      have f1 := S1 _ _ f1
      have e2 := PairAt.all e2 S1
      have f2 := PairAt.all f2 S1
      generalize upd H d (.tup [.int s, .int n]) = G at S1 hm' ed hmd htl hgg ht e1 f1 e2 f2 ⊢
      by_cases hpl : p = (ys.length : Int) + 1
      · have hpl2 : ¬ p ≠ ((S.toldOf (mm : Nat)).length : Int) + 1 := by omega
        by_cases hmi : (s, n) ∈ S.gotOf (mm : Nat)
        · have hck := hw.gk mm (by omega) _ hmi
          walk_at "rdn"
          refine q_notInP (c := (s, n)) (SqL.of e1) e2 ⟨d, rfl, ed⟩ ?_
          walk_at "rdn"
          refine q_inP (c := (s, n)) (SqL.of f1) f2 ⟨d, rfl, ed⟩ ?_
          by_cases hmj : (s, n) ∈ S.toldOf (mm : Nat)
          · walk_at "rdn"
            exact R_of (k _ S1) (by rw [why_told, if_neg hpl2, if_neg (fun z => z hmi), if_pos hmj]; rfl)
          · walk_at "rdn"
            refine r_law_otherwise rfl (c := (s, n)) (hm := hm') (hw := hw) (h5 := h5) (hk := hk) (hi := ed) (hp := by omega) ?_
            walk_at "rdn"
            refine q_ifs (fun hx3 => ?_) (fun hx3 => ?_)
            · walk_at "rdn"
              exact R_of (k _ S1) (by rw [why_told, if_neg hpl2, if_neg (fun z => z hmi), if_neg hmj, if_pos hx3]; rfl)
            · walk_at "rdn"
              refine r_law_has rfl (c := (s, n)) (hm := hm') (hr := f1) (hy := f2) (hi := ed) (hc := hck) ?_
              walk_at "rdn"
              have hx5 : ¬ ((List.range S.told.length).any fun k => !decide ((k : Int) = ((mm : Nat) : Int)) && otherwise (S.told.getD k []) p (s, n)) = true := by rw [hx3]; simp
              refine q_ifs (fun hx4 => ?_) (fun hx4 => ?_)
              · walk_at "rdn"
                exact R_of (k _ S1) (by rw [why_told, if_neg hpl2, if_neg (fun z => z hmi), if_neg hmj, if_neg hx5, if_pos hx4]; rfl)
              · walk_at "rdn"
                exact R_of (k _ S1) (by rw [why_told, if_neg hpl2, if_neg (fun z => z hmi), if_neg hmj, if_neg hx5, hx4]; rfl)
        · walk_at "rdn"
          refine q_notInP (c := (s, n)) (SqL.of e1) e2 ⟨d, rfl, ed⟩ ?_
          walk_at "rdn"
          exact R_of (k _ S1) (by rw [why_told, if_neg hpl2, if_pos hmi]; rfl)
      · walk_at "rdn"
        exact R_of (k _ S1) (by rw [why_told, if_pos (by omega)]; rfl)
theorem ok_law_go (T : Tx K mg) : FnOk P w K mg base CX0 1 T.f_law_go T.d_law_go ["model", "row"] (sp_law_go K) := by
  refine T.F_law_go.ok sc_law_go (fun vs H Q E h => ?_) (fun cdv A outer s H vs Q E hr h => ?_)
  · rcases h with ⟨μ, M, S, t, ρ, rfl, hm, hw, h5, hk, ht, hg, k⟩
    all_goals rfl
  · have hu := hu_of hr
    refine ⟨_, (pss_cons (ps_set (i := 2) sc_law_go.nd rfl (Or.inr rfl) (pe_ix (ki_tup (K := K) rfl) (pv 1) pe_int (fun _ _ => rfl)))
      (pss_cons (ps_set (i := 3) sc_law_go.nd rfl (Or.inl rfl) (pe_slice (ks_tup (K := K) rfl) (pv 1) (po_some (pe_un un_neg pe_int)) po_none))
      (pss_cons (ps_if (pt_cmpR op_eq (pe_ix (ki_tup (K := K) rfl) (pv 1) pe_int (fun _ _ => rfl)) pe_str (nomark _))
      (pss_cons (ps_set (i := 3) sc_law_go.nd rfl (Or.inl rfl) (pe_tup (pa_cons (pv 2) (pa_cons (pe_op op_add pe_int (pe_callB (id := "len") (kx_len (K := K) rfl) (by rfl) T.z_len (by decide +kernel) (pa_cons (pe_lock (pe_lc (own := [("sent", 5)]) (g := gName 5) rfl sc_law_go.nd (pi_keys (pe_dget (room1 hr) (pv 0) pe_str (fun _ _ => rfl))) (blkOk_by (own := [("sent", 5)]) (N := ["model", "row", "member", "ident", "word", "sent"]) (sc := defScope s_law_go) (by decide +kernel)) (fun _ _ _ _ _ => (pg_name (i := 5) sc_law_go.nd rfl (Or.inl rfl))) (fun _ _ _ _ _ => (pts_one (pt_cmpR op_eq (pe_ix (ki_tup (K := K) rfl) (pv 5) pe_int (fun _ _ => rfl)) (pv 2) (nomark _)))) (fun _ _ _ _ _ => (pv 5)))) (pa_nil)))) (pa_nil)))))
      (pss_cons (ps_asg (pe_callTy (T := "list") (kx_list (K := K) rfl) (by rfl) T.z_list (by decide +kernel) (pa_cons (pe_ix (ki_list (K := K) rfl) (pe_dget (room1 hr) (pv 0) pe_str (fun _ _ => rfl)) (pv 2) (fun _ _ => rfl)) (pa_nil))) (pg_sub (pe_dget (room1 hr) (pv 0) pe_str (fun _ _ => rfl)) (pv 3) (set_dict (room1 hr))))
      (pss_one (ps_asg (pe_ix (ki_tup (K := K) rfl) (pv 1) pe_int (fun _ _ => rfl)) (pg_sub (pe_dget (room1 hr) (pv 0) pe_str (fun _ _ => rfl)) (pv 3) (set_dict (room1 hr))))))) pss_nil)
      (pss_cons (ps_set (i := 4) sc_law_go.nd rfl (Or.inl rfl) (pe_ifExp (pt_cmpR op_eq (pe_ix (ki_tup (K := K) rfl) (pv 1) pe_int (fun _ _ => rfl)) pe_str (nomark _)) pe_str pe_str))
      (pss_one (ps_expr (pe_bm PySem.F.plainAttrs_list PySem.F.slot_list_append PySem.F.type_list_append mt_append (pe_ix (ki_list (K := K) rfl) (pe_dget (room1 hr) (pv 0) (pv 4) (fun _ _ => rfl)) (pv 2) (fun _ _ => rfl)) (pa_cons (pv 3) (pa_nil))))))))), ?_⟩
    rcases h with ⟨μ, M, S, t, ρ, rfl, hm, hw, h5, hk, ht, hg, k⟩
    have hmd := hm.md
    have hcc := hm.c
    have hgg := hm.g
    have htl := hm.tl
    have hgl := hm.gl
    have htll := hm.tll
    have nmc := hm.nmc
    have nmw := hm.nmw
    have n1 : ¬ (Str.ofString "got" = Str.ofString "sent") := by decide +kernel
    have n2 : ¬ (Str.ofString "told" = Str.ofString "sent") := by decide +kernel
    have n3 : ¬ (Str.ofString "got" = Str.ofString "told") := by decide +kernel
    have n4 : ¬ (Str.ofString "sent" = Str.ofString "told") := by decide +kernel
    have hmem := hg.mem
    obtain ⟨mm, hmm⟩ := Int.eq_ofNat_of_zero_le hmem.1
    obtain ⟨a, ha⟩ : ∃ a, μ.ga[mm]? = some a := ⟨_, List.getElem?_eq_getElem (by omega)⟩
    obtain ⟨xs, e1, e2⟩ := hm.ga mm a ha
    have hat : atI (μ.ga.map V.ref) (mm : Int) = some (.ref a) := atI_nat (by rw [List.getElem?_map, ha]; rfl)
    obtain ⟨b, hb⟩ : ∃ b, μ.ta[mm]? = some b := ⟨_, List.getElem?_eq_getElem (by omega)⟩
    obtain ⟨ys, f1, f2⟩ := hm.ta mm b hb
    have hbt : atI (μ.ta.map V.ref) (mm : Int) = some (.ref b) := atI_nat (by rw [List.getElem?_map, hb]; rfl)
    have hxl := e2.len
    have hyl := f2.len
    have hgl2 := hw.glen (m := mm) (by omega)
    have htl2 := hw.tlen (m := mm) (by omega)
    cases ρ with
    | sent m w =>
      have ht : H t = some (.tup [.str "sent", .int m, .str w]) := ht
      have hmm : m = (mm : Int) := hmm
      subst hmm
      walk_at "rdn"
      refine q_slTe (ys := [.int (mm : Nat), .str w]) (SqT.of ht) (show ¬ (HT.sIx 3 0 (some (-2)) = 0 ∧ HT.sIx 3 3 none = 3) by decide) rfl ?_
      intro d hd
      walk_at "rdn"
      have S1 : Same H (upd H d (.tup [.int (mm : Nat), .str w])) := Same.new hd
      have hm' := hm.same S1
      have e1' := S1 _ _ e1
      have e2' := PairAt.all e2 S1
      have ht' := S1 _ _ ht
      generalize upd H d (.tup [.int (mm : Nat), .str w]) = G at S1 hm' e1' e2' ht' ⊢
      have hmd' := hm'.md
      refine q_lockE (u := .dT (zk S.ks μ.cl)) hm'.c trivial ?_
      intro od
      have hmd2 : upd G μ.c (.frz od (.dT (zk S.ks μ.cl))) μ.md = some (.dK [(.inr "causes", .ref μ.c), (.inr "words", .ref μ.wd), (.inr "got", .ref μ.g), (.inr "told", .ref μ.tl)]) := (upd_ne nmc).trans hmd'
      with_reducible refine q_lc ?_
      refine q_keys ?_
      walk_at "rdn"
      refine ⟨μ.c, od, rfl, .inr ⟨zk S.ks μ.cl, upd_same, ?_⟩⟩
      intro D hD
      have hkl := zk_len hm.kl
      refine lc_any walk_keysT (fun i zs _ => zs.length = cntM (S.ks.take i) (mm : Nat)) (by omega) (fun _ _ _ _ h _ => h) (fun _ _ _ _ h => h) rfl (fun H' s => s _ _ upd_same) hD ?_ ?_ gName_m tTestIx_m
      · rintro i v zs B1 B2 R R2 hi s6 hP hDB ⟨rfl, kk, v2, q, hkv, rfl, hq⟩ hR hR2
        obtain ⟨c, hc, hci, rfl⟩ := zk_get2 hkv
        have hq : B2 q = some (.tup [.int c.1, .int c.2]) := hq
        refine ⟨wipe_set, ?_⟩
        walk_at "rdn"
        refine ⟨hR _ _ (Same.refl _) (fun hb => by rw [cnt_step hci, if_neg (of_decide_eq_false hb)]; exact hP), fun hb => ?_⟩
        walk_at "rdn"
        exact hR2 _ _ (Same.refl _) (by rw [cnt_step hci, if_pos (of_decide_eq_true hb), List.length_append, hP]; rfl)
      · intro zs B1 s6 hP hD3
        refine ⟨s6 _ _ upd_same, ?_⟩
        rw [List.take_of_length_le (by omega)] at hP
        have S2 : Same G (upd B1 μ.c (.dT (zk S.ks μ.cl))) := lock_same hm'.c s6
        have nDc : D ≠ μ.c := fun e => by rw [e, upd_same] at hD; cases hD
        have hD4 : upd B1 μ.c (.dT (zk S.ks μ.cl)) D = some (.lst zs) := (upd_ne nDc).trans hD3
        generalize upd B1 μ.c (.dT (zk S.ks μ.cl)) = G2 at S2 hD4 ⊢
        have hm2 := hm'.same S2
        have e1' := S2 _ _ e1'
        have e2' := PairAt.all e2' S2
        have ht' := S2 _ _ ht'
        have SS := S1.trans S2
        clear hD3 hD s6 hmd2 hmd'
        walk_at "rdn"
        intro i hi
        have hmd3 := hm2.md
        have hgg3 := hm2.g
        rw [hP]
        have S3 : Same G2 (upd G2 i (.tup [.int (mm : Nat), .int (1 + (cntM S.ks (mm : Nat) : Nat))])) := Same.new hi
        have ei : upd G2 i (.tup [.int (mm : Nat), .int (1 + (cntM S.ks (mm : Nat) : Nat))]) i = some (.tup [.int (mm : Nat), .int (1 + (cntM S.ks (mm : Nat) : Nat))]) := upd_same
        generalize upd G2 i (.tup [.int (mm : Nat), .int (1 + (cntM S.ks (mm : Nat) : Nat))]) = G3 at S3 ei ⊢
        have hm3 := hm2.same S3
        have hmd3 := hm3.md
        have hgg3 := hm3.g
        have e1' := S3 _ _ e1'
        have e2' := PairAt.all e2' S3
        have ht' := S3 _ _ ht'
        have SS := SS.trans S3
        clear hi hD4
        walk_at "rdn"
        intro L hL
        have S4 : Same G3 (upd G3 L (.lst xs)) := Same.new hL
        have eL : upd G3 L (.lst xs) L = some (.lst xs) := upd_same
        have nL : L ∉ μ.ls := fun hx => hm3.nq hL L hx (List.mem_singleton.mpr rfl)
        have nL0 : H L = none := SS.free hL
        generalize upd G3 L (.lst xs) = G4 at S4 eL ⊢
        have hm4 := hm3.same S4
        have hmd3 := hm4.md
        have hgg3 := hm4.g
        have e1' := S4 _ _ e1'
        have e2' := PairAt.all e2' S4
        have ht' := S4 _ _ ht'
        have ei := S4 _ _ ei
        have SS := SS.trans S4
        clear hL
        walk_at "rdn"
        refine q_setT hm4.c (k := keyOf (S.next (mm : Nat))) (PairAt.key ei) (by omega) ?_
        rw [zk_put hm.kl hw.next_new]
        obtain ⟨ws, hwd, hwl⟩ := hm4.wd
        have no : ∀ b o, b ≠ μ.c → G4 b = some o → upd G4 μ.c (.dT (zk (S.ks ++ [S.next (mm : Nat)]) (μ.cl ++ [L]))) b = some o := fun b o n e => (upd_ne n).trans e
        have ec : upd G4 μ.c (.dT (zk (S.ks ++ [S.next (mm : Nat)]) (μ.cl ++ [L]))) μ.c = some (.dT (zk (S.ks ++ [S.next (mm : Nat)]) (μ.cl ++ [L]))) := upd_same
        generalize upd G4 μ.c (.dT (zk (S.ks ++ [S.next (mm : Nat)]) (μ.cl ++ [L]))) = G5 at no ec ⊢
        have nic : i ≠ μ.c := fun w => by rw [w, hm4.c] at ei; cases ei
        have niw : i ≠ μ.wd := fun w => by rw [w, hwd] at ei; cases ei
        have ntc : t ≠ μ.c := fun w => by rw [w, hm4.c] at ht'; cases ht'
        have hmd5 := no _ _ nmc hmd3
        have ht5 := no _ _ ntc ht'
        walk_at "rdn"
        refine q_setT (no _ _ hm.cw.symm hwd) (k := keyOf (S.next (mm : Nat))) (PairAt.key (no _ _ nic ei)) (by omega) ?_
        have no2 : ∀ b o, b ≠ μ.c → b ≠ μ.wd → G4 b = some o → upd G5 μ.wd (.dT (putK ws (keyOf (S.next (mm : Nat))) (.str w))) b = some o := fun b o n1 n2 e => (upd_ne n2).trans (no b o n1 e)
        have ec2 : upd G5 μ.wd (.dT (putK ws (keyOf (S.next (mm : Nat))) (.str w))) μ.c = some (.dT (zk (S.ks ++ [S.next (mm : Nat)]) (μ.cl ++ [L]))) := (upd_ne hm.cw).trans ec
        have ew2 : upd G5 μ.wd (.dT (putK ws (keyOf (S.next (mm : Nat))) (.str w))) μ.wd = some (.dT (putK ws (keyOf (S.next (mm : Nat))) (.str w))) := upd_same
        generalize upd G5 μ.wd (.dT (putK ws (keyOf (S.next (mm : Nat))) (.str w))) = G6 at no2 ec2 ew2 ⊢
        have hpl := putK_len (kvs := ws) (k := keyOf (S.next (mm : Nat))) (v := .str w)
        have hm6 := hm4.sent no2 ec2 ew2 (by omega) eL e2' nL
        have hmd6 := hm6.md
        have hgg6 := hm6.g
        have nac : a ≠ μ.c := fun w => by rw [w, hm4.c] at e1'; cases e1'
        have naw : a ≠ μ.wd := fun w => by rw [w, hwd] at e1'; cases e1'
        have e6 := no2 _ _ nac naw e1'
        have ht6 := no2 _ _ ntc (fun w => by rw [w, hwd] at ht'; cases ht') ht'
        have ei6 := no2 _ _ nic niw ei
        clear no ec hmd5 ht5
        walk_at "rdn"
        refine k { μ with cl := μ.cl ++ [L] } _ (fun b' o n1 n2 n3 n4 e => (upd_ne (fun w => n3 (by rw [w]; exact List.mem_of_getElem? ha))).trans (no2 b' o n1 n2 (SS _ _ e))) (hm6.got (c := S.next (mm : Nat)) ha e6 ⟨i, rfl, ei6⟩) rfl rfl rfl rfl rfl (fun x hx => ?_)
        have e : (Mx.ls { μ with cl := μ.cl ++ [L] }) = μ.ls ++ [L] := by simp [Mx.ls]
        rw [e] at hx
        rcases List.mem_append.mp hx with hx | hx
        · exact .inl hx
        · exact .inr (by rw [List.mem_singleton.mp hx]; exact nL0)
    | got m s n =>
      have ht : H t = some (.tup [.str "got", .int m, .int s, .int n]) := ht
      have hmm : m = (mm : Int) := hmm
      subst hmm
      walk_at "rdn"
      refine q_slTe (ys := [.int s, .int n]) (SqT.of ht) (show ¬ (HT.sIx 4 0 (some (-2)) = 0 ∧ HT.sIx 4 4 none = 4) by decide) rfl ?_
      intro d hd
      walk_at "rdn"
      have S1 : Same H (upd H d (.tup [.int s, .int n])) := Same.new hd
      exact k μ _ (fun b o n1 n2 n3 n4 e => (upd_ne (fun w => n3 (by rw [w]; exact List.mem_of_getElem? ha))).trans (S1 _ _ e)) ((hm.same S1).got (c := (s, n)) ha (S1 _ _ e1) ⟨d, rfl, upd_same⟩) rfl rfl rfl rfl rfl (fun x hx => .inl hx)
    | told m p s n =>
      have ht : H t = some (.tup [.str "told", .int m, .int p, .int s, .int n]) := ht
      have hmm : m = (mm : Int) := hmm
      subst hmm
      walk_at "rdn"
      refine q_slTe (ys := [.int s, .int n]) (SqT.of ht) (show ¬ (HT.sIx 5 0 (some (-2)) = 0 ∧ HT.sIx 5 5 none = 5) by decide) rfl ?_
      intro d hd
      walk_at "rdn"
      have S1 : Same H (upd H d (.tup [.int s, .int n])) := Same.new hd
      exact k μ _ (fun b' o n1 n2 n3 n4 e => (upd_ne (fun w => n4 (by rw [w]; exact List.mem_of_getElem? hb))).trans (S1 _ _ e)) ((hm.same S1).told (c := (s, n)) hb (S1 _ _ f1) ⟨d, rfl, upd_same⟩) rfl rfl rfl rfl rfl (fun x hx => .inl hx)
theorem ok_law_may (T : Tx K mg) : FnOk P w K mg base CX0 4 T.f_law_may T.d_law_may ["model", "member"] (sp_law_may K) := by
  refine T.F_law_may.ok sc_law_may (fun vs H Q E h => ?_) (fun cdv A outer s H vs Q E hr h => ?_)
  · rcases h with ⟨μ, M, S, m, rfl, hm, hw, h5, hk, h1, k⟩
    all_goals rfl
  · have hu := hu_of hr
    refine ⟨_, (pss_cons (ps_set (i := 2) sc_law_may.nd rfl (Or.inl rfl) (pe_op op_add (pe_callB (id := "len") (kx_len (K := K) rfl) (by rfl) T.z_len (by decide +kernel) (pa_cons (pe_ix (ki_list (K := K) rfl) (pe_dget (room1 hr) (pv 0) pe_str (fun _ _ => rfl)) (pv 1) (fun _ _ => rfl)) (pa_nil))) pe_int))
      (pss_cons (ps_set (i := 3) sc_law_may.nd rfl (Or.inl rfl) (pe_lst pa_nil))
      (pss_cons (ps_lock (ps_for PassesOwn.never rfl (pi_keys (pe_dget (room1 hr) (pv 0) pe_str (fun _ _ => rfl))) (kg_tup (K := K) (n := 2) rfl rfl (pgs_cons (pg_name (i := 4) sc_law_may.nd rfl (Or.inl rfl)) (pgs_cons (pg_name (i := 5) sc_law_may.nd rfl (Or.inl rfl)) pgs_nil)))
      (pss_cons (ps_expr (pe_bm PySem.F.plainAttrs_list PySem.F.slot_list_append PySem.F.type_list_append mt_append (pv 3) (pa_cons (pe_tup (pa_cons pe_str (pa_cons (pv 1) (pa_cons (pv 4) (pa_cons (pv 5) (pa_nil)))))) (pa_nil))))
      (pss_one (ps_expr (pe_bm PySem.F.plainAttrs_list PySem.F.slot_list_append PySem.F.type_list_append mt_append (pv 3) (pa_cons (pe_tup (pa_cons pe_str (pa_cons (pv 1) (pa_cons (pv 2) (pa_cons (pv 4) (pa_cons (pv 5) (pa_nil))))))) (pa_nil))))))))
      (pss_one (ps_ret (pe_lc (own := [("row", 6)]) (g := gName 6) rfl sc_law_may.nd (kpi_list (K := K) rfl (pv 3)) (blkOk_by (own := [("row", 6)]) (N := ["model", "member", "place", "rows", "sender", "number", "row"]) (sc := defScope s_law_may) (by decide +kernel)) (fun _ _ _ _ _ => (pg_name (i := 6) sc_law_may.nd rfl (Or.inl rfl))) (fun _ _ _ _ _ => (pts_one (pt_cmpR op_isNon (pe_call (ok_law_why (P := P) T) (hr.mono (by decide)) rfl T.m_law_why T.k_law_why T.b_law_why .nil pass0 (pa_cons (pv 0) (pa_cons (pv 6) (pa_nil)))) pe_non (nomark _)))) (fun _ _ _ _ _ => (pv 6)))))))), ?_⟩
    rcases h with ⟨μ, M, S, m, rfl, hm, hw, h5, hk, h1, k⟩
    have hmd := hm.md
    have htl := hm.tl
    have htll := hm.tll
    have hcc := hm.c
    have nmc := hm.nmc
    have hkl := zk_len hm.kl
    obtain ⟨b, hb⟩ : ∃ b, μ.ta[m]? = some b := ⟨_, List.getElem?_eq_getElem (by omega)⟩
    obtain ⟨ys, f1, f2⟩ := hm.ta m b hb
    have hyl := f2.len
    have htl2 := hw.tlen (m := m) (by omega)
    have hbt : atI (μ.ta.map V.ref) (m : Int) = some (.ref b) := atI_nat (by rw [List.getElem?_map, hb]; rfl)
    walk_at "rdn"
    intro l hl
    have nml : μ.md ≠ l := ne_of_none hmd hl
    have ncl : μ.c ≠ l := ne_of_none hcc hl
    walk_at "rdn"
    refine q_lock (u := .dT (zk S.ks μ.cl)) ((upd_ne ncl).trans hcc) trivial ?_
    intro od
    have hmd2 : upd (upd H l (.lst [])) μ.c (.frz od (.dT (zk S.ks μ.cl))) μ.md = some (.dK [(.inr "causes", .ref μ.c), (.inr "words", .ref μ.wd), (.inr "got", .ref μ.g), (.inr "told", .ref μ.tl)]) := (upd_ne nmc).trans ((upd_ne nml).trans hmd)
    with_reducible refine q_for ?_
    refine q_keys ?_
    walk_at "rdn"
    refine ⟨μ.c, od, rfl, .inr ⟨zk S.ks μ.cl, upd_same, ?_⟩⟩
    refine for_it walk_keysT (fun i σ H' => (∃ u v w : Option V, σ = [some (.ref μ.md), some (.int (m : Nat)), some (.int ((ys.length : Nat) + 1)), some (.ref l), u, v, w]) ∧ H' μ.c = some (.frz od (.dT (zk S.ks μ.cl))) ∧ (∀ b o, b ≠ l → b ≠ μ.c → H b = some o → H' b = some o) ∧ ∃ xs rs, H' l = some (.lst xs) ∧ All2 (RowAt H') xs rs ∧ (∀ ρ ∈ rs, ρ.Good (M : Nat) ∧ ρ.isSent = false) ∧ xs.length = 2 * i) ⟨⟨none, none, none, rfl⟩, upd_same, fun b o n1 n2 e => (upd_ne n2).trans ((upd_ne n1).trans e), [], [], (upd_ne ncl.symm).trans upd_same, .nil, (fun ρ h => nomatch h), rfl⟩ (fun i σ H' _ h => h.2.1) ?_ ?_
    · rintro i x σ G1 G2 hi ⟨⟨u, v, w, rfl⟩, gc, gf, xs, rs, gl, gx, gg, gn⟩ ⟨rfl, kk, v2, q, hkv, rfl, hq⟩
      obtain ⟨c, hc, rfl⟩ := zk_get hkv
      have hq : G2 q = some (.tup [.int c.1, .int c.2]) := hq
      obtain ⟨c0, c1, c2, c3⟩ := hw.kc.2 c.1 c.2 hc
      have hxl : xs.length ≤ 1000 := by omega
      walk_at "rdn"
      intro t1 ht1
      have nlt : l ≠ t1 := ne_of_none gl ht1
      have nct : μ.c ≠ t1 := ne_of_none gc ht1
      have hq1 := ne_of_none hq ht1
      walk_at "rdn"
      have G1f : ∀ b o, b ≠ l → G2 b = some o → upd (upd G2 t1 (.tup [.str "got", .int (m : Nat), .int c.1, .int c.2])) l (.lst (xs ++ [.ref t1])) b = some o := fun b o n e => (upd_ne n).trans ((Same.new ht1) _ _ e)
      have G1l : upd (upd G2 t1 (.tup [.str "got", .int (m : Nat), .int c.1, .int c.2])) l (.lst (xs ++ [.ref t1])) l = some (.lst (xs ++ [.ref t1])) := upd_same
      have G1t : upd (upd G2 t1 (.tup [.str "got", .int (m : Nat), .int c.1, .int c.2])) l (.lst (xs ++ [.ref t1])) t1 = some (.tup [.str "got", .int (m : Nat), .int c.1, .int c.2]) := (upd_ne nlt.symm).trans upd_same
      generalize upd (upd G2 t1 (.tup [.str "got", .int (m : Nat), .int c.1, .int c.2])) l (.lst (xs ++ [.ref t1])) = G3 at G1f G1l G1t ⊢
      intro t2 ht2
      have nlt2 : l ≠ t2 := ne_of_none G1l ht2
      have ntt : t1 ≠ t2 := ne_of_none G1t ht2
      have hxl2 : (xs ++ [V.ref t1]).length ≤ 1001 := by rw [List.length_append]; simp; omega
      have gc2 := G1f _ _ ncl gc
      have nct2 : μ.c ≠ t2 := ne_of_none gc2 ht2
      walk_at "rdn"
      have go1 : (RowD.got (m : Nat) c.1 c.2).Good (M : Nat) := ⟨by omega, by omega, c0, c1, c2⟩
      have go2 : (RowD.told (m : Nat) ((ys.length : Nat) + 1) c.1 c.2).Good (M : Nat) := ⟨by omega, by omega, by omega, c0, c1, c2⟩
      have nlst : ∀ b o, b ≠ l → G2 b = some o → upd (upd G3 t2 (.tup [.str "told", .int (m : Nat), .int ((ys.length : Nat) + 1), .int c.1, .int c.2])) l (.lst (xs ++ [.ref t1] ++ [.ref t2])) b = some o := fun b o n e => (upd_ne n).trans ((Same.new ht2) _ _ (G1f _ _ n e))
      refine ⟨⟨_, _, _, rfl⟩, nlst _ _ ncl gc, fun b o n1 n2 e => nlst _ _ n1 (gf _ _ n1 n2 e), xs ++ [.ref t1] ++ [.ref t2], rs ++ [.got (m : Nat) c.1 c.2] ++ [.told (m : Nat) ((ys.length : Nat) + 1) c.1 c.2], upd_same, ?_, ?_, by rw [List.length_append, List.length_append, gn]; simp; omega⟩
      · refine ((gx.mono fun v ρ z => ?_).snoc (RowAt.of go1 ((upd_ne nlt.symm).trans ((Same.new ht2) _ _ G1t)))).snoc (RowAt.of go2 ((upd_ne nlt2.symm).trans upd_same))
        obtain ⟨ok, t, e1, e2⟩ := z
        exact ⟨ok, t, e1, nlst _ _ (fun w => by rw [w, gl] at e2; cases e2) e2⟩
      · intro ρ hρ
        rcases List.mem_append.mp hρ with hρ | hρ
        · rcases List.mem_append.mp hρ with hρ | hρ
          · exact gg ρ hρ
          · rw [List.mem_singleton.mp hρ]
            exact ⟨go1, rfl⟩
        · rw [List.mem_singleton.mp hρ]
          exact ⟨go2, rfl⟩
    · rintro σ G ⟨⟨u, v, w, rfl⟩, gc, gf, xs, rs, gl, gx, gg, gn⟩
      refine ⟨gc, ?_⟩
      have S1 : Same H (upd G μ.c (.dT (zk S.ks μ.cl))) := fun b o e => by
        by_cases hb : b = μ.c
        · subst hb
          rw [hcc] at e
          rw [upd_same]
          exact e
        · rw [upd_ne hb]
          exact gf b o (ne_of_none e hl) hb e
      have hm2 := hm.same S1
      have gl2 : upd G μ.c (.dT (zk S.ks μ.cl)) l = some (.lst xs) := (upd_ne ncl.symm).trans gl
      have gx2 : All2 (RowAt (upd G μ.c (.dT (zk S.ks μ.cl)))) xs rs := gx.mono fun v ρ z => by
        obtain ⟨ok, t, e1, e2⟩ := z
        exact ⟨ok, t, e1, (upd_ne (fun w => by rw [w, gc] at e2; cases e2)).trans e2⟩
      generalize upd G μ.c (.dT (zk S.ks μ.cl)) = G2 at S1 hm2 gl2 gx2 ⊢
      clear gc gf gl gx
      walk_at "rdn"
      intro D hD
      refine lc_any walk_list (fun i zs _ => ∃ os, All2 (RowAt G2) zs os ∧ (∀ ρ ∈ os, ρ.Good (M : Nat) ∧ ρ.isSent = false) ∧ zs.length ≤ i) (by omega) (fun _ _ _ _ h _ => h) (fun _ _ _ _ h => h) ⟨[], .nil, (fun ρ h => nomatch h), Nat.le_refl _⟩ (fun H' s => SqL.of (s _ _ gl2)) hD ?_ ?_ gName_m tWhy_m
      · rintro i v zs B1 B2 R R2 hi s6 ⟨os, p1, p2, p3⟩ hDB ⟨rfl, hv⟩ hR hR2
        obtain ⟨ρ, hρ, ok, t, rfl, ht⟩ := gx2.get hv
        obtain ⟨gd, gs⟩ := gg ρ (List.mem_of_getElem? hρ)
        refine ⟨wipe_set, ?_⟩
        walk_at "rdn"
        refine r_law_why rfl (hm := hm2.same s6) (hw := hw) (h5 := h5) (hk := hk) (ht := s6 _ _ ht) (hg := gd) ?_
        intro H2 s7
        refine ⟨rfl, _, rfl, hR _ _ s7 (fun _ => ⟨os, p1, p2, by omega⟩), fun _ => ?_⟩
        walk_at "rdn"
        exact hR2 _ _ s7 ⟨os ++ [ρ], p1.snoc ⟨ok, t, rfl, ht⟩, fun τ hτ => by
          rcases List.mem_append.mp hτ with hτ | hτ
          · exact p2 τ hτ
          · rw [List.mem_singleton.mp hτ]
            exact ⟨gd, gs⟩, by rw [List.length_append]; simp; omega⟩
      · rintro zs B1 s6 ⟨os, p1, p2, p3⟩ hD3
        walk_at "rdn"
        exact k D zs os B1 (S1.trans s6) (S1.free hD) hD3 (RowAt.all p1 s6) p2 (by omega)
theorem ok_law_new_row (T : Tx K mg) : FnOk P w K mg base CX0 5 T.f_law_new_row T.d_law_new_row ["model", "members", "wild", "pool"] (sp_law_new_row K) := by
  refine T.F_law_new_row.ok sc_law_new_row (fun vs H Q E h => ?_) (fun cdv A outer s H vs Q E hr h => ?_)
  · rcases h with ⟨μ, M, S, q, z, rfl, hm, hw, h2, h5, hk, hq, nq, k⟩
    all_goals rfl
  · have hu := hu_of hr
    refine ⟨_, (pss_cons (ps_set (i := 4) sc_law_new_row.nd rfl (Or.inl rfl) (pe_call (ok_law_take (P := P) T) (hr.mono (by decide)) rfl T.m_law_take T.k_law_take T.b_law_take .nil pass0 (pa_cons (pv 3) (pa_cons pe_int (pa_nil)))))
      (pss_cons (ps_set (i := 5) sc_law_new_row.nd rfl (Or.inl rfl) (pe_call (ok_law_take (P := P) T) (hr.mono (by decide)) rfl T.m_law_take T.k_law_take T.b_law_take .nil pass0 (pa_cons (pv 3) (pa_cons (pv 2) (pa_nil)))))
      (pss_cons (ps_set (i := 6) sc_law_new_row.nd rfl (Or.inl rfl) (pe_call (ok_law_take (P := P) T) (hr.mono (by decide)) rfl T.m_law_take T.k_law_take T.b_law_take .nil pass0 (pa_cons (pv 3) (pa_cons (pv 1) (pa_nil)))))
      (pss_cons (ps_set (i := 7) sc_law_new_row.nd rfl (Or.inl rfl) (pe_call (ok_law_take (P := P) T) (hr.mono (by decide)) rfl T.m_law_take T.k_law_take T.b_law_take .nil pass0 (pa_cons (pv 3) (pa_cons pe_int (pa_nil)))))
      (pss_cons (ps_set (i := 8) sc_law_new_row.nd rfl (Or.inl rfl) (pe_tup (pa_cons (pe_call (ok_law_take (P := P) T) (hr.mono (by decide)) rfl T.m_law_take T.k_law_take T.b_law_take .nil pass0 (pa_cons (pv 3) (pa_cons (pv 1) (pa_nil)))) (pa_cons (pe_op op_add pe_int (pe_call (ok_law_take (P := P) T) (hr.mono (by decide)) rfl T.m_law_take T.k_law_take T.b_law_take .nil pass0 (pa_cons (pv 3) (pa_cons pe_int (pa_nil))))) (pa_nil)))))
      (pss_cons (ps_if (PW.pt (pw_and (pt_cmpR op_eq (pv 5) pe_int (nomark _)) (pw_and1 (pt_cmpR op_lt (pv 4) pe_int (nomark _)))))
      (pss_one (ps_ret (pe_op (ko_catT (K := K) rfl) (pe_tup (pa_cons pe_str (pa_cons (pv 6) (pa_nil)))) (pv 8)))) pss_nil)
      (pss_cons (ps_if (pt_cmpR op_eq (pv 5) pe_int (nomark _))
      (pss_one (ps_ret (pe_op (ko_catT (K := K) rfl) (pe_tup (pa_cons pe_str (pa_cons (pv 6) (pa_cons (pe_op op_add pe_int (pe_call (ok_law_take (P := P) T) (hr.mono (by decide)) rfl T.m_law_take T.k_law_take T.b_law_take .nil pass0 (pa_cons (pv 3) (pa_cons (pe_op op_add (pe_callB (id := "len") (kx_len (K := K) rfl) (by rfl) T.z_len (by decide +kernel) (pa_cons (pe_ix (ki_list (K := K) rfl) (pe_dget (room1 hr) (pv 0) pe_str (fun _ _ => rfl)) (pv 6) (fun _ _ => rfl)) (pa_nil))) pe_int) (pa_nil))))) (pa_nil))))) (pv 8)))) pss_nil)
      (pss_cons (ps_set (i := 9) sc_law_new_row.nd rfl (Or.inl rfl) (pe_call (ok_law_may (P := P) T) (hr.mono (by decide)) rfl T.m_law_may T.k_law_may T.b_law_may .nil pass0 (pa_cons (pv 0) (pa_cons (pv 6) (pa_nil)))))
      (pss_cons (ps_if (PW.pt (pw_and (PW.pt (pw_or (pt_cmpR op_lt (pv 4) pe_int (nomark _)) (pw_or1 (pt_cmpR (ko_eqD (K := K) rfl hr.units) (pv 9) (pe_lst pa_nil) (nomark _))))) (pw_and1 (pt_cmpR op_lt (pe_callB (id := "len") call_len_dT (by rfl) T.z_len (by decide +kernel) (pa_cons (pe_dget (room1 hr) (pv 0) pe_str (fun _ _ => rfl)) (pa_nil))) pe_int (nomark _)))))
      (pss_one (ps_ret (pe_tup (pa_cons pe_str (pa_cons (pv 6) (pa_cons (pe_call (ok_law_word (P := P) T) (hr.mono (by decide)) rfl T.m_law_word T.k_law_word T.b_law_word .nil pass0 (pa_cons (pv 3) (pa_nil))) (pa_nil))))))) pss_nil)
      (pss_cons (ps_if (pt_cmpR (ko_eqD (K := K) rfl hr.units) (pv 9) (pe_lst pa_nil) (nomark _))
      (pss_one (ps_set (i := 9) sc_law_new_row.nd rfl (Or.inl rfl) (pe_lst (pa_cons (pe_tup (pa_cons pe_str (pa_cons pe_int (pa_cons pe_int (pa_cons pe_int (pa_nil)))))) (pa_nil))))) pss_nil)
      (pss_cons (ps_if (pt_cmpR op_gt (pv 4) pe_int (nomark _))
      (pss_one (ps_set (i := 9) sc_law_new_row.nd rfl (Or.inl rfl) (pe_op op_cat (pe_slice (ks_list (K := K) rfl) (pv 9) (po_some (pe_un un_neg pe_int)) po_none) (pe_lc (own := [("row", 10)]) (g := gName 10) rfl sc_law_new_row.nd (kpi_list (K := K) rfl (pv 9)) (blkOk_by (own := [("row", 10)]) (N := ["model", "members", "wild", "pool", "way", "odd", "member", "pick", "ident", "rows", "row"]) (sc := defScope s_law_new_row) (by decide +kernel)) (fun _ _ _ _ _ => (pg_name (i := 10) sc_law_new_row.nd rfl (Or.inl rfl))) (fun _ _ _ _ _ => (pts_one (pt_cmpR op_eq (pe_ix (ki_tup (K := K) rfl) (pv 10) pe_int (fun _ _ => rfl)) pe_str (nomark _)))) (fun _ _ _ _ _ => (pv 10)))))) pss_nil)
      (pss_one (ps_ret (pe_ix (ki_list (K := K) rfl) (pv 9) (pe_op op_mod (pv 7) (pe_callB (id := "len") (kx_len (K := K) rfl) (by rfl) T.z_len (by decide +kernel) (pa_cons (pv 9) (pa_nil)))) (fun _ _ => rfl))))))))))))))), ?_⟩
    rcases h with ⟨μ, M, S, q, z, rfl, hm, hw, h2, h5, hk, hq, nq, k⟩
    have hq0 := hq
    have f0 : Fr1 q H H := Fr1.refl
    have hkl := zk_len hm.kl
    have hL : ∀ b ∈ [q], ∃ xs, H b = some (.lst xs) := fun b hb => by rw [List.mem_singleton.mp hb]; exact ⟨_, hq0⟩
    refine q_seqC (fun σ' H' => ∃ wy : Int, 0 ≤ wy ∧ wy < 8 ∧ σ' = [some (.ref μ.md), some (.int (M : Nat)), some (.int 12), some (.ref q), some (.int wy), none, none, none, none, none, none] ∧ Fr1 q H H' ∧ ∃ z : Int, H' q = some (.lst [.int z])) (fun N k1 => ?_) ?_
    · walk_at "rdn"
      exact k1 _ _ ⟨_, by omega, by omega, rfl, fun b o nb e => (upd_ne nb).trans (f0 b o nb e), _, upd_same⟩
    rintro σ H1 ⟨wy, wy0, wy1, rfl, f1, z, hq⟩
    refine q_seqC (fun σ' H' => ∃ od : Int, 0 ≤ od ∧ od < 12 ∧ σ' = [some (.ref μ.md), some (.int (M : Nat)), some (.int 12), some (.ref q), some (.int wy), some (.int od), none, none, none, none, none] ∧ Fr1 q H H' ∧ ∃ z : Int, H' q = some (.lst [.int z])) (fun N k1 => ?_) ?_
    · walk_at "rdn"
      exact k1 _ _ ⟨_, by omega, by omega, rfl, fun b o nb e => (upd_ne nb).trans (f1 b o nb e), _, upd_same⟩
    rintro σ H2 ⟨od, od0, od1, rfl, f2, z, hq⟩
    refine q_seqC (fun σ' H' => ∃ me : Nat, me < M ∧ σ' = [some (.ref μ.md), some (.int (M : Nat)), some (.int 12), some (.ref q), some (.int wy), some (.int od), some (.int (me : Nat)), none, none, none, none] ∧ Fr1 q H H' ∧ ∃ z : Int, H' q = some (.lst [.int z])) (fun N k1 => ?_) ?_
    · walk_at "rdn"
      have em0 := Int.emod_nonneg z (show ((M : Nat) : Int) ≠ 0 by omega)
      have em1 := Int.emod_lt_of_pos z (show (0 : Int) < (M : Nat) by omega)
      obtain ⟨mz, hmz⟩ := Int.eq_ofNat_of_zero_le em0
      rw [hmz] at em1 ⊢
      exact k1 _ _ ⟨mz, by omega, rfl, fun b o nb e => (upd_ne nb).trans (f2 b o nb e), _, upd_same⟩
    rintro σ H3 ⟨me, me1, rfl, f3, z, hq⟩
    refine q_seqC (fun σ' H' => ∃ pk : Int, 0 ≤ pk ∧ pk < 60 ∧ σ' = [some (.ref μ.md), some (.int (M : Nat)), some (.int 12), some (.ref q), some (.int wy), some (.int od), some (.int (me : Nat)), some (.int pk), none, none, none] ∧ Fr1 q H H' ∧ ∃ z : Int, H' q = some (.lst [.int z])) (fun N k1 => ?_) ?_
    · walk_at "rdn"
      exact k1 _ _ ⟨_, by omega, by omega, rfl, fun b o nb e => (upd_ne nb).trans (f3 b o nb e), _, upd_same⟩
    rintro σ H4 ⟨pk, pk0, pk1, rfl, f4, z, hq⟩
    refine q_seqC (fun σ' H' => ∃ i ia ib, σ' = [some (.ref μ.md), some (.int (M : Nat)), some (.int 12), some (.ref q), some (.int wy), some (.int od), some (.int (me : Nat)), some (.int pk), some (.ref i), none, none] ∧ H' i = some (.tup [.int ia, .int ib]) ∧ 0 ≤ ia ∧ ia ≤ (M : Nat) - 1 ∧ 1 ≤ ib ∧ Fr1 q H H' ∧ ∃ z : Int, H' q = some (.lst [.int z])) (fun N k1 => ?_) ?_
    · walk_at "rdn"
      intro i hi
      walk_at "rdn"
      have nqi : q ≠ i := fun e => by rw [← e, upd_same] at hi; cases hi
      have em0 := Int.emod_nonneg z (show ((M : Nat) : Int) ≠ 0 by omega)
      have em1 := Int.emod_lt_of_pos z (show (0 : Int) < (M : Nat) by omega)
      exact k1 _ _ ⟨i, _, _, rfl, upd_same, em0, by omega, by omega, fun b o nb e => Same.new hi _ _ ((upd_ne nb).trans ((upd_ne nb).trans (f4 b o nb e))), _, (upd_ne nqi).trans upd_same⟩
    rintro σ H8 ⟨i, ia, ib, rfl, hi, ia0, ia1, ib1, f8, z, hq⟩
    have hm5 := hm.keep (fr1_keep f8) hL nq
    have hmd5 := hm5.md
    have htl5 := hm5.tl
    have htll := hm.tll
    obtain ⟨b, hb⟩ : ∃ b, μ.ta[me]? = some b := ⟨_, List.getElem?_eq_getElem (by omega)⟩
    obtain ⟨ys, g1, g2⟩ := hm5.ta me b hb
    have hyl := g2.len
    have htl2 := hw.tlen (m := me) (by omega)
    have hbt : atI (μ.ta.map V.ref) (me : Int) = some (.ref b) := atI_nat (by rw [List.getElem?_map, hb]; rfl)
    have niq : i ≠ q := fun e => by rw [e, hq] at hi; cases hi
    refine q_seqC (fun σ' H' => σ' = [some (.ref μ.md), some (.int (M : Nat)), some (.int 12), some (.ref q), some (.int wy), some (.int od), some (.int (me : Nat)), some (.int pk), some (.ref i), none, none] ∧ H' = H8) (fun N k1 => ?_) ?_
    · walk_at "rdn"
      refine q_ifx (fun hx => ?_) (fun hx => ?_)
      · walk_at "rdn"
        refine q_ifx (fun hx2 => ?_) (fun hx2 => ?_)
        · walk_at "rdn"
          intro t1 ht1
          have S1 : Same H8 (upd H8 t1 (.tup [.str "got", .int (me : Nat)])) := Same.new ht1
          have e1 : upd H8 t1 (.tup [.str "got", .int (me : Nat)]) t1 = some (.tup [.str "got", .int (me : Nat)]) := upd_same
          generalize upd H8 t1 (.tup [.str "got", .int (me : Nat)]) = G1 at S1 e1 ⊢
          have hi1 := S1 _ _ hi
          walk_at "rdn"
          refine q_catT (SqT.of e1) (SqT.of hi1) (by simp) (by simp) (by simp) ?_
          intro t2 ht2
          walk_at "rdn"
          exact k t2 (.got (me : Nat) ia ib) _ (fun b o nb e => Same.new ht2 _ _ (S1 _ _ (f8 b o nb e))) upd_same ⟨by omega, by omega, ia0, ia1, ib1⟩ (fun w => by cases w)
        · walk_at "rdn"
          exact k1 _ _ ⟨rfl, rfl⟩
      · walk_at "rdn"
        exact k1 _ _ ⟨rfl, rfl⟩
    rintro σ H8 ⟨rfl, rfl⟩
    refine q_seqC (fun σ' H' => σ' = [some (.ref μ.md), some (.int (M : Nat)), some (.int 12), some (.ref q), some (.int wy), some (.int od), some (.int (me : Nat)), some (.int pk), some (.ref i), none, none] ∧ H' = H8) (fun N k1 => ?_) ?_
    · walk_at "rdn"
      refine q_ifx (fun hx => ?_) (fun hx => ?_)
      · have em0 := Int.emod_nonneg z (show (((ys.length : Nat) : Int) + 2) ≠ 0 by omega)
        walk_at "rdn"
        intro t1 ht1
        generalize hpl : 1 + z % (((ys.length : Nat) : Int) + 2) = pl at ht1 ⊢
        have pl1 : 1 ≤ pl := by omega
        have fG : Fr1 q H (upd H8 q (.lst [.int (z / (((ys.length : Nat) : Int) + 2))])) := fun b o nb e => (upd_ne nb).trans (f8 b o nb e)
        have hiG := (upd_ne (H := H8) (o := .lst [.int (z / (((ys.length : Nat) : Int) + 2))]) niq).trans hi
        generalize upd H8 q (.lst [.int (z / (((ys.length : Nat) : Int) + 2))]) = G0 at ht1 fG hiG ⊢
        have S1 : Same G0 (upd G0 t1 (.tup [.str "told", .int (me : Nat), .int pl])) := Same.new ht1
        have e1 : upd G0 t1 (.tup [.str "told", .int (me : Nat), .int pl]) t1 = some (.tup [.str "told", .int (me : Nat), .int pl]) := upd_same
        generalize upd G0 t1 (.tup [.str "told", .int (me : Nat), .int pl]) = G1 at S1 e1 ⊢
        have hi1 := S1 _ _ hiG
        walk_at "rdn"
        refine q_catT (SqT.of e1) (SqT.of hi1) (by simp) (by simp) (by simp) ?_
        intro t2 ht2
        walk_at "rdn"
        exact k t2 (.told (me : Nat) pl ia ib) _ (fun b o nb e => Same.new ht2 _ _ (S1 _ _ (fG b o nb e))) upd_same ⟨by omega, by omega, pl1, ia0, ia1, ib1⟩ (fun w => by cases w)
      · walk_at "rdn"
        exact k1 _ _ ⟨rfl, rfl⟩
    rintro σ H8 ⟨rfl, rfl⟩
    have hm8 := hm.keep (fr1_keep f8) hL nq
    have hRet : ∀ (l : Addr) (xs : List V) (rs : List RowD) (G : Hp), Same H8 G → G l = some (.lst xs) → All2 (RowAt G) xs rs → (∀ ρ ∈ rs, ρ.Good (M : Nat) ∧ ρ.isSent = false) → xs ≠ [] → xs.length ≤ 1001 → ∃ (t : Addr), atI xs (pk % (xs.length : Nat)) = some (.ref t) ∧ Q (.ref t) G := fun l xs rs G s1 e1 e2 e3 e4 e5 => by
      have hpos : 0 < xs.length := List.length_pos_iff.mpr e4
      obtain ⟨v, hv, ρ, hρ, hP⟩ := at_all xs (fun v => ∃ ρ ∈ rs, RowAt G v ρ) (i := pk % (xs.length : Nat)) (fun v hv => by
        obtain ⟨ρ, h1, h2⟩ := e2.mem hv
        exact ⟨ρ, h1, h2⟩) (Int.emod_nonneg _ (by omega)) (Int.emod_lt_of_pos _ (by omega))
      obtain ⟨ok, t, rfl, ht⟩ := hP
      exact ⟨t, hv, k t ρ G (fun b o nb e => s1 _ _ (f8 b o nb e)) ht (e3 ρ hρ).1 (fun w => by rw [(e3 ρ hρ).2] at w; cases w)⟩
    refine q_seqC (fun σ' H' => ∃ l xs rs, σ' = [some (.ref μ.md), some (.int (M : Nat)), some (.int 12), some (.ref q), some (.int wy), some (.int od), some (.int (me : Nat)), some (.int pk), some (.ref i), some (.ref l), none] ∧ Same H8 H' ∧ H' l = some (.lst xs) ∧ All2 (RowAt H') xs rs ∧ (∀ ρ ∈ rs, ρ.Good (M : Nat) ∧ ρ.isSent = false) ∧ xs.length ≤ 1000) (fun N k1 => ?_) ?_
    · walk_at "rdn"
      intro l xs rs H6 s6 _ e1 e2 e3 e4
      walk_at "rdn"
      exact k1 _ _ ⟨l, xs, rs, rfl, s6, e1, e2, e3, e4⟩
    rintro σ H9 ⟨l, xs, rs, rfl, s6, e1, e2, e3, e4⟩
    have hm6 := hm8.same s6
    have hc6 := hm6.c
    have hq6 := s6 _ _ hq
    have hmd6 := hm6.md
    have hsent : ∀ (w : Str) (G : Hp), (∀ b o, b ≠ q → H9 b = some o → G b = some o) → w.length ≤ 8 → textB w 97 122 8 = true → (zk S.ks μ.cl).length < 14 → ∀ p, G p = none → Q (.ref p) (upd G p (.tup [.str "sent", .int (me : Nat), .str w])) := fun w G f w1 w2 w3 p hp =>
      k p (.sent (me : Nat) w) _ (fun b o nb e => Same.new hp _ _ (f b o nb (s6 _ _ (f8 b o nb e)))) upd_same ⟨by omega, by omega, w1, w2⟩ (fun _ => by omega)
    refine q_seqC (fun σ' H' => σ' = [some (.ref μ.md), some (.int (M : Nat)), some (.int 12), some (.ref q), some (.int wy), some (.int od), some (.int (me : Nat)), some (.int pk), some (.ref i), some (.ref l), none] ∧ Same H9 H') (fun N k1 => ?_) ?_
    · walk_at "rdn"
      refine q_ifx (fun h1 => ?_) (fun h1 => ?_)
      · walk_at "rdn"
        refine q_lenT2 hc6 ?_
        walk_at "rdn"
        refine q_ifx (fun h14 => ?_) (fun h14 => ?_)
        · walk_at "rdn"
          intro w z2 G f g l1 t1
          walk_at "rdn"
          intro p hp
          exact hsent w G f l1 t1 (by omega) p hp
        · walk_at "rdn"
          exact k1 _ _ ⟨rfl, Same.refl _⟩
      · walk_at "rdn"
        intro p0 hp0
        have S0 : Same H9 (upd H9 p0 (.lst [])) := Same.new hp0
        have ep : upd H9 p0 (.lst []) p0 = some (.lst []) := upd_same
        generalize upd H9 p0 (.lst []) = G0 at S0 ep ⊢
        have hmdG := S0 _ _ hmd6
        have hcG := S0 _ _ hc6
        have hqG := S0 _ _ hq6
        clear hp0
        refine q_eqRows (SqL.of (S0 _ _ e1)) (RowAt.all e2 S0) (SqL.of ep) .nil ?_
        walk_at "rdn"
        refine q_ifx (fun he => ?_) (fun he => ?_)
        · walk_at "rdn"
          refine q_lenT2 hcG ?_
          walk_at "rdn"
          refine q_ifx (fun h14 => ?_) (fun h14 => ?_)
          · walk_at "rdn"
            intro w z2 G f g l1 t1
            walk_at "rdn"
            intro p hp
            exact hsent w G (fun b o nb e => f b o nb (S0 _ _ e)) l1 t1 (by omega) p hp
          · walk_at "rdn"
            exact k1 _ _ ⟨rfl, S0⟩
        · walk_at "rdn"
          exact k1 _ _ ⟨rfl, S0⟩
    rintro σ H7 ⟨rfl, s7⟩
    have hm7 := hm6.same s7
    have e1 := s7 _ _ e1
    have e2 := RowAt.all e2 s7
    have s67 := s6.trans s7
    refine q_seqC (fun σ' H' => ∃ l xs rs, σ' = [some (.ref μ.md), some (.int (M : Nat)), some (.int 12), some (.ref q), some (.int wy), some (.int od), some (.int (me : Nat)), some (.int pk), some (.ref i), some (.ref l), none] ∧ Same H7 H' ∧ H' l = some (.lst xs) ∧ All2 (RowAt H') xs rs ∧ (∀ ρ ∈ rs, ρ.Good (M : Nat) ∧ ρ.isSent = false) ∧ xs.length ≤ 1000 ∧ xs ≠ []) (fun N k1 => ?_) ?_
    · walk_at "rdn"
      intro p0 hp0
      have S0 : Same H7 (upd H7 p0 (.lst [])) := Same.new hp0
      have ep : upd H7 p0 (.lst []) p0 = some (.lst []) := upd_same
      generalize upd H7 p0 (.lst []) = G0 at S0 ep ⊢
      clear hp0
      refine q_eqRows (SqL.of (S0 _ _ e1)) (RowAt.all e2 S0) (SqL.of ep) .nil ?_
      walk_at "rdn"
      refine q_ifx (fun he => ?_) (fun he => ?_)
      · walk_at "rdn"
        intro t1 ht1
        walk_at "rdn"
        intro l2 hl2
        have ntl : t1 ≠ l2 := by walk_at "ne"
        walk_at "rdn"
        have gd : (RowD.got 0 0 1).Good (M : Nat) := ⟨by omega, by omega, by omega, by omega, by omega⟩
        exact k1 _ _ ⟨l2, [.ref t1], [.got 0 0 1], rfl, S0.trans ((Same.new ht1).trans (Same.new hl2)), upd_same, .cons (RowAt.of gd ((upd_ne ntl).trans upd_same)) .nil, (fun ρ hρ => by rw [List.mem_singleton.mp hρ]; exact ⟨gd, rfl⟩), by simp, by simp⟩
      · walk_at "rdn"
        exact k1 _ _ ⟨l, xs, rs, rfl, S0, S0 _ _ e1, RowAt.all e2 S0, e3, e4, fun hx0 => he (by
          have := e2.len
          rw [hx0] at this
          exact List.eq_nil_of_length_eq_zero this.symm)⟩
    rintro σ HG ⟨l, xs, rs, rfl, s8, e1, e2, e3, e4, e5⟩
    have s68 := s67.trans s8
    refine q_seqC (fun σ' H' => ∃ l xs rs, (∃ u : Option V, σ' = [some (.ref μ.md), some (.int (M : Nat)), some (.int 12), some (.ref q), some (.int wy), some (.int od), some (.int (me : Nat)), some (.int pk), some (.ref i), some (.ref l), u]) ∧ Same HG H' ∧ H' l = some (.lst xs) ∧ All2 (RowAt H') xs rs ∧ (∀ ρ ∈ rs, ρ.Good (M : Nat) ∧ ρ.isSent = false) ∧ xs.length ≤ 1001 ∧ xs ≠ []) (fun N k1 => ?_) ?_
    · walk_at "rdn"
      refine q_ifx (fun h1 => ?_) (fun h1 => ?_)
      · walk_at "rdn"
        intro d hd
        rw [cut_last]
        have S0 : Same HG (upd HG d (.lst (xs.drop (xs.length - 1)))) := Same.new hd
        have ed : upd HG d (.lst (xs.drop (xs.length - 1))) d = some (.lst (xs.drop (xs.length - 1))) := upd_same
        generalize upd HG d (.lst (xs.drop (xs.length - 1))) = G0 at S0 ed ⊢
        have e1 := S0 _ _ e1
        have e2 := RowAt.all e2 S0
        clear hd
        walk_at "rdn"
        intro D hD
        refine lc_any walk_list (fun i zs _ => ∃ os, All2 (RowAt G0) zs os ∧ (∀ ρ ∈ os, ρ.Good (M : Nat) ∧ ρ.isSent = false) ∧ zs.length ≤ i) (by omega) (fun _ _ _ _ h _ => h) (fun _ _ _ _ h => h) ⟨[], .nil, (fun ρ h => nomatch h), Nat.le_refl _⟩ (fun H' s => SqL.of (s _ _ e1)) hD ?_ ?_ gName_m tTestIxC_m
        · rintro j v zs B1 B2 R R2 hj s6 ⟨os, p1, p2, p3⟩ hDB ⟨rfl, hv⟩ hR hR2
          obtain ⟨ρ, hρ, ok, t, rfl, ht⟩ := e2.get hv
          have gg := e3 ρ (List.mem_of_getElem? hρ)
          have ht2 := s6 _ _ ht
          refine ⟨wipe_set, ?_⟩
          walk_at "rdn"
          refine q_ixT (SqT.of ht2) RowD.at0 ?_
          walk_at "rdn"
          refine ⟨hR _ _ (Same.refl _) (fun hb => ⟨os, p1, p2, by omega⟩), fun hb => ?_⟩
          walk_at "rdn"
          exact hR2 _ _ (Same.refl _) ⟨os ++ [ρ], p1.snoc ⟨ok, t, rfl, ht⟩, fun τ hτ => by
            rcases List.mem_append.mp hτ with hτ | hτ
            · exact p2 τ hτ
            · rw [List.mem_singleton.mp hτ]
              exact gg, by rw [List.length_append]; simp; omega⟩
        · rintro zs B1 s6 ⟨os, p1, p2, p3⟩ hD3
          have ed2 := s6 _ _ ed
          have hpos : 0 < xs.length := List.length_pos_iff.mpr e5
          have ld : (xs.drop (xs.length - 1)).length = 1 := by rw [List.length_drop]; omega
          walk_at "rdn"
          intro m hm2
          walk_at "rdn"
          exact k1 _ _ ⟨m, xs.drop (xs.length - 1) ++ zs, rs.drop (xs.length - 1) ++ os, ⟨_, rfl⟩, S0.trans (s6.trans (Same.new hm2)), upd_same, (RowAt.all (e2.drop _) (s6.trans (Same.new hm2))).app (RowAt.all p1 (s6.trans (Same.new hm2))), fun ρ hρ => (List.mem_append.mp hρ).elim (fun h => e3 ρ (List.mem_of_mem_drop h)) (p2 ρ), by rw [List.length_append]; omega, fun hx0 => by
            have := congrArg List.length hx0
            rw [List.length_append, ld] at this
            simp at this⟩
      · walk_at "rdn"
        exact k1 _ _ ⟨l, xs, rs, ⟨_, rfl⟩, Same.refl _, e1, e2, e3, by omega, e5⟩
    rintro σ HH ⟨l, xs, rs, ⟨u, rfl⟩, s9, e1, e2, e3, e4, e5⟩
    obtain ⟨t, hat, hQ⟩ := hRet l xs rs HH (s68.trans s9) e1 e2 e3 e5 e4
    have hpos : 0 < xs.length := List.length_pos_iff.mpr e5
    walk_at "rdn"
    exact hQ
theorem ok_law_rows (T : Tx K mg) : FnOk P w K mg base CX0 6 T.f_law_rows T.d_law_rows ["script", "start", "wild"] (sp_law_rows K) := by
  refine T.F_law_rows.ok sc_law_rows (fun vs H Q E h => ?_) (fun cdv A outer s H vs Q E hr h => ?_)
  · rcases h with ⟨a, ns, rfl, hs, hl, k⟩
    all_goals rfl
  · have hu := hu_of hr
    refine ⟨_, (pss_cons (ps_set (i := 3) sc_law_rows.nd rfl (Or.inl rfl) (pe_op op_add pe_int (pe_op op_mod (pe_call (ok_law_cell_at (P := P) T) (hr.mono (by decide)) rfl T.m_law_cell_at T.k_law_cell_at T.b_law_cell_at .nil pass0 (pa_cons (pv 0) (pa_cons pe_int (pa_nil)))) pe_int)))
      (pss_cons (ps_set (i := 4) sc_law_rows.nd rfl (Or.inl rfl) (pe_call (ok_law_model (P := P) T) (hr.mono (by decide)) rfl T.m_law_model T.k_law_model T.b_law_model .nil pass0 (pa_cons (pv 3) (pa_nil))))
      (pss_cons (ps_set (i := 5) sc_law_rows.nd rfl (Or.inl rfl) (pe_lst pa_nil))
      (pss_cons (ps_for PassesOwn.never rfl (kpi_list (K := K) rfl (pe_slice (ks_list (K := K) rfl) (pv 0) (po_some (pv 1)) (po_some pe_int))) (pg_name (i := 6) sc_law_rows.nd rfl (Or.inl rfl))
      (pss_cons (ps_set (i := 7) sc_law_rows.nd rfl (Or.inl rfl) (pe_call (ok_law_new_row (P := P) T) (hr.mono (by decide)) rfl T.m_law_new_row T.k_law_new_row T.b_law_new_row .nil pass0 (pa_cons (pv 4) (pa_cons (pv 3) (pa_cons (pv 2) (pa_cons (pe_call (ok_law_pool (P := P) T) (hr.mono (by decide)) rfl T.m_law_pool T.k_law_pool T.b_law_pool .nil pass0 (pa_cons (pv 6) (pa_nil))) (pa_nil)))))))
      (pss_cons (ps_set (i := 8) sc_law_rows.nd rfl (Or.inl rfl) (pe_cmpR op_isNon (pe_call (ok_law_why (P := P) T) (hr.mono (by decide)) rfl T.m_law_why T.k_law_why T.b_law_why .nil pass0 (pa_cons (pv 4) (pa_cons (pv 7) (pa_nil)))) pe_non (nomark _)))
      (pss_cons (ps_if (pt_val (pv 8))
      (pss_one (ps_expr (pe_call (ok_law_go (P := P) T) (hr.mono (by decide)) rfl T.m_law_go T.k_law_go T.b_law_go .nil pass0 (pa_cons (pv 4) (pa_cons (pv 7) (pa_nil)))))) pss_nil)
      (pss_one (ps_if (PW.pt (pw_or (pt_val (pv 8)) (pw_or1 (pt_cmpR op_gt (pv 2) pe_int (nomark _)))))
      (pss_one (ps_expr (pe_bm PySem.F.plainAttrs_list PySem.F.slot_list_append PySem.F.type_list_append mt_append (pv 5) (pa_cons (pv 7) (pa_nil))))) pss_nil))))))
      (pss_one (ps_ret (pe_tup (pa_cons (pv 3) (pa_cons (pv 5) (pa_nil)))))))))), ?_⟩
    rcases h with ⟨a, ns, rfl, hs, hl, k⟩
    walk_at "rdn"
    intro c
    obtain ⟨M, hM⟩ : ∃ M : Nat, ((M : Nat) : Int) = 2 + c % 4 := ⟨(2 + c % 4).toNat, by omega⟩
    have h2 : 2 ≤ M := by omega
    have h5 : M ≤ 5 := by omega
    walk_at "rdn"
    rw [← hM]
    clear hM
    walk_at "rdn"
    intro μ H1 s1 hm fc fw fg ft
    have hs1 := s1.seq hs
    walk_at "rdn"
    intro R hR
    have hs2 : SqL K (upd H1 R (.lst [])) a (ns.map V.int) := (Same.new hR).seq hs1
    walk_at "rdn"
    intro d hd
    have hlen := cutV_length (List.map V.int ns) (some 1) (some 63)
    rw [List.length_map] at hlen
    have hall : ∀ x ∈ cutV (List.map V.int ns) (some 1) (some 63), ∃ n : Int, x = .int n := fun x hx => by
      obtain ⟨n, _, rfl⟩ := List.mem_map.mp (cutV_mem hx)
      exact ⟨n, rfl⟩
    generalize cutV (List.map V.int ns) (some 1) (some 63) = cx at hlen hall ⊢
    have nRd : R ≠ d := by walk_at "ne"
    have S2 : Same H1 (upd (upd H1 R (.lst [])) d (.lst cx)) := (Same.new hR).trans (Same.new hd)
    have eR : upd (upd H1 R (.lst [])) d (.lst cx) R = some (.lst []) := (upd_ne nRd).trans upd_same
    have ed : upd (upd H1 R (.lst [])) d (.lst cx) d = some (.lst cx) := upd_same
    have nR : R ∉ μ.ls := fun hx => hm.nq hR R hx (List.mem_singleton.mpr rfl)
    have ndd : d ∉ μ.ls := fun hx => hm.nq (upd_free hd) d hx (List.mem_singleton.mpr rfl)
    have inv : RowsJ M H (upd (upd H1 R (.lst [])) d (.lst cx)) μ.md R d cx μ (HS.zero (M : Nat)) [] [] := { hm := hm.same S2, hw := WF.zero (by omega), md := rfl, sm := s1.trans S2, hR := eR, hx := .nil, hg := (fun ρ h => nomatch h), hs := rfl, hk := Nat.zero_le _, nR := nR, nd := ndd, hd := ed, fc := fc, fw := fw, fg := fg, ft := ft, fR := s1.free hR }
    walk_at "rdn"
    generalize upd (upd H1 R (.lst [])) d (.lst cx) = G0 at inv ⊢
    clear hd hR S2 eR ed nR ndd hm hs1 hs2 fc fw fg ft
    refine for_list (K := K) (a := d) (xs := cx) (fun i σ H' => (∃ u v w : Option V, σ = [some (.ref a), some (.int 1), some (.int 12), some (.int (M : Nat)), some (.ref μ.md), some (.ref R), u, v, w]) ∧ ∃ μ' S xs rs, RowsJ M H H' μ.md R d cx μ' S xs rs ∧ rs.length = i) ⟨⟨none, none, none, rfl⟩, μ, _, [], [], inv, rfl⟩ (fun i σ H' _ h => by
      obtain ⟨_, μ', S, xs, rs, h, _⟩ := h
      exact SqL.of h.hd) ?_ ?_
    · rintro i cell σ H2 hx ⟨⟨u, v, w, rfl⟩, μ', S, xs, rs, iv, hli⟩
      obtain ⟨n, rfl⟩ := hall cell (List.mem_of_getElem? hx)
      have hix := (List.getElem?_eq_some_iff.mp hx).1
      have hk14 := iv.hk
      have hk30 : S.ks.length ≤ 30 := by omega
      rw [← iv.md]
      walk_at "rdn"
      intro q z hq hz
      have iv1 := iv.fr (H' := upd H2 q (.lst [.int z])) (q := q) (fun b o nb e => (upd_ne nb).trans e) hq
      have nq := iv.hm.nq hq
      have fq3 : Fr1 q H2 (upd H2 q (.lst [.int z])) := fun b o nb e => (upd_ne nb).trans e
      have eq1 : upd H2 q (.lst [.int z]) q = some (.lst [.int z]) := upd_same
      generalize upd H2 q (.lst [.int z]) = H3 at iv1 eq1 fq3 ⊢
      walk_at "rdn"
      refine r_law_new_row rfl (hm := iv1.hm) (hw := iv.hw) (h2 := h2) (h5 := h5) (hk := hk30) (hq := eq1) (nq := nq) ?_
      intro t ρ H4 f4 ht gd hs14
      have iv2 := iv.fr (H' := H4) (q := q) (fun b o nb e => f4 b o nb (fq3 b o nb e)) hq
      have hxl := iv.hx.len
      walk_at "rdn"
      refine r_law_why rfl (hm := iv2.hm) (hw := iv.hw) (h5 := h5) (hk := hk30) (ht := ht) (hg := gd) ?_
      intro H5 s5
      have iv3 := iv2.same s5
      have ht5 := s5 _ _ ht
      have hsn := nSent_one (ρ := ρ)
      cases hy : S.why ρ with
      | none =>
        rw [show optS none = V.non from rfl]
        walk_at "rdn"
        refine r_law_go rfl (hm := iv3.hm) (hw := iv.hw) (h5 := h5) (hk := hk30) (ht := ht5) (hg := gd) ?_
        intro μ2 H6 f6 m6 e1 e2 e3 e4 e5 e7
        have hR6 := iv3.goR f6
        walk_at "rdn"
        have hk9 : (S.go ρ).ks.length ≤ 14 := by
          rw [go_ks, hsn]
          by_cases hsn2 : ρ.isSent = true
          · have := hs14 hsn2
            rw [if_pos hsn2]; omega
          · rw [if_neg hsn2]; omega
        exact ⟨⟨_, _, _, rfl⟩, μ2, S.go ρ, xs ++ [.ref t], rs ++ [ρ], (by rw [iv.md]; exact iv3.put gd ht5 nRd f6 m6 (iv.hw.step gd hy) e1 e2 e3 e4 e5 go_ks hk9 e7), (by rw [List.length_append, hli]; rfl)⟩
      | some wd =>
        rw [show optS (some wd) = V.str wd from rfl]
        have hR5 := iv3.hR
        have hns : ρ.isSent = false := why_ns hy
        have hn0 : nSent [ρ] = 0 := by rw [hsn, hns]; rfl
        walk_at "rdn"
        exact ⟨⟨_, _, _, rfl⟩, μ', S, xs ++ [.ref t], rs ++ [ρ], by rw [iv.md]; exact iv3.put gd ht5 nRd (fun _ _ _ _ _ _ e => e) iv3.hm iv.hw rfl rfl rfl rfl rfl (by rw [hn0, Nat.add_zero]) hk14 (fun x hx => .inl hx), by rw [List.length_append, hli]; rfl⟩
    · rintro σ H2 ⟨⟨u, v, w, rfl⟩, μ', S, xs, rs, iv, hli⟩
      walk_at "rdn"
      intro t ht
      exact k M t R xs rs _ (iv.sm.trans (Same.new ht)) upd_same (Same.new ht _ _ iv.hR) (RowAt.all iv.hx (Same.new ht)) h2 h5 iv.hg (by omega) (by rw [iv.hs]; exact iv.hk)
theorem ok_Book_twin (T : Tx K mg) : FnOk P w K mg base CX0 8 T.f_Book_twin T.d_Book_twin ["self"] (sp_Book_twin K T.C_Counts T.C_Letter T.C_Book) := by
  refine T.F_Book_twin.ok sc_Book_twin (fun vs H Q E h => ?_) (fun cdv A outer s H vs Q E hr h => ?_)
  · rcases h with ⟨M, p, β, ks, cg, rfl, hb, hM, hM5, hk, hl, k⟩
    all_goals rfl
  · have hu := hu_of hr
    refine ⟨_, (pss_cons (ps_set (i := 1) sc_Book_twin.nd rfl (Or.inl rfl) (pe_make T.mk_Book (ok_Book_init (P := P) T) (hr.mono (by decide)) rfl T.g_Book T.b_Book_init .nil pass0 (pa_cons (kp_fld (K := K) rfl (pv 0) rfl) (pa_nil))))
      (pss_cons (kps_fld (K := K) rfl (ps_fld (pv 1) (pe_lock (pe_dcT (own := [("ident", 2), ("letter", 3)]) (g := (gTup K 2 ((gCons (gName 2) (gCons (gName 3) gNil))))) (tt := tYes) rfl sc_Book_twin.nd hr.units (pi_itemsT (kp_fld (K := K) rfl (pv 0) rfl)) (blkOk_by (own := [("ident", 2), ("letter", 3)]) (N := ["self", "twin", "ident", "letter", "waits"]) (sc := defScope s_Book_twin) (by decide +kernel)) (fun _ _ _ _ _ => (kg_tup (K := K) (n := 2) rfl rfl (pgs_cons (pg_name (i := 2) sc_Book_twin.nd rfl (Or.inl rfl)) (pgs_cons (pg_name (i := 3) sc_Book_twin.nd rfl (Or.inl rfl)) pgs_nil)))) (fun _ _ _ _ _ => pts_nil) (fun _ _ _ _ _ => (pv 2)) (fun _ _ _ _ _ => (pv 3)))) rfl))
      (pss_cons (kps_fld (K := K) rfl (ps_fld (pv 1) (kp_fld (K := K) rfl (pv 0) rfl) rfl))
      (pss_cons (kps_fld (K := K) rfl (ps_fld (pv 1) (pe_lc (own := [("waits", 4)]) (g := gName 4) (tt := tYes) rfl sc_Book_twin.nd (kpi_list (K := K) rfl (kp_fld (K := K) rfl (pv 0) rfl)) (blkOk_by (own := [("waits", 4)]) (N := ["self", "twin", "ident", "letter", "waits"]) (sc := defScope s_Book_twin) (by decide +kernel)) (fun _ _ _ _ _ => (pg_name (i := 4) sc_Book_twin.nd rfl (Or.inl rfl))) (fun _ _ _ _ _ => pts_nil) (fun _ _ _ _ _ => (pe_callTy (T := "list") (kx_list (K := K) rfl) (by rfl) T.z_list (by decide +kernel) (pa_cons (pv 4) (pa_nil))))) rfl))
      (pss_one (ps_ret (pv 1))))))), ?_⟩
    rcases h with ⟨M, p, β, ks, cg, rfl, hb, hM, hM5, hk, hl, k⟩
    obtain ⟨db, hp⟩ := hb.o
    walk_at "rdn"
    intro x dx hx hdx ne
    walk_at "rdn"
    intro β2 H1 f1 bk1 fd fw fwl
    have S1 : Same H H1 := fun b o e => f1 b o (by walk_at "ne") (by walk_at "lk")
    have hb1 := hb.same S1
    have hx0 : H x = none := hx
    have fl0 : ∀ z ∈ β2.wl, H z = none := fun z hz => by
      have := fwl z hz
      walk_at "fr"
    obtain ⟨db1, hp1⟩ := hb1.o
    obtain ⟨dx1, hx1⟩ := bk1.o
    clear f1 fw fd fwl hx hdx ne
    have hd1 := hb1.d
    have hkl := hb1.kl
    have nxd : x ≠ β.d := fun e => by rw [e, hd1] at hx1; cases hx1
    walk_at "rdn"
    refine q_lockE (u := .dT (zk ks β.ls)) hd1 trivial ?_
    intro od
    have npd : p ≠ β.d := fun e => by rw [e, hd1] at hp1; cases hp1
    have hp2 : upd H1 β.d (.frz od (.dT (zk ks β.ls))) p = some (.ins T.C_Book db1 [("_members", .int (M : Nat)), ("_letters", .ref β.d), ("_counts", .ref β.c), ("_waits", .ref β.w)]) := (upd_ne npd).trans hp1
    refine q_dcT ?_
    refine q_itT ?_
    walk_at "rdn"
    refine ⟨β.d, od, zk ks β.ls, rfl, upd_same, ?_⟩
    intro D hD
    have hzl : (zk ks β.ls).length ≤ 1000 := by rw [zk_len hkl]; omega
    refine dcT_copy hzl (zk_nodup hkl hk.1) upd_same hD (by decide) (show 2 < 5 by decide) (show 3 < 5 by decide) (fun _ _ => rfl) ?_
    intro H2 s2 e2
    refine ⟨s2 _ _ upd_same, ?_⟩
    have S2 : Same H1 (upd H2 β.d (.dT (zk ks β.ls))) := lock_same hd1 s2
    have nDd : D ≠ β.d := fun w => by rw [w, upd_same] at hD; cases hD
    have e3 : upd H2 β.d (.dT (zk ks β.ls)) D = some (.dT (zk ks β.ls)) := (upd_ne nDd).trans e2
    have hD0 : H D = none := S1.free (by rw [← hD]; exact (upd_ne nDd).symm)
    generalize upd H2 β.d (.dT (zk ks β.ls)) = H3 at S2 e3 ⊢
    clear hD s2 e2 hp2
    have hb3 := hb1.same S2
    obtain ⟨db3, hp3⟩ := hb3.o
    have hx3 := S2 _ _ hx1
    have hbc := hb3.c
    have hbw := hb3.w
    walk_at "rdn"
    rw [putF_ne (by decide +kernel), putF_hit]
    have f4 : Fr1 x H3 (upd H3 x (.ins T.C_Book dx1 [("_members", .int (M : Nat)), ("_letters", .ref D), ("_counts", .ref β2.c), ("_waits", .ref β2.w)])) := fun b o nb e => (upd_ne nb).trans e
    have e4 : upd H3 x (.ins T.C_Book dx1 [("_members", .int (M : Nat)), ("_letters", .ref D), ("_counts", .ref β2.c), ("_waits", .ref β2.w)]) x = some (.ins T.C_Book dx1 [("_members", .int (M : Nat)), ("_letters", .ref D), ("_counts", .ref β2.c), ("_waits", .ref β2.w)]) := upd_same
    generalize upd H3 x (.ins T.C_Book dx1 [("_members", .int (M : Nat)), ("_letters", .ref D), ("_counts", .ref β2.c), ("_waits", .ref β2.w)]) = H4 at f4 e4 ⊢
    walk_at "rdn"
    rw [putF_ne (by decide +kernel), putF_ne (by decide +kernel), putF_hit]
    have f5 : Fr1 x H3 (upd H4 x (.ins T.C_Book dx1 [("_members", .int (M : Nat)), ("_letters", .ref D), ("_counts", .ref β.c), ("_waits", .ref β2.w)])) := fun b o nb e => (upd_ne nb).trans (f4 _ _ nb e)
    have e5 : upd H4 x (.ins T.C_Book dx1 [("_members", .int (M : Nat)), ("_letters", .ref D), ("_counts", .ref β.c), ("_waits", .ref β2.w)]) x = some (.ins T.C_Book dx1 [("_members", .int (M : Nat)), ("_letters", .ref D), ("_counts", .ref β.c), ("_waits", .ref β2.w)]) := upd_same
    generalize upd H4 x (.ins T.C_Book dx1 [("_members", .int (M : Nat)), ("_letters", .ref D), ("_counts", .ref β.c), ("_waits", .ref β2.w)]) = H5 at f5 e5 ⊢
    clear f4 e4
    have S5 : ∀ b o, H b = some o → H5 b = some o := fun b o e => f5 _ _ (ne_of_none e hx0) (S2 _ _ (S1 _ _ e))
    have hp5 := S5 _ _ hp
    have hw5 := S5 _ _ hb.w
    have nDx : D ≠ x := fun w => by rw [w, hx3] at e3; cases e3
    have e35 := f5 _ _ nDx e3
    walk_at "rdn"
    intro D2 hD2
    have nD2x : D2 ≠ x := fun w => by rw [w, e5] at hD2; cases hD2
    refine lc_any walk_list (fun i ys H' => FewD D2 H5 ks.length i ys H') (by rw [List.length_map, hb.wl]; omega) (fun _ _ _ _ h s => h.same s) (fun _ _ _ _ h => h.put) (FewD.zero) (fun H' s => SqL.of (s _ _ hw5)) hD2 ?_ ?_ gName_m tYes_m
    · rintro i v ys B1 B2 R R2 hi s6 hP hDB ⟨rfl, hv⟩ hR hR2
      rw [List.getElem?_map] at hv
      obtain ⟨wa, hwa, rfl⟩ := Option.map_eq_some_iff.mp hv
      obtain ⟨us, hus, hul⟩ := hb.we wa (List.mem_of_getElem? hwa)
      have hus := s6 _ _ (S5 _ _ hus)
      refine ⟨wipe_set, q_yes ⟨hR true _ (Same.refl _) (fun h => nomatch h), fun _ => ?_⟩⟩
      walk_at "rdn"
      intro z hz
      exact hR2 _ _ (Same.new hz) (hP.snoc (Same.new hz) (s6.free hz) hz upd_same hul (ne_of_none hDB hz).symm)
    · intro ys H6 s6 hP hD3
      have e6 := s6 _ _ e5
      walk_at "rdn"
      rw [putF_ne (by decide +kernel), putF_ne (by decide +kernel), putF_ne (by decide +kernel), putF_hit]
      obtain ⟨as, rfl, la, na, pa⟩ := hP
      have SH : Same H (upd H6 x (.ins T.C_Book dx1 [("_members", .int (M : Nat)), ("_letters", .ref D), ("_counts", .ref β.c), ("_waits", .ref D2)])) := fun b o e => (upd_ne (ne_of_none e hx0)).trans (s6 _ _ (S5 _ _ e))
      refine k x ⟨D, β.c, D2, as, β.ls⟩ _ SH { o := ⟨dx1, upd_same⟩, d := (upd_ne nDx).trans (s6 _ _ e35), kl := hb.kl, gl := hb.gl, lt := fun i a c G q1 q2 q3 => (hb.lt i a c G q1 q2 q3).same SH, c := hb.c.same SH, w := (upd_ne nD2x).trans hD3, wl := by rw [la, List.length_map, hb.wl], we := fun a ha => ?_, nd := List.nodup_cons.mpr ⟨fun hm => (pa D2 hm).2.2 rfl, na⟩ }
      obtain ⟨⟨us, q1, q2⟩, q3, q4⟩ := pa a ha
      exact ⟨us, (upd_ne (fun w => by rw [w, e5] at q3; cases q3)).trans q1, q2⟩
theorem ok_Course_book (T : Tx K mg) : FnOk P w K mg base CX0 9 T.f_Course_book T.d_Course_book ["self"] (sp_Course_book K T.C_Counts T.C_Letter T.C_Book T.C_Course) := by
  refine T.F_Course_book.ok sc_Course_book (fun vs H Q E h => ?_) (fun cdv A outer s H vs Q E hr h => ?_)
  · rcases h with ⟨M, p, γ, S, rfl, hc, hw, hM, hM5, hl, k⟩
    all_goals rfl
  · have hu := hu_of hr
    refine ⟨_, (pss_one (ps_ret (pe_meth0 (kp_fld (K := K) rfl (pv 0) rfl) T.c_Book T.mt_Book_twin (ok_Book_twin (P := P) T) (hr.mono (by decide)) T.b_Book_twin .nil pass0))), ?_⟩
    rcases h with ⟨M, p, γ, S, rfl, hc, hw, hM, hM5, hl, k⟩
    obtain ⟨dc, hp⟩ := hc.o
    have hb := hc.b
    obtain ⟨db, hpb⟩ := hb.o
    have hk := hw.kc
    walk_at "rdn"
    intro q β' H' s hb'
    exact k q β' H' s hb'
theorem ok_Course_got (T : Tx K mg) : FnOk P w K mg base CX0 1 T.f_Course_got T.d_Course_got ["self", "member"] (sp_Course_got K T.C_Counts T.C_Letter T.C_Book T.C_Course) := by
  refine T.F_Course_got.ok sc_Course_got (fun vs H Q E h => ?_) (fun cdv A outer s H vs Q E hr h => ?_)
  · rcases h with ⟨M, p, γ, S, m, rfl, hc, hm, k⟩
    all_goals rfl
  · have hu := hu_of hr
    refine ⟨_, (pss_one (ps_ret (pe_callTy (T := "list") (kx_list (K := K) rfl) (by rfl) T.z_list (by decide +kernel) (pa_cons (pe_ix (ki_list (K := K) rfl) (kp_fld (K := K) rfl (pv 0) rfl) (pv 1) (fun _ _ => rfl)) (pa_nil))))), ?_⟩
    rcases h with ⟨M, p, γ, S, m, rfl, hc, hm, k⟩
    obtain ⟨dc, hp⟩ := hc.o
    obtain ⟨a, ha⟩ : ∃ a, γ.ga[m]? = some a := ⟨_, List.getElem?_eq_getElem (by have := hc.gl; omega)⟩
    obtain ⟨xs, e1, e2⟩ := hc.ga m a ha
    have hgg := hc.g
    have hat : atI (γ.ga.map V.ref) (m : Int) = some (.ref a) := atI_nat (by rw [List.getElem?_map, ha]; rfl)
    walk_at "rdn"
    intro l hl
    exact k l xs _ (Same.new hl) hl upd_same (PairAt.all e2 (Same.new hl))
theorem ok_Course_told (T : Tx K mg) : FnOk P w K mg base CX0 1 T.f_Course_told T.d_Course_told ["self", "member"] (sp_Course_told K T.C_Counts T.C_Letter T.C_Book T.C_Course) := by
  refine T.F_Course_told.ok sc_Course_told (fun vs H Q E h => ?_) (fun cdv A outer s H vs Q E hr h => ?_)
  · rcases h with ⟨M, p, γ, S, m, rfl, hc, hm, k⟩
    all_goals rfl
  · have hu := hu_of hr
    refine ⟨_, (pss_one (ps_ret (pe_callTy (T := "list") (kx_list (K := K) rfl) (by rfl) T.z_list (by decide +kernel) (pa_cons (pe_ix (ki_list (K := K) rfl) (kp_fld (K := K) rfl (pv 0) rfl) (pv 1) (fun _ _ => rfl)) (pa_nil))))), ?_⟩
    rcases h with ⟨M, p, γ, S, m, rfl, hc, hm, k⟩
    obtain ⟨dc, hp⟩ := hc.o
    obtain ⟨a, ha⟩ : ∃ a, γ.ta[m]? = some a := ⟨_, List.getElem?_eq_getElem (by have := hc.tl; omega)⟩
    obtain ⟨xs, e1, e2⟩ := hc.ta m a ha
    have hgg := hc.t
    have hat : atI (γ.ta.map V.ref) (m : Int) = some (.ref a) := atI_nat (by rw [List.getElem?_map, ha]; rfl)
    walk_at "rdn"
    intro l hl
    exact k l xs _ (Same.new hl) hl upd_same (PairAt.all e2 (Same.new hl))
theorem ok_course_of (T : Tx K mg) : FnOk P w K mg base CX0 13 T.f_course_of T.d_course_of ["members", "rows"] (sp_course_of K T.C_Counts T.C_Letter T.C_Book T.C_Course) := by
  refine T.F_course_of.ok sc_course_of (fun vs H Q E h => ?_) (fun cdv A outer s H vs Q E hr h => ?_)
  · rcases h with ⟨a, xs, rs, M, rfl, hM, hM5, ha, hx, hg, hw, k⟩
    all_goals rfl
  · have hu := hu_of hr
    refine ⟨_, (pss_cons (ps_expr (pe_call (ok_check_history (P := P) T) (hr.mono (by decide)) rfl T.m_check_history T.k_check_history T.b_check_history .nil pass0 (pa_cons (pv 0) (pa_cons (pv 1) (pa_nil)))))
      (pss_cons (ps_set (i := 2) sc_course_of.nd rfl (Or.inl rfl) (pe_make T.mk_Course (ok_Course_init (P := P) T) (hr.mono (by decide)) rfl T.g_Course T.b_Course_init .nil pass0 (pa_cons (pv 0) (pa_nil))))
      (pss_cons (ps_set (i := 3) sc_course_of.nd rfl (Or.inl rfl) (pe_meth (pv 2) T.c_Course T.mt_Course_follow (ok_Course_follow (P := P) T) (hr.mono (by decide)) T.b_Course_follow .nil pass0 (pa_cons (pv 1) (pa_nil))))
      (pss_cons (ps_if (pt_cmpR op_notNon (pv 3) pe_non (nomark _))
      (pss_one ps_never) pss_nil)
      (pss_one (ps_ret (pv 2))))))), ?_⟩
    rcases h with ⟨a, xs, rs, M, rfl, hM, hM5, ha, hx, hg, hw, k⟩
    have hxl := hx.len
    have hrl := hg.len
    walk_at "rdn"
    intro H1 s1
    have ha1 := Sq2.up s1 ha
    have hx1 := RowAt.all hx s1
    walk_at "rdn"
    intro p dc hp hdc ne
    walk_at "rdn"
    intro γ H2 f2 hc fr
    obtain ⟨dc2, hp2⟩ := hc.o
    have hm0 : ∀ x ∈ γ.mut, H1 x = none := fun x hx => by
      have := fr x hx
      walk_at "fr"
    have SA : Same H1 H2 := fun b o e => f2 b o (by walk_at "ne") (by walk_at "lk")
    have na : a ∉ γ.mut := fun hx => by
      rcases ha1 with e | e
      · rw [hm0 a hx] at e; cases e
      · rw [hm0 a hx] at e; cases e
    walk_at "rdn"
    refine r_Course_follow rfl (hc := hc) (hw := WF.zero (by omega)) (ha := Sq2.up SA ha1) (hx := RowAt.all hx1 SA) (hg := hg.all) (hM := hM) (hM5 := hM5) (hs := by show 0 + _ ≤ _; have := hg.snt; omega) (hl := hrl) (na := na) ?_
    intro v H3 f3 hd hcs
    have S3 : Same H H3 := fun b o e => f3 b o (fun hx => by have e1 := s1 _ _ e; rw [hm0 b hx] at e1; cases e1) (SA _ _ (s1 _ _ e))
    obtain ⟨γ', hc', _⟩ := hcs hw
    rw [hw] at hd
    have hd : v = .non := hd
    subst hd
    walk_at "rdn"
    exact k p γ' H3 S3 hc'
theorem ok_book_of (T : Tx K mg) : FnOk P w K mg base CX0 14 T.f_book_of T.d_book_of ["members", "rows"] (sp_book_of K T.C_Counts T.C_Letter T.C_Book T.C_Course) := by
  refine T.F_book_of.ok sc_book_of (fun vs H Q E h => ?_) (fun cdv A outer s H vs Q E hr h => ?_)
  · rcases h with ⟨a, xs, rs, M, rfl, hM, hM5, ha, hx, hg, hw, k⟩
    all_goals rfl
  · have hu := hu_of hr
    refine ⟨_, (pss_one (ps_ret (pe_meth0 (pe_call (ok_course_of (P := P) T) (hr.mono (by decide)) rfl T.m_course_of T.k_course_of T.b_course_of .nil pass0 (pa_cons (pv 0) (pa_cons (pv 1) (pa_nil)))) T.c_Course T.mt_Course_book (ok_Course_book (P := P) T) (hr.mono (by decide)) T.b_Course_book .nil pass0))), ?_⟩
    rcases h with ⟨a, xs, rs, M, rfl, hM, hM5, ha, hx, hg, hw, k⟩
    obtain ⟨cs, ts, hw', hk', hs'⟩ := run_zero (by omega) hg.all hw
    have hl : ((HS.zero (M : Nat)).run rs).ks.length ≤ 30 := by rw [run_ks]; have := hg.snt; show 0 + _ ≤ _; omega
    walk_at "rdn"
    intro p γ H1 s1 hc
    obtain ⟨dc, hp⟩ := hc.o
    walk_at "rdn"
    intro q β' H2 s2 hb
    exact k q β' H2 (s1.trans s2) hb
theorem ok_got_by (T : Tx K mg) : FnOk P w K mg base CX0 14 T.f_got_by T.d_got_by ["members", "rows", "member"] (sp_got_by K T.C_Counts T.C_Letter T.C_Book T.C_Course) := by
  refine T.F_got_by.ok sc_got_by (fun vs H Q E h => ?_) (fun cdv A outer s H vs Q E hr h => ?_)
  · rcases h with ⟨a, xs, rs, M, m, rfl, hM, hM5, ha, hx, hg, hw, hm, k⟩
    all_goals rfl
  · have hu := hu_of hr
    refine ⟨_, (pss_cons (ps_set (i := 3) sc_got_by.nd rfl (Or.inl rfl) (pe_call (ok_course_of (P := P) T) (hr.mono (by decide)) rfl T.m_course_of T.k_course_of T.b_course_of .nil pass0 (pa_cons (pv 0) (pa_cons (pv 1) (pa_nil)))))
      (pss_cons (ps_expr (pe_call (ok_check_member (P := P) T) (hr.mono (by decide)) rfl T.m_check_member T.k_check_member T.b_check_member .nil pass0 (pa_cons (pv 2) (pa_cons (pv 0) (pa_nil)))))
      (pss_one (ps_ret (pe_meth (pv 3) T.c_Course T.mt_Course_got (ok_Course_got (P := P) T) (hr.mono (by decide)) T.b_Course_got .nil pass0 (pa_cons (pv 2) (pa_nil))))))), ?_⟩
    rcases h with ⟨a, xs, rs, M, m, rfl, hM, hM5, ha, hx, hg, hw, hm, k⟩
    walk_at "rdn"
    intro p γ H1 s1 hc
    obtain ⟨dc, hp⟩ := hc.o
    walk_at "rdn"
    intro l xs H2 s2 hl e hx2
    exact k l xs H2 (s1.trans s2) e hx2
theorem ok_told_by (T : Tx K mg) : FnOk P w K mg base CX0 14 T.f_told_by T.d_told_by ["members", "rows", "member"] (sp_told_by K T.C_Counts T.C_Letter T.C_Book T.C_Course) := by
  refine T.F_told_by.ok sc_told_by (fun vs H Q E h => ?_) (fun cdv A outer s H vs Q E hr h => ?_)
  · rcases h with ⟨a, xs, rs, M, m, rfl, hM, hM5, ha, hx, hg, hw, hm, k⟩
    all_goals rfl
  · have hu := hu_of hr
    refine ⟨_, (pss_cons (ps_set (i := 3) sc_told_by.nd rfl (Or.inl rfl) (pe_call (ok_course_of (P := P) T) (hr.mono (by decide)) rfl T.m_course_of T.k_course_of T.b_course_of .nil pass0 (pa_cons (pv 0) (pa_cons (pv 1) (pa_nil)))))
      (pss_cons (ps_expr (pe_call (ok_check_member (P := P) T) (hr.mono (by decide)) rfl T.m_check_member T.k_check_member T.b_check_member .nil pass0 (pa_cons (pv 2) (pa_cons (pv 0) (pa_nil)))))
      (pss_one (ps_ret (pe_meth (pv 3) T.c_Course T.mt_Course_told (ok_Course_told (P := P) T) (hr.mono (by decide)) T.b_Course_told .nil pass0 (pa_cons (pv 2) (pa_nil))))))), ?_⟩
    rcases h with ⟨a, xs, rs, M, m, rfl, hM, hM5, ha, hx, hg, hw, hm, k⟩
    walk_at "rdn"
    intro p γ H1 s1 hc
    obtain ⟨dc, hp⟩ := hc.o
    walk_at "rdn"
    intro l xs H2 s2 hl e hx2
    exact k l xs H2 (s1.trans s2) e hx2
theorem ok_longest_told (T : Tx K mg) : FnOk P w K mg base CX0 14 T.f_longest_told T.d_longest_told ["members", "rows"] (sp_longest_told K T.C_Counts T.C_Letter T.C_Book T.C_Course) := by
  refine T.F_longest_told.ok sc_longest_told (fun vs H Q E h => ?_) (fun cdv A outer s H vs Q E hr h => ?_)
  · rcases h with ⟨a, xs, rs, M, rfl, hM, hM5, ha, hx, hg, hw, k⟩
    all_goals rfl
  · have hu := hu_of hr
    refine ⟨_, (pss_cons (ps_set (i := 2) sc_longest_told.nd rfl (Or.inr rfl) (pe_call (ok_course_of (P := P) T) (hr.mono (by decide)) rfl T.m_course_of T.k_course_of T.b_course_of .nil pass0 (pa_cons (pv 0) (pa_cons (pv 1) (pa_nil)))))
      (pss_one (ps_ret (pe_maxLen rfl (by rfl) T.z_max (by rfl) T.z_len (pe_lc (own := [("member", 3)]) (g := gName 3) (tt := tYes) rfl sc_longest_told.nd (pi_range1 rfl T.z_range (pa_cons (pv 0) (pa_nil))) (blkOk_by (own := [("member", 3)]) (N := ["members", "rows", "course", "member"]) (sc := defScope s_longest_told) (by decide +kernel)) (fun _ _ _ _ _ => (pg_name (i := 3) sc_longest_told.nd rfl (Or.inl rfl))) (fun _ _ _ _ _ => pts_nil) (fun _ _ _ _ _ => (pe_meth (pv 2) T.c_Course T.mt_Course_told (ok_Course_told (P := P) T) (hr.mono (by decide)) T.b_Course_told .nil pass0 (pa_cons (pv 3) (pa_nil))))))))), ?_⟩
    rcases h with ⟨a, xs, rs, M, rfl, hM, hM5, ha, hx, hg, hw, k⟩
    walk_at "rdn"
    intro p γ H1 s1 hc
    obtain ⟨dc, hp⟩ := hc.o
    walk_at "rdn"
    refine q_mxl ?_
    walk_at "rdn"
    intro D hD
    refine lc_any walk_range (fun i ys H' => PrsD D (fun j => ((HS.zero (M : Nat)).run rs).toldOf (j : Nat)) i ys H') (by simp; omega) (fun _ _ _ _ h s => h.same s) (fun _ _ _ _ h => h.put) (PrsD.zero) (fun _ _ => trivial) hD ?_ ?_ gName_m tYes_m
    · rintro i v ys B1 B2 R R2 hi s6 hP hDB ⟨rfl, rfl⟩ hR hR2
      have hc6 := hc.same s6
      obtain ⟨dc6, hp6⟩ := hc6.o
      refine ⟨wipe_set, q_yes ⟨hR true _ (Same.refl _) (fun h => nomatch h), fun _ => ?_⟩⟩
      walk_at "rdn"
      rw [Nat.zero_add]
      intro l xs H2 s2 hl e hx2
      exact hR2 _ _ s2 (hP.snoc s2 (ne_of_none hDB hl).symm e (hx2.mono fun x c z => PairD.of z fun t et w => by
        obtain ⟨t', e', z'⟩ := z
        rw [et] at e'
        cases e'
        rw [w, s2 _ _ hDB] at z'
        cases z'))
    · intro ys B1 s6 hP hD3
      obtain ⟨as, rfl, la, pa⟩ := hP
      have la : as.length = M := by simpa using la
      refine q_maxL (fun j => (((HS.zero (M : Nat)).run rs).toldOf (j : Nat)).length) hD3 (fun z => by rw [z] at la; simp at la; omega) (fun i a h => ?_) (fun i a h hmx => ?_)
      · obtain ⟨_, xs, e, q⟩ := pa i a h
        exact ⟨xs, e, q.len⟩
      · obtain ⟨_, xs, e, q⟩ := pa i a h
        have hi := (List.getElem?_eq_some_iff.mp h).1
        walk_at "rdn"
        exact k a xs i B1 (s1.trans s6) e (by omega) (fun j hj => hmx j (by omega)) (PairD.all q)
theorem ok_Book_is_order (T : Tx K mg) : FnOk P w K mg base CX0 8 T.f_Book_is_order T.d_Book_is_order ["self", "thing"] (sp_Book_is_order K T.C_Counts T.C_Letter T.C_Book) := by
  refine T.F_Book_is_order.ok sc_Book_is_order (fun vs H Q E h => ?_) (fun cdv A outer s H vs Q E hr h => ?_)
  · rcases h with ⟨M, p, a, β, S, xs, L, rfl, hb, hw, ha, hx, hL, hM, hM5, hl, hk, k⟩
    all_goals rfl
  · have hu := hu_of hr
    refine ⟨_, (pss_cons (ps_if (PW.pt (pw_or (pt_not (pt_val (pe_call (ok_is_list (P := P) T) (hr.mono (by decide)) rfl T.m_is_list T.k_is_list T.b_is_list .nil pass0 (pa_cons (pv 1) (pa_nil))))) (pw_or1 (pt_cmpR op_ne (pe_callB (id := "len") (kx_len (K := K) rfl) (by rfl) T.z_len (by decide +kernel) (pa_cons (pv 1) (pa_nil))) (pe_callB (id := "len") call_len_dT (by rfl) T.z_len (by decide +kernel) (pa_cons (kp_fld (K := K) rfl (pv 0) rfl) (pa_nil))) (nomark _)))))
      (pss_one (ps_ret pe_bl)) pss_nil)
      (pss_cons (ps_set (i := 2) sc_Book_is_order.nd rfl (Or.inl rfl) (pe_make T.mk_Counts (ok_Counts_init (P := P) T) (hr.mono (by decide)) rfl T.g_Counts T.b_Counts_init .nil pass0 (pa_cons (pe_op op_rep (pe_lst (pa_cons pe_int (pa_nil))) (kp_fld (K := K) rfl (pv 0) rfl)) (pa_nil))))
      (pss_cons (ps_for PassesOwn.never rfl (kpi_list (K := K) rfl (pv 1)) (pg_name (i := 3) sc_Book_is_order.nd rfl (Or.inl rfl))
      (pss_cons (ps_if (PW.pt (pw_or (pt_not (pt_val (pe_call (ok_is_ident (P := P) T) (hr.mono (by decide)) rfl T.m_is_ident T.k_is_ident T.b_is_ident_2 T.v_is_ident_2 pass0 (pa_cons (pv 3) (pa_cons (kp_fld (K := K) rfl (pv 0) rfl) (pa_nil)))))) (pw_or1 (pt_cmp (pc_dnotin (room1 hr) (pv 3) (kp_fld (K := K) rfl (pv 0) rfl))))))
      (pss_one (ps_ret pe_bl)) pss_nil)
      (pss_cons (ps_set (i := 4) sc_Book_is_order.nd rfl (Or.inl rfl) (pe_dget (room1 hr) (kp_fld (K := K) rfl (pv 0) rfl) (pv 3) (fun _ _ => rfl)))
      (pss_cons (ps_if (PW.pt (pw_or (pt_cmpR op_ne (pe_meth (pv 2) T.c_Counts T.mt_Counts_of (ok_Counts_of (P := P) T) (hr.mono (by decide)) T.b_Counts_of .nil pass0 (pa_cons (pe_meth0 (pv 4) T.c_Letter T.mt_Letter_sender (ok_Letter_sender (P := P) T) (hr.mono (by decide)) T.b_Letter_sender .nil pass0) (pa_nil))) (pe_op op_sub (pe_meth0 (pv 4) T.c_Letter T.mt_Letter_number (ok_Letter_number (P := P) T) (hr.mono (by decide)) T.b_Letter_number .nil pass0) pe_int) (nomark _)) (pw_or1 (pt_not (pt_val (pe_meth (pv 2) T.c_Counts T.mt_Counts_covers (ok_Counts_covers (P := P) T) (hr.mono (by decide)) T.b_Counts_covers .nil pass0 (pa_cons (pe_meth0 (pv 4) T.c_Letter T.mt_Letter_causes (ok_Letter_causes (P := P) T) (hr.mono (by decide)) T.b_Letter_causes .nil pass0) (pa_nil))))))))
      (pss_one (ps_ret pe_bl)) pss_nil)
      (pss_one (ps_set (i := 2) sc_Book_is_order.nd rfl (Or.inl rfl) (pe_meth (pv 2) T.c_Counts T.mt_Counts_raised (ok_Counts_raised (P := P) T) (hr.mono (by decide)) T.b_Counts_raised_2 T.v_Counts_raised_2 pass0 (pa_cons (pe_meth0 (pv 4) T.c_Letter T.mt_Letter_sender (ok_Letter_sender (P := P) T) (hr.mono (by decide)) T.b_Letter_sender .nil pass0) (pa_nil)))))))))
      (pss_one (ps_ret pe_bl))))), ?_⟩
    rcases h with ⟨M, p, a, β, S, xs, L, rfl, hb, hw, ha, hx, hL, hM, hM5, hl, hk, k⟩
    obtain ⟨db, hp⟩ := hb.o
    have hd := hb.d
    have hzl := zk_len hb.kl
    have hxl := hx.len
    walk_at "rdn"
    intro H1 s1
    have ha1 := s1 _ _ ha
    have hx1 := PairAt.all hx s1
    have hb1 := hb.same s1
    obtain ⟨db1, hp1⟩ := hb1.o
    have hd1 := hb1.d
    walk_at "rdn"
    refine q_lenT2 hd1 ?_
    have hne : ((xs.length : Nat) : Int) = (((zk S.ks β.ls).length : Nat) : Int) := by omega
    walk_at "rdn"
    intro l0 hl0
    walk_at "rdn"
    refine q_rep (xs := [V.int 0]) upd_same (by omega) (by omega) (line_of (by simp only [List.length_cons, List.length_nil]; omega)) ?_
    rw [rep_ints, Int.toNat_natCast, ← vec_nil]
    have nn := NN.of (vec_pos (M := M) (G := []))
    have hvl : (vec M []).length = M := vec_len
    intro w hw0
    walk_at "rdn"
    intro x dx hx0 hdx ne
    walk_at "rdn"
    intro t2 H2 f g1 g2
    have S2 : Same H1 H2 := fun b o e => f b o (by walk_at "ne") (by walk_at "lk")
    have ha2 := S2 _ _ ha1
    clear f hx0 hdx ne hw0 hl0
    walk_at "rdn"
    refine for_list (fun i σ' H' => (∃ (c : Addr) (u v : Option V), σ' = [some (.ref p), some (.ref a), some (.ref c), u, v] ∧ CtAt T.C_Counts H' c (vec M (L.take i))) ∧ Same H2 H') ⟨⟨x, none, none, rfl, ⟨dx, t2, g1, g2⟩⟩, Same.refl _⟩ (fun i σ' H' _ h => SqL.of (h.2 _ _ ha2)) ?_ ?_
    · rintro i z σ' H3 hz ⟨⟨c, u, v, rfl, hct⟩, s3⟩
      have S3 := s1.trans (S2.trans s3)
      obtain ⟨⟨s, n⟩, hLi, tt, rfl, ht⟩ := (PairAt.all hx S3).get hz
      have ht : H3 tt = some (.tup [.int s, .int n]) := ht
      obtain ⟨hck, hcc⟩ := hL.kc i _ hLi
      have hb3 := hb.same S3
      obtain ⟨db3, hp3⟩ := hb3.o
      have hd3 := hb3.d
      obtain ⟨q0, q1, q2, _⟩ := hw.kc.2 s n hck
      obtain ⟨j, rfl⟩ := Int.eq_ofNat_of_zero_le q0
      obtain ⟨la, hv, hla⟩ := hb3.find hck
      obtain ⟨dl, wd, cc, g4, hcc6⟩ := id hla
      have hjM : j < M := by omega
      have cl := hL.pc i
      have hof : (vec M (L.take i)).getD j 0 = n - 1 := by
        rw [vec_get hjM]
        have c1 := hw.cn _ hck
        have c1 : (cntM (causesOf S.ks S.cg ((j : Nat), n)) (j : Nat) : Int) = n - 1 := c1
        have c2 := cnt_sub (s := (j : Nat)) (hw.cc _ hck) cl fun n' _ y => hcc _ y
        have c3 : ¬ n ≤ cntM (L.take i) (j : Nat) := fun y => by
          have m1 := (cl.iff q2).mpr y
          have nd := hL.pc.all.1
          have := (List.nodup_append.mp (by rw [List.take_append_drop]; exact nd : (L.take i ++ L.drop i).Nodup)).2.2 _ m1 ((j : Nat), n) (by
            obtain ⟨hlt, e⟩ := List.getElem?_eq_some_iff.mp hLi
            rw [List.drop_eq_getElem_cons hlt, e]
            exact List.mem_cons_self ..)
          exact this rfl
        omega
      have hcov : coversB (vec M (L.take i)) (vec M (causesOf S.ks S.cg ((j : Nat), n))) = true := (cov_sub cl (hw.cc _ hck)).mpr hcc
      walk_at "rdn"
      refine q_dT hd3 (PairAt.key (c := ((j : Nat), n)) ht) ?_
      rw [zk_isSome hb3.kl, decide_eq_true hck]
      walk_at "rdn"
      refine q_dTs hd3 (PairAt.key (c := ((j : Nat), n)) ht) hv ?_
      obtain ⟨dx3, t3, q4, q5⟩ := hct
      obtain ⟨dx6, t6, q6, q7⟩ := hcc6
      have nn3 := NN.of (vec_pos (M := M) (G := L.take i))
      have hv3 : (vec M (L.take i)).length = M := vec_len
      have hv6 : (vec M (causesOf S.ks S.cg ((j : Nat), n))).length = M := vec_len
      walk_at "rdn"
      intro H4 s4
      rw [hcov]
      have hp4 := s4 _ _ hp3
      have ha4 := s4 _ _ (s3 _ _ ha2)
      have hc4 := s4 _ _ q4
      have hc5 := s4 _ _ q5
      have hl4 := s4 _ _ g4
      walk_at "rdn"
      refine r_Counts_raised rfl (j := j) (hp := hc4) (ht := hc5) (h1 := by omega) (h2 := by omega) (h5 := by omega) (hm := vec_pos) ?_
      intro r2 dr2 v2 H5 s5 hr2 hv2
      rw [vec_raise hjM (n := n), ← take_snoc hLi] at hv2
      walk_at "rdn"
      exact ⟨⟨r2, _, _, rfl, dr2, v2, hr2, hv2⟩, s3.trans (s4.trans s5)⟩
    · rintro σ' H3 ⟨⟨c, u, v, rfl, hct⟩, s3⟩
      walk_at "rdn"
      exact k _ (s1.trans (S2.trans s3))
theorem ok_law_left (T : Tx K mg) : FnOk P w K mg base CX0 16 T.f_law_left T.d_law_left ["members", "rows"] (sp_law_left K) := by
  refine T.F_law_left.ok sc_law_left (fun vs H Q E h => ?_) (fun cdv A outer s H vs Q E hr h => ?_)
  · rcases h with ⟨a, xs, rs, M, rfl, hM, hM5, ha, hx, hg, hl, hs, k⟩
    all_goals rfl
  · have hu := hu_of hr
    refine ⟨_, (pss_cons (ps_set (i := 2) sc_law_left.nd rfl (Or.inl rfl) (pe_call (ok_first_wrong (P := P) T) (hr.mono (by decide)) rfl T.m_first_wrong T.k_first_wrong T.b_first_wrong .nil pass0 (pa_cons (pv 0) (pa_cons (pv 1) (pa_nil)))))
      (pss_cons (ps_while PassesOwn.never (PW.pt (pw_and (pt_cmpR op_notNon (pv 2) pe_non (nomark _)) (pw_and1 (pt_cmpR (ko_neD (K := K) rfl hr.units) (pv 1) (pe_lst pa_nil) (nomark _)))))
      (pss_cons (ps_set (i := 1) sc_law_left.nd rfl (Or.inl rfl) (pe_op op_cat (pe_slice (ks_list (K := K) rfl) (pv 1) po_none (po_some (pe_ix (ki_tup (K := K) rfl) (pv 2) pe_int (fun _ _ => rfl)))) (pe_slice (ks_list (K := K) rfl) (pv 1) (po_some (pe_op op_add (pe_ix (ki_tup (K := K) rfl) (pv 2) pe_int (fun _ _ => rfl)) pe_int)) po_none)))
      (pss_one (ps_set (i := 2) sc_law_left.nd rfl (Or.inl rfl) (pe_call (ok_first_wrong (P := P) T) (hr.mono (by decide)) rfl T.m_first_wrong T.k_first_wrong T.b_first_wrong .nil pass0 (pa_cons (pv 0) (pa_cons (pv 1) (pa_nil))))))))
      (pss_one (ps_ret (pv 1))))), ?_⟩
    rcases h with ⟨a, xs, rs, M, rfl, hM, hM5, ha, hx, hg, hl, hs, k⟩
    have hrl : rs.length ≤ 400 := by omega
    have hgg : GoodH (M : Nat) rs := ⟨hg, hrl, hs⟩
    have haq : Sq2 K H a xs := .inl ha
    walk_at "rdn"
    intro v H1 s1 hd
    have ha1 := s1 _ _ ha
    have hx1 := RowAt.all hx s1
    walk_at "rdn"
    refine ⟨fun m σ' H' => ∃ (b : Addr) (v : V) (ys : List V) (os : List RowD), σ' = [some (.int (M : Nat)), some (.ref b), some v] ∧ Same H H' ∧ H' b = some (.lst ys) ∧ All2 (RowAt H') ys os ∧ GoodH (M : Nat) os ∧ DueAt H' v (walkH (HS.zero (M : Nat)) os 0) ∧ os.length = m, ⟨rs.length, a, v, xs, rs, rfl, s1, ha1, hx1, hgg, hd, rfl⟩, ?_⟩
    rintro m σ' H' ⟨b, v, ys, os, rfl, sH, hb, hy, hg', hd', rfl⟩
    have hyl := hy.len
    have hol := hg'.len
    rcases due_nn hd' with ⟨e, rfl⟩ | ⟨i, w, t, e, rfl, ht⟩
    · walk_at "rdn"
      exact k b ys os H' sH hb hy hg' e
    · obtain ⟨_, hj, hcut⟩ := walkH_cut e
      rw [Nat.sub_zero] at hj hcut
      walk_at "rdn"
      intro q hq
      refine q_neRows (os := []) (.of ((upd_ne (ne_of_none hb hq)).trans hb)) (RowAt.all hy (Same.new hq)) (.of upd_same) .nil ?_
      rw [decide_eq_false (fun z => by rw [z] at hj; simp at hj)]
      refine ⟨true, rfl, ?_⟩
      rw [if_pos rfl]
      refine ⟨_, fun σ' H' z => z, ?_⟩
      have sH1 := sH.trans (Same.new hq (o := .lst []))
      have hb1 := (Same.new hq (o := .lst [])) _ _ hb
      have ht1 := (Same.new hq (o := .lst [])) _ _ ht
      have hy1 := RowAt.all hy (Same.new hq (o := .lst []))
      generalize upd H' q (.lst []) = H2 at sH1 hb1 ht1 hy1 ⊢
      clear hq hy hb ht hd' sH
      have c1 : cutV ys none (some (i : Int)) = ys.take i := cut_pre (by omega)
      have c2 : cutV ys (some ((i : Int) + 1)) none = ys.drop (i + 1) := cut_suf (k := i + 1) (by omega)
      walk_at "rdn"
      intro l1 hl1
      rw [c1]
      have S1 : Same H2 (upd H2 l1 (.lst (ys.take i))) := Same.new hl1
      have e1 : upd H2 l1 (.lst (ys.take i)) l1 = some (.lst (ys.take i)) := upd_same
      generalize upd H2 l1 (.lst (ys.take i)) = H3 at S1 e1 ⊢
      have hb2 := S1 _ _ hb1
      have ht2 := S1 _ _ ht1
      walk_at "rdn"
      intro l2 hl2
      rw [c2]
      have S2 : Same H3 (upd H3 l2 (.lst (ys.drop (i + 1)))) := Same.new hl2
      have e2 : upd H3 l2 (.lst (ys.drop (i + 1))) l2 = some (.lst (ys.drop (i + 1))) := upd_same
      have e12 := S2 _ _ e1
      generalize upd H3 l2 (.lst (ys.drop (i + 1))) = H4 at S2 e2 e12 ⊢
      walk_at "rdn"
      intro l3 hl3
      have S3 : Same H4 (upd H4 l3 (.lst (ys.take i ++ ys.drop (i + 1)))) := Same.new hl3
      have e3 : upd H4 l3 (.lst (ys.take i ++ ys.drop (i + 1))) l3 = some (.lst (ys.take i ++ ys.drop (i + 1))) := upd_same
      generalize upd H4 l3 (.lst (ys.take i ++ ys.drop (i + 1))) = H5 at S3 e3 ⊢
      have SS := S1.trans (S2.trans S3)
      have hy5 := RowAt.all hy1 SS
      have hy5 := (hy5.take i).app (hy5.drop (i + 1))
      have hn5 := nSent_rm (rs := os) (j := i) hj
      have hl5 : (os.take i ++ os.drop (i + 1)).length < os.length := by rw [List.length_append, List.length_take, List.length_drop]; omega
      have gh5 : GoodH (M : Nat) (os.take i ++ os.drop (i + 1)) := ⟨fun ρ h => (List.mem_append.mp h).elim (fun h => hg'.all ρ (List.mem_of_mem_take h)) (fun h => hg'.all ρ (List.mem_of_mem_drop h)), by omega, by have := hg'.snt; omega⟩
      have haq5 : Sq2 K H5 l3 (ys.take i ++ ys.drop (i + 1)) := .inl e3
      walk_at "rdn"
      intro v H6 s6 hd6
      walk_at "rdn"
      exact ⟨_, hl5, l3, v, _, _, rfl, sH1.trans (SS.trans s6), s6 _ _ e3, RowAt.all hy5 s6, gh5, hd6, rfl⟩
theorem ok_law_keeps (T : Tx K mg) : FnOk P w K mg base CX0 9 T.f_law_keeps T.d_law_keeps ["book", "idents"] (sp_law_keeps K T.C_Counts T.C_Letter T.C_Book) := by
  refine T.F_law_keeps.ok sc_law_keeps (fun vs H Q E h => ?_) (fun cdv A outer s H vs Q E hr h => ?_)
  · rcases h with ⟨M, p, a, β, S, xs, L, rfl, hb, hw, ha, hx, hL, hM, hM5, hk, k⟩
    all_goals rfl
  · have hu := hu_of hr
    refine ⟨_, (pss_cons (ps_for PassesOwn.never rfl (pi_range1 rfl T.z_range (pa_cons (pe_callB (id := "len") (kx_len (K := K) rfl) (by rfl) T.z_len (by decide +kernel) (pa_cons (pv 1) (pa_nil))) (pa_nil))) (pg_name (i := 2) sc_law_keeps.nd rfl (Or.inr rfl))
      (pss_cons (ps_if (pt_cmpR (ko_inD (K := K) rfl (room65 hr)) (pe_ix (ki_list (K := K) rfl) (pv 1) (pv 2) (fun _ _ => rfl)) (pe_slice (ks_list (K := K) rfl) (pv 1) po_none (po_some (pv 2))) rfl)
      (pss_one (ps_ret pe_bl)) pss_nil)
      (pss_cons (ps_if (pt_not (pt_val (pe_callB (id := "all") (kx_all (K := K) rfl rfl) (by rfl) T.z_all (by decide +kernel) (pa_cons (pe_lc (own := [("ident", 4)]) (g := gName 4) (tt := tYes) rfl sc_law_keeps.nd (kpi_list (K := K) rfl (pe_meth (pv 0) T.c_Book T.mt_Book_ahead (ok_Book_ahead (P := P) T) (hr.mono (by decide)) T.b_Book_ahead .nil pass0 (pa_cons (pe_ix (ki_list (K := K) rfl) (pv 1) (pv 2) (fun _ _ => rfl)) (pa_nil)))) (blkOk_by (own := [("ident", 4)]) (N := ["book", "idents", "k", "numbers", "ident"]) (sc := defScope s_law_keeps) (by decide +kernel)) (fun _ _ _ _ _ => (pg_name (i := 4) sc_law_keeps.nd rfl (Or.inl rfl))) (fun _ _ _ _ _ => pts_nil) (fun _ _ _ _ _ => (pe_cmpR (ko_inD (K := K) rfl (room65 hr)) (pv 4) (pe_slice (ks_list (K := K) rfl) (pv 1) po_none (po_some (pv 2))) rfl))) (pa_nil)))))
      (pss_one (ps_ret pe_bl)) pss_nil)
      (pss_cons (ps_set (i := 3) sc_law_keeps.nd rfl (Or.inl rfl) (pe_meth0 (pe_meth0 (pe_meth (pv 0) T.c_Book T.mt_Book_letter (ok_Book_letter (P := P) T) (hr.mono (by decide)) T.b_Book_letter .nil pass0 (pa_cons (pe_ix (ki_list (K := K) rfl) (pv 1) (pv 2) (fun _ _ => rfl)) (pa_nil))) T.c_Letter T.mt_Letter_causes (ok_Letter_causes (P := P) T) (hr.mono (by decide)) T.b_Letter_causes .nil pass0) T.c_Counts T.mt_Counts_told (ok_Counts_told (P := P) T) (hr.mono (by decide)) T.b_Counts_told .nil pass0))
      (pss_one (ps_if (pt_cmpR op_ne (pe_callB (id := "len") (kx_len (K := K) rfl) (by rfl) T.z_len (by decide +kernel) (pa_cons (pe_meth (pv 0) T.c_Book T.mt_Book_ahead (ok_Book_ahead (P := P) T) (hr.mono (by decide)) T.b_Book_ahead .nil pass0 (pa_cons (pe_ix (ki_list (K := K) rfl) (pv 1) (pv 2) (fun _ _ => rfl)) (pa_nil))) (pa_nil))) (pe_callB (id := "sum") (kx_sumT (K := K) rfl rfl) (by rfl) T.z_sum (by decide +kernel) (pa_cons (pv 3) (pa_nil))) (nomark _))
      (pss_one (ps_ret pe_bl)) pss_nil))))))
      (pss_one (ps_ret pe_bl))), ?_⟩
    rcases h with ⟨M, p, a, β, S, xs, L, rfl, hb, hw, ha, hx, hL, hM, hM5, hk, k⟩
    obtain ⟨db, hp⟩ := hb.o
    have hxl := hx.len
    have hll := hL.len
    have hxb : xs.length ≤ 30 := by omega
    walk_at "rdn"
    refine for_range (fun i σ' H' => (∃ u v w : Option V, σ' = [some (.ref p), some (.ref a), u, v, w]) ∧ Same H H') ⟨⟨none, none, none, rfl⟩, Same.refl _⟩ ?_ ?_
    · rintro i σ' H1 hi ⟨⟨u, v, w, rfl⟩, s1⟩
      have hi2 : i < xs.length := by simpa using hi
      obtain ⟨x, hx0⟩ : ∃ x, xs[i]? = some x := ⟨_, List.getElem?_eq_getElem hi2⟩
      have hx1 := PairAt.all hx s1
      obtain ⟨c, hc, t, rfl, ht⟩ := hx1.get hx0
      obtain ⟨hck, hcc⟩ := hL.kc i c hc
      have hk2 := hw.kc
      have ha1 := s1 _ _ ha
      have hb1 := hb.same s1
      obtain ⟨db1, hp1⟩ := hb1.o
      have hat : atI xs (i : Int) = some (.ref t) := atI_nat hx0
      rw [Int.zero_add]
      have cut1 : cutV xs none (some (i : Int)) = xs.take i := cut_pre (by omega)
      have nin : c ∉ L.take i := fun m1 => by
        have nd := hL.pc.all.1
        exact (List.nodup_append.mp (by rw [List.take_append_drop]; exact nd : (L.take i ++ L.drop i).Nodup)).2.2 _ m1 c (by
            obtain ⟨hlt, e⟩ := List.getElem?_eq_some_iff.mp hc
            rw [List.drop_eq_getElem_cons hlt, e]
            exact List.mem_cons_self ..) rfl
      walk_at "rdn"
      intro d hd
      rw [cut1]
      have S2 : Same H1 (upd H1 d (.lst (xs.take i))) := Same.new hd
      have e2 : upd H1 d (.lst (xs.take i)) d = some (.lst (xs.take i)) := upd_same
      generalize upd H1 d (.lst (xs.take i)) = H2 at S2 e2 ⊢
      have s2 := s1.trans S2
      have ht2 := S2 _ _ ht
      have ha2 := S2 _ _ ha1
      have hx2 := PairAt.all hx1 S2
      have hb2 := hb1.same S2
      refine q_inP (.of e2) (hx2.take i) ⟨t, rfl, ht2⟩ ?_
      rw [decide_eq_false nin]
      clear hp1
      obtain ⟨db2, hp2⟩ := hb2.o
      have hcl : (causesOf S.ks S.cg c).length ≤ 30 := by have := hw.clen hck; omega
      walk_at "rdn"
      intro l ls H3 s3 hl3 hp3
      have s13 := s2.trans s3
      have ha3 := s3 _ _ ha2
      have hx3 := PairAt.all hx2 s3
      have hb3 := hb2.same s3
      have ht3 := s3 _ _ ht2
      have hpl := hp3.len
      have hbl := beyond_le (M := M) (B := causesOf S.ks S.cg c)
      have hbm : M * (causesOf S.ks S.cg c).length ≤ 5 * 30 := Nat.mul_le_mul hM5 hcl
      walk_at "rdn"
      intro D hD
      refine lc_itemsB (fun _ => true) (.of hl3) ?_ hD ?_ ?_
      · omega
      · intro z hz H4 R s4 q4
        obtain ⟨ce, hce, tz, rfl, htz⟩ := (PairAt.all hp3 s4).mem hz
        have hcm : ce ∈ L.take i := hcc _ ((beyond_zero (hw.cc c hck)).mp hce)
        have ha4 := s4 _ _ ha3
        have hx4 := PairAt.all hx3 s4
        walk_at "rdn"
        intro d2 hd2
        rw [cut1]
        refine q_inP (.of upd_same) ((PairAt.all hx4 (Same.new hd2)).take i) ⟨tz, rfl, (Same.new hd2) _ _ htz⟩ ?_
        rw [decide_eq_true hcm]
        exact q4 _ (Same.new hd2)
      · intro H4 s4 e4
        have ha4 := s4 _ _ ha3
        have hb4 := hb3.same s4
        obtain ⟨db4, hp4⟩ := hb4.o
        have ht4 := s4 _ _ ht3
        have hall : (List.map (fun _ => true) ls).all id = true := by simp
        walk_at "rdn"
        rw [hall]
        walk_at "rdn"
        intro la hla
        obtain ⟨dl, wd, cc, g4, dx6, t6, q6, q7⟩ := hla
        walk_at "rdn"
        intro l5 ls5 H5 s5 hl5 hp5
        have hpl5 := hp5.len
        have q75 := s5 _ _ q7
        have hbl5 := beyond_len (M := M) (B := causesOf S.ks S.cg c)
        have hq : ((ls5.length : Nat) : Int) = (vec M (causesOf S.ks S.cg c)).sum := by rw [hpl5]; exact hbl5
        walk_at "rdn"
        refine q_sumT (.of q75) ?_
        walk_at "rdn"
        exact ⟨⟨_, _, _, rfl⟩, s13.trans (s4.trans s5)⟩
    · rintro σ' H1 ⟨⟨u, v, w, rfl⟩, s1⟩
      walk_at "rdn"
      exact k _ s1
theorem ok_law (T : Tx K mg) : FnOk P w K mg base CX0 17 T.f_law T.d_law ["script"] (sp_law K) := by
  refine T.F_law.ok sc_law (fun vs H Q E h => ?_) (fun cdv A outer s H vs Q E hr h => ?_)
  · rcases h with ⟨a, ns, rfl, hs, hl, k⟩
    all_goals rfl
  · have hu := hu_of hr
    refine ⟨_, (pss_cons (ps_asg (pe_call (ok_law_rows (P := P) T) (hr.mono (by decide)) rfl T.m_law_rows T.k_law_rows T.b_law_rows .nil pass0 (pa_cons (pv 0) (pa_cons pe_int (pa_cons pe_int (pa_nil))))) (kg_tup (K := K) (n := 2) rfl rfl (pgs_cons (pg_name (i := 1) sc_law.nd rfl (Or.inl rfl)) (pgs_cons (pg_name (i := 2) sc_law.nd rfl (Or.inl rfl)) pgs_nil))))
      (pss_cons (ps_set (i := 2) sc_law.nd rfl (Or.inl rfl) (pe_call (ok_law_left (P := P) T) (hr.mono (by decide)) rfl T.m_law_left T.k_law_left T.b_law_left .nil pass0 (pa_cons (pv 1) (pa_cons (pv 2) (pa_nil)))))
      (pss_cons (ps_set (i := 3) sc_law.nd rfl (Or.inl rfl) (pe_call (ok_book_of (P := P) T) (hr.mono (by decide)) rfl T.m_book_of T.k_book_of T.b_book_of .nil pass0 (pa_cons (pv 1) (pa_cons (pv 2) (pa_nil)))))
      (pss_cons (ps_set (i := 4) sc_law.nd rfl (Or.inl rfl) (pe_call (ok_longest_told (P := P) T) (hr.mono (by decide)) rfl T.m_longest_told T.k_longest_told T.b_longest_told .nil pass0 (pa_cons (pv 1) (pa_cons (pv 2) (pa_nil)))))
      (pss_cons (ps_if (PW.pt (pw_or (pt_not (pt_val (pe_call (ok_law_keeps (P := P) T) (hr.mono (by decide)) rfl T.m_law_keeps T.k_law_keeps T.b_law_keeps .nil pass0 (pa_cons (pv 3) (pa_cons (pv 4) (pa_nil)))))) (pw_or1 (pt_cmpR op_notNon (pe_call (ok_first_wrong (P := P) T) (hr.mono (by decide)) rfl T.m_first_wrong T.k_first_wrong T.b_first_wrong .nil pass0 (pa_cons (pv 1) (pa_cons (pv 2) (pa_nil)))) pe_non (nomark _)))))
      (pss_one (ps_ret pe_bl)) pss_nil)
      (pss_cons (ps_set (i := 5) sc_law.nd rfl (Or.inl rfl) pe_int)
      (pss_cons (ps_for PassesOwn.never rfl (pi_range1 rfl T.z_range (pa_cons (pv 1) (pa_nil))) (pg_name (i := 6) sc_law.nd rfl (Or.inl rfl))
      (pss_cons (ps_set (i := 7) sc_law.nd rfl (Or.inr rfl) (pe_call (ok_got_by (P := P) T) (hr.mono (by decide)) rfl T.m_got_by T.k_got_by T.b_got_by .nil pass0 (pa_cons (pv 1) (pa_cons (pv 2) (pa_cons (pv 6) (pa_nil))))))
      (pss_cons (ps_set (i := 8) sc_law.nd rfl (Or.inl rfl) (pe_call (ok_told_by (P := P) T) (hr.mono (by decide)) rfl T.m_told_by T.k_told_by T.b_told_by .nil pass0 (pa_cons (pv 1) (pa_cons (pv 2) (pa_cons (pv 6) (pa_nil))))))
      (pss_cons (ps_if (PW.pt (pw_or (pt_cmpR (ko_neD (K := K) rfl hr.units) (pv 8) (pe_slice (ks_list (K := K) rfl) (pv 4) po_none (po_some (pe_callB (id := "len") (kx_len (K := K) rfl) (by rfl) T.z_len (by decide +kernel) (pa_cons (pv 8) (pa_nil))))) (nomark _)) (pw_or1 (pt_not (pt_val (pe_callB (id := "all") (kx_all (K := K) rfl rfl) (by rfl) T.z_all (by decide +kernel) (pa_cons (pe_lc (own := [("ident", 9)]) (g := gName 9) (tt := tYes) rfl sc_law.nd (kpi_list (K := K) rfl (pv 8)) (blkOk_by (own := [("ident", 9)]) (N := ["script", "members", "rows", "book", "longest", "most", "member", "got", "row", "ident"]) (sc := defScope s_law) (by decide +kernel)) (fun _ _ _ _ _ => (pg_name (i := 9) sc_law.nd rfl (Or.inl rfl))) (fun _ _ _ _ _ => pts_nil) (fun _ _ _ _ _ => (pe_cmpR (ko_inD (K := K) rfl (room65 hr)) (pv 9) (pv 7) rfl))) (pa_nil))))))))
      (pss_one (ps_ret pe_bl)) pss_nil)
      (pss_cons (ps_if (PW.pt (pw_or (pt_not (pt_val (pe_call (ok_law_keeps (P := P) T) (hr.mono (by decide)) rfl T.m_law_keeps T.k_law_keeps T.b_law_keeps .nil pass0 (pa_cons (pv 3) (pa_cons (pv 7) (pa_nil)))))) (pw_or1 (pt_not (pt_val (pe_call (ok_law_keeps (P := P) T) (hr.mono (by decide)) rfl T.m_law_keeps T.k_law_keeps T.b_law_keeps .nil pass0 (pa_cons (pv 3) (pa_cons (pv 8) (pa_nil)))))))))
      (pss_one (ps_ret pe_bl)) pss_nil)
      (pss_cons (ps_if (PW.pt (pw_and (pt_cmpR op_eq (pe_callB (id := "len") (kx_len (K := K) rfl) (by rfl) T.z_len (by decide +kernel) (pa_cons (pv 7) (pa_nil))) (pe_callB (id := "len") (call_lenO rfl T.mt_Book_len.at_ T.mt_Book_len.fn (ok_Book_len (P := P) T) (hr.mono (by decide)) T.b_Book_len pass0) (by rfl) T.z_len (by decide +kernel) (pa_cons (pv 3) (pa_nil))) (nomark _)) (pw_and1 (pt_not (pt_val (pe_meth (pv 3) T.c_Book T.mt_Book_is_order (ok_Book_is_order (P := P) T) (hr.mono (by decide)) T.b_Book_is_order .nil pass0 (pa_cons (pv 7) (pa_nil))))))))
      (pss_one (ps_ret pe_bl)) pss_nil)
      (pss_cons (ps_if (PW.pt (pw_and (pt_cmpR op_eq (pe_callB (id := "len") (kx_len (K := K) rfl) (by rfl) T.z_len (by decide +kernel) (pa_cons (pv 8) (pa_nil))) (pe_callB (id := "len") (call_lenO rfl T.mt_Book_len.at_ T.mt_Book_len.fn (ok_Book_len (P := P) T) (hr.mono (by decide)) T.b_Book_len pass0) (by rfl) T.z_len (by decide +kernel) (pa_cons (pv 3) (pa_nil))) (nomark _)) (pw_and1 (pt_not (pt_val (pe_meth (pv 3) T.c_Book T.mt_Book_is_order (ok_Book_is_order (P := P) T) (hr.mono (by decide)) T.b_Book_is_order .nil pass0 (pa_cons (pv 8) (pa_nil))))))))
      (pss_one (ps_ret pe_bl)) pss_nil)
      (pss_one (ps_set (i := 5) sc_law.nd rfl (Or.inl rfl) (pe_callB (id := "max") (call_maxA rfl) (by rfl) T.z_max (by decide +kernel) (pa_cons (pv 5) (pa_cons (pe_callB (id := "len") (kx_len (K := K) rfl) (by rfl) T.z_len (by decide +kernel) (pa_cons (pv 8) (pa_nil))) (pa_nil)))))))))))))
      (pss_one (ps_ret (pe_cmpR op_eq (pv 5) (pe_callB (id := "len") (kx_len (K := K) rfl) (by rfl) T.z_len (by decide +kernel) (pa_cons (pv 4) (pa_nil))) (nomark _))))))))))), ?_⟩
    rcases h with ⟨a, ns, rfl, hs, hl, k⟩
    walk_at "rdn"
    intro M t R xs rs H1 s1 ht hR hx h2 h5 hg hl hns
    walk_at "rdn"
    intro b ys os H2 s2 hb hy hgo hw
    have hbq : Sq2 K H2 b ys := .inl hb
    clear s1 s2 ht hR hx hg hns
    walk_at "rdn"
    intro q β H3 s3 hk3
    have hb3 := s3 _ _ hb
    have hy3 := RowAt.all hy s3
    have hbq3 : Sq2 K H3 b ys := .inl hb3
    obtain ⟨cs, ts, hw', hk', hs'⟩ := run_zero (by omega) hgo.all hw
    have hkl : ((HS.zero (M : Nat)).run os).ks.length ≤ 30 := by rw [run_ks]; have := hgo.snt; show 0 + _ ≤ _; omega
    walk_at "rdn"
    intro l ls im H4 s4 hl4 him hmx hp4
    have hlg := hs'.longest him hmx
    have hb4 := s4 _ _ hb3
    have hy4 := RowAt.all hy3 s4
    have hk4 := hk3.same s4
    have hbq4 : Sq2 K H4 b ys := .inl hb4
    clear hb hy hbq s3 hb3 hy3 hbq3 hk3 s4
    walk_at "rdn"
    refine r_law_keeps rfl (hb := hk4) (hw := hw') (ha := hl4) (hx := hp4) (hL := hk'.t im him) (hM := h2) (hM5 := h5) (hk := hkl) ?_
    intro H5 s5
    have hl5 := s5 _ _ hl4
    have hp5 := PairAt.all hp4 s5
    have hb5 := s5 _ _ hb4
    have hy5 := RowAt.all hy4 s5
    have hk5 := hk4.same s5
    have hbq5 : Sq2 K H5 b ys := .inl hb5
    clear hl4 hp4 hb4 hy4 hk4 hbq4 s5
    walk_at "rdn"
    intro v H6 s6 hd6
    rw [hw] at hd6
    have hd6 : v = .non := hd6
    subst hd6
    have hl6 := s6 _ _ hl5
    have hp6 := PairAt.all hp5 s6
    have hb6 := s6 _ _ hb5
    have hy6 := RowAt.all hy5 s6
    have hk6 := hk5.same s6
    have hbq6 : Sq2 K H6 b ys := .inl hb6
    clear hl5 hp5 hb5 hy5 hk5 hbq5 s6
    walk_at "rdn"
    refine for_range (fun i σ' H' => (∃ (mo : Nat) (u1 u2 u3 u4 : Option V), σ' = [some (.ref a), some (.int (M : Nat)), some (.ref b), some (.ref q), some (.ref l), some (.int (mo : Nat)), u1, u2, u3, u4] ∧ (∀ j, j < i → (((HS.zero (M : Nat)).run os).toldOf (j : Nat)).length ≤ mo) ∧ mo ≤ (((HS.zero (M : Nat)).run os).toldOf (im : Nat)).length) ∧ Same H6 H') ⟨⟨0, none, none, none, none, rfl, fun j h => by omega, Nat.zero_le _⟩, Same.refl _⟩ ?_ ?_
    · rintro i σ' H7 hi ⟨⟨mo, u1, u2, u3, u4, rfl, hmo, hme⟩, s7⟩
      have hb7 := s7 _ _ hb6
      have hy7 := RowAt.all hy6 s7
      have hl7 := s7 _ _ hl6
      have hp7 := PairAt.all hp6 s7
      have hk7 := hk6.same s7
      have hbq7 : Sq2 K H7 b ys := .inl hb7
      have hiM : i < M := by simpa using hi
      rw [Int.zero_add]
      walk_at "rdn"
      intro g gs H8 s8 hg8 hgp8
      have hb8 := s8 _ _ hb7
      have hy8 := RowAt.all hy7 s8
      have hl8 := s8 _ _ hl7
      have hp8 := PairAt.all hp7 s8
      have hk8 := hk7.same s8
      have hbq8 : Sq2 K H8 b ys := .inl hb8
      clear hb7 hy7 hl7 hp7 hk7 hbq7
      walk_at "rdn"
      intro r ws H9 s9 hr9 hrp9
      have hl9 := s9 _ _ hl8
      have hp9 := PairAt.all hp8 s9
      have hg9 := s9 _ _ hg8
      have hgp9 := PairAt.all hgp8 s9
      have hk9 := hk8.same s9
      have hb9 := s9 _ _ hb8
      have hy9 := RowAt.all hy8 s9
      clear hb8 hy8 hl8 hp8 hk8 hbq8 hg8 hgp8
      have hwl := hrp9.len
      have hgl := hgp9.len
      have hll := hp9.len
      have hpre := hs'.pre i hiM
      have hble := hmx i hiM
      have hgk := (hk'.g i hiM).len
      have htk := (hk'.t i hiM).len
      have cut1 : cutV ls none (some (ws.length : Int)) = ls.take ws.length := cut_pre (by omega)
      walk_at "rdn"
      intro d hd
      rw [cut1]
      have S10 : Same H9 (upd H9 d (.lst (ls.take ws.length))) := Same.new hd
      have e10 : upd H9 d (.lst (ls.take ws.length)) d = some (.lst (ls.take ws.length)) := upd_same
      generalize upd H9 d (.lst (ls.take ws.length)) = H10 at S10 e10 ⊢
      have hl10 := S10 _ _ hl9
      have hp10 := PairAt.all hp9 S10
      have hg10 := S10 _ _ hg9
      have hgp10 := PairAt.all hgp9 S10
      have hr10 := S10 _ _ hr9
      have hrp10 := PairAt.all hrp9 S10
      have hk10 := hk9.same S10
      refine q_neLP (.of hr10) (.of e10) hrp10 (hp10.take ws.length) ?_
      rw [decide_eq_true (by rw [hwl, hlg]; exact hpre)]
      walk_at "rdn"
      intro D hD
      refine lc_itemsB (fun _ => true) (.of hr10) (by omega) hD ?_ ?_
      · intro z hz H11 R s11 q11
        obtain ⟨ce, hce, tz, rfl, htz⟩ := (PairAt.all hrp10 s11).mem hz
        have hcm := hk'.tg i hiM _ hce
        have hg11 := s11 _ _ hg10
        walk_at "rdn"
        refine q_inP (.of hg11) (PairAt.all hgp10 s11) ⟨tz, rfl, htz⟩ ?_
        rw [decide_eq_true hcm]
        exact q11 _ (Same.refl _)
      intro H11 s11 e11
      have hall : (List.map (fun _ => true) ws).all id = true := by simp
      have S11 := s8.trans (s9.trans (S10.trans s11))
      have hg11 := s11 _ _ hg10
      have hgp11 := PairAt.all hgp10 s11
      have hr11 := s11 _ _ hr10
      have hrp11 := PairAt.all hrp10 s11
      have hk11 := hk10.same s11
      clear hg9 hgp9 hr9 hrp9 hk9 hl9 hp9 hb9 hy9 hg10 hgp10 hr10 hrp10 hk10 hl10 hp10 hd S10 e10 hD
      walk_at "rdn"
      rw [hall]
      walk_at "rdn"
      refine r_law_keeps rfl (hb := hk11) (hw := hw') (ha := hg11) (hx := hgp11) (hL := hk'.g i hiM) (hM := h2) (hM5 := h5) (hk := hkl) ?_
      intro H12 s12
      have hg12 := s12 _ _ hg11
      have hgp12 := PairAt.all hgp11 s12
      have hr12 := s12 _ _ hr11
      have hrp12 := PairAt.all hrp11 s12
      have hk12 := hk11.same s12
      clear hg11 hgp11 hr11 hrp11 hk11
      walk_at "rdn"
      refine r_law_keeps rfl (hb := hk12) (hw := hw') (ha := hr12) (hx := hrp12) (hL := hk'.t i hiM) (hM := h2) (hM5 := h5) (hk := hkl) ?_
      intro H13 s13
      have hg13 := s13 _ _ hg12
      have hgp13 := PairAt.all hgp12 s13
      have hr13 := s13 _ _ hr12
      have hrp13 := PairAt.all hrp12 s13
      have hk13 := hk12.same s13
      obtain ⟨db13, ho13⟩ := hk13.o
      have hd13 := hk13.d
      clear hg12 hgp12 hr12 hrp12 hk12
      have hzl := zk_len hk13.kl
      walk_at "rdn"
      have fin : ∀ H', Same H13 H' → (∃ (mo' : Nat) (v1 v2 v3 v4 : Option V), [some (V.ref a), some (.int (M : Nat)), some (.ref b), some (.ref q), some (.ref l), some (.int (max (mo : Int) (ws.length : Nat))), some (.int (i : Nat)), some (.ref g), some (.ref r), u4] = [some (.ref a), some (.int (M : Nat)), some (.ref b), some (.ref q), some (.ref l), some (.int (mo' : Nat)), v1, v2, v3, v4] ∧ (∀ j, j < i + 1 → (((HS.zero (M : Nat)).run os).toldOf (j : Nat)).length ≤ mo') ∧ mo' ≤ (((HS.zero (M : Nat)).run os).toldOf (im : Nat)).length) ∧ Same H6 H' := fun H' s14 => by
        refine ⟨⟨max mo ws.length, _, _, _, _, by rw [show ((max mo ws.length : Nat) : Int) = max (mo : Int) (ws.length : Nat) by omega], fun j hj => ?_, by omega⟩, s7.trans (S11.trans (s12.trans (s13.trans s14)))⟩
        by_cases e : j = i
        · subst e
          omega
        · have := hmo j (by omega)
          omega
      have hzg : (gs.length : Int) = (((zk ((HS.zero (M : Nat)).run os).ks β.ls).length : Nat) : Int) ∨ ¬ (gs.length : Int) = (((zk ((HS.zero (M : Nat)).run os).ks β.ls).length : Nat) : Int) := Decidable.em _
      rcases hzg with e1 | e1
      · rw [decide_eq_true e1]
        walk_at "rdn"
        refine r_Book_is_order rfl (hb := hk13) (hw := hw') (ha := hg13) (hx := hgp13) (hL := hk'.g i hiM) (hM := h2) (hM5 := h5) (hl := by omega) (hk := hkl) ?_
        intro H14 s14
        have hr14 := s14 _ _ hr13
        have hrp14 := PairAt.all hrp13 s14
        have hk14 := hk13.same s14
        obtain ⟨db14, ho14⟩ := hk14.o
        have hd14 := hk14.d
        walk_at "rdn"
        have hzr : (ws.length : Int) = (((zk ((HS.zero (M : Nat)).run os).ks β.ls).length : Nat) : Int) ∨ ¬ (ws.length : Int) = (((zk ((HS.zero (M : Nat)).run os).ks β.ls).length : Nat) : Int) := Decidable.em _
        rcases hzr with e2 | e2
        · rw [decide_eq_true e2]
          walk_at "rdn"
          refine r_Book_is_order rfl (hb := hk14) (hw := hw') (ha := hr14) (hx := hrp14) (hL := hk'.t i hiM) (hM := h2) (hM5 := h5) (hl := by omega) (hk := hkl) ?_
          intro H16 s16
          walk_at "rdn"
          exact fin _ (s14.trans s16)
        · rw [decide_eq_false e2]
          walk_at "rdn"
          exact fin _ s14
      · rw [decide_eq_false e1]
        walk_at "rdn"
        have hzr : (ws.length : Int) = (((zk ((HS.zero (M : Nat)).run os).ks β.ls).length : Nat) : Int) ∨ ¬ (ws.length : Int) = (((zk ((HS.zero (M : Nat)).run os).ks β.ls).length : Nat) : Int) := Decidable.em _
        rcases hzr with e2 | e2
        · rw [decide_eq_true e2]
          walk_at "rdn"
          refine r_Book_is_order rfl (hb := hk13) (hw := hw') (ha := hr13) (hx := hrp13) (hL := hk'.t i hiM) (hM := h2) (hM5 := h5) (hl := by omega) (hk := hkl) ?_
          intro H16 s16
          walk_at "rdn"
          exact fin _ s16
        · rw [decide_eq_false e2]
          walk_at "rdn"
          exact fin _ (Same.refl _)
    · rintro σ' H7 ⟨⟨mo, u1, u2, u3, u4, rfl, hmo, hme⟩, s7⟩
      have hl7 := s7 _ _ hl6
      have hle := hmo im him
      have hpl := hp6.len
      walk_at "rdn"
      have he : (mo : Int) = (ls.length : Nat) := by omega
      rw [decide_eq_true he]
      exact k _

end
theorem all_mk {P : Program} [PF P] {w : World} {K : PySem.W.Frag} {h : Heap} {mg : Str → Option Value} {fa : Addr} (X : K.In h) (G : h.Ns mainGlobals mg) (hfa : mg "law" = some (.ref fa)) (c : He.SaysD CH.hfa hfn K) (c2 : (hfb K).all id = true) (c3 : (hxs.map fun x => xObs K x.1) = hxs.map (·.2)) :
    ∃ fd : FuncData, (∀ (s : Shared) (v : Value), BindsTo s fd ⟨[v], []⟩ [("script", v)]) ∧ ∀ base : Heap, K.In base → base.Ns mainGlobals mg → FnOk P w K mg base CX0 17 fa fd ["script"] (sp_law K) := by
  have hz : ∀ (i : Nat) (b : Bool), (hfb K)[i]? = some b → b = true := fun i b h => List.all_eq_true.mp c2 b (List.mem_of_getElem? h)
  have hxe : ∀ (i : Nat) (x : Str × XVal), hxs[i]? = some x → xObs K x.1 = x.2 := fun i x h => by
    have e : (hxs.map fun x => xObs K x.1)[i]? = (hxs.map (·.2))[i]? := by rw [c3]
    rw [List.getElem?_map, List.getElem?_map, h] at e
    exact Option.some.inj e
  have ee := hfa.symm.trans (He.glo_ok X G (c.fact 82 (f := .glo "law") rfl))
  cases ee
  obtain ⟨d_is_whole, F_is_whole⟩ := c.def_ 0 (d := dd_is_whole) rfl
  have F_is_whole : FunD K "is_whole" "is_whole" (defArgs s_is_whole) (defBody s_is_whole) (defScope s_is_whole) [.non] [] (He.fAd K ("is_whole", none)) d_is_whole := F_is_whole
  obtain ⟨ds_is_whole_2, v_is_whole_2, b_is_whole_2⟩ := F_is_whole.binds1 (ps := ["thing", "low", "high"]) 2 0 (by intro z; cases z) rfl (fun _ _ _ _ _ _ _ us its h1 h2 => match us, its, h1, h2 with | [_, _], [_], _, _ => ⟨_, rfl, rfl⟩)
  obtain ⟨ds_is_whole, v_is_whole, b_is_whole⟩ := F_is_whole.binds1 (ps := ["thing", "low", "high"]) 3 1 (by intro z; cases z) rfl (fun _ _ _ _ _ _ _ us its h1 h2 => match us, its, h1, h2 with | [_, _, _], [_], _, _ => ⟨_, rfl, rfl⟩)
  cases v_is_whole
  obtain ⟨d_is_text_of, F_is_text_of⟩ := c.def_ 1 (d := dd_is_text_of) rfl
  have F_is_text_of := fun_of (st := s_is_text_of) F_is_text_of
  have b_is_text_of := F_is_text_of.binds (ps := ["thing", "first", "last", "most"]) fun _ _ _ _ _ _ us hl => match us, hl with | [_, _, _, _], _ => rfl
  obtain ⟨d_is_word, F_is_word⟩ := c.def_ 2 (d := dd_is_word) rfl
  have F_is_word := fun_of (st := s_is_word) F_is_word
  have b_is_word := F_is_word.binds (ps := ["thing"]) fun _ _ _ _ _ _ us hl => match us, hl with | [_], _ => rfl
  obtain ⟨d_is_list, F_is_list⟩ := c.def_ 3 (d := dd_is_list) rfl
  have F_is_list := fun_of (st := s_is_list) F_is_list
  have b_is_list := F_is_list.binds (ps := ["thing"]) fun _ _ _ _ _ _ us hl => match us, hl with | [_], _ => rfl
  obtain ⟨d_is_member, F_is_member⟩ := c.def_ 4 (d := dd_is_member) rfl
  have F_is_member := fun_of (st := s_is_member) F_is_member
  have b_is_member := F_is_member.binds (ps := ["thing", "members"]) fun _ _ _ _ _ _ us hl => match us, hl with | [_, _], _ => rfl
  obtain ⟨d_is_ident, F_is_ident⟩ := c.def_ 5 (d := dd_is_ident) rfl
  have F_is_ident : FunD K "is_ident" "is_ident" (defArgs s_is_ident) (defBody s_is_ident) (defScope s_is_ident) [.non] [] (He.fAd K ("is_ident", none)) d_is_ident := F_is_ident
  obtain ⟨ds_is_ident_2, v_is_ident_2, b_is_ident_2⟩ := F_is_ident.binds1 (ps := ["thing", "members", "high"]) 2 0 (by intro z; cases z) rfl (fun _ _ _ _ _ _ _ us its h1 h2 => match us, its, h1, h2 with | [_, _], [_], _, _ => ⟨_, rfl, rfl⟩)
  obtain ⟨ds_is_ident, v_is_ident, b_is_ident⟩ := F_is_ident.binds1 (ps := ["thing", "members", "high"]) 3 1 (by intro z; cases z) rfl (fun _ _ _ _ _ _ _ us its h1 h2 => match us, its, h1, h2 with | [_, _, _], [_], _, _ => ⟨_, rfl, rfl⟩)
  cases v_is_ident
  obtain ⟨d_check_members, F_check_members⟩ := c.def_ 6 (d := dd_check_members) rfl
  have F_check_members := fun_of (st := s_check_members) F_check_members
  have b_check_members := F_check_members.binds (ps := ["members"]) fun _ _ _ _ _ _ us hl => match us, hl with | [_], _ => rfl
  obtain ⟨d_is_row, F_is_row⟩ := c.def_ 7 (d := dd_is_row) rfl
  have F_is_row := fun_of (st := s_is_row) F_is_row
  have b_is_row := F_is_row.binds (ps := ["thing", "members"]) fun _ _ _ _ _ _ us hl => match us, hl with | [_, _], _ => rfl
  obtain ⟨d_is_history, F_is_history⟩ := c.def_ 8 (d := dd_is_history) rfl
  have F_is_history := fun_of (st := s_is_history) F_is_history
  have b_is_history := F_is_history.binds (ps := ["members", "rows"]) fun _ _ _ _ _ _ us hl => match us, hl with | [_, _], _ => rfl
  obtain ⟨d_check_history, F_check_history⟩ := c.def_ 9 (d := dd_check_history) rfl
  have F_check_history := fun_of (st := s_check_history) F_check_history
  have b_check_history := F_check_history.binds (ps := ["members", "rows"]) fun _ _ _ _ _ _ us hl => match us, hl with | [_, _], _ => rfl
  obtain ⟨d_law_cell_at, F_law_cell_at⟩ := c.def_ 10 (d := dd_law_cell_at) rfl
  have F_law_cell_at := fun_of (st := s_law_cell_at) F_law_cell_at
  have b_law_cell_at := F_law_cell_at.binds (ps := ["script", "k"]) fun _ _ _ _ _ _ us hl => match us, hl with | [_, _], _ => rfl
  obtain ⟨d_law_take, F_law_take⟩ := c.def_ 11 (d := dd_law_take) rfl
  have F_law_take := fun_of (st := s_law_take) F_law_take
  have b_law_take := F_law_take.binds (ps := ["pool", "size"]) fun _ _ _ _ _ _ us hl => match us, hl with | [_, _], _ => rfl
  obtain ⟨d_law_pool, F_law_pool⟩ := c.def_ 12 (d := dd_law_pool) rfl
  have F_law_pool := fun_of (st := s_law_pool) F_law_pool
  have b_law_pool := F_law_pool.binds (ps := ["cell"]) fun _ _ _ _ _ _ us hl => match us, hl with | [_], _ => rfl
  obtain ⟨d_law_word, F_law_word⟩ := c.def_ 13 (d := dd_law_word) rfl
  have F_law_word := fun_of (st := s_law_word) F_law_word
  have b_law_word := F_law_word.binds (ps := ["pool"]) fun _ _ _ _ _ _ us hl => match us, hl with | [_], _ => rfl
  obtain ⟨d_check_member, F_check_member⟩ := c.def_ 14 (d := dd_check_member) rfl
  have F_check_member := fun_of (st := s_check_member) F_check_member
  have b_check_member := F_check_member.binds (ps := ["member", "members"]) fun _ _ _ _ _ _ us hl => match us, hl with | [_, _], _ => rfl
  obtain ⟨d_are_changes, F_are_changes⟩ := c.def_ 15 (d := dd_are_changes) rfl
  have F_are_changes : FunD K "are_changes" "are_changes" (defArgs s_are_changes) (defBody s_are_changes) (defScope s_are_changes) [.non] [] (He.fAd K ("are_changes", none)) d_are_changes := F_are_changes
  obtain ⟨ds_are_changes_3, v_are_changes_3, b_are_changes_3⟩ := F_are_changes.binds1 (ps := ["thing", "members", "low", "high"]) 3 0 (by intro z; cases z) rfl (fun _ _ _ _ _ _ _ us its h1 h2 => match us, its, h1, h2 with | [_, _, _], [_], _, _ => ⟨_, rfl, rfl⟩)
  obtain ⟨ds_are_changes, v_are_changes, b_are_changes⟩ := F_are_changes.binds1 (ps := ["thing", "members", "low", "high"]) 4 1 (by intro z; cases z) rfl (fun _ _ _ _ _ _ _ us its h1 h2 => match us, its, h1, h2 with | [_, _, _, _], [_], _, _ => ⟨_, rfl, rfl⟩)
  cases v_are_changes
  obtain ⟨d_Counts_init, F_Counts_init⟩ := c.def_ 16 (d := dd_Counts_init) rfl
  have F_Counts_init := fun_of (st := s_Counts_init) F_Counts_init
  have b_Counts_init := F_Counts_init.binds (ps := ["self", "numbers"]) fun _ _ _ _ _ _ us hl => match us, hl with | [_, _], _ => rfl
  obtain ⟨d_Counts_len, F_Counts_len⟩ := c.def_ 17 (d := dd_Counts_len) rfl
  have F_Counts_len := fun_of (st := s_Counts_len) F_Counts_len
  have b_Counts_len := F_Counts_len.binds (ps := ["self"]) fun _ _ _ _ _ _ us hl => match us, hl with | [_], _ => rfl
  obtain ⟨d_Counts_told, F_Counts_told⟩ := c.def_ 18 (d := dd_Counts_told) rfl
  have F_Counts_told := fun_of (st := s_Counts_told) F_Counts_told
  have b_Counts_told := F_Counts_told.binds (ps := ["self"]) fun _ _ _ _ _ _ us hl => match us, hl with | [_], _ => rfl
  obtain ⟨d_Counts_of, F_Counts_of⟩ := c.def_ 19 (d := dd_Counts_of) rfl
  have F_Counts_of := fun_of (st := s_Counts_of) F_Counts_of
  have b_Counts_of := F_Counts_of.binds (ps := ["self", "member"]) fun _ _ _ _ _ _ us hl => match us, hl with | [_, _], _ => rfl
  obtain ⟨d_Counts_changed, F_Counts_changed⟩ := c.def_ 20 (d := dd_Counts_changed) rfl
  have F_Counts_changed := fun_of (st := s_Counts_changed) F_Counts_changed
  have b_Counts_changed := F_Counts_changed.binds (ps := ["self", "changes"]) fun _ _ _ _ _ _ us hl => match us, hl with | [_, _], _ => rfl
  obtain ⟨d_Counts_raised, F_Counts_raised⟩ := c.def_ 21 (d := dd_Counts_raised) rfl
  have F_Counts_raised : FunD K "raised" "Counts.raised" (defArgs s_Counts_raised) (defBody s_Counts_raised) (defScope s_Counts_raised) [.int 1] [] (He.fAd K ("Counts", some "raised")) d_Counts_raised := F_Counts_raised
  obtain ⟨ds_Counts_raised_2, v_Counts_raised_2, b_Counts_raised_2⟩ := F_Counts_raised.binds1 (ps := ["self", "member", "by"]) 2 0 (by intro z; cases z) rfl (fun _ _ _ _ _ _ _ us its h1 h2 => match us, its, h1, h2 with | [_, _], [_], _, _ => ⟨_, rfl, rfl⟩)
  obtain ⟨ds_Counts_raised, v_Counts_raised, b_Counts_raised⟩ := F_Counts_raised.binds1 (ps := ["self", "member", "by"]) 3 1 (by intro z; cases z) rfl (fun _ _ _ _ _ _ _ us its h1 h2 => match us, its, h1, h2 with | [_, _, _], [_], _, _ => ⟨_, rfl, rfl⟩)
  cases v_Counts_raised
  obtain ⟨d_Counts_check_like, F_Counts_check_like⟩ := c.def_ 22 (d := dd_Counts_check_like) rfl
  have F_Counts_check_like := fun_of (st := s_Counts_check_like) F_Counts_check_like
  have b_Counts_check_like := F_Counts_check_like.binds (ps := ["self", "other"]) fun _ _ _ _ _ _ us hl => match us, hl with | [_, _], _ => rfl
  obtain ⟨d_Counts_changes_from, F_Counts_changes_from⟩ := c.def_ 23 (d := dd_Counts_changes_from) rfl
  have F_Counts_changes_from := fun_of (st := s_Counts_changes_from) F_Counts_changes_from
  have b_Counts_changes_from := F_Counts_changes_from.binds (ps := ["self", "other"]) fun _ _ _ _ _ _ us hl => match us, hl with | [_, _], _ => rfl
  obtain ⟨d_Counts_covers, F_Counts_covers⟩ := c.def_ 24 (d := dd_Counts_covers) rfl
  have F_Counts_covers := fun_of (st := s_Counts_covers) F_Counts_covers
  have b_Counts_covers := F_Counts_covers.binds (ps := ["self", "other"]) fun _ _ _ _ _ _ us hl => match us, hl with | [_, _], _ => rfl
  obtain ⟨d_check_number_and_word, F_check_number_and_word⟩ := c.def_ 25 (d := dd_check_number_and_word) rfl
  have F_check_number_and_word := fun_of (st := s_check_number_and_word) F_check_number_and_word
  have b_check_number_and_word := F_check_number_and_word.binds (ps := ["number", "word"]) fun _ _ _ _ _ _ us hl => match us, hl with | [_, _], _ => rfl
  obtain ⟨d_Letter_init, F_Letter_init⟩ := c.def_ 26 (d := dd_Letter_init) rfl
  have F_Letter_init := fun_of (st := s_Letter_init) F_Letter_init
  have b_Letter_init := F_Letter_init.binds (ps := ["self", "sender", "number", "word", "causes"]) fun _ _ _ _ _ _ us hl => match us, hl with | [_, _, _, _, _], _ => rfl
  obtain ⟨d_Letter_sender, F_Letter_sender⟩ := c.def_ 27 (d := dd_Letter_sender) rfl
  have F_Letter_sender := fun_of (st := s_Letter_sender) F_Letter_sender
  have b_Letter_sender := F_Letter_sender.binds (ps := ["self"]) fun _ _ _ _ _ _ us hl => match us, hl with | [_], _ => rfl
  obtain ⟨d_Letter_number, F_Letter_number⟩ := c.def_ 28 (d := dd_Letter_number) rfl
  have F_Letter_number := fun_of (st := s_Letter_number) F_Letter_number
  have b_Letter_number := F_Letter_number.binds (ps := ["self"]) fun _ _ _ _ _ _ us hl => match us, hl with | [_], _ => rfl
  obtain ⟨d_Letter_causes, F_Letter_causes⟩ := c.def_ 29 (d := dd_Letter_causes) rfl
  have F_Letter_causes := fun_of (st := s_Letter_causes) F_Letter_causes
  have b_Letter_causes := F_Letter_causes.binds (ps := ["self"]) fun _ _ _ _ _ _ us hl => match us, hl with | [_], _ => rfl
  obtain ⟨d_Letter_id_of, F_Letter_id_of⟩ := c.def_ 30 (d := dd_Letter_id_of) rfl
  have F_Letter_id_of := fun_of (st := s_Letter_id_of) F_Letter_id_of
  have b_Letter_id_of := F_Letter_id_of.binds (ps := ["self"]) fun _ _ _ _ _ _ us hl => match us, hl with | [_], _ => rfl
  obtain ⟨d_is_letter_ahead, F_is_letter_ahead⟩ := c.def_ 31 (d := dd_is_letter_ahead) rfl
  have F_is_letter_ahead := fun_of (st := s_is_letter_ahead) F_is_letter_ahead
  have b_is_letter_ahead := F_is_letter_ahead.binds (ps := ["thing", "sender", "number", "members"]) fun _ _ _ _ _ _ us hl => match us, hl with | [_, _, _, _], _ => rfl
  obtain ⟨d_row_ahead, F_row_ahead⟩ := c.def_ 32 (d := dd_row_ahead) rfl
  have F_row_ahead := fun_of (st := s_row_ahead) F_row_ahead
  have b_row_ahead := F_row_ahead.binds (ps := ["ahead", "members"]) fun _ _ _ _ _ _ us hl => match us, hl with | [_, _], _ => rfl
  obtain ⟨d_changes_of, F_changes_of⟩ := c.def_ 33 (d := dd_changes_of) rfl
  have F_changes_of : FunD K "changes_of" "changes_of" (defArgs s_changes_of) (defBody s_changes_of) (defScope s_changes_of) [.non] [] (He.fAd K ("changes_of", none)) d_changes_of := F_changes_of
  obtain ⟨ds_changes_of, v_changes_of, b_changes_of⟩ := F_changes_of.binds1 (ps := ["letter", "ahead"]) 2 1 (by intro z; cases z) rfl (fun _ _ _ _ _ _ _ us its h1 h2 => match us, its, h1, h2 with | [_, _], [_], _, _ => ⟨_, rfl, rfl⟩)
  cases v_changes_of
  obtain ⟨d_ids_beyond, F_ids_beyond⟩ := c.def_ 34 (d := dd_ids_beyond) rfl
  have F_ids_beyond := fun_of (st := s_ids_beyond) F_ids_beyond
  have b_ids_beyond := F_ids_beyond.binds (ps := ["counts", "row"]) fun _ _ _ _ _ _ us hl => match us, hl with | [_, _], _ => rfl
  obtain ⟨d_Book_init, F_Book_init⟩ := c.def_ 35 (d := dd_Book_init) rfl
  have F_Book_init := fun_of (st := s_Book_init) F_Book_init
  have b_Book_init := F_Book_init.binds (ps := ["self", "members"]) fun _ _ _ _ _ _ us hl => match us, hl with | [_, _], _ => rfl
  obtain ⟨d_Book_len, F_Book_len⟩ := c.def_ 36 (d := dd_Book_len) rfl
  have F_Book_len := fun_of (st := s_Book_len) F_Book_len
  have b_Book_len := F_Book_len.binds (ps := ["self"]) fun _ _ _ _ _ _ us hl => match us, hl with | [_], _ => rfl
  obtain ⟨d_Book_counts, F_Book_counts⟩ := c.def_ 37 (d := dd_Book_counts) rfl
  have F_Book_counts := fun_of (st := s_Book_counts) F_Book_counts
  have b_Book_counts := F_Book_counts.binds (ps := ["self"]) fun _ _ _ _ _ _ us hl => match us, hl with | [_], _ => rfl
  obtain ⟨d_Book_letter, F_Book_letter⟩ := c.def_ 38 (d := dd_Book_letter) rfl
  have F_Book_letter := fun_of (st := s_Book_letter) F_Book_letter
  have b_Book_letter := F_Book_letter.binds (ps := ["self", "ident"]) fun _ _ _ _ _ _ us hl => match us, hl with | [_, _], _ => rfl
  obtain ⟨d_Book_ahead, F_Book_ahead⟩ := c.def_ 39 (d := dd_Book_ahead) rfl
  have F_Book_ahead := fun_of (st := s_Book_ahead) F_Book_ahead
  have b_Book_ahead := F_Book_ahead.binds (ps := ["self", "ident"]) fun _ _ _ _ _ _ us hl => match us, hl with | [_, _], _ => rfl
  obtain ⟨d_Book_check_new, F_Book_check_new⟩ := c.def_ 40 (d := dd_Book_check_new) rfl
  have F_Book_check_new := fun_of (st := s_Book_check_new) F_Book_check_new
  have b_Book_check_new := F_Book_check_new.binds (ps := ["self", "letter"]) fun _ _ _ _ _ _ us hl => match us, hl with | [_, _], _ => rfl
  obtain ⟨d_Book_covers_its_causes, F_Book_covers_its_causes⟩ := c.def_ 41 (d := dd_Book_covers_its_causes) rfl
  have F_Book_covers_its_causes := fun_of (st := s_Book_covers_its_causes) F_Book_covers_its_causes
  have b_Book_covers_its_causes := F_Book_covers_its_causes.binds (ps := ["self", "row"]) fun _ _ _ _ _ _ us hl => match us, hl with | [_, _], _ => rfl
  obtain ⟨d_Book_keep, F_Book_keep⟩ := c.def_ 42 (d := dd_Book_keep) rfl
  have F_Book_keep := fun_of (st := s_Book_keep) F_Book_keep
  have b_Book_keep := F_Book_keep.binds (ps := ["self", "letter"]) fun _ _ _ _ _ _ us hl => match us, hl with | [_, _], _ => rfl
  obtain ⟨d_is_told_otherwise, F_is_told_otherwise⟩ := c.def_ 43 (d := dd_is_told_otherwise) rfl
  have F_is_told_otherwise := fun_of (st := s_is_told_otherwise) F_is_told_otherwise
  have b_is_told_otherwise := F_is_told_otherwise.binds (ps := ["row", "place", "ident"]) fun _ _ _ _ _ _ us hl => match us, hl with | [_, _, _], _ => rfl
  obtain ⟨d_Course_init, F_Course_init⟩ := c.def_ 44 (d := dd_Course_init) rfl
  have F_Course_init := fun_of (st := s_Course_init) F_Course_init
  have b_Course_init := F_Course_init.binds (ps := ["self", "members"]) fun _ _ _ _ _ _ us hl => match us, hl with | [_, _], _ => rfl
  obtain ⟨d_Course_deliver, F_Course_deliver⟩ := c.def_ 45 (d := dd_Course_deliver) rfl
  have F_Course_deliver := fun_of (st := s_Course_deliver) F_Course_deliver
  have b_Course_deliver := F_Course_deliver.binds (ps := ["self", "member", "ident"]) fun _ _ _ _ _ _ us hl => match us, hl with | [_, _, _], _ => rfl
  obtain ⟨d_Course_send, F_Course_send⟩ := c.def_ 46 (d := dd_Course_send) rfl
  have F_Course_send := fun_of (st := s_Course_send) F_Course_send
  have b_Course_send := F_Course_send.binds (ps := ["self", "member", "word"]) fun _ _ _ _ _ _ us hl => match us, hl with | [_, _, _], _ => rfl
  obtain ⟨d_Course_happen, F_Course_happen⟩ := c.def_ 47 (d := dd_Course_happen) rfl
  have F_Course_happen := fun_of (st := s_Course_happen) F_Course_happen
  have b_Course_happen := F_Course_happen.binds (ps := ["self", "row"]) fun _ _ _ _ _ _ us hl => match us, hl with | [_, _], _ => rfl
  obtain ⟨d_Course_why_not_got, F_Course_why_not_got⟩ := c.def_ 48 (d := dd_Course_why_not_got) rfl
  have F_Course_why_not_got := fun_of (st := s_Course_why_not_got) F_Course_why_not_got
  have b_Course_why_not_got := F_Course_why_not_got.binds (ps := ["self", "member", "ident"]) fun _ _ _ _ _ _ us hl => match us, hl with | [_, _, _], _ => rfl
  obtain ⟨d_Course_why_not_told, F_Course_why_not_told⟩ := c.def_ 49 (d := dd_Course_why_not_told) rfl
  have F_Course_why_not_told := fun_of (st := s_Course_why_not_told) F_Course_why_not_told
  have b_Course_why_not_told := F_Course_why_not_told.binds (ps := ["self", "member", "place", "ident"]) fun _ _ _ _ _ _ us hl => match us, hl with | [_, _, _, _], _ => rfl
  obtain ⟨d_Course_why_not, F_Course_why_not⟩ := c.def_ 50 (d := dd_Course_why_not) rfl
  have F_Course_why_not := fun_of (st := s_Course_why_not) F_Course_why_not
  have b_Course_why_not := F_Course_why_not.binds (ps := ["self", "row"]) fun _ _ _ _ _ _ us hl => match us, hl with | [_, _], _ => rfl
  obtain ⟨d_Course_follow, F_Course_follow⟩ := c.def_ 51 (d := dd_Course_follow) rfl
  have F_Course_follow := fun_of (st := s_Course_follow) F_Course_follow
  have b_Course_follow := F_Course_follow.binds (ps := ["self", "rows"]) fun _ _ _ _ _ _ us hl => match us, hl with | [_, _], _ => rfl
  obtain ⟨d_first_wrong, F_first_wrong⟩ := c.def_ 52 (d := dd_first_wrong) rfl
  have F_first_wrong := fun_of (st := s_first_wrong) F_first_wrong
  have b_first_wrong := F_first_wrong.binds (ps := ["members", "rows"]) fun _ _ _ _ _ _ us hl => match us, hl with | [_, _], _ => rfl
  obtain ⟨d_law_model, F_law_model⟩ := c.def_ 53 (d := dd_law_model) rfl
  have F_law_model := fun_of (st := s_law_model) F_law_model
  have b_law_model := F_law_model.binds (ps := ["members"]) fun _ _ _ _ _ _ us hl => match us, hl with | [_], _ => rfl
  obtain ⟨d_law_otherwise, F_law_otherwise⟩ := c.def_ 54 (d := dd_law_otherwise) rfl
  have F_law_otherwise := fun_of (st := s_law_otherwise) F_law_otherwise
  have b_law_otherwise := F_law_otherwise.binds (ps := ["model", "member", "place", "ident"]) fun _ _ _ _ _ _ us hl => match us, hl with | [_, _, _, _], _ => rfl
  obtain ⟨d_law_has, F_law_has⟩ := c.def_ 55 (d := dd_law_has) rfl
  have F_law_has := fun_of (st := s_law_has) F_law_has
  have b_law_has := F_law_has.binds (ps := ["model", "rows", "ident"]) fun _ _ _ _ _ _ us hl => match us, hl with | [_, _, _], _ => rfl
  obtain ⟨d_law_why_got, F_law_why_got⟩ := c.def_ 56 (d := dd_law_why_got) rfl
  have F_law_why_got := fun_of (st := s_law_why_got) F_law_why_got
  have b_law_why_got := F_law_why_got.binds (ps := ["model", "member", "ident"]) fun _ _ _ _ _ _ us hl => match us, hl with | [_, _, _], _ => rfl
  obtain ⟨d_law_why, F_law_why⟩ := c.def_ 57 (d := dd_law_why) rfl
  have F_law_why := fun_of (st := s_law_why) F_law_why
  have b_law_why := F_law_why.binds (ps := ["model", "row"]) fun _ _ _ _ _ _ us hl => match us, hl with | [_, _], _ => rfl
  obtain ⟨d_law_go, F_law_go⟩ := c.def_ 58 (d := dd_law_go) rfl
  have F_law_go := fun_of (st := s_law_go) F_law_go
  have b_law_go := F_law_go.binds (ps := ["model", "row"]) fun _ _ _ _ _ _ us hl => match us, hl with | [_, _], _ => rfl
  obtain ⟨d_law_may, F_law_may⟩ := c.def_ 59 (d := dd_law_may) rfl
  have F_law_may := fun_of (st := s_law_may) F_law_may
  have b_law_may := F_law_may.binds (ps := ["model", "member"]) fun _ _ _ _ _ _ us hl => match us, hl with | [_, _], _ => rfl
  obtain ⟨d_law_new_row, F_law_new_row⟩ := c.def_ 60 (d := dd_law_new_row) rfl
  have F_law_new_row := fun_of (st := s_law_new_row) F_law_new_row
  have b_law_new_row := F_law_new_row.binds (ps := ["model", "members", "wild", "pool"]) fun _ _ _ _ _ _ us hl => match us, hl with | [_, _, _, _], _ => rfl
  obtain ⟨d_law_rows, F_law_rows⟩ := c.def_ 61 (d := dd_law_rows) rfl
  have F_law_rows := fun_of (st := s_law_rows) F_law_rows
  have b_law_rows := F_law_rows.binds (ps := ["script", "start", "wild"]) fun _ _ _ _ _ _ us hl => match us, hl with | [_, _, _], _ => rfl
  obtain ⟨d_Book_twin, F_Book_twin⟩ := c.def_ 62 (d := dd_Book_twin) rfl
  have F_Book_twin := fun_of (st := s_Book_twin) F_Book_twin
  have b_Book_twin := F_Book_twin.binds (ps := ["self"]) fun _ _ _ _ _ _ us hl => match us, hl with | [_], _ => rfl
  obtain ⟨d_Course_book, F_Course_book⟩ := c.def_ 63 (d := dd_Course_book) rfl
  have F_Course_book := fun_of (st := s_Course_book) F_Course_book
  have b_Course_book := F_Course_book.binds (ps := ["self"]) fun _ _ _ _ _ _ us hl => match us, hl with | [_], _ => rfl
  obtain ⟨d_Course_got, F_Course_got⟩ := c.def_ 64 (d := dd_Course_got) rfl
  have F_Course_got := fun_of (st := s_Course_got) F_Course_got
  have b_Course_got := F_Course_got.binds (ps := ["self", "member"]) fun _ _ _ _ _ _ us hl => match us, hl with | [_, _], _ => rfl
  obtain ⟨d_Course_told, F_Course_told⟩ := c.def_ 65 (d := dd_Course_told) rfl
  have F_Course_told := fun_of (st := s_Course_told) F_Course_told
  have b_Course_told := F_Course_told.binds (ps := ["self", "member"]) fun _ _ _ _ _ _ us hl => match us, hl with | [_, _], _ => rfl
  obtain ⟨d_course_of, F_course_of⟩ := c.def_ 66 (d := dd_course_of) rfl
  have F_course_of := fun_of (st := s_course_of) F_course_of
  have b_course_of := F_course_of.binds (ps := ["members", "rows"]) fun _ _ _ _ _ _ us hl => match us, hl with | [_, _], _ => rfl
  obtain ⟨d_book_of, F_book_of⟩ := c.def_ 67 (d := dd_book_of) rfl
  have F_book_of := fun_of (st := s_book_of) F_book_of
  have b_book_of := F_book_of.binds (ps := ["members", "rows"]) fun _ _ _ _ _ _ us hl => match us, hl with | [_, _], _ => rfl
  obtain ⟨d_got_by, F_got_by⟩ := c.def_ 68 (d := dd_got_by) rfl
  have F_got_by := fun_of (st := s_got_by) F_got_by
  have b_got_by := F_got_by.binds (ps := ["members", "rows", "member"]) fun _ _ _ _ _ _ us hl => match us, hl with | [_, _, _], _ => rfl
  obtain ⟨d_told_by, F_told_by⟩ := c.def_ 69 (d := dd_told_by) rfl
  have F_told_by := fun_of (st := s_told_by) F_told_by
  have b_told_by := F_told_by.binds (ps := ["members", "rows", "member"]) fun _ _ _ _ _ _ us hl => match us, hl with | [_, _, _], _ => rfl
  obtain ⟨d_longest_told, F_longest_told⟩ := c.def_ 70 (d := dd_longest_told) rfl
  have F_longest_told := fun_of (st := s_longest_told) F_longest_told
  have b_longest_told := F_longest_told.binds (ps := ["members", "rows"]) fun _ _ _ _ _ _ us hl => match us, hl with | [_, _], _ => rfl
  obtain ⟨d_Book_is_order, F_Book_is_order⟩ := c.def_ 71 (d := dd_Book_is_order) rfl
  have F_Book_is_order := fun_of (st := s_Book_is_order) F_Book_is_order
  have b_Book_is_order := F_Book_is_order.binds (ps := ["self", "thing"]) fun _ _ _ _ _ _ us hl => match us, hl with | [_, _], _ => rfl
  obtain ⟨d_law_left, F_law_left⟩ := c.def_ 72 (d := dd_law_left) rfl
  have F_law_left := fun_of (st := s_law_left) F_law_left
  have b_law_left := F_law_left.binds (ps := ["members", "rows"]) fun _ _ _ _ _ _ us hl => match us, hl with | [_, _], _ => rfl
  obtain ⟨d_law_keeps, F_law_keeps⟩ := c.def_ 73 (d := dd_law_keeps) rfl
  have F_law_keeps := fun_of (st := s_law_keeps) F_law_keeps
  have b_law_keeps := F_law_keeps.binds (ps := ["book", "idents"]) fun _ _ _ _ _ _ us hl => match us, hl with | [_, _], _ => rfl
  obtain ⟨d_law, F_law⟩ := c.def_ 74 (d := dd_law) rfl
  have FL_law : FunD K "law" "law" (defArgs s_law) (defBody s_law) (defScope s_law) [] [] (He.fAd K ("law", none)) d_law := F_law
  have F_law := fun_of (st := s_law) F_law
  have b_law := F_law.binds (ps := ["script"]) fun _ _ _ _ _ _ us hl => match us, hl with | [_], _ => rfl
  have g_Book := He.glo_ok X G (c.fact 0 (f := .glo "Book") rfl)
  have c_Book := He.cls_ok (c.fact 1 (f := .cls "Book") rfl)
  have mkk_Book := He.mkr_ok (c.fact 2 (f := .mkr "Book") rfl)
  have mt_Book_len := He.meth_ok (c.fact 3 (f := .meth "Book" "__len__") rfl)
  have mt_Book_counts := He.meth_ok (c.fact 4 (f := .meth "Book" "counts") rfl)
  have mt_Book_letter := He.meth_ok (c.fact 5 (f := .meth "Book" "letter") rfl)
  have mt_Book_ahead := He.meth_ok (c.fact 6 (f := .meth "Book" "ahead") rfl)
  have mt_Book_check_new := He.meth_ok (c.fact 7 (f := .meth "Book" "_check_new") rfl)
  have mt_Book_covers_its_causes := He.meth_ok (c.fact 8 (f := .meth "Book" "_covers_its_causes") rfl)
  have mt_Book_keep := He.meth_ok (c.fact 9 (f := .meth "Book" "keep") rfl)
  have mt_Book_twin := He.meth_ok (c.fact 10 (f := .meth "Book" "twin") rfl)
  have mt_Book_is_order := He.meth_ok (c.fact 11 (f := .meth "Book" "is_order") rfl)
  have g_Counts := He.glo_ok X G (c.fact 12 (f := .glo "Counts") rfl)
  have hdx_Counts : PySem.W.hasDictIn K (He.ga K "Counts") = true := (of_decide_eq_true (hz 0 _ rfl))
  have c_Counts := He.cls_ok (c.fact 13 (f := .cls "Counts") rfl)
  have mkk_Counts := He.mkr_ok (c.fact 14 (f := .mkr "Counts") rfl)
  have mt_Counts_len := He.meth_ok (c.fact 15 (f := .meth "Counts" "__len__") rfl)
  have mt_Counts_told := He.meth_ok (c.fact 16 (f := .meth "Counts" "told") rfl)
  have mt_Counts_of := He.meth_ok (c.fact 17 (f := .meth "Counts" "of") rfl)
  have mt_Counts_changed := He.meth_ok (c.fact 18 (f := .meth "Counts" "changed") rfl)
  have mt_Counts_raised := He.meth_ok (c.fact 19 (f := .meth "Counts" "raised") rfl)
  have mt_Counts_check_like := He.meth_ok (c.fact 20 (f := .meth "Counts" "_check_like") rfl)
  have mt_Counts_changes_from := He.meth_ok (c.fact 21 (f := .meth "Counts" "changes_from") rfl)
  have mt_Counts_covers := He.meth_ok (c.fact 22 (f := .meth "Counts" "covers") rfl)
  have g_Course := He.glo_ok X G (c.fact 23 (f := .glo "Course") rfl)
  have c_Course := He.cls_ok (c.fact 24 (f := .cls "Course") rfl)
  have mkk_Course := He.mkr_ok (c.fact 25 (f := .mkr "Course") rfl)
  have mt_Course_deliver := He.meth_ok (c.fact 26 (f := .meth "Course" "_deliver") rfl)
  have mt_Course_send := He.meth_ok (c.fact 27 (f := .meth "Course" "_send") rfl)
  have mt_Course_happen := He.meth_ok (c.fact 28 (f := .meth "Course" "_happen") rfl)
  have mt_Course_why_not_got := He.meth_ok (c.fact 29 (f := .meth "Course" "_why_not_got") rfl)
  have mt_Course_why_not_told := He.meth_ok (c.fact 30 (f := .meth "Course" "_why_not_told") rfl)
  have mt_Course_why_not := He.meth_ok (c.fact 31 (f := .meth "Course" "_why_not") rfl)
  have mt_Course_follow := He.meth_ok (c.fact 32 (f := .meth "Course" "follow") rfl)
  have mt_Course_book := He.meth_ok (c.fact 33 (f := .meth "Course" "book") rfl)
  have mt_Course_got := He.meth_ok (c.fact 34 (f := .meth "Course" "got") rfl)
  have mt_Course_told := He.meth_ok (c.fact 35 (f := .meth "Course" "told") rfl)
  have g_Letter := He.glo_ok X G (c.fact 36 (f := .glo "Letter") rfl)
  have hdx_Letter : PySem.W.hasDictIn K (He.ga K "Letter") = true := (of_decide_eq_true (hz 1 _ rfl))
  have c_Letter := He.cls_ok (c.fact 37 (f := .cls "Letter") rfl)
  have mkk_Letter := He.mkr_ok (c.fact 38 (f := .mkr "Letter") rfl)
  have mt_Letter_sender := He.meth_ok (c.fact 39 (f := .meth "Letter" "sender") rfl)
  have mt_Letter_number := He.meth_ok (c.fact 40 (f := .meth "Letter" "number") rfl)
  have mt_Letter_causes := He.meth_ok (c.fact 41 (f := .meth "Letter" "causes") rfl)
  have mt_Letter_id_of := He.meth_ok (c.fact 42 (f := .meth "Letter" "id_of") rfl)
  obtain ⟨t_BITS, gg_BITS⟩ := He.int_ok X G (c.fact 110 (f := .int "BITS" 5) rfl)
  obtain ⟨t_LEAST_MEMBERS, gg_LEAST_MEMBERS⟩ := He.int_ok X G (c.fact 111 (f := .int "LEAST_MEMBERS" 2) rfl)
  obtain ⟨t_MOST_LETTERS, gg_MOST_LETTERS⟩ := He.int_ok X G (c.fact 112 (f := .int "MOST_LETTERS" 30) rfl)
  obtain ⟨t_MOST_MEMBERS, gg_MOST_MEMBERS⟩ := He.int_ok X G (c.fact 113 (f := .int "MOST_MEMBERS" 5) rfl)
  obtain ⟨t_MOST_ROWS, gg_MOST_ROWS⟩ := He.int_ok X G (c.fact 114 (f := .int "MOST_ROWS" 400) rfl)
  obtain ⟨t_MOST_SIGNS, gg_MOST_SIGNS⟩ := He.int_ok X G (c.fact 115 (f := .int "MOST_SIGNS" 8) rfl)
  let T : Tx K mg := { f_is_whole := He.fAd K ("is_whole", none), d_is_whole := d_is_whole, F_is_whole := F_is_whole, m_is_whole := He.glo_ok X G (c.fact 43 (f := .glo "is_whole") rfl), k_is_whole := F_is_whole.kp, ds_is_whole_2 := ds_is_whole_2, v_is_whole_2 := v_is_whole_2, b_is_whole_2 := b_is_whole_2, b_is_whole := b_is_whole, f_is_text_of := He.fAd K ("is_text_of", none), d_is_text_of := d_is_text_of, F_is_text_of := F_is_text_of, m_is_text_of := He.glo_ok X G (c.fact 44 (f := .glo "is_text_of") rfl), k_is_text_of := F_is_text_of.kp, b_is_text_of := b_is_text_of, f_is_word := He.fAd K ("is_word", none), d_is_word := d_is_word, F_is_word := F_is_word, m_is_word := He.glo_ok X G (c.fact 45 (f := .glo "is_word") rfl), k_is_word := F_is_word.kp, b_is_word := b_is_word, f_is_list := He.fAd K ("is_list", none), d_is_list := d_is_list, F_is_list := F_is_list, m_is_list := He.glo_ok X G (c.fact 46 (f := .glo "is_list") rfl), k_is_list := F_is_list.kp, b_is_list := b_is_list, f_is_member := He.fAd K ("is_member", none), d_is_member := d_is_member, F_is_member := F_is_member, m_is_member := He.glo_ok X G (c.fact 47 (f := .glo "is_member") rfl), k_is_member := F_is_member.kp, b_is_member := b_is_member, f_is_ident := He.fAd K ("is_ident", none), d_is_ident := d_is_ident, F_is_ident := F_is_ident, m_is_ident := He.glo_ok X G (c.fact 48 (f := .glo "is_ident") rfl), k_is_ident := F_is_ident.kp, ds_is_ident_2 := ds_is_ident_2, v_is_ident_2 := v_is_ident_2, b_is_ident_2 := b_is_ident_2, b_is_ident := b_is_ident, f_check_members := He.fAd K ("check_members", none), d_check_members := d_check_members, F_check_members := F_check_members, m_check_members := He.glo_ok X G (c.fact 49 (f := .glo "check_members") rfl), k_check_members := F_check_members.kp, b_check_members := b_check_members, f_is_row := He.fAd K ("is_row", none), d_is_row := d_is_row, F_is_row := F_is_row, m_is_row := He.glo_ok X G (c.fact 50 (f := .glo "is_row") rfl), k_is_row := F_is_row.kp, b_is_row := b_is_row, f_is_history := He.fAd K ("is_history", none), d_is_history := d_is_history, F_is_history := F_is_history, m_is_history := He.glo_ok X G (c.fact 51 (f := .glo "is_history") rfl), k_is_history := F_is_history.kp, b_is_history := b_is_history, f_check_history := He.fAd K ("check_history", none), d_check_history := d_check_history, F_check_history := F_check_history, m_check_history := He.glo_ok X G (c.fact 52 (f := .glo "check_history") rfl), k_check_history := F_check_history.kp, b_check_history := b_check_history, f_law_cell_at := He.fAd K ("_law_cell_at", none), d_law_cell_at := d_law_cell_at, F_law_cell_at := F_law_cell_at, m_law_cell_at := He.glo_ok X G (c.fact 53 (f := .glo "_law_cell_at") rfl), k_law_cell_at := F_law_cell_at.kp, b_law_cell_at := b_law_cell_at, f_law_take := He.fAd K ("_law_take", none), d_law_take := d_law_take, F_law_take := F_law_take, m_law_take := He.glo_ok X G (c.fact 54 (f := .glo "_law_take") rfl), k_law_take := F_law_take.kp, b_law_take := b_law_take, f_law_pool := He.fAd K ("_law_pool", none), d_law_pool := d_law_pool, F_law_pool := F_law_pool, m_law_pool := He.glo_ok X G (c.fact 55 (f := .glo "_law_pool") rfl), k_law_pool := F_law_pool.kp, b_law_pool := b_law_pool, f_law_word := He.fAd K ("_law_word", none), d_law_word := d_law_word, F_law_word := F_law_word, m_law_word := He.glo_ok X G (c.fact 56 (f := .glo "_law_word") rfl), k_law_word := F_law_word.kp, b_law_word := b_law_word, f_check_member := He.fAd K ("check_member", none), d_check_member := d_check_member, F_check_member := F_check_member, m_check_member := He.glo_ok X G (c.fact 57 (f := .glo "check_member") rfl), k_check_member := F_check_member.kp, b_check_member := b_check_member, f_are_changes := He.fAd K ("are_changes", none), d_are_changes := d_are_changes, F_are_changes := F_are_changes, m_are_changes := He.glo_ok X G (c.fact 58 (f := .glo "are_changes") rfl), k_are_changes := F_are_changes.kp, ds_are_changes_3 := ds_are_changes_3, v_are_changes_3 := v_are_changes_3, b_are_changes_3 := b_are_changes_3, b_are_changes := b_are_changes, f_Counts_init := He.fAd K ("Counts", some "__init__"), d_Counts_init := d_Counts_init, F_Counts_init := F_Counts_init, b_Counts_init := b_Counts_init, f_Counts_len := He.fAd K ("Counts", some "__len__"), d_Counts_len := d_Counts_len, F_Counts_len := F_Counts_len, b_Counts_len := b_Counts_len, f_Counts_told := He.fAd K ("Counts", some "told"), d_Counts_told := d_Counts_told, F_Counts_told := F_Counts_told, b_Counts_told := b_Counts_told, f_Counts_of := He.fAd K ("Counts", some "of"), d_Counts_of := d_Counts_of, F_Counts_of := F_Counts_of, b_Counts_of := b_Counts_of, f_Counts_changed := He.fAd K ("Counts", some "changed"), d_Counts_changed := d_Counts_changed, F_Counts_changed := F_Counts_changed, b_Counts_changed := b_Counts_changed, f_Counts_raised := He.fAd K ("Counts", some "raised"), d_Counts_raised := d_Counts_raised, F_Counts_raised := F_Counts_raised, ds_Counts_raised_2 := ds_Counts_raised_2, v_Counts_raised_2 := v_Counts_raised_2, b_Counts_raised_2 := b_Counts_raised_2, b_Counts_raised := b_Counts_raised, f_Counts_check_like := He.fAd K ("Counts", some "_check_like"), d_Counts_check_like := d_Counts_check_like, F_Counts_check_like := F_Counts_check_like, b_Counts_check_like := b_Counts_check_like, f_Counts_changes_from := He.fAd K ("Counts", some "changes_from"), d_Counts_changes_from := d_Counts_changes_from, F_Counts_changes_from := F_Counts_changes_from, b_Counts_changes_from := b_Counts_changes_from, f_Counts_covers := He.fAd K ("Counts", some "covers"), d_Counts_covers := d_Counts_covers, F_Counts_covers := F_Counts_covers, b_Counts_covers := b_Counts_covers, f_check_number_and_word := He.fAd K ("check_number_and_word", none), d_check_number_and_word := d_check_number_and_word, F_check_number_and_word := F_check_number_and_word, m_check_number_and_word := He.glo_ok X G (c.fact 59 (f := .glo "check_number_and_word") rfl), k_check_number_and_word := F_check_number_and_word.kp, b_check_number_and_word := b_check_number_and_word, f_Letter_init := He.fAd K ("Letter", some "__init__"), d_Letter_init := d_Letter_init, F_Letter_init := F_Letter_init, b_Letter_init := b_Letter_init, f_Letter_sender := He.fAd K ("Letter", some "sender"), d_Letter_sender := d_Letter_sender, F_Letter_sender := F_Letter_sender, b_Letter_sender := b_Letter_sender, f_Letter_number := He.fAd K ("Letter", some "number"), d_Letter_number := d_Letter_number, F_Letter_number := F_Letter_number, b_Letter_number := b_Letter_number, f_Letter_causes := He.fAd K ("Letter", some "causes"), d_Letter_causes := d_Letter_causes, F_Letter_causes := F_Letter_causes, b_Letter_causes := b_Letter_causes, f_Letter_id_of := He.fAd K ("Letter", some "id_of"), d_Letter_id_of := d_Letter_id_of, F_Letter_id_of := F_Letter_id_of, b_Letter_id_of := b_Letter_id_of, f_is_letter_ahead := He.fAd K ("is_letter_ahead", none), d_is_letter_ahead := d_is_letter_ahead, F_is_letter_ahead := F_is_letter_ahead, m_is_letter_ahead := He.glo_ok X G (c.fact 60 (f := .glo "is_letter_ahead") rfl), k_is_letter_ahead := F_is_letter_ahead.kp, b_is_letter_ahead := b_is_letter_ahead, f_row_ahead := He.fAd K ("row_ahead", none), d_row_ahead := d_row_ahead, F_row_ahead := F_row_ahead, m_row_ahead := He.glo_ok X G (c.fact 61 (f := .glo "row_ahead") rfl), k_row_ahead := F_row_ahead.kp, b_row_ahead := b_row_ahead, f_changes_of := He.fAd K ("changes_of", none), d_changes_of := d_changes_of, F_changes_of := F_changes_of, m_changes_of := He.glo_ok X G (c.fact 62 (f := .glo "changes_of") rfl), k_changes_of := F_changes_of.kp, b_changes_of := b_changes_of, f_ids_beyond := He.fAd K ("ids_beyond", none), d_ids_beyond := d_ids_beyond, F_ids_beyond := F_ids_beyond, m_ids_beyond := He.glo_ok X G (c.fact 63 (f := .glo "ids_beyond") rfl), k_ids_beyond := F_ids_beyond.kp, b_ids_beyond := b_ids_beyond, f_Book_init := He.fAd K ("Book", some "__init__"), d_Book_init := d_Book_init, F_Book_init := F_Book_init, b_Book_init := b_Book_init, f_Book_len := He.fAd K ("Book", some "__len__"), d_Book_len := d_Book_len, F_Book_len := F_Book_len, b_Book_len := b_Book_len, f_Book_counts := He.fAd K ("Book", some "counts"), d_Book_counts := d_Book_counts, F_Book_counts := F_Book_counts, b_Book_counts := b_Book_counts, f_Book_letter := He.fAd K ("Book", some "letter"), d_Book_letter := d_Book_letter, F_Book_letter := F_Book_letter, b_Book_letter := b_Book_letter, f_Book_ahead := He.fAd K ("Book", some "ahead"), d_Book_ahead := d_Book_ahead, F_Book_ahead := F_Book_ahead, b_Book_ahead := b_Book_ahead, f_Book_check_new := He.fAd K ("Book", some "_check_new"), d_Book_check_new := d_Book_check_new, F_Book_check_new := F_Book_check_new, b_Book_check_new := b_Book_check_new, f_Book_covers_its_causes := He.fAd K ("Book", some "_covers_its_causes"), d_Book_covers_its_causes := d_Book_covers_its_causes, F_Book_covers_its_causes := F_Book_covers_its_causes, b_Book_covers_its_causes := b_Book_covers_its_causes, f_Book_keep := He.fAd K ("Book", some "keep"), d_Book_keep := d_Book_keep, F_Book_keep := F_Book_keep, b_Book_keep := b_Book_keep, f_is_told_otherwise := He.fAd K ("is_told_otherwise", none), d_is_told_otherwise := d_is_told_otherwise, F_is_told_otherwise := F_is_told_otherwise, m_is_told_otherwise := He.glo_ok X G (c.fact 64 (f := .glo "is_told_otherwise") rfl), k_is_told_otherwise := F_is_told_otherwise.kp, b_is_told_otherwise := b_is_told_otherwise, f_Course_init := He.fAd K ("Course", some "__init__"), d_Course_init := d_Course_init, F_Course_init := F_Course_init, b_Course_init := b_Course_init, f_Course_deliver := He.fAd K ("Course", some "_deliver"), d_Course_deliver := d_Course_deliver, F_Course_deliver := F_Course_deliver, b_Course_deliver := b_Course_deliver, f_Course_send := He.fAd K ("Course", some "_send"), d_Course_send := d_Course_send, F_Course_send := F_Course_send, b_Course_send := b_Course_send, f_Course_happen := He.fAd K ("Course", some "_happen"), d_Course_happen := d_Course_happen, F_Course_happen := F_Course_happen, b_Course_happen := b_Course_happen, f_Course_why_not_got := He.fAd K ("Course", some "_why_not_got"), d_Course_why_not_got := d_Course_why_not_got, F_Course_why_not_got := F_Course_why_not_got, b_Course_why_not_got := b_Course_why_not_got, f_Course_why_not_told := He.fAd K ("Course", some "_why_not_told"), d_Course_why_not_told := d_Course_why_not_told, F_Course_why_not_told := F_Course_why_not_told, b_Course_why_not_told := b_Course_why_not_told, f_Course_why_not := He.fAd K ("Course", some "_why_not"), d_Course_why_not := d_Course_why_not, F_Course_why_not := F_Course_why_not, b_Course_why_not := b_Course_why_not, f_Course_follow := He.fAd K ("Course", some "follow"), d_Course_follow := d_Course_follow, F_Course_follow := F_Course_follow, b_Course_follow := b_Course_follow, f_first_wrong := He.fAd K ("first_wrong", none), d_first_wrong := d_first_wrong, F_first_wrong := F_first_wrong, m_first_wrong := He.glo_ok X G (c.fact 65 (f := .glo "first_wrong") rfl), k_first_wrong := F_first_wrong.kp, b_first_wrong := b_first_wrong, f_law_model := He.fAd K ("_law_model", none), d_law_model := d_law_model, F_law_model := F_law_model, m_law_model := He.glo_ok X G (c.fact 66 (f := .glo "_law_model") rfl), k_law_model := F_law_model.kp, b_law_model := b_law_model, f_law_otherwise := He.fAd K ("_law_otherwise", none), d_law_otherwise := d_law_otherwise, F_law_otherwise := F_law_otherwise, m_law_otherwise := He.glo_ok X G (c.fact 67 (f := .glo "_law_otherwise") rfl), k_law_otherwise := F_law_otherwise.kp, b_law_otherwise := b_law_otherwise, f_law_has := He.fAd K ("_law_has", none), d_law_has := d_law_has, F_law_has := F_law_has, m_law_has := He.glo_ok X G (c.fact 68 (f := .glo "_law_has") rfl), k_law_has := F_law_has.kp, b_law_has := b_law_has, f_law_why_got := He.fAd K ("_law_why_got", none), d_law_why_got := d_law_why_got, F_law_why_got := F_law_why_got, m_law_why_got := He.glo_ok X G (c.fact 69 (f := .glo "_law_why_got") rfl), k_law_why_got := F_law_why_got.kp, b_law_why_got := b_law_why_got, f_law_why := He.fAd K ("_law_why", none), d_law_why := d_law_why, F_law_why := F_law_why, m_law_why := He.glo_ok X G (c.fact 70 (f := .glo "_law_why") rfl), k_law_why := F_law_why.kp, b_law_why := b_law_why, f_law_go := He.fAd K ("_law_go", none), d_law_go := d_law_go, F_law_go := F_law_go, m_law_go := He.glo_ok X G (c.fact 71 (f := .glo "_law_go") rfl), k_law_go := F_law_go.kp, b_law_go := b_law_go, f_law_may := He.fAd K ("_law_may", none), d_law_may := d_law_may, F_law_may := F_law_may, m_law_may := He.glo_ok X G (c.fact 72 (f := .glo "_law_may") rfl), k_law_may := F_law_may.kp, b_law_may := b_law_may, f_law_new_row := He.fAd K ("_law_new_row", none), d_law_new_row := d_law_new_row, F_law_new_row := F_law_new_row, m_law_new_row := He.glo_ok X G (c.fact 73 (f := .glo "_law_new_row") rfl), k_law_new_row := F_law_new_row.kp, b_law_new_row := b_law_new_row, f_law_rows := He.fAd K ("_law_rows", none), d_law_rows := d_law_rows, F_law_rows := F_law_rows, m_law_rows := He.glo_ok X G (c.fact 74 (f := .glo "_law_rows") rfl), k_law_rows := F_law_rows.kp, b_law_rows := b_law_rows, f_Book_twin := He.fAd K ("Book", some "twin"), d_Book_twin := d_Book_twin, F_Book_twin := F_Book_twin, b_Book_twin := b_Book_twin, f_Course_book := He.fAd K ("Course", some "book"), d_Course_book := d_Course_book, F_Course_book := F_Course_book, b_Course_book := b_Course_book, f_Course_got := He.fAd K ("Course", some "got"), d_Course_got := d_Course_got, F_Course_got := F_Course_got, b_Course_got := b_Course_got, f_Course_told := He.fAd K ("Course", some "told"), d_Course_told := d_Course_told, F_Course_told := F_Course_told, b_Course_told := b_Course_told, f_course_of := He.fAd K ("course_of", none), d_course_of := d_course_of, F_course_of := F_course_of, m_course_of := He.glo_ok X G (c.fact 75 (f := .glo "course_of") rfl), k_course_of := F_course_of.kp, b_course_of := b_course_of, f_book_of := He.fAd K ("book_of", none), d_book_of := d_book_of, F_book_of := F_book_of, m_book_of := He.glo_ok X G (c.fact 76 (f := .glo "book_of") rfl), k_book_of := F_book_of.kp, b_book_of := b_book_of, f_got_by := He.fAd K ("got_by", none), d_got_by := d_got_by, F_got_by := F_got_by, m_got_by := He.glo_ok X G (c.fact 77 (f := .glo "got_by") rfl), k_got_by := F_got_by.kp, b_got_by := b_got_by, f_told_by := He.fAd K ("told_by", none), d_told_by := d_told_by, F_told_by := F_told_by, m_told_by := He.glo_ok X G (c.fact 78 (f := .glo "told_by") rfl), k_told_by := F_told_by.kp, b_told_by := b_told_by, f_longest_told := He.fAd K ("longest_told", none), d_longest_told := d_longest_told, F_longest_told := F_longest_told, m_longest_told := He.glo_ok X G (c.fact 79 (f := .glo "longest_told") rfl), k_longest_told := F_longest_told.kp, b_longest_told := b_longest_told, f_Book_is_order := He.fAd K ("Book", some "is_order"), d_Book_is_order := d_Book_is_order, F_Book_is_order := F_Book_is_order, b_Book_is_order := b_Book_is_order, f_law_left := He.fAd K ("_law_left", none), d_law_left := d_law_left, F_law_left := F_law_left, m_law_left := He.glo_ok X G (c.fact 80 (f := .glo "_law_left") rfl), k_law_left := F_law_left.kp, b_law_left := b_law_left, f_law_keeps := He.fAd K ("_law_keeps", none), d_law_keeps := d_law_keeps, F_law_keeps := F_law_keeps, m_law_keeps := He.glo_ok X G (c.fact 81 (f := .glo "_law_keeps") rfl), k_law_keeps := F_law_keeps.kp, b_law_keeps := b_law_keeps, f_law := He.fAd K ("law", none), d_law := d_law, F_law := F_law, m_law := He.glo_ok X G (c.fact 82 (f := .glo "law") rfl), k_law := F_law.kp, b_law := b_law, C_Book := He.ga K "Book", g_Book := g_Book, c_Book := c_Book, ha_Book := (of_decide_eq_true (hz 2 _ rfl)), hm_Book := (of_decide_eq_true (hz 3 _ rfl)), n_Book__members := He.noat_ok (c.fact 83 (f := .noat "Book" "_members") rfl), n_Book__letters := He.noat_ok (c.fact 84 (f := .noat "Book" "_letters") rfl), n_Book__counts := He.noat_ok (c.fact 85 (f := .noat "Book" "_counts") rfl), n_Book__waits := He.noat_ok (c.fact 86 (f := .noat "Book" "_waits") rfl), mk_Book := mkk_Book, mt_Book_len := mt_Book_len, mt_Book_counts := mt_Book_counts, mt_Book_letter := mt_Book_letter, mt_Book_ahead := mt_Book_ahead, mt_Book_check_new := mt_Book_check_new, mt_Book_covers_its_causes := mt_Book_covers_its_causes, mt_Book_keep := mt_Book_keep, mt_Book_twin := mt_Book_twin, mt_Book_is_order := mt_Book_is_order, C_Counts := He.ga K "Counts", g_Counts := g_Counts, c_Counts := c_Counts, ha_Counts := (of_decide_eq_true (hz 4 _ rfl)), hm_Counts := (of_decide_eq_true (hz 5 _ rfl)), hdx_Counts := hdx_Counts, ty_Counts := (of_decide_eq_true (hz 6 _ rfl)), nt_NoneType_Counts := (of_decide_eq_true (hz 7 _ rfl)), nt_bool_Counts := (of_decide_eq_true (hz 8 _ rfl)), nt_int_Counts := (of_decide_eq_true (hz 9 _ rfl)), nt_str_Counts := (of_decide_eq_true (hz 10 _ rfl)), nt_list_Counts := (of_decide_eq_true (hz 11 _ rfl)), nt_tuple_Counts := (of_decide_eq_true (hz 12 _ rfl)), nt_dict_Counts := (of_decide_eq_true (hz 13 _ rfl)), n_Counts__numbers := He.noat_ok (c.fact 87 (f := .noat "Counts" "_numbers") rfl), mk_Counts := mkk_Counts, mt_Counts_len := mt_Counts_len, mt_Counts_told := mt_Counts_told, mt_Counts_of := mt_Counts_of, mt_Counts_changed := mt_Counts_changed, mt_Counts_raised := mt_Counts_raised, mt_Counts_check_like := mt_Counts_check_like, mt_Counts_changes_from := mt_Counts_changes_from, mt_Counts_covers := mt_Counts_covers, C_Course := He.ga K "Course", g_Course := g_Course, c_Course := c_Course, ha_Course := (of_decide_eq_true (hz 14 _ rfl)), hm_Course := (of_decide_eq_true (hz 15 _ rfl)), n_Course__book := He.noat_ok (c.fact 88 (f := .noat "Course" "_book") rfl), n_Course__counts := He.noat_ok (c.fact 89 (f := .noat "Course" "_counts") rfl), n_Course__got := He.noat_ok (c.fact 90 (f := .noat "Course" "_got") rfl), n_Course__told := He.noat_ok (c.fact 91 (f := .noat "Course" "_told") rfl), mk_Course := mkk_Course, mt_Course_deliver := mt_Course_deliver, mt_Course_send := mt_Course_send, mt_Course_happen := mt_Course_happen, mt_Course_why_not_got := mt_Course_why_not_got, mt_Course_why_not_told := mt_Course_why_not_told, mt_Course_why_not := mt_Course_why_not, mt_Course_follow := mt_Course_follow, mt_Course_book := mt_Course_book, mt_Course_got := mt_Course_got, mt_Course_told := mt_Course_told, C_Letter := He.ga K "Letter", g_Letter := g_Letter, c_Letter := c_Letter, ha_Letter := (of_decide_eq_true (hz 16 _ rfl)), hm_Letter := (of_decide_eq_true (hz 17 _ rfl)), hdx_Letter := hdx_Letter, ty_Letter := (of_decide_eq_true (hz 18 _ rfl)), nt_NoneType_Letter := (of_decide_eq_true (hz 19 _ rfl)), nt_bool_Letter := (of_decide_eq_true (hz 20 _ rfl)), nt_int_Letter := (of_decide_eq_true (hz 21 _ rfl)), nt_str_Letter := (of_decide_eq_true (hz 22 _ rfl)), nt_list_Letter := (of_decide_eq_true (hz 23 _ rfl)), nt_tuple_Letter := (of_decide_eq_true (hz 24 _ rfl)), nt_dict_Letter := (of_decide_eq_true (hz 25 _ rfl)), n_Letter__sender := He.noat_ok (c.fact 92 (f := .noat "Letter" "_sender") rfl), n_Letter__number := He.noat_ok (c.fact 93 (f := .noat "Letter" "_number") rfl), n_Letter__word := He.noat_ok (c.fact 94 (f := .noat "Letter" "_word") rfl), n_Letter__causes := He.noat_ok (c.fact 95 (f := .noat "Letter" "_causes") rfl), mk_Letter := mkk_Letter, mt_Letter_sender := mt_Letter_sender, mt_Letter_number := mt_Letter_number, mt_Letter_causes := mt_Letter_causes, mt_Letter_id_of := mt_Letter_id_of, hn := (of_decide_eq_true (hz 26 _ rfl)), htk := (of_decide_eq_true (hz 27 _ rfl)), ki_Counts := (of_decide_eq_true (hz 28 _ rfl)), kl_Counts := (of_decide_eq_true (hz 29 _ rfl)), kt_Counts := (of_decide_eq_true (hz 30 _ rfl)), z_all := He.free_ok X G (c.fact 96 (f := .free "all") rfl), z_any := He.free_ok X G (c.fact 97 (f := .free "any") rfl), z_bool := He.free_ok X G (c.fact 98 (f := .free "bool") rfl), z_enumerate := He.free_ok X G (c.fact 99 (f := .free "enumerate") rfl), z_int := He.free_ok X G (c.fact 100 (f := .free "int") rfl), z_isinstance := He.free_ok X G (c.fact 101 (f := .free "isinstance") rfl), z_len := He.free_ok X G (c.fact 102 (f := .free "len") rfl), z_list := He.free_ok X G (c.fact 103 (f := .free "list") rfl), z_max := He.free_ok X G (c.fact 104 (f := .free "max") rfl), z_range := He.free_ok X G (c.fact 105 (f := .free "range") rfl), z_str := He.free_ok X G (c.fact 106 (f := .free "str") rfl), z_sum := He.free_ok X G (c.fact 107 (f := .free "sum") rfl), z_tuple := He.free_ok X G (c.fact 108 (f := .free "tuple") rfl), z_zip := He.free_ok X G (c.fact 109 (f := .free "zip") rfl), t_BITS := t_BITS, g_BITS := gg_BITS, t_LEAST_MEMBERS := t_LEAST_MEMBERS, g_LEAST_MEMBERS := gg_LEAST_MEMBERS, t_MOST_LETTERS := t_MOST_LETTERS, g_MOST_LETTERS := gg_MOST_LETTERS, t_MOST_MEMBERS := t_MOST_MEMBERS, g_MOST_MEMBERS := gg_MOST_MEMBERS, t_MOST_ROWS := t_MOST_ROWS, g_MOST_ROWS := gg_MOST_ROWS, t_MOST_SIGNS := t_MOST_SIGNS, g_MOST_SIGNS := gg_MOST_SIGNS }
  have hbl := FunD.bindsA (ps := ["script"]) FL_law fun _ _ _ _ _ _ us hl => match us, hl with | [_], _ => rfl
  exact ⟨_, fun s v => hbl s [v] rfl, fun base _ _ => ok_law T⟩
end CH
instance : CH.PF (PySem.Challenge.rw_causehall_k18_whole_one_row_told).prog := ⟨by rfl, by decide +kernel⟩
open PySem PySem.W PySem.Calls PyProof.Rows
set_option maxRecDepth 100000 in
set_option maxHeartbeats 0 in
theorem PySem.Challenge.cw_causehall_k18_whole_one_row_told_holds : PySem.Challenge.rw_causehall_k18_whole_one_row_told.Holds := by
  w_on; o_law
  refine HandSHeadRun.head_any (r := CH.hR) (q := view CH.hR.prog [76]) (H := CH.hhk) (ob := CH.hob) (M := 60000) (loose := CH.hnames) (d := HandSHeadRun.topDef CH.hR.prog 76) (kwd := []) CH.hob_eq
    (by kernel_rfl) (fun s => by kernel_rfl) CH.hrun (by kernel_rfl) (by kernel_rfl) (by kernel_rfl) (by rfl) (by first | assumption | decide +kernel) (by decide +kernel) ⟨rfl, rfl, rfl, rfl, rfl, by decide +kernel⟩ ?hw ?hc
  case hw => w_witness2
  case hc =>
    refine L2.walk_ofE (l := PySem.Challenge.rw_causehall_k18_whole_one_row_told) (n := 63) (k := 17) (x := "script") (CX := L2.CX0) rfl (by decide) (by kernel_rfl) ⟨rfl, by decide, by decide⟩ ?F (fun _ _ _ _ z => z)
    intro w mg fa h Y G hmg0
    obtain ⟨K, KX, c, c2, c3⟩ := Y
    have hmg : mg ("law" : PySem.Str) = some (.ref fa) := by
      have e : (HandSHeadRun.topDef CH.hR.prog 76).name = ("law" : PySem.Str) := by kernel_rfl
      rw [← e]
      exact hmg0
    obtain ⟨fd, hb, hF⟩ := CH.all_mk (P := (PySem.Challenge.rw_causehall_k18_whole_one_row_told).prog) (w := w) KX G hmg c c2 c3
    exact ⟨K, fd, CH.sp_law K, KX, hb, fun H a ns hl _ hS => ⟨a, ns, rfl, hS, hl, fun _ => rfl⟩, hF⟩
