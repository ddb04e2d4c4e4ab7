import PyProof.Rows.All
import Wide.All
import OpenK.AllK
import Wide.FinOn
import HandS.ForMost
import HandS.IsInst
import HandS.Wide
import HandS.Evl
import HandS.DictComp
import HandS.Conv
import HandS.More
import HandS.Deep
import HandS.ForExc
import HandS.ExcInit
import HandS.ExcField
import HandS.ExcIs
import HandS.Property
import KE.KExcIs
import HandS.NoneIn
import HandS.DeepEq
import HandS.Finally
import HandS.Codes
import HandS.Rev
import KE.DataCmp
import PySem.Challenge.RW_cappedcalls_k05_schema_equal_and_uncappe
set_option Elab.async false
set_option linter.all false
set_option maxRecDepth 100000
set_option maxHeartbeats 4000000
namespace My
open PySem PySem.Spec PyProof.Rows L2
def topS (i : Nat) : Stmt := PySem.Challenge.pw_cappedcalls_k05_schema_equal_and_uncappe.main.body.getD i (.Pass ⟨0, 0, 0, 0⟩)
abbrev s_UnknownName___init__ : Stmt := inClass (topS 3) 0
theorem sc_UnknownName___init__ : FnScope ["self", "name"] ["self", "name"] (defScope s_UnknownName___init__) := ⟨rfl, rfl, rfl, by decide +kernel, rfl, by decide +kernel, by decide +kernel⟩
abbrev s_is_plain_int : Stmt := topS 7
theorem sc_is_plain_int : FnScope ["thing"] ["thing"] (defScope s_is_plain_int) := ⟨rfl, rfl, rfl, by decide +kernel, rfl, by decide +kernel, by decide +kernel⟩
abbrev s_is_word : Stmt := topS 8
theorem sc_is_word : FnScope ["thing", "letter"] ["thing"] (defScope s_is_word) := ⟨rfl, rfl, rfl, by decide +kernel, rfl, by decide +kernel, by decide +kernel⟩
abbrev s__is_count : Stmt := topS 14
theorem sc__is_count : FnScope ["thing", "most"] ["thing", "most"] (defScope s__is_count) := ⟨rfl, rfl, rfl, by decide +kernel, rfl, by decide +kernel, by decide +kernel⟩
abbrev s__is_name_in : Stmt := topS 15
theorem sc__is_name_in : FnScope ["thing", "names"] ["thing", "names"] (defScope s__is_name_in) := ⟨rfl, rfl, rfl, by decide +kernel, rfl, by decide +kernel, by decide +kernel⟩
abbrev s__are_columns : Stmt := topS 16
theorem sc__are_columns : FnScope ["thing", "width", "least", "column"] ["thing", "width"] (defScope s__are_columns) := ⟨rfl, rfl, rfl, by decide +kernel, rfl, by decide +kernel, by decide +kernel⟩
abbrev s__is_key : Stmt := topS 17
theorem sc__is_key : FnScope ["thing", "width"] ["thing", "width"] (defScope s__is_key) := ⟨rfl, rfl, rfl, by decide +kernel, rfl, by decide +kernel, by decide +kernel⟩
abbrev s__is_service : Stmt := topS 18
theorem sc__is_service : FnScope ["thing", "tables", "table", "given", "cap"] ["thing", "tables"] (defScope s__is_service) := ⟨rfl, rfl, rfl, by decide +kernel, rfl, by decide +kernel, by decide +kernel⟩
abbrev s__is_whole_service : Stmt := topS 19
theorem sc__is_whole_service : FnScope ["service", "tables", "keys", "table", "given", "cap", "column"] ["service", "tables", "keys"] (defScope s__is_whole_service) := ⟨rfl, rfl, rfl, by decide +kernel, rfl, by decide +kernel, by decide +kernel⟩
abbrev s__check_tables : Stmt := topS 20
theorem sc__check_tables : FnScope ["tables", "name"] ["tables"] (defScope s__check_tables) := ⟨rfl, rfl, rfl, by decide +kernel, rfl, by decide +kernel, by decide +kernel⟩
abbrev s__check_keys : Stmt := topS 21
theorem sc__check_keys : FnScope ["keys", "tables", "name"] ["keys", "tables"] (defScope s__check_keys) := ⟨rfl, rfl, rfl, by decide +kernel, rfl, by decide +kernel, by decide +kernel⟩
abbrev s__check_services : Stmt := topS 22
theorem sc__check_services : FnScope ["services", "tables", "name"] ["services", "tables"] (defScope s__check_services) := ⟨rfl, rfl, rfl, by decide +kernel, rfl, by decide +kernel, by decide +kernel⟩
abbrev s__check_capped : Stmt := topS 23
theorem sc__check_capped : FnScope ["services", "tables", "keys", "capped_tables", "name", "service"] ["services", "tables", "keys"] (defScope s__check_capped) := ⟨rfl, rfl, rfl, by decide +kernel, rfl, by decide +kernel, by decide +kernel⟩
abbrev s__copied : Stmt := topS 24
theorem sc__copied : FnScope ["things", "name"] ["things"] (defScope s__copied) := ⟨rfl, rfl, rfl, by decide +kernel, rfl, by decide +kernel, by decide +kernel⟩
abbrev s_Schema___init__ : Stmt := inClass (topS 25) 0
theorem sc_Schema___init__ : FnScope ["self", "tables", "keys", "services"] ["self", "tables", "keys", "services"] (defScope s_Schema___init__) := ⟨rfl, rfl, rfl, by decide +kernel, rfl, by decide +kernel, by decide +kernel⟩
abbrev s_Schema_tables : Stmt := inClass (topS 25) 1
theorem sc_Schema_tables : FnScope ["self"] ["self"] (defScope s_Schema_tables) := ⟨rfl, rfl, rfl, by decide +kernel, rfl, by decide +kernel, by decide +kernel⟩
abbrev s_Schema_key_columns : Stmt := inClass (topS 25) 2
theorem sc_Schema_key_columns : FnScope ["self"] ["self"] (defScope s_Schema_key_columns) := ⟨rfl, rfl, rfl, by decide +kernel, rfl, by decide +kernel, by decide +kernel⟩
abbrev s_Schema_services : Stmt := inClass (topS 25) 3
theorem sc_Schema_services : FnScope ["self"] ["self"] (defScope s_Schema_services) := ⟨rfl, rfl, rfl, by decide +kernel, rfl, by decide +kernel, by decide +kernel⟩
abbrev s_Schema___eq__ : Stmt := inClass (topS 25) 4
theorem sc_Schema___eq__ : FnScope ["self", "other"] ["self", "other"] (defScope s_Schema___eq__) := ⟨rfl, rfl, rfl, by decide +kernel, rfl, by decide +kernel, by decide +kernel⟩
abbrev s_Schema_service_names : Stmt := inClass (topS 25) 6
theorem sc_Schema_service_names : FnScope ["self"] ["self"] (defScope s_Schema_service_names) := ⟨rfl, rfl, rfl, by decide +kernel, rfl, by decide +kernel, by decide +kernel⟩
abbrev s_Schema_capped_names : Stmt := inClass (topS 25) 7
theorem sc_Schema_capped_names : FnScope ["self", "name"] ["self"] (defScope s_Schema_capped_names) := ⟨rfl, rfl, rfl, by decide +kernel, rfl, by decide +kernel, by decide +kernel⟩
abbrev s_Schema_service_of : Stmt := inClass (topS 25) 10
theorem sc_Schema_service_of : FnScope ["self", "name"] ["self", "name"] (defScope s_Schema_service_of) := ⟨rfl, rfl, rfl, by decide +kernel, rfl, by decide +kernel, by decide +kernel⟩
abbrev s_Schema_is_whole : Stmt := inClass (topS 25) 11
theorem sc_Schema_is_whole : FnScope ["self", "name"] ["self", "name"] (defScope s_Schema_is_whole) := ⟨rfl, rfl, rfl, by decide +kernel, rfl, by decide +kernel, by decide +kernel⟩
abbrev s_Schema_uncapped : Stmt := inClass (topS 25) 12
theorem sc_Schema_uncapped : FnScope ["self", "names", "services", "name", "table", "given", "_"] ["self", "names"] (defScope s_Schema_uncapped) := ⟨rfl, rfl, rfl, by decide +kernel, rfl, by decide +kernel, by decide +kernel⟩
abbrev s__law_pool : Stmt := topS 27
theorem sc__law_pool : FnScope ["_law_script", "_law_cell"] ["_law_script"] (defScope s__law_pool) := ⟨rfl, rfl, rfl, by decide +kernel, rfl, by decide +kernel, by decide +kernel⟩
abbrev s__law_mixed : Stmt := topS 28
theorem sc__law_mixed : FnScope ["_law_seed", "_law_count", "_law_number"] ["_law_seed", "_law_count"] (defScope s__law_mixed) := ⟨rfl, rfl, rfl, by decide +kernel, rfl, by decide +kernel, by decide +kernel⟩
abbrev s__law_draw : Stmt := topS 29
theorem sc__law_draw : FnScope ["_law_pool_here", "_law_many", "_law_cell", "_law_found"] ["_law_pool_here", "_law_many"] (defScope s__law_draw) := ⟨rfl, rfl, rfl, by decide +kernel, rfl, by decide +kernel, by decide +kernel⟩
abbrev s__law_word : Stmt := topS 30
theorem sc__law_word : FnScope ["_law_pool_here", "_law_many", "_law_letters", "_law_word_here", "_law_k"] ["_law_pool_here", "_law_many"] (defScope s__law_word) := ⟨rfl, rfl, rfl, by decide +kernel, rfl, by decide +kernel, by decide +kernel⟩
abbrev s__law_names : Stmt := topS 31
theorem sc__law_names : FnScope ["_law_pool_here", "_law_many", "_law_letters", "_law_stem", "_law_first", "_law_step", "_law_front", "_law_found", "_law_k", "_law_sign"] ["_law_pool_here", "_law_many"] (defScope s__law_names) := ⟨rfl, rfl, rfl, by decide +kernel, rfl, by decide +kernel, by decide +kernel⟩
abbrev s__law_columns : Stmt := topS 32
theorem sc__law_columns : FnScope ["_law_pool_here", "_law_width", "_law_low", "_law_high", "_law_chosen", "_law_column"] ["_law_pool_here", "_law_width", "_law_low", "_law_high"] (defScope s__law_columns) := ⟨rfl, rfl, rfl, by decide +kernel, rfl, by decide +kernel, by decide +kernel⟩
abbrev s__law_tables : Stmt := topS 33
theorem sc__law_tables : FnScope ["_law_pool_here", "_law_many", "_law_widest", "_law_names_here", "_law_tables_here", "_law_name"] ["_law_pool_here", "_law_many", "_law_widest"] (defScope s__law_tables) := ⟨rfl, rfl, rfl, by decide +kernel, rfl, by decide +kernel, by decide +kernel⟩
abbrev s__law_keys : Stmt := topS 34
theorem sc__law_keys : FnScope ["_law_pool_here", "_law_tables_here", "_law_keys_here", "_law_name"] ["_law_pool_here", "_law_tables_here"] (defScope s__law_keys) := ⟨rfl, rfl, rfl, by decide +kernel, rfl, by decide +kernel, by decide +kernel⟩
abbrev s__law_is_whole : Stmt := topS 35
theorem sc__law_is_whole : FnScope ["_law_tables_here", "_law_keys_here", "_law_told", "_law_table", "_law_given", "_law_cap", "_law_column"] ["_law_tables_here", "_law_keys_here", "_law_told"] (defScope s__law_is_whole) := ⟨rfl, rfl, rfl, by decide +kernel, rfl, by decide +kernel, by decide +kernel⟩
abbrev s__law_services : Stmt := topS 36
theorem sc__law_services : FnScope ["_law_pool_here", "_law_tables_here", "_law_keys_here", "_law_caps", "_law_more", "_law_order", "_law_names_here", "_law_services_here", "_law_filled", "_law_k", "_law_table", "_law_cap", "_law_told"] ["_law_pool_here", "_law_tables_here", "_law_keys_here", "_law_caps", "_law_more"] (defScope s__law_services) := ⟨rfl, rfl, rfl, by decide +kernel, rfl, by decide +kernel, by decide +kernel⟩
abbrev s__law_schema_parts : Stmt := topS 37
theorem sc__law_schema_parts : FnScope ["_law_pool_here", "_law_many", "_law_widest", "_law_caps", "_law_more", "_law_tables_here", "_law_keys_here"] ["_law_pool_here", "_law_many", "_law_widest", "_law_caps", "_law_more"] (defScope s__law_schema_parts) := ⟨rfl, rfl, rfl, by decide +kernel, rfl, by decide +kernel, by decide +kernel⟩
abbrev s__law_pick : Stmt := topS 38
theorem sc__law_pick : FnScope ["_law_pool_here", "_law_row"] ["_law_pool_here", "_law_row"] (defScope s__law_pick) := ⟨rfl, rfl, rfl, by decide +kernel, rfl, by decide +kernel, by decide +kernel⟩
abbrev s__law_turned : Stmt := topS 39
theorem sc__law_turned : FnScope ["_law_table", "_law_found", "_law_name"] ["_law_table"] (defScope s__law_turned) := ⟨rfl, rfl, rfl, by decide +kernel, rfl, by decide +kernel, by decide +kernel⟩
abbrev s__law_changed : Stmt := topS 40
theorem sc__law_changed : FnScope ["_law_pool_here", "_law_tables_here", "_law_keys_here", "_law_services_here", "_law_kind", "_law_free", "_law_name"] ["_law_pool_here", "_law_tables_here", "_law_keys_here", "_law_services_here"] (defScope s__law_changed) := ⟨rfl, rfl, rfl, by decide +kernel, rfl, by decide +kernel, by decide +kernel⟩
abbrev s__law_fits : Stmt := topS 41
theorem sc__law_fits : FnScope ["_law_tables_here", "_law_keys_here", "_law_services_here", "_law_filled", "_law_name"] ["_law_tables_here", "_law_keys_here", "_law_services_here"] (defScope s__law_fits) := ⟨rfl, rfl, rfl, by decide +kernel, rfl, by decide +kernel, by decide +kernel⟩
abbrev s__law_uncapped_due : Stmt := topS 42
theorem sc__law_uncapped_due : FnScope ["_law_services_here", "_law_names_here", "_law_found", "_law_name", "_law_table", "_law_given", "_law_cap"] ["_law_services_here", "_law_names_here"] (defScope s__law_uncapped_due) := ⟨rfl, rfl, rfl, by decide +kernel, rfl, by decide +kernel, by decide +kernel⟩
abbrev s__law_uncapped_holds : Stmt := topS 43
theorem sc__law_uncapped_holds : FnScope ["_law_schema", "_law_tables_here", "_law_keys_here", "_law_services_here", "_law_names_here", "_law_unknown", "_law_handed", "_law_told", "_law_word_here", "_law_under", "e", "_law_due", "_law_whole", "_law_name"] ["_law_schema", "_law_tables_here", "_law_keys_here", "_law_services_here", "_law_names_here"] (defScope s__law_uncapped_holds) := ⟨rfl, rfl, rfl, by decide +kernel, rfl, by decide +kernel, by decide +kernel⟩
abbrev s_law : Stmt := topS 44
theorem sc_law : FnScope ["_law_script", "_law_pool_here", "_law_change", "_law_unknown", "_law_tables_here", "_law_keys_here", "_law_services_here", "_law_schema", "_law_one", "_law_two", "_law_three", "_law_other", "_law_due", "_law_names_here", "_law_asked", "_law_name"] ["_law_script"] (defScope s_law) := ⟨rfl, rfl, rfl, by decide +kernel, rfl, by decide +kernel, by decide +kernel⟩
/-- what the top has written, as the walks ask for it -/
structure Txt (K : PySem.W.Frag) (mg : Str → Option Value) (a : Nat → Addr) (d : Nat → FuncData) : Prop where
  F1300 : Fun K "__init__" "UnknownName.__init__" s_UnknownName___init__ (a 1300) (d 1300)
  b1300 : Binds K (d 1300) ["self", "name"] []
  F7 : Fun K "is_plain_int" "is_plain_int" s_is_plain_int (a 7) (d 7)
  b7 : Binds K (d 7) ["thing"] []
  g7 : mg "is_plain_int" = some (.ref (a 7))
  F8 : Fun K "is_word" "is_word" s_is_word (a 8) (d 8)
  b8 : Binds K (d 8) ["thing"] []
  g8 : mg "is_word" = some (.ref (a 8))
  F14 : Fun K "_is_count" "_is_count" s__is_count (a 14) (d 14)
  b14 : Binds K (d 14) ["thing", "most"] []
  g14 : mg "_is_count" = some (.ref (a 14))
  F15 : Fun K "_is_name_in" "_is_name_in" s__is_name_in (a 15) (d 15)
  b15 : Binds K (d 15) ["thing", "names"] []
  g15 : mg "_is_name_in" = some (.ref (a 15))
  F16 : Fun K "_are_columns" "_are_columns" s__are_columns (a 16) (d 16)
  b16 : Binds K (d 16) ["thing", "width"] []
  g16 : mg "_are_columns" = some (.ref (a 16))
  F17 : Fun K "_is_key" "_is_key" s__is_key (a 17) (d 17)
  b17 : Binds K (d 17) ["thing", "width"] []
  g17 : mg "_is_key" = some (.ref (a 17))
  F18 : Fun K "_is_service" "_is_service" s__is_service (a 18) (d 18)
  b18 : Binds K (d 18) ["thing", "tables"] []
  g18 : mg "_is_service" = some (.ref (a 18))
  F19 : Fun K "_is_whole_service" "_is_whole_service" s__is_whole_service (a 19) (d 19)
  b19 : Binds K (d 19) ["service", "tables", "keys"] []
  g19 : mg "_is_whole_service" = some (.ref (a 19))
  F20 : Fun K "_check_tables" "_check_tables" s__check_tables (a 20) (d 20)
  b20 : Binds K (d 20) ["tables"] []
  g20 : mg "_check_tables" = some (.ref (a 20))
  F21 : Fun K "_check_keys" "_check_keys" s__check_keys (a 21) (d 21)
  b21 : Binds K (d 21) ["keys", "tables"] []
  g21 : mg "_check_keys" = some (.ref (a 21))
  F22 : Fun K "_check_services" "_check_services" s__check_services (a 22) (d 22)
  b22 : Binds K (d 22) ["services", "tables"] []
  g22 : mg "_check_services" = some (.ref (a 22))
  F23 : Fun K "_check_capped" "_check_capped" s__check_capped (a 23) (d 23)
  b23 : Binds K (d 23) ["services", "tables", "keys"] []
  g23 : mg "_check_capped" = some (.ref (a 23))
  F24 : Fun K "_copied" "_copied" s__copied (a 24) (d 24)
  b24 : Binds K (d 24) ["things"] []
  g24 : mg "_copied" = some (.ref (a 24))
  F3500 : Fun K "__init__" "Schema.__init__" s_Schema___init__ (a 3500) (d 3500)
  b3500 : Binds K (d 3500) ["self", "tables", "keys", "services"] []
  F3501 : Fun K "tables" "Schema.tables" s_Schema_tables (a 3501) (d 3501)
  b3501 : Binds K (d 3501) ["self"] []
  F3502 : Fun K "key_columns" "Schema.key_columns" s_Schema_key_columns (a 3502) (d 3502)
  b3502 : Binds K (d 3502) ["self"] []
  F3503 : Fun K "services" "Schema.services" s_Schema_services (a 3503) (d 3503)
  b3503 : Binds K (d 3503) ["self"] []
  F3504 : Fun K "__eq__" "Schema.__eq__" s_Schema___eq__ (a 3504) (d 3504)
  b3504 : Binds K (d 3504) ["self", "other"] []
  F3506 : Fun K "service_names" "Schema.service_names" s_Schema_service_names (a 3506) (d 3506)
  b3506 : Binds K (d 3506) ["self"] []
  F3507 : Fun K "capped_names" "Schema.capped_names" s_Schema_capped_names (a 3507) (d 3507)
  b3507 : Binds K (d 3507) ["self"] []
  F3510 : Fun K "service_of" "Schema.service_of" s_Schema_service_of (a 3510) (d 3510)
  b3510 : Binds K (d 3510) ["self", "name"] []
  F3511 : Fun K "is_whole" "Schema.is_whole" s_Schema_is_whole (a 3511) (d 3511)
  b3511 : Binds K (d 3511) ["self", "name"] []
  F3512 : Fun K "uncapped" "Schema.uncapped" s_Schema_uncapped (a 3512) (d 3512)
  b3512 : Binds K (d 3512) ["self", "names"] []
  F27 : Fun K "_law_pool" "_law_pool" s__law_pool (a 27) (d 27)
  b27 : Binds K (d 27) ["_law_script"] []
  g27 : mg "_law_pool" = some (.ref (a 27))
  F28 : Fun K "_law_mixed" "_law_mixed" s__law_mixed (a 28) (d 28)
  b28 : Binds K (d 28) ["_law_seed", "_law_count"] []
  g28 : mg "_law_mixed" = some (.ref (a 28))
  F29 : Fun K "_law_draw" "_law_draw" s__law_draw (a 29) (d 29)
  b29 : Binds K (d 29) ["_law_pool_here", "_law_many"] []
  g29 : mg "_law_draw" = some (.ref (a 29))
  F30 : Fun K "_law_word" "_law_word" s__law_word (a 30) (d 30)
  b30 : Binds K (d 30) ["_law_pool_here", "_law_many"] []
  g30 : mg "_law_word" = some (.ref (a 30))
  F31 : Fun K "_law_names" "_law_names" s__law_names (a 31) (d 31)
  b31 : Binds K (d 31) ["_law_pool_here", "_law_many"] []
  g31 : mg "_law_names" = some (.ref (a 31))
  F32 : Fun K "_law_columns" "_law_columns" s__law_columns (a 32) (d 32)
  b32 : Binds K (d 32) ["_law_pool_here", "_law_width", "_law_low", "_law_high"] []
  g32 : mg "_law_columns" = some (.ref (a 32))
  F33 : Fun K "_law_tables" "_law_tables" s__law_tables (a 33) (d 33)
  b33 : Binds K (d 33) ["_law_pool_here", "_law_many", "_law_widest"] []
  g33 : mg "_law_tables" = some (.ref (a 33))
  F34 : Fun K "_law_keys" "_law_keys" s__law_keys (a 34) (d 34)
  b34 : Binds K (d 34) ["_law_pool_here", "_law_tables_here"] []
  g34 : mg "_law_keys" = some (.ref (a 34))
  F35 : Fun K "_law_is_whole" "_law_is_whole" s__law_is_whole (a 35) (d 35)
  b35 : Binds K (d 35) ["_law_tables_here", "_law_keys_here", "_law_told"] []
  g35 : mg "_law_is_whole" = some (.ref (a 35))
  F36 : Fun K "_law_services" "_law_services" s__law_services (a 36) (d 36)
  b36 : Binds K (d 36) ["_law_pool_here", "_law_tables_here", "_law_keys_here", "_law_caps", "_law_more"] []
  g36 : mg "_law_services" = some (.ref (a 36))
  F37 : Fun K "_law_schema_parts" "_law_schema_parts" s__law_schema_parts (a 37) (d 37)
  b37 : Binds K (d 37) ["_law_pool_here", "_law_many", "_law_widest", "_law_caps", "_law_more"] []
  g37 : mg "_law_schema_parts" = some (.ref (a 37))
  F38 : Fun K "_law_pick" "_law_pick" s__law_pick (a 38) (d 38)
  b38 : Binds K (d 38) ["_law_pool_here", "_law_row"] []
  g38 : mg "_law_pick" = some (.ref (a 38))
  F39 : Fun K "_law_turned" "_law_turned" s__law_turned (a 39) (d 39)
  b39 : Binds K (d 39) ["_law_table"] []
  g39 : mg "_law_turned" = some (.ref (a 39))
  F40 : Fun K "_law_changed" "_law_changed" s__law_changed (a 40) (d 40)
  b40 : Binds K (d 40) ["_law_pool_here", "_law_tables_here", "_law_keys_here", "_law_services_here"] []
  g40 : mg "_law_changed" = some (.ref (a 40))
  F41 : Fun K "_law_fits" "_law_fits" s__law_fits (a 41) (d 41)
  b41 : Binds K (d 41) ["_law_tables_here", "_law_keys_here", "_law_services_here"] []
  g41 : mg "_law_fits" = some (.ref (a 41))
  F42 : Fun K "_law_uncapped_due" "_law_uncapped_due" s__law_uncapped_due (a 42) (d 42)
  b42 : Binds K (d 42) ["_law_services_here", "_law_names_here"] []
  g42 : mg "_law_uncapped_due" = some (.ref (a 42))
  F43 : Fun K "_law_uncapped_holds" "_law_uncapped_holds" s__law_uncapped_holds (a 43) (d 43)
  b43 : Binds K (d 43) ["_law_schema", "_law_tables_here", "_law_keys_here", "_law_services_here", "_law_names_here"] []
  g43 : mg "_law_uncapped_holds" = some (.ref (a 43))
  F44 : Fun K "law" "law" s_law (a 44) (d 44)
  b44 : Binds K (d 44) ["_law_script"] []
  g44 : mg "law" = some (.ref (a 44))
  cg_2 : mg "CappedError" = some (.ref (a 2))
  x_2 : OexC K (a 2)
  xf_2 : XfC K (a 2)
  xi_2 : ExcC K (a 2)
  cg_3 : mg "UnknownName" = some (.ref (a 3))
  x_3 : OexC K (a 3)
  xf_3 : XfC K (a 3)
  xi_3 : ExcC K (a 3)
  in_3 : PySem.W.findIn K (.ref (a 3)) "__init__" = some (some (.ref (a 1300)))
  ti_3 : PySem.W.typeIn K (.ref (a 1300)) = some (.type "function")
  no_3_name : PySem.W.findIn K (.ref (a 3)) "name" = some none
  cg_25 : mg "Schema" = some (.ref (a 25))
  cl_25 : Cls K (a 25)
  M_25 : Mk K (a 25) (a 3500)
  no_25__tables : NoAttr K (a 25) "_tables"
  no_25__keys : NoAttr K (a 25) "_keys"
  no_25__services : NoAttr K (a 25) "_services"
  ic_25 : C8.InsC K (a 25)
  kit_3_2 : PySem.W.kitOne K (.ref (a 3)) (.ref (a 2)) = some true
  exm_3_3 : PySem.W.exmOne K (.ref (a 3)) (.ref (a 3)) = some true
  p_3501 : PropOf K (a 25) "tables" (a 53501) (a 3501)
  p_3502 : PropOf K (a 25) "key_columns" (a 53502) (a 3502)
  p_3503 : PropOf K (a 25) "services" (a 53503) (a 3503)
  m_3504 : Meth K (a 25) "__eq__" (a 3504)
  m_3506 : Meth K (a 25) "service_names" (a 3506)
  m_3507 : Meth K (a 25) "capped_names" (a 3507)
  m_3510 : Meth K (a 25) "service_of" (a 3510)
  m_3511 : Meth K (a 25) "is_whole" (a 3511)
  m_3512 : Meth K (a 25) "uncapped" (a 3512)
  z_abs : mg "abs" = none
  z_all : mg "all" = none
  z_bool : mg "bool" = none
  z_dict : mg "dict" = none
  z_int : mg "int" = none
  z_isinstance : mg "isinstance" = none
  z_len : mg "len" = none
  z_list : mg "list" = none
  z_range : mg "range" = none
  z_reversed : mg "reversed" = none
  z_sorted : mg "sorted" = none
  z_str : mg "str" = none
  z_tuple : mg "tuple" = none
  c_LONGEST_WORD : ∃ t, mg "LONGEST_WORD" = some (.int (8) t)
  c_MOST_TABLES : ∃ t, mg "MOST_TABLES" = some (.int (5) t)
  c_MOST_WIDTH : ∃ t, mg "MOST_WIDTH" = some (.int (4) t)
  c_MOST_SERVICES : ∃ t, mg "MOST_SERVICES" = some (.int (8) t)
  c_MOST_CAP : ∃ t, mg "MOST_CAP" = some (.int (4) t)
end My
namespace L2
open PySem PySem.Spec PyProof.Rows
/-- a callee that may raise, called where it doesn't -/
theorem passN {X : Cx} {C : CXT} (h : C = L2.CX X.prog X.w) : Passes C X (fun _ _ _ => False) := by
  subst h
  exact passes_call (W := fun _ _ _ _ => False) takes0 (fun _ _ _ _ h => h)
section
variable {X : Cx} {CX : CXT} {k : Nat} {f C : Addr} {fd : FuncData} {ps : List Str} {sp : Sp} {E : St → XK} {x m : Str} {p pos apos : Pos} {e o : Expr} {es : List Expr} {ta : TE} {t : TA}
/-- o.m(e, ..), what it may raise told at the slots -/
def tMethX (C : Addr) (m : Str) (sp : Sp) (E : St → XK) (ta : TE) (t : TA) : TE := fun σ H Q => ta σ H fun x H1 => ∃ a dx fs, x = .ref a ∧ H1 a = some (.ins C dx fs) ∧ fs.lookup m = none ∧ t σ H1 fun vs H2 => sp (.ref a :: vs) H2 Q (E σ)
theorem pe_methX {pl : Sem Bool} (he : PE X o ta) (c : Cls X.K C) (hm : Meth X.K C m f) (F : FnOk X.prog X.w X.K X.mg X.base CX k f fd ps sp) (hr : Room k X.A) (hb : Binds X.K fd ps []) (hx : ∀ σ, PassesAt CX X σ (E σ)) (ha : PA X (e :: es) t)
    (hst : starEach (e :: es) X.env = (false, eval e X.env) :: starEach es X.env := by rfl) (hpl : (backTo pos (starEach es X.env)).any (·.1) = false := by rfl)
    (ht : eval (.Call (.Attribute o m apos) (e :: es) [] pos) X.env = (do
      let ov ← eval o X.env
      standAt apos.atName
      let (f, first) ← holding [ov] (getMethod ov m pl)
      callWith pos f first (backTo pos (starEach (e :: es) X.env)) (backToKw pos (keywordEach [] X.env))) := by rfl) :
    PE X (.Call (.Attribute o m apos) (e :: es) [] pos) (tMethX C m sp E ta t) := by
  refine ⟨fun pins s σ H Q I h => ?_⟩
  refine PySem.W.methodCall_KW (pl := pl) (thn (he.run pins s σ H _ I h) fun u s1 ⟨x, H1, I1, rx, a, dx, fs, ex, ea, l, q⟩ => ?_) ht
  subst ex
  obtain rfl : u = Value.ref a := rx
  refine getmeth_ok I1 ea c hm l ?_
  refine PySem.W.callWith_K (first := [.ref a]) (h₀ := X.base) I.ok.mod.kin hm.kp (thn (ha.run pos pins s1 σ H1 _ I1 q) fun us s2 ⟨vs, H2, I2, r, q2⟩ => ⟨I2.kIn, ?_⟩) hst hpl
  exact run_fnS (us := .ref a :: us) (vs := .ref a :: vs) F hr hb (hx σ) I2 (.cons rfl r) q2
theorem pe_methX0 {pl : Sem Bool} (he : PE X o ta) (c : Cls X.K C) (hm : Meth X.K C m f) (F : FnOk X.prog X.w X.K X.mg X.base CX k f fd ps sp) (hr : Room k X.A) (hb : Binds X.K fd ps []) (hx : ∀ σ, PassesAt CX X σ (E σ))
    (ht : eval (.Call (.Attribute o m apos) [] [] pos) X.env = (do
      let ov ← eval o X.env
      standAt apos.atName
      let (f, first) ← holding [ov] (getMethod ov m pl)
      callWith pos f first (backTo pos (starEach [] X.env)) (backToKw pos (keywordEach [] X.env))) := by rfl) :
    PE X (.Call (.Attribute o m apos) [] [] pos) (tMethX C m sp E ta tNil) := by
  refine ⟨fun pins s σ H Q I h => ?_⟩
  refine PySem.W.methodCall_KW (pl := pl) (thn (he.run pins s σ H _ I h) fun u s1 ⟨x, H1, I1, rx, a, dx, fs, ex, ea, l, q⟩ => ?_) ht
  subst ex
  obtain rfl : u = Value.ref a := rx
  refine getmeth_ok I1 ea c hm l ?_
  exact PySem.W.callWith_K0 (first := [.ref a]) I1.kIn hm.kp (run_fnS (us := [.ref a]) (vs := [.ref a]) F hr hb (hx σ) I1 (.cons rfl .nil) q)
/-- C(e, ..), what its __init__ may raise told at the slots -/
def tMakeX (C : Addr) (sp : Sp) (E : St → XK) (t : TA) : TE := fun σ H Q => t σ H fun vs H1 => ∀ x dx, H1 x = none → H1 dx = none → dx ≠ x →
  sp (.ref x :: vs) (upd (upd H1 dx (.own x)) x (.ins C dx [])) (fun v H2 => v = .non ∧ Q (.ref x) H2) (E σ)
theorem pe_makeX (M : Mk X.K C f) (F : FnOk X.prog X.w X.K X.mg X.base CX k f fd ps sp) (hr : Room (k + 1) X.A) (hg : Gl X x) (hm : X.mg x = some (.ref C)) (hb : Binds X.K fd ps []) (hx : ∀ σ, PassesAt CX X σ (E σ))
    (ha : PA X (e :: es) t) (hdb : (x == ("__debug__" : Str)) = false := by decide) (he : starEach (e :: es) X.env = (false, eval e X.env) :: starEach es X.env := by rfl) (hpl : (backTo pos (starEach es X.env)).any (·.1) = false := by rfl) :
    PE X (.Call (.Name x p) (e :: es) [] pos) (tMakeX C sp E t) := by
  refine ⟨fun pins s σ H Q I h => ?_⟩
  refine wpAny_Call_Name_kw (ld_glob I hg hm ?_ hdb)
  refine PySem.W.callWith_K (h₀ := X.base) I.ok.mod.kin M.kp (thn (ha.run pos pins s σ H _ I h) fun us s1 ⟨vs, H1, I1, r, q⟩ => ⟨I1.kIn, ?_⟩) he hpl
  have hq := q (s1.heap.objs.size + 1) s1.heap.objs.size (I1.hok.fresh (Nat.le_succ _)) (I1.hok.fresh (Nat.le_refl _)) (Nat.ne_of_lt (Nat.lt_succ_self _))
  have I2 := Inv.made (C := C) I1
  have r2 : Vals (V.ref (s1.heap.objs.size + 1) :: vs) (Value.ref (s1.heap.objs.size + 1) :: us) := .cons rfl r
  have hl : (Value.ref (s1.heap.objs.size + 1) :: us).length = ps.length := by
    have e := r2.length
    rw [F.len _ _ _ _ hq] at e
    exact e.symm
  have b := hb _ (Value.ref (s1.heap.objs.size + 1) :: us) I2.kIn (by rw [List.append_nil]; exact hl)
  rw [List.append_nil] at b
  refine wpAny_call (make_map (f := f) I1.kIn M.makes M.init (beq_iff_eq.mp M.fn) (codeAny_mono (F.run _ X.stack _ _ ⟨Value.ref (s1.heap.objs.size + 1) :: us, []⟩ (Value.ref (s1.heap.objs.size + 1) :: us) _ _ (E σ) (hr.make C us [])
    (I2.env0.make C us []) b r2 hq) fun r s' hq' => ?_))
  cases r with
  | error e => exact hx σ pins _ _ e s' I2 hq'
  | ok fl =>
    cases fl with
    | ret u =>
      obtain ⟨v, H', I3, rv, ev, q3⟩ := I2.after hq'
      subst ev
      exact ⟨rv, ⟨V.ref (s1.heap.objs.size + 1), H', I3, rfl, q3⟩⟩
    | next => exact False.elim hq'
    | brk => exact False.elim hq'
    | cont => exact False.elim hq'
end
/-- isinstance(e, c), e the exception that the suite holds, with a dict of its own -/
theorem call_isX {X : Cx} {a D : Addr} {cls : Value} {oe : Obj} {d : Option Addr} {pn : List (Addr × Obj)} (C : ExcC X.K D) (hz : Zc cls d oe) (hf : ∃ vs, oe.data = .fields vs) :
    CallR (X.suite a ((a, oe) :: pn)) (.builtin "isinstance") (fun xs H Q => ∃ (dd : Addr) (fs : List (Str × V)) (c : V) (cv : Value) (b : Bool), cls = .ref D ∧ d = some dd ∧ H dd = some (.xd fs) ∧ xs = [.ref a, c] ∧ (∀ u, RelV c u → u = cv) ∧ PySem.W.kitOne X.K (.ref D) cv = some b ∧ Q (.bl b) H) := by
  intro pins s σ H xs us Q I r h
  obtain ⟨dd, fs, c, cv, b, rfl, rfl, ed, rfl, hcv, e, q⟩ := h
  cases r with
  | cons rx rr =>
    cases rr with
    | cons rt rr =>
      cases rr
      cases rx
      have ec := hcv _ rt
      subst ec
      obtain ⟨hget, _⟩ := I.pin (a, oe) (List.mem_append.mpr (.inl List.mem_cons_self))
      obtain ⟨vs, hv⟩ := hf
      have hx : ObjOk X.prog X.w H s.heap dd (.xd fs) := I.hok dd _ ed
      obtain ⟨mA, hns, hr⟩ := hx
      obtain ⟨od, ho, hl⟩ := lookIn_ns hns
      have J : PySem.W.InstAt s.heap a oe D (some od) := ⟨hget, hz.1, by unfold PySem.W.notCls; rw [hv] <;> rfl, by rw [hz.2]; exact ho⟩
      have hcl : (PySem.W.clsIn X.K D).isSome = true := by
        obtain ⟨cdD, hcD, _⟩ := PySem.W.any_some C.hd
        rw [hcD]
        rfl
      exact PySem.W.kia_one (PySem.W.kitx_exc hcl C.hg C.hk C.hs C.ha C.hn C.ht C.hm) I.kIn J e (fun z => nomatch z) fun tk => ⟨.bl b, H, I.kept (t' := tk) fun _ _ z => z, rfl, q⟩
/-! ### two dicts that hold the same, things at addresses too -/
def sameB : V → Bool
  | .ref _ => true
  | v => flatB v
theorem eqAt_sameB {A : Around} {s : Shared} {v : V} {u u' : Value} (r : RelV v u) (r' : RelV v u') (f : sameB v = true) : SeqAt.EqAt A s u u' true := by
  cases v with
  | ref a =>
    cases (show u = Value.ref a from r)
    cases (show u' = Value.ref a from r')
    exact SeqAt.EqAt.same _
  | non => exact eqAt_same r r' f
  | bl b => exact eqAt_same r r' f
  | int i => exact eqAt_same r r' f
  | str x => exact eqAt_same r r' f
  | byt b => exact eqAt_same r r' f
  | flt x => exact eqAt_same r r' f
  | ty n => exact eqAt_same r r' f
theorem hits_allS {κ : Type} [DecidableEq κ] {A : Around} {s : Shared} {kvs : List (κ × V)} {vb : List (κ × Value)} (rb : KV kvs vb) {ks : List (κ × V)} {va : List (κ × Value)} (ra : KV ks va) :
    (∀ p ∈ ks, valV kvs p.1 = some p.2 ∧ sameB p.2 = true) → PySem.W.KeqHits A s vb va true := by
  unfold KV at ra
  induction ra with
  | nil => intro _; exact .nil
  | @cons p q ps qs h t ih =>
    intro hp
    obtain ⟨h1, h2⟩ := h
    obtain ⟨e, f⟩ := hp p List.mem_cons_self
    have rr : RelO (some p.2) (valueAt vb p.1) := by rw [← e]; exact rb.val p.1
    obtain ⟨y, hy, ry⟩ := rr.some_of
    obtain ⟨k, v⟩ := q
    have h1' : p.1 = k := h1
    rw [h1'] at hy
    show PySem.W.KeqHits A s vb ((k, v) :: qs) (true && true)
    exact .hit hy (eqAt_sameB h2 ry f) (ih fun p' hm => hp p' (List.mem_cons_of_mem _ hm))
def rNeS : R2 := fun x y H Q => ∃ a b ks ls, x = .ref a ∧ y = .ref b ∧ H a = some (.dK ks) ∧ H b = some (.dK ls) ∧ ks.length = ls.length ∧ (∀ p ∈ ks, valV ls p.1 = some p.2 ∧ sameB p.2 = true) ∧ Q (.bl false) H
theorem op_neS {X : Cx} (hu : X.A.units + 1 < cLine) : OpR X (compareOp .NotEq) rNeS := by
  intro pins s σ H x y v u Q I rx ry h
  obtain ⟨a, b, ks, ls, rfl, rfl, ea, eb, hlen, hp, q⟩ := h
  obtain rfl : v = Value.ref a := rx
  obtain rfl : u = Value.ref b := ry
  obtain ⟨_, ya, va, ra, da⟩ := (show ObjOk X.prog X.w H s.heap a (.dK ks) from I.hok a _ ea)
  obtain ⟨_, yb, vb, rb, db⟩ := (show ObjOk X.prog X.w H s.heap b (.dK ls) from I.hok b _ eb)
  have hl : va.length = vb.length := by rw [← ra.length, ← rb.length]; exact hlen
  exact PySem.W.keq_ne (knd := mixKind X.prog X.w) (r := true) ya yb da db (by omega) (fun _ => hits_allS rb ra hp) (fin_bl I q (by simp [hl]))
def rEqS : R2 := fun x y H Q => ∃ a b ks ls, x = .ref a ∧ y = .ref b ∧ H a = some (.dK ks) ∧ H b = some (.dK ls) ∧ ks.length = ls.length ∧ (∀ p ∈ ks, valV ls p.1 = some p.2 ∧ sameB p.2 = true) ∧ Q (.bl true) H
theorem op_eqSX {X : Cx} (hu : X.A.units + 1 < cLine) : OpR X (compareOp .Eq) rEqS := by
  intro pins s σ H x y v u Q I rx ry h
  obtain ⟨a, b, ks, ls, rfl, rfl, ea, eb, hlen, hp, q⟩ := h
  obtain rfl : v = Value.ref a := rx
  obtain rfl : u = Value.ref b := ry
  obtain ⟨_, ya, va, ra, da⟩ := (show ObjOk X.prog X.w H s.heap a (.dK ks) from I.hok a _ ea)
  obtain ⟨_, yb, vb, rb, db⟩ := (show ObjOk X.prog X.w H s.heap b (.dK ls) from I.hok b _ eb)
  have hl : va.length = vb.length := by rw [← ra.length, ← rb.length]; exact hlen
  exact PySem.W.keq_eq (knd := mixKind X.prog X.w) (r := true) ya yb da db (by omega) (fun _ => hits_allS rb ra hp) (fin_bl I q (by simp [hl]))
theorem kit_self {K : PySem.W.Frag} (x : Addr) : PySem.W.kitOne K (.ref x) (.ref x) = some true := by
  show (if (Value.ref x == Value.ref x) = true then some true else _) = some true
  rw [if_pos (by simp)]
theorem kit_ref {K : PySem.W.Frag} {x y : Addr} (hdct : PySem.W.hasDictIn K y = true) (ht : PySem.W.typeIn K (.ref y) = some (.type "type")) (h4 : PySem.W.subIn K (.ref x) (.ref y) = some true) : PySem.W.kitOne K (.ref x) (.ref y) = some true := by
  obtain ⟨cd, hc, _⟩ := PySem.W.any_some hdct
  have e2 : ((PySem.W.clsIn K y).isSome && PySem.W.typeIn K (.ref y) == some (.type "type")) = true := by rw [hc, ht] <;> rfl
  show (if (Value.ref x == Value.ref y) = true then some true else if ((PySem.W.clsIn K y).isSome && PySem.W.typeIn K (.ref y) == some (.type "type")) = true then PySem.W.subIn K (.ref x) (.ref y) else none) = some true
  rw [if_pos e2, h4]
  split <;> rfl
/-! ### two dicts compared whose values are data: True or False -/
def eqT (D : V → PyData) (ks ls : List (Key × V)) : Bool := (ks.length == ls.length) && ks.all fun p => match valV ls p.1 with
  | none => false
  | some v => PyData.eqv (D p.2) (D v)
theorem hits_data {X : Cx} {pins : List (Addr × Obj)} {σ : St} {H : Hp} {s : Shared} {A : Around} (I : Inv X pins σ H s) (hu : A.units + 65 < cLine) (D : V → PyData) {ls : List (Key × V)} {vb : List (Key × Value)} (rb : KV ls vb) (hb : ∀ p ∈ ls, Dp X.K H p.2 (D p.2) ∧ SeqAt.shaped (D p.2) = true) {ks : List (Key × V)} {va : List (Key × Value)} (ra : KV ks va) :
    (∀ p ∈ ks, Dp X.K H p.2 (D p.2) ∧ SeqAt.shaped (D p.2) = true) → PySem.W.KeqHits A.in1 s vb va (ks.all fun p => match valV ls p.1 with
      | none => false
      | some v => PyData.eqv (D p.2) (D v)) := by
  unfold KV at ra
  induction ra with
  | nil => intro _; exact .nil
  | @cons p q ps qs h t ih =>
    intro hp
    obtain ⟨h1, h2⟩ := h
    obtain ⟨k, v⟩ := q
    have h1' : p.1 = k := h1
    have rr := rb.val p.1
    have ih' := ih fun p' hm => hp p' (List.mem_cons_of_mem _ hm)
    rw [List.all_cons]
    cases e : valV ls p.1 with
    | none =>
      rw [e] at rr
      have hn : valueAt vb p.1 = none := by
        cases e2 : valueAt vb p.1 with
        | none => rfl
        | some _ => rw [e2] at rr; exact (show False from rr).elim
      rw [h1'] at hn
      exact .miss hn
    | some y =>
      rw [e] at rr
      obtain ⟨u, hy, ry⟩ := rr.some_of
      rw [h1'] at hy
      have hy2 : ∃ q ∈ ls, q.2 = y := by
        unfold valV at e
        cases e3 : ls.find? fun kv => decide (kv.1 = p.1) with
        | none => rw [e3] at e; cases e
        | some q => rw [e3] at e; exact ⟨q, List.mem_of_find?_eq_some e3, Option.some.inj e⟩
      obtain ⟨q, hq, rfl⟩ := hy2
      obtain ⟨as, r1⟩ := Dp.reads I _ _ _ (hp p List.mem_cons_self).1 h2
      obtain ⟨bs, r2⟩ := Dp.reads I _ _ _ (hb q hq).1 ry
      exact .hit hy (PySem.W.keq_at r1 r2 (hp p List.mem_cons_self).2 (hb q hq).2 (by show A.units + 1 + 64 < cLine; omega)) ih'
def rEqT (K : PySem.W.Frag) (neg : Bool) : R2 := fun x y H Q => ∃ (a b : Addr) (ks ls : List (Key × V)) (D : V → PyData), x = .ref a ∧ y = .ref b ∧ H a = some (.dK ks) ∧ H b = some (.dK ls) ∧ (∀ p ∈ ks, Dp K H p.2 (D p.2) ∧ SeqAt.shaped (D p.2) = true) ∧ (∀ p ∈ ls, Dp K H p.2 (D p.2) ∧ SeqAt.shaped (D p.2) = true) ∧ Q (.bl (if neg then !eqT D ks ls else eqT D ks ls)) H
theorem op_eqT {X : Cx} (hu : X.A.units + 65 < cLine) : OpR X (compareOp .Eq) (rEqT X.K false) := by
  intro pins s σ H x y v u Q I rx ry h
  obtain ⟨a, b, ks, ls, D, rfl, rfl, ea, eb, ha, hb, q⟩ := h
  obtain rfl : v = Value.ref a := rx
  obtain rfl : u = Value.ref b := ry
  obtain ⟨_, ya, va, ra, da⟩ := (show ObjOk X.prog X.w H s.heap a (.dK ks) from I.hok a _ ea)
  obtain ⟨_, yb, vb, rb, db⟩ := (show ObjOk X.prog X.w H s.heap b (.dK ls) from I.hok b _ eb)
  refine PySem.W.keq_eq (knd := mixKind X.prog X.w) ya yb da db (by omega) (fun _ => hits_data I hu D rb hb ra ha) (fin_bl I q ?_)
  unfold eqT
  rw [ra.length, rb.length]
  rfl
theorem op_neT {X : Cx} (hu : X.A.units + 65 < cLine) : OpR X (compareOp .NotEq) (rEqT X.K true) := by
  intro pins s σ H x y v u Q I rx ry h
  obtain ⟨a, b, ks, ls, D, rfl, rfl, ea, eb, ha, hb, q⟩ := h
  obtain rfl : v = Value.ref a := rx
  obtain rfl : u = Value.ref b := ry
  obtain ⟨_, ya, va, ra, da⟩ := (show ObjOk X.prog X.w H s.heap a (.dK ks) from I.hok a _ ea)
  obtain ⟨_, yb, vb, rb, db⟩ := (show ObjOk X.prog X.w H s.heap b (.dK ls) from I.hok b _ eb)
  refine PySem.W.keq_ne (knd := mixKind X.prog X.w) ya yb da db (by omega) (fun _ => hits_data I hu D rb hb ra ha) (fin_bl I q ?_)
  unfold eqT
  rw [ra.length, rb.length]
  rfl
/-! ### == of two objects of an own class by the class's own def, whatever it tells -/
def rEqO (C : Addr) (sp : Sp) (E : XK) : R2 := fun x y H Q => ∃ (a b dx dy : Addr) (fs gs : List (Str × V)), x = .ref a ∧ y = .ref b ∧ H a = some (.ins C dx fs) ∧ H b = some (.ins C dy gs) ∧ sp [.ref a, .ref b] H (fun v H' => ∃ c, v = .bl c ∧ Q (.bl c) H') E
theorem op_eqO {X : Cx} {CX : CXT} {n : Nat} {C f : Addr} {fd : FuncData} {ps : List Str} {sp : Sp} {E : XK} (F : FnOk X.prog X.w X.K X.mg X.base CX n f fd ps sp) (hrm : Room n X.A)
    (hs : PySem.W.findIn X.K (.ref C) "__eq__" = some (some (.ref f))) (hf : PySem.W.isFn X.K (.ref f) = true) (hb : Binds X.K fd ps []) (hx : Passes CX X E) : OpR X (compareOp .Eq) (rEqO C sp E) := by
  intro pins s σ H x y v u Q I rx ry h
  obtain ⟨a, b, dx, dy, fs, gs, rfl, rfl, ha, hb', hsp⟩ := h
  cases (show v = Value.ref a from rx)
  cases (show u = Value.ref b from ry)
  obtain ⟨mA, J, _⟩ := ins_get I.hok ha
  obtain ⟨mB, J', _⟩ := ins_get I.hok hb'
  obtain ⟨od, J, _⟩ := J.look
  obtain ⟨od', J', _⟩ := J'.look
  obtain ⟨m, hF⟩ := I.fr
  refine PySem.W.cmp_K (op := .Eq) (tb := .ref C) hrm.units0 hF I.ok.mod.kin J J'.type (by simp [PySem.W.notFirst]) hs hf ?_
  refine wpAny_mono (run_fn (us := [.ref a, .ref b]) (vs := [.ref a, .ref b]) (dvs := []) (ds := []) F hrm hb .nil hx I (.cons rfl (.cons rfl .nil)) hsp) (fun r s' q => ?_) fun _ _ z => z
  obtain ⟨w, H', I', rw', c, ew, q⟩ := q
  subst ew
  cases rw'
  exact ⟨.bl c, H', I', rfl, q⟩
end L2
namespace LR
open PySem PySem.Spec PyProof.Rows L2 RT
section
variable {prog : Program} {w : World} {A : Around} {s : Shared} {R : Result → Shared → Prop}
theorem extend_rev {it l : Addr} {items : Array Value} (hh : A.handled = none) (hit : s.heap.IsRevIter it l ((items.size : Int) - 1)) (hl : s.heap.IsList l items) (hne : l ≠ it) (S : Addr) (hSi : S ≠ it) (hSl : S ≠ l) (res : Value) (c₀ : Nat)
    (hS : s.heap.get? S = some { cls := .type "list", data := .seq #[] c₀ }) (hn : items.size ≤ sizeLine)
    (hR : ∀ s' acc' c', Moved (S :: [it]) (fun a b => b = a) s s' → s'.heap.get? S = some { cls := .type "list", dict := none, data := .seq acc' c', slots := #[] } → ItemsOf (fun i v => items[items.size - 1 - i]? = some v) acc' items.size → R (.ok (.ret res)) s') :
    wpAny (model prog w) A.in1 (Builtin.List.listExtendWith (.ref S) (.ref it) res)
      (fun fin s' => match fin with | .done f => R (.ok f) s' | .again c' => c'.quiet = true ∧ codeAny (model prog w) A c' R s') (fun e s' => R (.error e) s') s := by
  have W := (Walks.listRev (prog := prog) (w := w) (A := A.in1) hh it l hne items).toS
  have hSf : S ∉ [it, l] := by simp only [List.mem_cons, List.not_mem_nil, or_false, not_or]; exact ⟨hSi, hSl⟩
  have hT : s.TypeIs (.ref it) "list_reverseiterator" := hit.typeIs
  have h1 : Builtin.List.listSameRef (.ref S) (.ref it) = false := by simp [Builtin.List.listSameRef, hSi]
  unfold Builtin.List.listExtendWith
  refine wpAny_bind (wpAny_typeOf hT ?_)
  rw [if_neg (by rw [h1]; decide)]
  refine wpAny_bind (wpAny_pyIter_revIter hit ?_)
  refine wpAny_bind (wpAny_holding ?_)
  unfold Builtin.List.listLengthHint
  refine wpAny_bind (wpAny_specialOf hT nolen_lri ?_)
  show wpAny _ A.in1 (specialOf (Value.ref it) (Str.ofString "__length_hint__") >>= _) _ _ _
  refine wpAny_bind (wpAny_specialOf hT hint_lri ?_)
  generalize hid : ("list_reverseiterator.__length_hint__" : String) = id0
  wp_delta
  rw [show splitId id0 = some ("list_reverseiterator", "__length_hint__") from by subst hid; decide +kernel]
  subst hid
  refine wpAny_bind (wpAny_isInstance (b := true) hT (by rw [isSubtype_type]; kernel_rfl) ?_)
  refine wpAny_pure ?_
  rw [if_neg (by decide)]
  have e0 : ((items.size : Nat) : Int) - 1 - ((0 : Nat) : Int) = (items.size : Int) - 1 := by omega
  refine wpAny_pure ⟨plainId_quiet F.plain_extend_loop _, codeAny_extend_loopS W hn _ hSf _ items.size 0 _ _ _ rfl (Nat.zero_le _) ⟨Nat.zero_le _, by rw [e0]; exact hit, hl⟩ hS (ItemsOf.nil _) fun s' acc' c' hm hS' hacc => ?_⟩
  exact hR s' acc' c' hm hS' hacc
theorem list_init_rev {it l : Addr} {items : Array Value} (hh : A.handled = none) (hit : s.heap.IsRevIter it l ((items.size : Int) - 1)) (hl : s.heap.IsList l items) (hne : l ≠ it) (S : Addr) (hSi : S ≠ it) (hSl : S ≠ l)
    (hS : s.heap.get? S = some { cls := .type "list", data := .seq #[] }) (hn : items.size ≤ sizeLine)
    (hR : ∀ s' acc' c', Moved (S :: [it]) (fun a b => b = a) s s' → s'.heap.get? S = some { cls := .type "list", dict := none, data := .seq acc' c', slots := #[] } → ItemsOf (fun i v => items[items.size - 1 - i]? = some v) acc' items.size → R (.ok (.ret .none)) s') :
    wpAny (model prog w) A.in1 (Builtin.«list.__init__» ⟨[.ref S, .ref it], []⟩)
      (fun fin s' => match fin with | .done f => R (.ok f) s' | .again c' => c'.quiet = true ∧ codeAny (model prog w) A c' R s') (fun e s' => R (.error e) s') s := by
  show wpAny _ A.in1 (do let old ← Builtin.List.listItems (.ref S); Builtin.List.listUpdate (.ref S) (fun _ => #[]); letGo old.toList.reverse; Builtin.List.listExtendWith (.ref S) (.ref it) .none) _ _ s
  refine wpAny_bind ?_
  unfold Builtin.List.listItems
  refine wpAny_bind (wpAny_seqItems hS rfl (wpAny_pure ?_))
  show wpAny _ A.in1 (updateSeq S (fun _ => #[]) >>= fun _ => letGo (#[] : Array Value).toList.reverse >>= fun _ => Builtin.List.listExtendWith (.ref S) (.ref it) .none) _ _ s
  refine wpAny_bind (wpAny_updateSeq hS rfl ?_)
  have hS₂ := Heap.get?_update_self (Obj.mapSeq (fun _ => (#[] : Array Value))) hS rfl
  have oth : ∀ b o, b ≠ S → s.heap.get? b = some o → (s.heap.update S (Obj.mapSeq (fun _ => (#[] : Array Value)))).get? b = some o :=
    fun b o hb e => (Heap.get?_update_other _ _ (Ne.symm hb)).trans e
  refine wpAny_bind (wpAny_letGo ?_)
  refine extend_rev (s := { s with heap := s.heap.update S (Obj.mapSeq (fun _ => (#[] : Array Value))) }) hh (hit.at fun o e => oth it o hSi.symm e) (let ⟨o, e, r⟩ := hl; ⟨o, oth l o hSl.symm e, r⟩) hne S hSi hSl .none _ hS₂ hn fun s' acc' c' hm hS' hacc => ?_
  refine hR s' acc' c' (Moved.trans (fun _ _ _ a b => b.trans a) (Moved.then_heap (wr := S :: [it]) (G := fun a b => b = a) (Moved.refl fun _ => rfl) (Nat.le_refl _) fun b o hb e => oth b o (fun h => hb ?_) e) hm) hS' hacc
  rw [h]
  exact List.mem_cons_self
end
section
variable {prog : Program} {w : World} {A : Around} {E : Value → Shared → Prop} {s : Shared}
theorem call_list_rev {it l : Addr} {items : Array Value} {Q : Value → Shared → Prop} (hh : A.handled = none) (hit : s.heap.IsRevIter it l ((items.size : Int) - 1)) (hl : s.heap.IsList l items) (hne : l ≠ it) (hn : items.size ≤ sizeLine)
    (hQ : ∀ (h' : Heap) (tk : Nat) (acc : Array Value) (c' : Nat), (∀ b o, b ≠ it → s.heap.get? b = some o → h'.get? b = some o) → h'.get? s.heap.objs.size = some { cls := .type "list", dict := none, data := .seq acc c', slots := #[] } →
      ItemsOf (fun i v => items[items.size - 1 - i]? = some v) acc items.size → Q (.ref s.heap.objs.size) { s with heap := h', toks := tk }) :
    wpAny (model prog w) A (call (.type "list") [.ref it]) Q E s := by
  obtain ⟨oi, hoi, _⟩ := id hit
  obtain ⟨ol, hol, _⟩ := id hl
  have hSi : s.heap.objs.size ≠ it := Nat.ne_of_gt (Heap.lt_size hoi)
  have hSl : s.heap.objs.size ≠ l := Nat.ne_of_gt (Heap.lt_size hol)
  refine callType_codes (Q₁ := fun obj s₁ => obj = .ref s.heap.objs.size ∧ s₁ = { s with heap := s.heap.push { cls := .type "list", data := .seq #[] } }) F.called_list (F.typeCall_list_1 _) F.entry_list_init
    (code_list_new _ ⟨rfl, rfl⟩) fun obj s₁ h₁ => ?_
  obtain ⟨rfl, rfl⟩ := h₁
  have hS : (s.heap.push { cls := .type "list", data := .seq #[] }).get? s.heap.objs.size = some { cls := .type "list", data := .seq #[] } := Heap.get?_push_size _ rfl
  refine ⟨⟨_, hS, rfl⟩, F.args_list_init_2 _ _, list_init_rev (s := { s with heap := s.heap.push { cls := .type "list", data := .seq #[] } }) (A := A.in1) hh (hit.at fun o e => Heap.get?_push_of_some _ e) (hl.push _) hne _ hSi hSl hS hn fun s' acc' c' hm hS' hacc => ?_⟩
  refine ⟨rfl, ?_⟩
  rw [Moved.eq_with hm]
  refine hQ s'.heap s'.toks acc' c' (fun b o hb e => hm.heap b o (fun hmem => ?_) (Heap.get?_push_of_some _ e)) hS' hacc
  rcases List.mem_cons.mp hmem with e' | hmem
  · exact absurd (Heap.lt_size e) (by rw [e']; exact Nat.lt_irrefl _)
  · exact hb (List.mem_singleton.mp hmem)
end
/-- list(reversed(x)), x a list: a new list -/
def tListRev (K : PySem.W.Frag) (te : TE) : TE := fun σ H Q => te σ H fun v H1 => ∃ (a : Addr) (xs : List V), v = .ref a ∧ SqL K H1 a xs ∧ ∀ q, H1 q = none → Q (.ref q) (upd H1 q (.lst xs.reverse))
section
variable {X : Cx}
theorem pe_listRev {e : Expr} {te : TE} {p p2 pos pos2 : Pos} (hc : X.calm = true) (hg : Gl X "list") (hm : X.mg "list" = none) (hg2 : Gl X "reversed") (hm2 : X.mg "reversed" = none) (he : PE X e te)
    (hs : starEach [e] X.env = (false, eval e X.env) :: starEach [] X.env := by rfl)
    (hs2 : starEach [.Call (.Name "reversed" p2) [e] [] pos2] X.env = (false, eval (.Call (.Name "reversed" p2) [e] [] pos2) X.env) :: starEach [] X.env := by rfl) :
    PE X (.Call (.Name "list" p) [.Call (.Name "reversed" p2) [e] [] pos2] [] pos) (tListRev X.K te) := by
  refine ⟨fun pins s σ H Q I h => ?_⟩
  refine Call_ (ld_blt I hg hm boot_list (PyProof.Rows.callWith_type1 (args_cons (Call_ (ld_blt I hg2 hm2 PyProof.Rows.boot_reversed (PyProof.Rows.callWith_type1 (args_cons (thn (he.run pins s σ H _ I h) fun u s1 ⟨v, H1, I1, r1, q1⟩ => args_nil ?_) hs) hs rfl))) hs2) hs2 rfl))
  obtain ⟨a, xs, ev, hq, q⟩ := q1
  subst ev
  obtain rfl : u = Value.ref a := r1
  obtain ⟨its, rv, p', hz⟩ := I1.list hq
  refine call_reversed_list p'.isList (args_nil ?_)
  have k0 : ∀ b o, s1.heap.get? b = some o → (s1.heap.push (revObj a ((its.toArray.size : Int) - 1))).get? b = some o := fun b o e => Heap.get?_push_of_some _ e
  have I2 : Inv X pins σ H1 { s1 with heap := s1.heap.push (revObj a ((its.toArray.size : Int) - 1)) } := I1.kept (t' := s1.toks) k0
  obtain ⟨f0, f1, f2, f3, f4, f5⟩ := I1.fpOk (H' := H1) (b := s1.heap.objs.size) (Nat.le_refl _) (I1.hok.fresh (Nat.le_refl _))
  have hl := p'.isList
  obtain ⟨ol, hol, _⟩ := id hl
  have hne : a ≠ s1.heap.objs.size := Nat.ne_of_lt (Heap.lt_size hol)
  have hn : its.toArray.size ≤ sizeLine := by rw [List.size_toArray, ← rv.length]; exact hz
  refine call_list_rev (s := { s1 with heap := s1.heap.push (revObj a ((its.toArray.size : Int) - 1)) }) (I1.ok.hd hc) ⟨_, Heap.get?_push_size _ rfl, rfl, rfl⟩ (hl.push _) hne hn fun h' tk acc c' hk hS' hi => ?_
  have hfp : ∀ b ∈ [s1.heap.objs.size], FpOk X pins H1 b := fun b hb => by
    rw [List.mem_singleton.mp hb]
    exact ⟨f0, f1, f2, f3, f4, f5⟩
  refine ⟨.ref (s1.heap.push (revObj a ((its.toArray.size : Int) - 1))).objs.size, upd H1 _ (.lst xs.reverse), I2.turnedNew (t' := tk) (ch := [s1.heap.objs.size]) (ob := .lst xs.reverse) (fun b o hb e => hk b o (fun z => hb (by rw [z]; exact List.mem_singleton.mpr rfl)) e) hfp (Nat.le_refl _)
    (show ObjOk X.prog X.w _ _ _ (.lst xs.reverse) from ⟨by rw [List.length_reverse]; exact hz, acc.toList, c', vals_rev rv hi, ?_⟩), rfl, q _ (I2.hok.fresh (Nat.le_refl _))⟩
  rw [Array.toArray_toList]
  exact hS'
end
end LR
namespace My
open PySem PySem.Spec PyProof.Rows L2
local macro_rules | `(tactic| walk_at "g") => `(tactic| first
  | refine ⟨_, rfl, ?_⟩
  | refine ⟨_, _, rfl, rfl, .inl ⟨by decide, by decide⟩, ?_⟩
  | refine ⟨_, _, rfl, rfl, .inr ⟨by decide, by decide⟩, ?_⟩
  | refine ⟨_, _, rfl, rfl, .inl ⟨by omega, by omega⟩, ?_⟩
  | refine ⟨_, _, rfl, rfl, ⟨by decide, by decide +kernel⟩, ?_⟩
  | refine ⟨_, _, rfl, rfl, ⟨by decide, by decide, by decide⟩, ?_⟩
  | refine ⟨_, _, rfl, rfl, (by show (0 : Int) < _; decide), ?_⟩
  | refine ⟨_, _, rfl, rfl, ?_⟩
  | refine .inl ⟨_, rfl, ?_⟩
  | refine ⟨rfl, _, rfl, ?_⟩)
local macro_rules | `(tactic| walk_at "gg") => `(tactic| repeat walk_at "g")
/-! ### the pool of draws: a list of ints at an address that every draw changes -/
def PoolAt (H : Hp) (a : Addr) : Prop := ∃ (p0 p1 p2 p3 : Int) (r : List Int), H a = some (.lst (.int p0 :: .int p1 :: .int p2 :: .int p3 :: r.map V.int)) ∧ 0 ≤ p0 ∧ 0 ≤ p1 ∧ 0 ≤ p2 ∧ p2 < 2147483647 ∧ 0 ≤ p3 ∧ r.length ≤ 63
/-- the pool at a may have changed; all else that was tracked stands -/
def Chg (a : Addr) (H H' : Hp) : Prop := PoolAt H' a ∧ ∀ b o, b ≠ a → H b = some o → H' b = some o
theorem Chg.refl {a : Addr} {H : Hp} (h : PoolAt H a) : Chg a H H := ⟨h, fun _ _ _ e => e⟩
theorem Chg.trans {a : Addr} {H H1 H2 : Hp} (x : Chg a H H1) (y : Chg a H1 H2) : Chg a H H2 := ⟨y.1, fun b o n e => y.2 b o n (x.2 b o n e)⟩
theorem Chg.new {a p : Addr} {o : HO} {H H1 : Hp} (x : Chg a H H1) (h : H1 p = none) : Chg a H (upd H1 p o) := by
  obtain ⟨⟨p0, p1, p2, p3, r, e, c⟩, k⟩ := x
  have n : a ≠ p := ne_of_none e h
  exact ⟨⟨p0, p1, p2, p3, r, by rw [upd_ne n]; exact e, c⟩, fun b u nb q => by
    have q' := k b u nb q
    rw [upd_ne (ne_of_none q' h)]
    exact q'⟩
theorem Chg.mut {a p : Addr} {o : HO} {H H1 : Hp} (x : Chg a H H1) (h : H p = none) (n : p ≠ a) : Chg a H (upd H1 p o) := by
  obtain ⟨⟨p0, p1, p2, p3, r, e, c⟩, k⟩ := x
  exact ⟨⟨p0, p1, p2, p3, r, by rw [upd_ne n.symm]; exact e, c⟩, fun b u nb q => by
    rw [upd_ne (ne_of_none q h)]
    exact k b u nb q⟩
theorem Chg.ne {a p : Addr} {H : Hp} (x : PoolAt H a) (h : H p = none) : p ≠ a := by
  obtain ⟨p0, p1, p2, p3, r, e, c⟩ := x
  exact (ne_of_none e h).symm
theorem PoolAt.same {a : Addr} {H H' : Hp} (x : PoolAt H a) (s : Same H H') : PoolAt H' a := by
  obtain ⟨p0, p1, p2, p3, r, e, c⟩ := x
  exact ⟨p0, p1, p2, p3, r, s _ _ e, c⟩
theorem same_upd {H : Hp} {p : Addr} {o : HO} (h : H p = none) : Same H (upd H p o) := fun b x e => by
  rw [upd_ne (ne_of_none e h)]
  exact e
theorem Same.on {H H' : Hp} {b : Addr} {o : HO} (s : Same H H') (e : H b = some o) : H' b = some o := s _ _ e
theorem upd_old {H : Hp} {p b : Addr} {o u : HO} (h : H p = none) (e : H b = some u) : upd H p o b = some u := by
  rw [upd_ne (ne_of_none e h)]
  exact e
theorem upd_oldN {H : Hp} {p b : Addr} {o u : HO} (n : b ≠ p) (e : H b = some u) : upd H p o b = some u := by
  rw [upd_ne n]
  exact e
theorem free_of {a p : Addr} {H H1 : Hp} (x : Chg a H H1) (h0 : PoolAt H a) (h : H1 p = none) : H p = none := by
  cases e : H p with
  | none => rfl
  | some o =>
    by_cases n : p = a
    · subst n
      obtain ⟨⟨p0, p1, p2, p3, r, e, c⟩, _⟩ := x
      rw [e] at h
      cases h
    · rw [x.2 p o n e] at h
      cases h
theorem ixN_at {n j : Nat} (h : j < n) : ixN n (j : Int) = some j := by
  unfold ixN
  rw [if_pos (by omega), if_pos (by omega)]
  simp
theorem ite_d {p A B : Prop} [Decidable p] (h1 : p → A) (h2 : ¬ p → B) : if decide p = true then A else B := by
  by_cases h : p
  · rw [if_pos (decide_eq_true h)]
    exact h1 h
  · rw [if_neg (by rw [decide_eq_false h]; decide)]
    exact h2 h
theorem ite_nd {p A B : Prop} [Decidable p] (h1 : ¬ p → A) (h2 : p → B) : if (!decide p) = true then A else B := by
  by_cases h : p
  · rw [if_neg (by rw [decide_eq_true h]; decide)]
    exact h2 h
  · rw [if_pos (by rw [decide_eq_false h]; decide)]
    exact h1 h
theorem ite_eqI {i j : Int} {A B : Prop} (h1 : i = j → A) (h2 : i ≠ j → B) : if decide (V.int i = V.int j) = true then A else B := ite_d (fun h => h1 (V.int.inj h)) (fun h => h2 fun e => h (congrArg V.int e))
theorem int_at {q0 q1 q2 q3 : Int} {r : List Int} {i : Nat} (h : i < (V.int q0 :: .int q1 :: .int q2 :: .int q3 :: r.map V.int).length) : ∃ c, (V.int q0 :: .int q1 :: .int q2 :: .int q3 :: r.map V.int)[i]? = some (.int c) := by
  have e : (V.int q0 :: .int q1 :: .int q2 :: .int q3 :: r.map V.int) = (q0 :: q1 :: q2 :: q3 :: r).map V.int := rfl
  rw [e] at h ⊢
  rw [List.length_map] at h
  exact ⟨_, by rw [List.getElem?_map, List.getElem?_eq_getElem h]; rfl⟩
theorem map_at {α β : Type} {f : α → β} {xs : List α} {i : Nat} {y : β} (h : (xs.map f)[i]? = some y) : ∃ x, xs[i]? = some x ∧ f x = y := by
  rw [List.getElem?_map] at h
  cases e : xs[i]? with
  | none =>
    rw [e] at h
    cases h
  | some x =>
    rw [e] at h
    exact ⟨x, rfl, Option.some.inj h⟩
theorem map_take {α β : Type} {f : α → β} {xs : List α} {i : Nat} {x : α} (h : xs[i]? = some x) : (xs.take (i + 1)).map f = (xs.take i).map f ++ [f x] := by
  rw [List.take_add_one, h, List.map_append]
  rfl
theorem small1000' {n : Nat} (h : n ≤ 1000) : n ≤ sizeLine := Nat.le_of_lt (small1000 h)
theorem hu_of64 {A : Around} {k : Nat} (hr : Room k A) : A.units + 64 < cLine := Nat.lt_of_le_of_lt (Nat.add_le_add_left (by omega : 64 ≤ 16 * k + 200) _) (by have := hr.un; omega)
theorem hu_of65 {A : Around} {k : Nat} (hr : Room k A) : A.units + 65 < cLine := Nat.lt_of_le_of_lt (Nat.add_le_add_left (by omega : 65 ≤ 16 * k + 200) _) (by have := hr.un; omega)
theorem at_g {α : Type} {xs : List α} {z : Int} {j : Nat} {v : α} (e : z = (j : Int)) (h : xs[j]? = some v) : atI xs z = some v := by
  rw [e]
  exact atI_nat h
theorem at_some {α : Type} {xs : List α} {z : Int} (h0 : 0 ≤ z) (h1 : z < xs.length) : ∃ v, atI xs z = some v := by
  have h2 : z.toNat < xs.length := by omega
  exact ⟨_, at_g (show z = ((z.toNat : Nat) : Int) by omega) (List.getElem?_eq_getElem h2)⟩
theorem atI_mem {α : Type} {xs : List α} {z : Int} {v : α} (h : atI xs z = some v) : v ∈ xs := by
  unfold atI at h
  cases e : ixN xs.length z with
  | none =>
    rw [e] at h
    cases h
  | some j =>
    rw [e] at h
    exact List.mem_of_getElem? h
theorem cutS_mem {z : Str} {lo hi : Option Int} {c : Nat} (h : c ∈ (cutS z lo hi).cps.toList) : c ∈ z.cps.toList := by
  unfold cutS at h
  exact List.mem_of_mem_drop (List.mem_of_mem_take h)
theorem letter_at : ∀ j : Nat, j < 26 → ("abcdefghijklmnopqrstuvwxyz" : Str).cps.toList[j]? = some (97 + j) := by decide +kernel
section
variable {P : Program} {w : World} {K : PySem.W.Frag} {mg : Str → Option Value} {base : Heap} {a : Nat → Addr} {d : Nat → FuncData}
/-! ### _law_mixed: some int -/
def spMixed : Sp := fun vs H Q _ => ∃ (s c : Int), vs = [.int s, .int c] ∧ ∀ r : Int, Q (.int r) H
theorem ok_mixed (T : Txt K mg a d) : FnOk P w K mg base CX0 1 (a 28) (d 28) ["_law_seed", "_law_count"] spMixed := by
  refine T.F28.ok sc__law_mixed (fun vs H Q E h => ?_) (fun cdv A outer s H vs Q E hr h => ?_)
  · obtain ⟨s, c, rfl, _⟩ := h
    rfl
  · obtain ⟨s, c, rfl, q⟩ := h
    refine ⟨_, (pss_cons (ps_set (i := 2) sc__law_mixed.nd rfl (.inl rfl) (pe_op op_mod (pe_callTy (T := "int")  call_int1 (by rfl) T.z_int (by decide +kernel) (pa_cons (pe_op op_mul (pe_op op_add (pe_op op_add (pv 0) (pe_op op_mul pe_int (pv 1))) pe_int) pe_int) pa_nil)) pe_int))
  (pss_cons (ps_set (i := 2) sc__law_mixed.nd rfl (.inl rfl) (pe_op op_mod (pe_callTy (T := "int")  call_int1 (by rfl) T.z_int (by decide +kernel) (pa_cons (pe_op op_mul (pv 2) (pe_op op_add (pe_op op_fdivW (pv 2) pe_int) pe_int)) pa_nil)) pe_int))
  (pss_one (ps_ret (pe_op op_mod (pe_callTy (T := "int")  call_int1 (by rfl) T.z_int (by decide +kernel) (pa_cons (pe_op op_mul (pv 2) (pe_op op_add (pe_op op_fdivW (pv 2) pe_int) pe_int)) pa_nil)) pe_int))))), ?_⟩
    walk_at "gg"
    exact q _
/-! ### _law_draw: an int from 0 below many -/
def spDraw : Sp := fun vs H Q _ => ∃ (p : Addr) (m : Int), vs = [.ref p, .int m] ∧ PoolAt H p ∧ 0 < m ∧ m.natAbs < 2 ^ 200 ∧ ∀ (r : Int) (H' : Hp), 0 ≤ r → r < m → Chg p H H' → Q (.int r) H'
def Oth (a : Addr) (H H' : Hp) : Prop := ∀ b o, b ≠ a → H b = some o → H' b = some o
theorem Oth.refl (a : Addr) (H : Hp) : Oth a H H := fun _ _ _ e => e
theorem Oth.upd {a : Addr} {H H' : Hp} {o : HO} (x : Oth a H H') : Oth a H (upd H' a o) := fun b u n e => by
  rw [upd_ne n]
  exact x b u n e
theorem chg_of {p : Addr} {H H' : Hp} {p0 p1 p2 p3 : Int} {r : List Int} (e : H' p = some (.lst (.int p0 :: .int p1 :: .int p2 :: .int p3 :: r.map V.int))) (o : Oth p H H')
    (h0 : 0 ≤ p0) (h1 : 0 ≤ p1) (h2 : 0 ≤ p2) (h3 : p2 < 2147483647) (h4 : 0 ≤ p3) (h5 : r.length ≤ 63) : Chg p H H' := ⟨⟨p0, p1, p2, p3, r, e, h0, h1, h2, h3, h4, h5⟩, o⟩
theorem ok_draw (T : Txt K mg a d) : FnOk P w K mg base CX0 2 (a 29) (d 29) ["_law_pool_here", "_law_many"] spDraw := by
  have G28 : FnOk P w K mg base CX0 1 (a 28) (d 28) ["_law_seed", "_law_count"] spMixed := ok_mixed T
  refine T.F29.ok sc__law_draw (fun vs H Q E h => ?_) (fun cdv A outer s H vs Q E hr h => ?_)
  · obtain ⟨p, m, rfl, _⟩ := h
    rfl
  · obtain ⟨p, m, rfl, ⟨p0, p1, p2, p3, r, e, c0, c1, c2, c3, c4, c5⟩, hm, hm2, q⟩ := h
    refine ⟨_, (pss_cons (ps_asg (pe_op op_add (pe_ix ix_list (pv 0) pe_int (fun _ _ => rfl)) pe_int) (pg_sub (pv 0) pe_int set_list))
  (Evl.pss_cut (ps_if (PW.pt (pw_and (pt_cmpR op_eq (pe_ix ix_list (pv 0) pe_int (fun _ _ => rfl)) pe_int (nomark _)) (pw_and1 (pt_cmpR op_lt (pe_ix ix_list (pv 0) pe_int (fun _ _ => rfl)) (pe_callB (id := "len")  call_len_seq (by rfl) T.z_len (by decide +kernel) (pa_cons (pv 0) pa_nil)) (nomark _)))))
    (pss_cons (ps_set (i := 2) sc__law_draw.nd rfl (.inl rfl) (pe_callB (id := "abs")  call_abs (by rfl) T.z_abs (by decide +kernel) (pa_cons (pe_ix ix_list (pv 0) (pe_ix ix_list (pv 0) pe_int (fun _ _ => rfl)) (fun _ _ => rfl)) pa_nil)))
      (pss_cons (ps_asg (pe_op op_add (pe_ix ix_list (pv 0) pe_int (fun _ _ => rfl)) pe_int) (pg_sub (pv 0) pe_int set_list))
      (pss_one (ps_if (pt_cmpR op_lt (pv 2) (pe_op op_pow pe_int pe_int) (nomark _))
        (pss_one (ps_asg (pe_op op_mod (pe_callTy (T := "int")  call_int1 (by rfl) T.z_int (by decide +kernel) (pa_cons (pe_op op_add (pe_op op_add (pe_op op_mul (pe_ix ix_list (pv 0) pe_int (fun _ _ => rfl)) pe_int) (pv 2)) pe_int) pa_nil)) pe_int) (pg_sub (pv 0) pe_int set_list)))
        (pss_one (ps_asg (pv 2) (pg_sub (pv 0) pe_int set_list)))))))
    pss_nil)
  (pss_cons (ps_if (pt_cmpR op_gt (pe_ix ix_list (pv 0) pe_int (fun _ _ => rfl)) pe_int (nomark _))
    (pss_cons (ps_set (i := 3) sc__law_draw.nd rfl (.inl rfl) (pe_op op_mod (pe_callTy (T := "int")  call_int1 (by rfl) T.z_int (by decide +kernel) (pa_cons (pe_ix ix_list (pv 0) pe_int (fun _ _ => rfl)) pa_nil)) (pv 1)))
      (pss_cons (ps_asg (pe_op op_fdivW (pe_ix ix_list (pv 0) pe_int (fun _ _ => rfl)) (pv 1)) (pg_sub (pv 0) pe_int set_list))
      (pss_one (ps_ret (pv 3)))))
    pss_nil)
  (pss_one (ps_ret (pe_op op_mod (pe_callTy (T := "int")  call_int1 (by rfl) T.z_int (by decide +kernel) (pa_cons (pe_call G28 (hr.mono (by decide)) (by rfl) T.g28 T.F28.kp T.b28 .nil pass0 (pa_cons (pe_ix ix_list (pv 0) pe_int (fun _ _ => rfl)) (pa_cons (pe_ix ix_list (pv 0) pe_int (fun _ _ => rfl)) pa_nil))) pa_nil)) (pv 1))))))), ?_⟩
    -- pool[3] = pool[3] + 1
    refine ⟨_, rfl, _, _, _, _, rfl, rfl, .of e, atI_nat (j := 3) rfl, _, _, rfl, rfl, _, rfl, _, _, _, 3, rfl, rfl, e, ixN_at (j := 3) (by simp only [List.length_cons]; omega), ?_⟩
    generalize hH : upd H p (HO.lst (List.set _ _ _)) = H1
    have e1 : H1 p = some (.lst (.int p0 :: .int p1 :: .int p2 :: .int (p3 + 1) :: r.map V.int)) := by
      rw [← hH]
      exact upd_same
    have o1 : Oth p H H1 := by
      rw [← hH]
      exact (Oth.refl p H).upd
    -- if pool[0] == 0 and pool[1] < len(pool): ..
    refine ⟨fun σ H2 => ∃ (q0 q1 q2 : Int) (y : Option V), σ = [some (.ref p), some (.int m), y, none] ∧ H2 p = some (.lst (.int q0 :: .int q1 :: .int q2 :: .int (p3 + 1) :: r.map V.int)) ∧ Oth p H H2 ∧ 0 ≤ q0 ∧ 0 ≤ q1 ∧ 0 ≤ q2 ∧ q2 < 2147483647, ?_, ?_⟩
    · refine ⟨_, rfl, _, _, _, _, rfl, rfl, .of e1, atI_nat (j := 0) rfl, rfl, _, rfl, ite_eqI (fun h0 => ?_) (fun h0 => iteF ⟨p0, p1, p2, none, rfl, e1, o1, c0, c1, c2, c3⟩)⟩
      refine ⟨_, rfl, _, _, _, _, rfl, rfl, .of e1, atI_nat (j := 1) rfl, _, rfl, _, _, rfl, .inl (.of e1), _, _, rfl, rfl, _, rfl, ite_d (fun h1 => ?_) (fun h1 => ⟨p0, p1, p2, none, rfl, e1, o1, c0, c1, c2, c3⟩)⟩
      -- cell = abs(pool[pool[1]]); pool[1] = pool[1] + 1
      obtain ⟨c, hc⟩ := int_at (q0 := p0) (q1 := p1) (q2 := p2) (q3 := p3 + 1) (r := r) (i := p1.toNat) (by omega)
      refine ⟨_, rfl, _, rfl, _, _, _, _, rfl, rfl, .of e1, atI_nat (j := 1) rfl, _, _, _, _, rfl, rfl, .of e1, at_of (j := p1.toNat) (by omega) hc, _, rfl, ?_⟩
      refine ⟨_, rfl, _, _, _, _, rfl, rfl, .of e1, atI_nat (j := 1) rfl, _, _, rfl, rfl, _, rfl, _, _, _, 1, rfl, rfl, e1, ixN_at (j := 1) (by simp only [List.length_cons]; omega), ?_⟩
      generalize hH2 : upd H1 p (HO.lst (List.set _ _ _)) = H2
      have e2 : H2 p = some (.lst (.int p0 :: .int (p1 + 1) :: .int p2 :: .int (p3 + 1) :: r.map V.int)) := by
        rw [← hH2]
        exact upd_same
      have o2 : Oth p H H2 := by
        rw [← hH2]
        exact o1.upd
      refine ⟨_, rfl, _, _, rfl, rfl, ⟨by decide, by decide, by decide⟩, _, _, rfl, rfl, _, rfl, ite_d (fun h2 => ?_) (fun h2 => ?_)⟩
      · refine ⟨_, rfl, _, _, _, _, rfl, rfl, .of e2, atI_nat (j := 2) rfl, _, _, rfl, rfl, .inr ⟨by decide, by decide⟩, _, rfl, _, _, rfl, rfl, _, _, rfl, rfl, .inl ⟨_, rfl, _, _, rfl, rfl, (by show (0 : Int) < _; decide), _, rfl, _, _, _, 2, rfl, rfl, e2, ixN_at (j := 2) (by simp only [List.length_cons]; omega), ?_⟩⟩
        exact ⟨p0, p1 + 1, _, _, rfl, upd_same, o2.upd, c0, by omega, Int.emod_nonneg _ (by decide), Int.emod_lt_of_pos _ (by decide)⟩
      · refine ⟨_, rfl, _, rfl, _, _, _, 0, rfl, rfl, e2, ixN_at (j := 0) (by simp only [List.length_cons]; omega), ?_⟩
        exact ⟨_, p1 + 1, p2, _, rfl, upd_same, o2.upd, by split <;> omega, by omega, c2, c3⟩
    · rintro σ H2 ⟨q0, q1, q2, y, rfl, e2, o2, d0, d1, d2, d3⟩
      refine ⟨_, rfl, _, _, _, _, rfl, rfl, .of e2, atI_nat (j := 0) rfl, _, _, rfl, rfl, _, rfl, ite_d (fun h0 => ?_) (fun h0 => ?_)⟩
      · refine ⟨_, rfl, _, _, _, _, rfl, rfl, .of e2, atI_nat (j := 0) rfl, .inl ⟨_, rfl, _, rfl, _, _, rfl, rfl, hm, ?_⟩⟩
        refine ⟨_, rfl, _, _, _, _, rfl, rfl, .of e2, atI_nat (j := 0) rfl, _, rfl, _, _, rfl, rfl, wide_div hm hm2 (by decide) (by decide), _, rfl, _, _, _, 0, rfl, rfl, e2, ixN_at (j := 0) (by simp only [List.length_cons]; omega), ?_⟩
        exact ⟨_, rfl, q _ _ (Int.emod_nonneg _ (by omega)) (Int.emod_lt_of_pos _ hm) (chg_of upd_same o2.upd (Int.ediv_nonneg d0 (by omega)) d1 d2 d3 (by omega) c5)⟩
      · refine ⟨_, rfl, _, _, _, _, rfl, rfl, .of e2, atI_nat (j := 2) rfl, _, rfl, _, _, _, _, rfl, rfl, .of e2, atI_nat (j := 3) rfl, _, _, rfl, fun x => .inl ⟨_, rfl, _, rfl, _, _, rfl, rfl, hm, ?_⟩⟩
        exact q _ _ (Int.emod_nonneg _ (by omega)) (Int.emod_lt_of_pos _ hm) (chg_of e2 o2 d0 d1 d2 d3 (by omega) c5)
/-! ### _law_pool: a pool made of the script -/
def spPool (K : PySem.W.Frag) : Sp := fun vs H Q _ => ∃ (p : Addr) (ns : List Int), vs = [.ref p] ∧ SqL K H p (ns.map V.int) ∧ ns.length ≤ 63 ∧ ∀ q H', H q = none → PoolAt H' q → Same H H' → Q (.ref q) H'
theorem ok_pool (T : Txt K mg a d) : FnOk P w K mg base CX0 1 (a 27) (d 27) ["_law_script"] (spPool K) := by
  refine T.F27.ok sc__law_pool (fun vs H Q E h => ?_) (fun cdv A outer s H vs Q E hr h => ?_)
  · obtain ⟨p, ns, rfl, _⟩ := h
    rfl
  · obtain ⟨p, ns, rfl, hS, hl, q⟩ := h
    refine ⟨_, (pss_one (ps_ret (pe_op op_cat (pe_lst (pa_cons pe_int (pa_cons pe_int (pa_cons pe_int (pa_cons pe_int pa_nil))))) (pe_lc (own := [("_law_cell", 1)]) rfl sc__law_pool.nd (pi_list (pv 0)) (blkOk_by (N := ["_law_script", "_law_cell"]) (sc := defScope s__law_pool) (by decide +kernel)) (fun _ _ _ _ _ => pg_name (i := 1) sc__law_pool.nd rfl (.inl rfl)) (fun _ _ _ _ _ => pts_nil) (fun _ _ _ _ _ => (pe_callTy (T := "int")  call_int1 (by rfl) T.z_int (by decide +kernel) (pa_cons (pv 1) pa_nil))))))), ?_⟩
    refine ⟨by show 4 ≤ sizeLine; decide, fun l nl => ?_⟩
    have s1 : Same H (upd H l (.lst [.int 0, .int 4, .int 5, .int 0])) := same_upd nl
    refine ⟨_, rfl, p, rfl, ⟨_, s1.seq hS⟩, fun D hD => ?_⟩
    refine lc_list (K := K) (a := p) (xs := ns.map V.int) (fun i H' => H' D = some (.lst ((ns.take i).map V.int)) ∧ Same (upd H l (.lst [.int 0, .int 4, .int 5, .int 0])) H') ⟨upd_same, same_upd hD⟩ (fun i H' _ hp => (s1.trans hp.2).seq hS) (fun i x H' hx hp => ?_) (fun H' hp => ?_)
    · obtain ⟨z, hz, rfl⟩ := map_at hx
      have hi : i < ns.length := (List.getElem?_eq_some_iff.mp hz).1
      refine ⟨rfl, ?_⟩
      refine ⟨_, rfl, .inl ⟨_, rfl, _, hp.1, ?_, ?_, ?_⟩⟩
      · rw [List.length_map, List.length_take]
        exact small1000 (by omega)
      · rw [map_take hz]
        exact upd_same
      · exact fun b o e => by
          rw [upd_ne (ne_of_none e hD)]
          exact hp.2 b o e
    · obtain ⟨h1, h2⟩ := hp
      rw [List.length_map, List.take_length] at h1
      refine ⟨l, D, _, _, rfl, rfl, h2 _ _ upd_same, h1, ?_, fun r hr => ?_⟩
      · show 4 + (ns.map V.int).length ≤ sizeLine
        rw [List.length_map]
        exact Nat.le_trans (by omega : 4 + ns.length ≤ 67) (by decide)
      · exact q r _ (s1.free (h2.free hr)) ⟨0, 4, 5, 0, ns, upd_same, by decide, by decide, by decide, by decide, by decide, hl⟩ ((s1.trans h2).trans (same_upd hr))
/-! ### _law_word: a word of so many letters -/
def IsWd (s : Str) (m : Nat) : Prop := s.length = m ∧ ∀ c ∈ s.cps.toList, 97 ≤ c ∧ c ≤ 122
def spWord : Sp := fun vs H Q _ => ∃ (p : Addr) (m : Nat), vs = [.ref p, .int (m : Int)] ∧ PoolAt H p ∧ m ≤ 100 ∧ ∀ (s : Str) (H' : Hp), IsWd s m → Chg p H H' → Q (.str s) H'
theorem ok_word (T : Txt K mg a d) : FnOk P w K mg base CX0 3 (a 30) (d 30) ["_law_pool_here", "_law_many"] spWord := by
  have G29 : FnOk P w K mg base CX0 2 (a 29) (d 29) ["_law_pool_here", "_law_many"] spDraw := ok_draw T
  refine T.F30.ok sc__law_word (fun vs H Q E h => ?_) (fun cdv A outer s H vs Q E hr h => ?_)
  · obtain ⟨p, m, rfl, _⟩ := h
    rfl
  · obtain ⟨p, m, rfl, hP, hm, q⟩ := h
    refine ⟨_, (pss_cons (ps_set (i := 2) sc__law_word.nd rfl (.inl rfl) pe_str)
  (pss_cons (ps_set (i := 3) sc__law_word.nd rfl (.inl rfl) pe_str)
  (pss_cons (ps_for PassesOwn.never rfl (pi_range1 (by rfl) T.z_range (pa_cons (pv 1) pa_nil)) (pg_name (i := 4) sc__law_word.nd rfl (.inl rfl))
    (pss_one (ps_set (i := 3) sc__law_word.nd rfl (.inl rfl) (pe_op op_add_str (pv 3) (pe_ix ix_str (pv 2) (pe_call G29 (hr.mono (by decide)) (by rfl) T.g29 T.F29.kp T.b29 .nil pass0 (pa_cons (pv 0) (pa_cons pe_int pa_nil))) (fun _ _ => rfl))))))
  (pss_one (ps_ret (pv 3)))))), ?_⟩
    refine ⟨_, rfl, _, rfl, by omega, by omega, ?_⟩
    refine for_range (lo := 0) (n := (m : Int).toNat) (fun i σ H' => ∃ (s : Str) (y : Option V), σ = [some (.ref p), some (.int m), some (.str "abcdefghijklmnopqrstuvwxyz"), some (.str s), y] ∧ IsWd s i ∧ Chg p H H') ⟨"", none, rfl, ⟨rfl, fun c hc => by cases hc⟩, Chg.refl hP⟩ (fun i σ H' hi hp => ?_) (fun σ H' hp => ?_)
    · obtain ⟨s, y, rfl, hs, hc⟩ := hp
      refine ⟨_, rfl, _, rfl, _, rfl, p, 26, rfl, hc.1, by decide, by decide, fun r H'' h0 h1 hC => ?_⟩
      refine ⟨_, r, 97 + r.toNat, rfl, rfl, by decide +kernel, at_g (show r = ((r.toNat : Nat) : Int) by omega) (letter_at r.toNat (by omega)), _, _, rfl, rfl, ?_, ?_⟩
      · show s.length + 1 ≤ sizeLine
        rw [hs.1]
        exact small1000 (by omega)
      · refine ⟨_, _, rfl, ⟨?_, fun c hcc => ?_⟩, hc.trans hC⟩
        · show (s.cps ++ #[97 + r.toNat]).size = i + 1
          rw [Array.size_append]
          have := hs.1
          show s.cps.size + 1 = i + 1
          exact congrArg (· + 1) this
        · have e : (s ++ (⟨#[97 + r.toNat]⟩ : Str)).cps.toList = s.cps.toList ++ [97 + r.toNat] := by
            show (s.cps ++ #[97 + r.toNat]).toList = _
            rw [Array.toList_append]
          rw [e] at hcc
          rcases List.mem_append.mp hcc with h | h
          · exact hs.2 c h
          · have := List.mem_singleton.mp h
            omega
    · obtain ⟨s, y, rfl, hs, hc⟩ := hp
      exact ⟨_, rfl, q s H' (by rw [Int.toNat_natCast] at hs; exact hs) hc⟩
end
local macro_rules | `(tactic| walk_at "kp") => `(tactic| solve_by_elim (maxDepth := 30) [Same.on, upd_same, upd_old, upd_oldN])
/-! ### words, names -/
def Wd (s : Str) : Prop := 1 ≤ s.length ∧ s.length ≤ 8 ∧ ∀ c ∈ s.cps.toList, 97 ≤ c ∧ c ≤ 122
def sgn (c : Nat) : Str := ⟨#[c]⟩
theorem cps_app (s t : Str) : (s ++ t).cps.toList = s.cps.toList ++ t.cps.toList := by
  show (s.cps ++ t.cps).toList = _
  rw [Array.toList_append]
theorem len_cps (s : Str) : s.length = s.cps.toList.length := by
  show s.cps.size = _
  rw [Array.length_toList]
theorem len_app (s t : Str) : (s ++ t).length = s.length + t.length := by
  rw [len_cps, cps_app, List.length_append, ← len_cps, ← len_cps]
def nmOf (fr : Bool) (stem : Str) (c : Nat) : Str := if fr = true then sgn c ++ stem else stem ++ sgn c
theorem nmOf_inj {fr : Bool} {stem : Str} {c e : Nat} (h : nmOf fr stem c = nmOf fr stem e) : c = e := by
  have h' := congrArg (fun s : Str => s.cps.toList) h
  cases fr with
  | true =>
    have h2 : (sgn c ++ stem).cps.toList = (sgn e ++ stem).cps.toList := h'
    rw [cps_app, cps_app] at h2
    exact (List.cons.inj h2).1
  | false =>
    have h2 : (stem ++ sgn c).cps.toList = (stem ++ sgn e).cps.toList := h'
    rw [cps_app, cps_app] at h2
    exact (List.cons.inj (List.append_cancel_left h2)).1
theorem nmOf_wd {fr : Bool} {stem : Str} {n c : Nat} (h : IsWd stem n) (hn : n ≤ 7) (h1 : 97 ≤ c) (h2 : c ≤ 122) : Wd (nmOf fr stem c) := by
  have l1 : (sgn c).length = 1 := rfl
  have hl := h.1
  have hs : ∀ x ∈ (sgn c).cps.toList, 97 ≤ x ∧ x ≤ 122 := fun x hx => by
    rw [List.mem_singleton.mp hx]
    exact ⟨h1, h2⟩
  cases fr with
  | true =>
    refine ⟨?_, ?_, fun x hx => ?_⟩
    · show 1 ≤ (sgn c ++ stem).length
      rw [len_app]
      omega
    · show (sgn c ++ stem).length ≤ 8
      rw [len_app]
      omega
    · have hx' : x ∈ (sgn c ++ stem).cps.toList := hx
      rw [cps_app] at hx'
      exact (List.mem_append.mp hx').elim (hs x) (h.2 x)
  | false =>
    refine ⟨?_, ?_, fun x hx => ?_⟩
    · show 1 ≤ (stem ++ sgn c).length
      rw [len_app]
      omega
    · show (stem ++ sgn c).length ≤ 8
      rw [len_app]
      omega
    · have hx' : x ∈ (stem ++ sgn c).cps.toList := hx
      rw [cps_app] at hx'
      exact (List.mem_append.mp hx').elim (h.2 x) (hs x)
/-- names of m things: words, no two alike -/
structure Nms (ns : List Str) (m : Nat) : Prop where
  len : ns.length = m
  nd : ns.Nodup
  wd : ∀ s ∈ ns, Wd s
def signAt (f s : Int) (k : Nat) : Nat := 97 + ((f + s * (k : Int)) % 26).toNat
theorem signAt_le (f s : Int) (k : Nat) : 97 ≤ signAt f s k ∧ signAt f s k ≤ 122 := by
  unfold signAt
  have h1 := Int.emod_nonneg (f + s * (k : Int)) (by decide : (26 : Int) ≠ 0)
  have h2 := Int.emod_lt_of_pos (f + s * (k : Int)) (by decide : (0 : Int) < 26)
  omega
theorem signAt_inj {f s : Int} (hs : s ∈ ([1, 3, 5, 7, 9, 11] : List Int)) {i j : Nat} (hi : i < 26) (hj : j < 26) (h : signAt f s i = signAt f s j) : i = j := by
  unfold signAt at h
  have h1 := Int.emod_nonneg (f + s * (i : Int)) (by decide : (26 : Int) ≠ 0)
  have h2 := Int.emod_nonneg (f + s * (j : Int)) (by decide : (26 : Int) ≠ 0)
  have e : (f + s * (i : Int)) % 26 = (f + s * (j : Int)) % 26 := by omega
  simp only [List.mem_cons, List.not_mem_nil, or_false] at hs
  rcases hs with rfl | rfl | rfl | rfl | rfl | rfl <;> omega
def namesOf (fr : Bool) (stem : Str) (f s : Int) (m : Nat) : List Str := (List.range m).map fun k => nmOf fr stem (signAt f s k)
theorem namesOf_succ (fr : Bool) (stem : Str) (f s : Int) (m : Nat) : namesOf fr stem f s (m + 1) = namesOf fr stem f s m ++ [nmOf fr stem (signAt f s m)] := by
  unfold namesOf
  rw [List.range_succ, List.map_append]
  rfl
theorem nodup_map {α β : Type} {f : α → β} : ∀ {xs : List α}, xs.Nodup → (∀ x ∈ xs, ∀ y ∈ xs, f x = f y → x = y) → (xs.map f).Nodup
  | [], _, _ => List.nodup_nil
  | x :: xs, hd, hi => by
    have hd' := List.nodup_cons.mp hd
    rw [List.map_cons]
    refine List.nodup_cons.mpr ⟨fun hm => ?_, nodup_map hd'.2 fun y hy z hz => hi y (List.mem_cons_of_mem _ hy) z (List.mem_cons_of_mem _ hz)⟩
    obtain ⟨y, hy, e⟩ := List.mem_map.mp hm
    have := hi y (List.mem_cons_of_mem _ hy) x (List.mem_cons_self ..) e
    rw [this] at hy
    exact hd'.1 hy
theorem namesOf_ok {fr : Bool} {stem : Str} {n : Nat} {f s : Int} {m : Nat} (h : IsWd stem n) (hn : n ≤ 7) (hs : s ∈ ([1, 3, 5, 7, 9, 11] : List Int)) (hm : m ≤ 26) : Nms (namesOf fr stem f s m) m := by
  refine ⟨by unfold namesOf; rw [List.length_map, List.length_range], nodup_map List.nodup_range fun x hx y hy e => ?_, fun z hz => ?_⟩
  · exact signAt_inj hs (Nat.lt_of_lt_of_le (List.mem_range.mp hx) hm) (Nat.lt_of_lt_of_le (List.mem_range.mp hy) hm) (nmOf_inj e)
  · obtain ⟨k, hk, rfl⟩ := List.mem_map.mp hz
    exact nmOf_wd h hn (signAt_le f s k).1 (signAt_le f s k).2
section
variable {P : Program} {w : World} {K : PySem.W.Frag} {mg : Str → Option Value} {base : Heap} {a : Nat → Addr} {d : Nat → FuncData}
/-! ### _law_names -/
def spNames : Sp := fun vs H Q _ => ∃ (p : Addr) (m : Nat), vs = [.ref p, .int (m : Int)] ∧ PoolAt H p ∧ m ≤ 26 ∧
  ∀ (l : Addr) (ns : List Str) (H' : Hp), H l = none → H' l = some (.lst (ns.map V.str)) → Nms ns m → Chg p H H' → Q (.ref l) H'
theorem ok_names (T : Txt K mg a d) : FnOk P w K mg base CX0 4 (a 31) (d 31) ["_law_pool_here", "_law_many"] spNames := by
  have G29 : FnOk P w K mg base CX0 2 (a 29) (d 29) ["_law_pool_here", "_law_many"] spDraw := ok_draw T
  have G30 : FnOk P w K mg base CX0 3 (a 30) (d 30) ["_law_pool_here", "_law_many"] spWord := ok_word T
  refine T.F31.ok sc__law_names (fun vs H Q E h => ?_) (fun cdv A outer s H vs Q E hr h => ?_)
  · obtain ⟨p, m, rfl, _⟩ := h
    rfl
  · obtain ⟨p, m, rfl, hP, hm, q⟩ := h
    refine ⟨_, (pss_cons (ps_set (i := 2) sc__law_names.nd rfl (.inl rfl) pe_str)
  (pss_cons (ps_set (i := 3) sc__law_names.nd rfl (.inl rfl) (pe_call G30 (hr.mono (by decide)) (by rfl) T.g30 T.F30.kp T.b30 .nil pass0 (pa_cons (pv 0) (pa_cons (pe_call G29 (hr.mono (by decide)) (by rfl) T.g29 T.F29.kp T.b29 .nil pass0 (pa_cons (pv 0) (pa_cons pe_int pa_nil))) pa_nil))))
  (pss_cons (ps_set (i := 4) sc__law_names.nd rfl (.inl rfl) (pe_call G29 (hr.mono (by decide)) (by rfl) T.g29 T.F29.kp T.b29 .nil pass0 (pa_cons (pv 0) (pa_cons pe_int pa_nil))))
  (pss_cons (ps_set (i := 5) sc__law_names.nd rfl (.inl rfl) (pe_ix ix_list (pe_lst (pa_cons pe_int (pa_cons pe_int (pa_cons pe_int (pa_cons pe_int (pa_cons pe_int (pa_cons pe_int pa_nil))))))) (pe_call G29 (hr.mono (by decide)) (by rfl) T.g29 T.F29.kp T.b29 .nil pass0 (pa_cons (pv 0) (pa_cons pe_int pa_nil))) (fun _ _ => rfl)))
  (pss_cons (ps_set (i := 6) sc__law_names.nd rfl (.inl rfl) (pe_call G29 (hr.mono (by decide)) (by rfl) T.g29 T.F29.kp T.b29 .nil pass0 (pa_cons (pv 0) (pa_cons pe_int pa_nil))))
  (pss_cons (ps_set (i := 7) sc__law_names.nd rfl (.inl rfl) (pe_lst pa_nil))
  (pss_cons (ps_for PassesOwn.never rfl (pi_range1 (by rfl) T.z_range (pa_cons (pv 1) pa_nil)) (pg_name (i := 8) sc__law_names.nd rfl (.inl rfl))
    (pss_cons (ps_set (i := 9) sc__law_names.nd rfl (.inl rfl) (pe_ix ix_str (pv 2) (pe_op op_mod (pe_callTy (T := "int")  call_int1 (by rfl) T.z_int (by decide +kernel) (pa_cons (pe_op op_add (pv 4) (pe_op op_mul (pv 5) (pv 8))) pa_nil)) pe_int) (fun _ _ => rfl)))
      (pss_one (ps_if (pt_cmpR op_eq (pv 6) pe_int (nomark _))
        (pss_one (ps_expr (pe_bm PySem.F.plainAttrs_list PySem.F.slot_list_append PySem.F.type_list_append mt_append (pv 7) (pa_cons (pe_op op_add_str (pv 9) (pv 3)) pa_nil))))
        (pss_one (ps_expr (pe_bm PySem.F.plainAttrs_list PySem.F.slot_list_append PySem.F.type_list_append mt_append (pv 7) (pa_cons (pe_op op_add_str (pv 3) (pv 9)) pa_nil))))))))
  (pss_one (ps_ret (pv 7)))))))))), ?_⟩
    -- the stem
    refine ⟨_, rfl, _, rfl, p, 8, rfl, hP, by decide, by decide, fun n H1 a0 a1 C1 => ?_⟩
    refine ⟨p, n.toNat, (by rw [Int.toNat_of_nonneg a0]; rfl), C1.1, by omega, fun stem H2 hst C2 => ?_⟩
    have C02 := C1.trans C2
    -- first, step, front
    refine ⟨_, rfl, p, 26, rfl, C2.1, by decide, by decide, fun f H3 f0 f1 C3 => ?_⟩
    have C03 := C02.trans C3
    refine ⟨by show 6 ≤ sizeLine; decide, fun l1 nl1 => ?_⟩
    have C04 : Chg p H (upd H3 l1 (.lst [.int 1, .int 3, .int 5, .int 7, .int 9, .int 11])) := C03.new nl1
    have n1 : l1 ≠ p := Chg.ne C3.1 nl1
    refine ⟨_, rfl, p, 6, rfl, C04.1, by decide, by decide, fun x H5 x0 x1 C5 => ?_⟩
    have C05 := C04.trans C5
    obtain ⟨v, hv⟩ := at_some (xs := ([.int 1, .int 3, .int 5, .int 7, .int 9, .int 11] : List V)) x0 x1
    obtain ⟨st, hst2, rfl⟩ : ∃ s : Int, s ∈ ([1, 3, 5, 7, 9, 11] : List Int) ∧ V.int s = v := List.mem_map.mp (show v ∈ ([1, 3, 5, 7, 9, 11] : List Int).map V.int from atI_mem hv)
    have hsb : 0 ≤ st ∧ st ≤ 11 := by
      simp only [List.mem_cons, List.not_mem_nil, or_false] at hst2
      omega
    refine ⟨_, _, _, _, rfl, rfl, .of (C5.2 l1 _ n1 upd_same), hv, ?_⟩
    refine ⟨_, rfl, p, 2, rfl, C5.1, by decide, by decide, fun fr H6 r0 r1 C6 => ?_⟩
    have C06 := C05.trans C6
    -- found
    refine ⟨Nat.zero_le _, fun l nl => ?_⟩
    have nlp : l ≠ p := Chg.ne C6.1 nl
    have l0 : H l = none := free_of C06 hP nl
    refine ⟨_, rfl, _, rfl, by omega, by omega, ?_⟩
    refine for_range (lo := 0) (n := (m : Int).toNat) (fun i σ H' => ∃ y8 y9, σ = [some (.ref p), some (.int m), some (.str "abcdefghijklmnopqrstuvwxyz"), some (.str stem), some (.int f), some (.int st), some (.int fr), some (.ref l), y8, y9] ∧ H' l = some (.lst ((namesOf (decide (fr = 1)) stem f st i).map V.str)) ∧ Chg p H H') ⟨none, none, rfl, upd_same, C06.new nl⟩ (fun i σ H' hi hp => ?_) (fun σ H' hp => ?_)
    · obtain ⟨y8, y9, rfl, hl, hc⟩ := hp
      have hin : i < m := by omega
      have hs1 := signAt_le f st i
      have hlen : ((namesOf (decide (fr = 1)) stem f st i).map V.str).length < sizeLine := by
        rw [List.length_map]
        unfold namesOf
        rw [List.length_map, List.length_range]
        exact Nat.lt_of_le_of_lt (by omega : i ≤ 26) (by decide)
      have b1 := Int.emod_nonneg (f + st * (i : Int)) (by decide : (26 : Int) ≠ 0)
      have b2 := Int.emod_lt_of_pos (f + st * (i : Int)) (by decide : (0 : Int) < 26)
      refine ⟨_, rfl, _, rfl, _, rfl, _, rfl, _, _, rfl, rfl, .inl ⟨by omega, by omega⟩, _, _, rfl, rfl, .inl ⟨_, rfl, _, _, rfl, rfl, (by show (0 : Int) < 26; decide), ?_⟩⟩
      refine ⟨_, _, signAt f st i, rfl, rfl, by decide +kernel, at_g (j := ((f + st * (i : Int)) % 26).toNat) (by rw [Int.zero_add]; omega) (letter_at _ (by omega)), ?_⟩
      refine ⟨_, rfl, rfl, _, rfl, ite_eqI (fun h => ?_) (fun h => ?_)⟩
      · refine ⟨_, rfl, .inl ⟨rfl, _, .of hl⟩, _, rfl, _, rfl, _, _, rfl, rfl, ?_, l, _, _, rfl, rfl, hl, hlen, _, _, rfl, ?_, hc.mut l0 nlp⟩
        · show 1 + stem.length ≤ sizeLine
          rw [hst.1]
          exact small1000' (by omega)
        · rw [namesOf_succ, List.map_append, decide_eq_true h]
          exact upd_same
      · refine ⟨_, rfl, .inl ⟨rfl, _, .of hl⟩, _, rfl, _, rfl, _, _, rfl, rfl, ?_, l, _, _, rfl, rfl, hl, hlen, _, _, rfl, ?_, hc.mut l0 nlp⟩
        · show stem.length + 1 ≤ sizeLine
          rw [hst.1]
          exact small1000' (by omega)
        · rw [namesOf_succ, List.map_append, decide_eq_false h]
          exact upd_same
    · obtain ⟨y8, y9, rfl, hl, hc⟩ := hp
      rw [Int.toNat_natCast] at hl
      exact ⟨_, rfl, q l _ H' l0 hl (namesOf_ok hst (by omega) hst2 hm) hc⟩
/-! ### _law_columns -/
def Cols (cs : List Int) (w : Int) : Prop := cs.Pairwise (· < ·) ∧ ∀ c ∈ cs, 0 ≤ c ∧ c < w
theorem Cols.take {cs : List Int} {w : Int} (h : Cols cs w) (n : Nat) : Cols (cs.take n) w := ⟨h.1.sublist (List.take_sublist n cs), fun c hc => h.2 c (List.mem_of_mem_take hc)⟩
theorem Cols.snoc {cs : List Int} {i : Nat} (h : Cols cs (i : Int)) : Cols (cs ++ [(i : Int)]) ((i + 1 : Nat) : Int) := by
  refine ⟨List.pairwise_append.mpr ⟨h.1, List.pairwise_singleton _ _, fun x hx y hy => ?_⟩, fun c hc => ?_⟩
  · rw [List.mem_singleton.mp hy]
    exact (h.2 x hx).2
  · rcases List.mem_append.mp hc with h' | h'
    · have := h.2 c h'
      omega
    · rw [List.mem_singleton.mp h']
      omega
theorem Cols.up {cs : List Int} {v w : Int} (h : Cols cs v) (hw : v ≤ w) : Cols cs w := ⟨h.1, fun c hc => ⟨(h.2 c hc).1, Int.lt_of_lt_of_le (h.2 c hc).2 hw⟩⟩
theorem cut_take (xs : List V) (n : Nat) : cutV xs none (some (n : Int)) = xs.take n := by
  unfold cutV
  show (xs.drop 0).take (HT.sIx xs.length xs.length (some (n : Int)) - 0) = _
  rw [List.drop_zero, Nat.sub_zero]
  rw [HT.sIx_nat]
  by_cases h : n ≤ xs.length
  · rw [Nat.min_eq_left h]
  · rw [Nat.min_eq_right (by omega), List.take_length, List.take_of_length_le (by omega)]
def spCols : Sp := fun vs H Q _ => ∃ (p : Addr) (w lo : Int) (hi : Nat), vs = [.ref p, .int w, .int lo, .int (hi : Int)] ∧ PoolAt H p ∧ 1 ≤ w ∧ w ≤ 100 ∧ lo ≤ 1 ∧
  ∀ (t : Addr) (cs : List Int) (H' : Hp), H t = none → H' t = some (.tup (cs.map V.int)) → Cols cs w → cs.length ≤ hi → (lo = 1 → 1 ≤ hi → 1 ≤ cs.length) → Chg p H H' → Q (.ref t) H'
theorem ok_columns (T : Txt K mg a d) : FnOk P w K mg base CX0 3 (a 32) (d 32) ["_law_pool_here", "_law_width", "_law_low", "_law_high"] spCols := by
  have G29 : FnOk P w K mg base CX0 2 (a 29) (d 29) ["_law_pool_here", "_law_many"] spDraw := ok_draw T
  refine T.F32.ok sc__law_columns (fun vs H Q E h => ?_) (fun cdv A outer s H vs Q E hr h => ?_)
  · obtain ⟨p, w, lo, hi, rfl, _⟩ := h
    rfl
  · obtain ⟨p, wd, lo, hi, rfl, hP, hw1, hw2, hlo, q⟩ := h
    refine ⟨_, (pss_cons (ps_setLc (i := 4) (own := [("_law_column", 5)]) rfl sc__law_columns.nd rfl rfl (sw_true rfl rfl rfl (by decide +kernel)) (pi_range1 (by rfl) T.z_range (pa_cons (pv 1) pa_nil)) (blkOk_by (N := ["_law_pool_here", "_law_width", "_law_low", "_law_high", "_law_chosen", "_law_column"]) (sc := defScope s__law_columns) (by decide +kernel)) (fun _ _ _ _ _ => pg_name (i := 5) sc__law_columns.nd rfl (.inl rfl)) (fun _ _ _ _ _ => (pts_one (pt_cmpR op_eq (pe_call G29 (hr.mono (by decide)) (by rfl) T.g29 T.F29.kp T.b29 .nil pass0 (pa_cons (pv 0) (pa_cons pe_int pa_nil))) pe_int (nomark _)))) (fun _ _ _ _ _ => (pv 5)))
  (Evl.pss_cut (ps_if (pt_cmpR op_lt (pe_callB (id := "len")  call_len_seq (by rfl) T.z_len (by decide +kernel) (pa_cons (pv 4) pa_nil)) (pv 2) (nomark _))
    (pss_one (ps_set (i := 4) sc__law_columns.nd rfl (.inl rfl) (pe_lst (pa_cons (pe_call G29 (hr.mono (by decide)) (by rfl) T.g29 T.F29.kp T.b29 .nil pass0 (pa_cons (pv 0) (pa_cons (pv 1) pa_nil))) pa_nil))))
    pss_nil)
  (pss_one (ps_ret (pe_callTy (T := "tuple")  call_tuple_of (by rfl) T.z_tuple (by decide +kernel) (pa_cons (pe_slice sl_list (pv 4) po_none (po_some (pv 3))) pa_nil)))))), ?_⟩
    refine ⟨_, rfl, _, rfl, by omega, by omega, fun D hD => ?_⟩
    have nD : D ≠ p := Chg.ne hP hD
    refine lc_range (lo := 0) (n := wd.toNat) (fun i H' => ∃ cs : List Int, H' D = some (.lst (cs.map V.int)) ∧ cs.length ≤ i ∧ Cols cs (i : Int) ∧ Chg p H H') ⟨[], upd_same, Nat.le_refl _, ⟨.nil, fun c hc => by cases hc⟩, (Chg.refl hP).new hD⟩ (fun i H' hi' hp => ?_) (fun H' hp => ?_)
    · obtain ⟨cs, c1, c2, c3, c4⟩ := hp
      refine ⟨rfl, ?_⟩
      refine ⟨_, rfl, p, 2, rfl, c4.1, by decide, by decide, fun r H'' r0 r1 C => ⟨rfl, _, rfl, ite_eqI (fun h => ?_) (fun h => ?_)⟩⟩
      · refine ⟨_, rfl, _, C.2 D _ nD c1, ?_, cs ++ [(i : Int)], ?_, ?_, c3.snoc, (c4.trans C).mut hD nD⟩
        · rw [List.length_map]
          exact small1000 (by omega)
        · rw [List.map_append, Int.zero_add]
          exact upd_same
        · rw [List.length_append]
          exact Nat.succ_le_succ c2
      · exact ⟨cs, C.2 D _ nD c1, Nat.le_succ_of_le c2, c3.up (by omega), c4.trans C⟩
    obtain ⟨cs, c1, c2, c3, c4⟩ := hp
    rw [Int.toNat_of_nonneg (by omega)] at c3
    -- at low so many
    refine ⟨fun σ H2 => ∃ l cs y5, σ = [some (.ref p), some (.int wd), some (.int lo), some (.int hi), some (.ref l), y5] ∧ H2 l = some (.lst (cs.map V.int)) ∧ cs.length ≤ 100 ∧ Cols cs wd ∧ (lo = 1 → 1 ≤ cs.length) ∧ Chg p H H2, ?_, ?_⟩
    · refine ⟨_, rfl, _, _, rfl, .inl (.of c1), _, rfl, _, _, rfl, rfl, _, rfl, ite_d (fun h1 => ?_) (fun h1 => ⟨D, cs, _, rfl, c1, by omega, c3, fun e => ?_, c4⟩)⟩
      · refine ⟨_, rfl, _, rfl, p, wd, rfl, c4.1, by omega, Nat.lt_of_le_of_lt (by omega : _ ≤ 100) (by decide), fun r H3 r0 r1 C3 => ⟨by show 1 ≤ sizeLine; decide, fun l2 nl2 => ⟨l2, [r], _, rfl, upd_same, by show 1 ≤ 100; decide, ⟨List.pairwise_singleton _ _, fun c hc => ?_⟩, fun _ => Nat.le_refl _, (c4.trans C3).new nl2⟩⟩⟩
        rw [List.mem_singleton.mp hc]
        exact ⟨r0, r1⟩
      · rw [List.length_map] at h1
        omega
    · rintro σ H2 ⟨l, cs, y5, rfl, e1, e2, e3, e4, e5⟩
      refine ⟨_, rfl, _, rfl, _, rfl, _, _, rfl, .of e1, fun m hm => ?_⟩
      refine ⟨m, _, rfl, .inl ⟨.of upd_same, fun t ht => ?_⟩⟩
      rw [cut_take, ← List.map_take] at ht ⊢
      have C := (e5.new (o := .lst ((cs.take hi).map V.int)) hm).new (o := .tup ((cs.take hi).map V.int)) ht
      refine q t (cs.take hi) _ (free_of (e5.new (o := .lst ((cs.take hi).map V.int)) hm) hP ht) upd_same (e3.take hi) ?_ (fun h1 h2 => ?_) C
      · rw [List.length_take]
        omega
      · have := e4 h1
        rw [List.length_take]
        omega
/-! ### _law_tables -/
def tabK (ts : List (Str × Int)) : List (Key × V) := ts.map fun p => (Sum.inr p.1, V.int p.2)
structure Tabs (ts : List (Str × Int)) (m : Nat) (wm : Int) : Prop where
  nm : Nms (ts.map (·.1)) m
  wd : ∀ p ∈ ts, 1 ≤ p.2 ∧ p.2 ≤ wm
theorem Tabs.len {ts : List (Str × Int)} {m : Nat} {wm : Int} (h : Tabs ts m wm) : ts.length = m := by
  rw [← h.nm.len, List.length_map]
theorem valV_no {κ : Type} [DecidableEq κ] {k : κ} : ∀ {kvs : List (κ × V)}, k ∉ kvs.map (·.1) → valV kvs k = none
  | [], _ => rfl
  | p :: r, h => by
    rw [List.map_cons] at h
    rw [valV_neg (fun e => h (by rw [e]; exact List.mem_cons_self ..))]
    exact valV_no fun hm => h (List.mem_cons_of_mem _ hm)
theorem nd_take {α : Type} {xs : List α} {i : Nat} {x : α} (h : xs.Nodup) (hx : xs[i]? = some x) : x ∉ xs.take i := fun hm => by
  have e : (xs.take (i + 1)).Nodup := h.sublist (List.take_sublist _ _)
  rw [List.take_add_one, hx] at e
  exact (List.nodup_append.mp e).2.2 x hm x (by simp) rfl
theorem keys_tab (ts : List (Str × Int)) : (tabK ts).map (·.1) = (ts.map (·.1)).map Sum.inr := by
  unfold tabK
  rw [List.map_map, List.map_map]
  rfl
theorem inr_nd {ns : List Str} (h : ns.Nodup) : (ns.map (Sum.inr : Str → Key)).Nodup := nodup_map h fun _ _ _ _ e => Sum.inr.inj e
theorem inr_no {ns : List Str} {n : Str} (h : n ∉ ns) : (Sum.inr n : Key) ∉ ns.map Sum.inr := fun hm => by
  obtain ⟨x, hx, e⟩ := List.mem_map.mp hm
  rw [← Sum.inr.inj e] at h
  exact h hx
theorem tab_at {H : Hp} {t : Addr} {ts : List (Str × Int)} {n : Str} {w : Int} (e : H t = some (.dK (tabK ts))) (nd : (ts.map (·.1)).Nodup) (h : (n, w) ∈ ts) : DGet H t (.str n) (some (.int w)) := by
  have g := DGet.k (k := Sum.inr n) e
  have v : valV (tabK ts) (Sum.inr n) = some (.int w) := val_nodup (kvs := tabK ts) (by rw [keys_tab]; exact inr_nd nd) (Sum.inr n, V.int w) (List.mem_map.mpr ⟨(n, w), h, rfl⟩)
  rw [v] at g
  exact g
theorem snoc_map {α β : Type} (f : α → β) (xs : List α) (x : α) : (xs ++ [x]).map f = xs.map f ++ [f x] := by
  rw [List.map_append]
  rfl
theorem Chg.at {p b : Addr} {H H' : Hp} {o : HO} (c : Chg p H H') (n : b ≠ p) (e : H b = some o) : H' b = some o := c.2 b o n e
theorem pool_ne {H : Hp} {p b : Addr} {o : HO} (h : PoolAt H p) (e : H b = some o) (x : ∀ xs, o ≠ .lst xs) : b ≠ p := by
  obtain ⟨p0, p1, p2, p3, r, e', c⟩ := h
  exact ne_of e e' (x _)
def spTables : Sp := fun vs H Q _ => ∃ (p : Addr) (m : Nat) (wm : Int), vs = [.ref p, .int (m : Int), .int wm] ∧ PoolAt H p ∧ m ≤ 26 ∧ 1 ≤ wm ∧ wm ≤ 100 ∧
  ∀ (t : Addr) (ts : List (Str × Int)) (H' : Hp), H t = none → H' t = some (.dK (tabK ts)) → Tabs ts m wm → Chg p H H' → Q (.ref t) H'
theorem ok_tables (T : Txt K mg a d) : FnOk P w K mg base CX0 5 (a 33) (d 33) ["_law_pool_here", "_law_many", "_law_widest"] spTables := by
  have G29 : FnOk P w K mg base CX0 2 (a 29) (d 29) ["_law_pool_here", "_law_many"] spDraw := ok_draw T
  have G31 : FnOk P w K mg base CX0 4 (a 31) (d 31) ["_law_pool_here", "_law_many"] spNames := ok_names T
  refine T.F33.ok sc__law_tables (fun vs H Q E h => ?_) (fun cdv A outer s H vs Q E hr h => ?_)
  · obtain ⟨p, m, wm, rfl, _⟩ := h
    rfl
  · obtain ⟨p, m, wm, rfl, hP, hm, hw1, hw2, q⟩ := h
    have hu := hu_of hr
    refine ⟨_, (pss_cons (ps_set (i := 3) sc__law_tables.nd rfl (.inl rfl) (pe_call G31 (hr.mono (by decide)) (by rfl) T.g31 T.F31.kp T.b31 .nil pass0 (pa_cons (pv 0) (pa_cons (pv 1) pa_nil))))
  (pss_cons (ps_set (i := 4) sc__law_tables.nd rfl (.inl rfl) pe_dnewK)
  (pss_cons (ps_for PassesOwn.never rfl (pi_list (pv 3)) (pg_name (i := 5) sc__law_tables.nd rfl (.inl rfl))
    (pss_one (ps_dput (hu_of hr) (pv 4) (pv 5) (pe_op op_add pe_int (pe_call G29 (hr.mono (by decide)) (by rfl) T.g29 T.F29.kp T.b29 .nil pass0 (pa_cons (pv 0) (pa_cons (pv 2) pa_nil)))) rfl)))
  (pss_one (ps_ret (pv 4)))))), ?_⟩
    refine ⟨_, rfl, _, rfl, p, m, rfl, hP, hm, fun l ns H1 l0 hl hn C1 => ?_⟩
    have nl : l ≠ p := fun e => by
      obtain ⟨p0, p1, p2, p3, r, e', c⟩ := hP
      rw [e, e'] at l0
      cases l0
    intro t ht
    have nt : t ≠ p := Chg.ne C1.1 ht
    have nlt : l ≠ t := ne_of_none hl ht
    have t0 : H t = none := free_of C1 hP ht
    have lens : (ns.map V.str).length = m := by rw [List.length_map, hn.len]
    refine ⟨_, rfl, l, rfl, ⟨_, .of (by rw [upd_ne nlt]; exact hl)⟩, for_list (K := K) (a := l) (xs := ns.map V.str) (fun i σ H' => ∃ (ts : List (Str × Int)) (y5 : Option V), σ = [some (.ref p), some (.int m), some (.int wm), some (.ref l), some (.ref t), y5] ∧ H' t = some (.dK (tabK ts)) ∧ H' l = some (.lst (ns.map V.str)) ∧ ts.map (·.1) = ns.take i ∧ (∀ b ∈ ts, 1 ≤ b.2 ∧ b.2 ≤ wm) ∧ Chg p H H')
      ⟨[], none, rfl, upd_same, by rw [upd_ne nlt]; exact hl, rfl, (fun b hb => by cases hb), C1.new ht⟩ (fun i σ H' _ hp => ?_) (fun i y σ H' hy hp => ?_) (fun σ H' hp => ?_)⟩
    · obtain ⟨ts, y5, rfl, _, hl', _⟩ := hp
      exact .of hl'
    · obtain ⟨ts, y5, rfl, ht', hl', hk, hw, hc⟩ := hp
      obtain ⟨n, hn', rfl⟩ := map_at hy
      have hlen : ts.length ≤ 26 := by
        have e := congrArg List.length hk
        rw [List.length_map, List.length_take] at e
        have := hn.len
        omega
      refine ⟨_, rfl, _, rfl, p, wm, rfl, hc.1, by omega, Nat.lt_of_le_of_lt (by omega : _ ≤ 100) (by decide), fun r H'' r0 r1 C => ⟨_, _, rfl, rfl, _, rfl, _, rfl, t, _, rfl, DPut.k (k := Sum.inr n) (C.at nt ht') ?_, ts ++ [(n, 1 + r)], _, rfl, ?_, ?_, ?_, fun b hb => ?_, (hc.trans C).mut t0 nt⟩⟩
      · unfold tabK
        rw [List.length_map]
        exact Nat.lt_of_le_of_lt hlen (by decide)
      · unfold tabK
        rw [snoc_map]
        refine Eq.trans upd_same (congrArg (fun x => some (HO.dK x)) (putK_new _ (valV_no ?_)))
        have e := keys_tab ts
        unfold tabK at e
        rw [e, hk]
        exact inr_no (nd_take hn.nd hn')
      · rw [upd_ne nlt]
        exact C.at nl hl'
      · rw [snoc_map, hk, List.take_add_one, hn']
        rfl
      · rcases List.mem_append.mp hb with h | h
        · exact hw b h
        · rw [List.mem_singleton.mp h]
          exact ⟨by show 1 ≤ 1 + r; omega, by show 1 + r ≤ wm; omega⟩
    · obtain ⟨ts, y5, rfl, ht', hl', hk, hw, hc⟩ := hp
      rw [List.length_map, List.take_length] at hk
      exact ⟨_, rfl, q t ts H' t0 ht' ⟨by rw [hk]; exact hn, hw⟩ hc⟩
/-! ### _law_keys -/
abbrev KeyE := Str × Addr × List Int
def keyK (ks : List KeyE) : List (Key × V) := ks.map fun b => (Sum.inr b.1, V.ref b.2.1)
theorem keys_key (ks : List KeyE) : (keyK ks).map (·.1) = (ks.map (·.1)).map Sum.inr := by
  unfold keyK
  rw [List.map_map, List.map_map]
  rfl
structure Keys (H : Hp) (ts : List (Str × Int)) (ks : List KeyE) : Prop where
  nd : (ks.map (·.1)).Nodup
  le : ks.length ≤ ts.length
  at_ : ∀ b ∈ ks, H b.2.1 = some (.tup (b.2.2.map V.int))
  ok : ∀ b ∈ ks, ∃ w, (b.1, w) ∈ ts ∧ Cols b.2.2 w ∧ 1 ≤ b.2.2.length ∧ (b.2.2.length : Int) < w
theorem Keys.mono {H H' : Hp} {ts : List (Str × Int)} {ks : List KeyE} (h : Keys H ts ks) (m : ∀ b xs, H b = some (.tup xs) → H' b = some (.tup xs)) : Keys H' ts ks := ⟨h.nd, h.le, fun b hb => m _ _ (h.at_ b hb), h.ok⟩
theorem chg_tup {p : Addr} {H H' : Hp} (h : PoolAt H p) (c : Chg p H H') : ∀ b xs, H b = some (.tup xs) → H' b = some (.tup xs) := fun b xs e => c.at (pool_ne h e (by intro _ z; cases z)) e
theorem upd_tup {H : Hp} {t : Addr} {o u : HO} (h : H t = some u) (n : ∀ xs, u ≠ .tup xs) : ∀ b xs, H b = some (.tup xs) → upd H t o b = some (.tup xs) := fun b xs e => by
  rw [upd_ne (ne_of e h (fun z => n xs z.symm))]
  exact e
def spKeys : Sp := fun vs H Q _ => ∃ (p t : Addr) (m : Nat) (ts : List (Str × Int)), vs = [.ref p, .ref t] ∧ PoolAt H p ∧ H t = some (.dK (tabK ts)) ∧ Tabs ts m 100 ∧ m ≤ 26 ∧
  ∀ (k : Addr) (ks : List KeyE) (H' : Hp), H k = none → H' k = some (.dK (keyK ks)) → Keys H' ts ks → Chg p H H' → Q (.ref k) H'
theorem ok_keys (T : Txt K mg a d) : FnOk P w K mg base CX0 4 (a 34) (d 34) ["_law_pool_here", "_law_tables_here"] spKeys := by
  have G29 : FnOk P w K mg base CX0 2 (a 29) (d 29) ["_law_pool_here", "_law_many"] spDraw := ok_draw T
  have G32 : FnOk P w K mg base CX0 3 (a 32) (d 32) ["_law_pool_here", "_law_width", "_law_low", "_law_high"] spCols := ok_columns T
  refine T.F34.ok sc__law_keys (fun vs H Q E h => ?_) (fun cdv A outer s H vs Q E hr h => ?_)
  · obtain ⟨p, t, m, ts, rfl, _⟩ := h
    rfl
  · obtain ⟨p, t, m, ts, rfl, hP, ht, hT, hm, q⟩ := h
    have hu := hu_of hr
    refine ⟨_, (pss_cons (ps_set (i := 2) sc__law_keys.nd rfl (.inl rfl) pe_dnewK)
  (pss_cons (ps_for PassesOwn.never rfl (pi_list (pe_callTy (T := "list")  (call_listD rfl) (by rfl) T.z_list (by decide +kernel) (pa_cons (pv 1) pa_nil))) (pg_name (i := 3) sc__law_keys.nd rfl (.inl rfl))
    (pss_one (ps_if (PW.pt (pw_and (pt_cmpR op_gt (pe_dget (hu_of hr) (pv 1) (pv 3) (fun _ _ => rfl)) pe_int (nomark _)) (pw_and1 (pt_cmpR op_eq (pe_call G29 (hr.mono (by decide)) (by rfl) T.g29 T.F29.kp T.b29 .nil pass0 (pa_cons (pv 0) (pa_cons pe_int pa_nil))) pe_int (nomark _)))))
        (pss_one (ps_dput (hu_of hr) (pv 2) (pv 3) (pe_call G32 (hr.mono (by decide)) (by rfl) T.g32 T.F32.kp T.b32 .nil pass0 (pa_cons (pv 0) (pa_cons (pe_dget (hu_of hr) (pv 1) (pv 3) (fun _ _ => rfl)) (pa_cons pe_int (pa_cons (pe_op op_sub (pe_dget (hu_of hr) (pv 1) (pv 3) (fun _ _ => rfl)) pe_int) pa_nil))))) rfl))
        pss_nil)))
  (pss_one (ps_ret (pv 2))))), ?_⟩
    intro k hk
    have nt : t ≠ p := pool_ne hP ht (by intro _ z; cases z)
    have nk : k ≠ p := Chg.ne hP hk
    have ntk : t ≠ k := ne_of_none ht hk
    have C0 : Chg p H (upd H k (.dK [])) := (Chg.refl hP).new hk
    have e0 : (tabK ts).map (fun kv => kV kv.1) = (ts.map (·.1)).map V.str := by
      unfold tabK
      rw [List.map_map, List.map_map]
      rfl
    refine ⟨_, rfl, t, tabK ts, rfl, .inl (C0.at nt ht), fun l hl => ⟨l, rfl, ?_⟩⟩
    rw [e0]
    have nl : l ≠ p := Chg.ne C0.1 hl
    have nkl : k ≠ l := ne_of_none upd_same hl
    have C1 := C0.new (o := .lst ((ts.map (·.1)).map V.str)) hl
    refine ⟨⟨_, .of upd_same⟩, for_list (K := K) (a := l) (xs := (ts.map (·.1)).map V.str) (fun i σ H' => ∃ (ks : List KeyE) (y3 : Option V), σ = [some (.ref p), some (.ref t), some (.ref k), y3] ∧ H' k = some (.dK (keyK ks)) ∧ H' l = some (.lst ((ts.map (·.1)).map V.str)) ∧ (ks.map (·.1)).Sublist ((ts.map (·.1)).take i) ∧ (∀ b ∈ ks, H' b.2.1 = some (.tup (b.2.2.map V.int))) ∧
        (∀ b ∈ ks, ∃ w, (b.1, w) ∈ ts ∧ Cols b.2.2 w ∧ 1 ≤ b.2.2.length ∧ (b.2.2.length : Int) < w) ∧ Chg p H H')
      ⟨[], none, rfl, ?_, upd_same, List.nil_sublist _, (fun b hb => by cases hb), (fun b hb => by cases hb), C1⟩ (fun i σ H' _ hp => ?_) (fun i y σ H' hy hp => ?_) (fun σ H' hp => ?_)⟩
    · rw [upd_ne nkl]
      exact upd_same
    · obtain ⟨ks, y3, rfl, _, hl', _⟩ := hp
      exact .of hl'
    · obtain ⟨ks, y3, rfl, hk', hl', hsub, hat, hok, hc⟩ := hp
      obtain ⟨n, hn, rfl⟩ := map_at hy
      obtain ⟨b, hb, rfl⟩ := map_at hn
      obtain ⟨n, w⟩ := b
      have hmem : (n, w) ∈ ts := List.mem_of_getElem? hb
      have hw := hT.wd _ hmem
      have tk : (ts.map (·.1)).take (i + 1) = (ts.map (·.1)).take i ++ [n] := by
        rw [List.take_add_one, hn]
        rfl
      have hsub' : (ks.map (·.1)).Sublist ((ts.map (·.1)).take (i + 1)) := by
        rw [tk]
        exact hsub.trans (List.sublist_append_left _ _)
      have hlen : ks.length ≤ 26 := by
        have e1 := hsub.length_le
        rw [List.length_map, List.length_take] at e1
        have e2 := hT.nm.len
        omega
      have g : ∀ H2 : Hp, H2 t = some (.dK (tabK ts)) → DGet H2 t (.str n) (some (.int w)) := fun H2 e => tab_at e hT.nm.nd hmem
      have ht' := hc.at nt ht
      refine ⟨_, rfl, _, rfl, t, _, rfl, g _ ht', _, _, rfl, rfl, _, rfl, ite_d (fun h1 => ?_) (fun h1 => ⟨ks, _, rfl, hk', hl', hsub', hat, hok, hc⟩)⟩
      refine ⟨_, rfl, p, 3, rfl, hc.1, by decide, by decide, fun r H2 r0 r1 C2 => ⟨rfl, _, rfl, ite_eqI (fun h2 => ?_) (fun h2 => ?_)⟩⟩
      · refine ⟨_, rfl, _, rfl, _, rfl, t, _, rfl, g _ (C2.at nt ht'), _, rfl, _, rfl, t, _, rfl, g _ (C2.at nt ht'), _, _, rfl, rfl, p, w, 1, (w - 1).toNat, ?_, C2.1, by omega, by omega, by decide, fun c cs H3 c0 c1 c2 c3 c4 C3 => ?_⟩
        · rw [Int.toNat_of_nonneg (by omega)]
          rfl
        have C23 := C2.trans C3
        have hk3 := C23.at nk hk'
        have nc : ∀ o, H3 k = some o → c ≠ k := fun o e => ne_of c1 hk3 (by intro z; cases z)
        refine ⟨_, rfl, _, rfl, k, _, rfl, DPut.k (k := Sum.inr n) hk3 ?_, ks ++ [(n, c, cs)], _, rfl, ?_, ?_, ?_, fun b hb => ?_, fun b hb => ?_, (hc.trans C23).mut hk nk⟩
        · unfold keyK
          rw [List.length_map]
          exact Nat.lt_of_le_of_lt hlen (by decide)
        · unfold keyK
          rw [snoc_map]
          refine Eq.trans upd_same (congrArg (fun x => some (HO.dK x)) (putK_new _ (valV_no ?_)))
          have e := keys_key ks
          unfold keyK at e
          rw [e]
          exact inr_no fun hm => nd_take hT.nm.nd hn (hsub.subset hm)
        · rw [upd_ne nkl.symm]
          exact C23.at nl hl'
        · rw [snoc_map, tk]
          exact hsub.append (List.Sublist.refl _)
        · rcases List.mem_append.mp hb with h | h
          · exact upd_tup hk3 (by intro _ z; cases z) _ _ (chg_tup hc.1 C23 _ _ (hat b h))
          · rw [List.mem_singleton.mp h]
            exact upd_tup hk3 (by intro _ z; cases z) _ _ c1
        · rcases List.mem_append.mp hb with h | h
          · exact hok b h
          · rw [List.mem_singleton.mp h]
            have h5 := c4 rfl (by omega)
            exact ⟨w, hmem, c2, h5, by show (cs.length : Int) < w; omega⟩
      · exact ⟨ks, _, rfl, C2.at nk hk', C2.at nl hl', hsub', fun b hb => chg_tup hc.1 C2 _ _ (hat b hb), hok, hc.trans C2⟩
    · obtain ⟨ks, y3, rfl, hk', hl', hsub, hat, hok, hc⟩ := hp
      rw [List.length_map, List.take_length] at hsub
      exact ⟨_, rfl, q k ks H' hk hk' ⟨hT.nm.nd.sublist hsub, by have := hsub.length_le; rw [List.length_map, List.length_map] at this; exact this, hat, hok⟩ hc⟩
/-! ### _law_is_whole -/
theorem valV_mem {κ : Type} [DecidableEq κ] {k : κ} {v : V} : ∀ {kvs : List (κ × V)}, valV kvs k = some v → (k, v) ∈ kvs
  | [], h => by cases h
  | p :: r, h => by
    by_cases e : p.1 = k
    · rw [valV_pos e] at h
      have : p = (k, v) := by rw [← e, ← Option.some.inj h]
      rw [this]
      exact List.mem_cons_self ..
    · rw [valV_neg e] at h
      exact List.mem_cons_of_mem _ (valV_mem h)
theorem perm_nd {κ : Type} {a b : List (κ × V)} (p : a.Perm b) (nd : (b.map (·.1)).Nodup) : (a.map (·.1)).Nodup := (p.map (·.1)).nodup_iff.mpr nd
theorem valV_perm {κ : Type} [DecidableEq κ] {a b : List (κ × V)} (p : a.Perm b) (nd : (b.map (·.1)).Nodup) (k : κ) : valV a k = valV b k := by
  cases h : valV b k with
  | some v => exact val_nodup (perm_nd p nd) (k, v) (p.mem_iff.mpr (valV_mem h))
  | none =>
    cases h' : valV a k with
    | none => rfl
    | some v =>
      rw [val_nodup nd (k, v) (p.mem_iff.mp (valV_mem h'))] at h
      cases h
/-- a dict at t with these pairs, in any order -/
def DctAt (H : Hp) (t : Addr) (kvs : List (Key × V)) : Prop := ∃ ks, H t = some (.dK ks) ∧ ks.Perm kvs
theorem DctAt.of {H : Hp} {t : Addr} {kvs : List (Key × V)} (h : H t = some (.dK kvs)) : DctAt H t kvs := ⟨kvs, h, .refl _⟩
theorem DctAt.same {H H' : Hp} {t : Addr} {kvs : List (Key × V)} (h : DctAt H t kvs) (s : Same H H') : DctAt H' t kvs := by
  obtain ⟨ks, e, p⟩ := h
  exact ⟨ks, s _ _ e, p⟩
theorem DctAt.get {H : Hp} {t : Addr} {kvs : List (Key × V)} (h : DctAt H t kvs) (nd : (kvs.map (·.1)).Nodup) (k : Key) : DGet H t (kV k) (valV kvs k) := by
  obtain ⟨ks, e, p⟩ := h
  have g := DGet.k (k := k) e
  rw [valV_perm p nd] at g
  exact g
theorem tab_nd {ts : List (Str × Int)} {m : Nat} {wm : Int} (h : Tabs ts m wm) : ((tabK ts).map (·.1)).Nodup := by
  rw [keys_tab]
  exact inr_nd h.nm.nd
theorem tab_val {ts : List (Str × Int)} {m : Nat} {wm : Int} {n : Str} {w : Int} (h : Tabs ts m wm) (hm : (n, w) ∈ ts) : valV (tabK ts) (Sum.inr n) = some (.int w) :=
  val_nodup (kvs := tabK ts) (tab_nd h) (Sum.inr n, V.int w) (List.mem_map.mpr ⟨(n, w), hm, rfl⟩)
theorem key_nd {H : Hp} {ts : List (Str × Int)} {ks : List KeyE} {m : Nat} {wm : Int} (hT : Tabs ts m wm) (h : Keys H ts ks) : ((keyK ks).map (·.1)).Nodup := by
  rw [keys_key]
  exact inr_nd h.nd
theorem DctAt.at_ {H : Hp} {t : Addr} {kvs : List (Key × V)} {n : Str} {v : V} (h : DctAt H t kvs) (nd : (kvs.map (·.1)).Nodup) (e : valV kvs (Sum.inr n) = some v) : DGet H t (.str n) (some v) := by
  have g := h.get nd (Sum.inr n)
  rw [e] at g
  exact g
def capV : Option Int → V
  | none => .non
  | some i => .int i
theorem capV_none (c : Option Int) : decide (capV c = .non) = c.isNone := by
  cases c <;> rfl
def keyAt (ks : List KeyE) (n : Str) : Option KeyE := ks.find? fun b => decide (b.1 = n)
theorem keyAt_val (n : Str) : ∀ ks : List KeyE, valV (keyK ks) (Sum.inr n) = (keyAt ks n).map fun b => V.ref b.2.1
  | [] => rfl
  | b :: ks => by
    have ih := keyAt_val n ks
    unfold keyAt keyK at ih ⊢
    rw [List.map_cons]
    by_cases e : b.1 = n
    · rw [valV_pos (by rw [e])]
      simp [e]
    · rw [valV_neg (fun z => e (Sum.inr.inj z)), ih]
      simp [e]
theorem keyAt_mem {ks : List KeyE} {n : Str} {b : KeyE} (h : keyAt ks n = some b) : b ∈ ks ∧ b.1 = n := by
  unfold keyAt at h
  exact ⟨List.mem_of_find?_eq_some h, by simpa using List.find?_some h⟩
def isWh (w : Int) (ks : List KeyE) (n : Str) (cols : List Int) (cap : Option Int) : Bool :=
  cap.isNone || (decide ((cols.length : Int) = w) || match keyAt ks n with
    | none => false
    | some b => b.2.2.all fun x => decide (x ∈ cols))
theorem inV_ints (c : Int) (xs : List Int) : inV (.int c) (xs.map V.int) = decide (c ∈ xs) := by
  unfold inV
  rw [List.any_map]
  apply Bool.eq_iff_iff.mpr
  rw [List.any_eq_true, decide_eq_true_iff]
  constructor
  · rintro ⟨x, hx, e⟩
    have e' : decide (x = c) = true := e
    rw [← of_decide_eq_true e']
    exact hx
  · intro h
    exact ⟨c, h, decide_eq_true rfl⟩
theorem flat_ints (xs : List Int) : (xs.map V.int).all flatV = true := by
  rw [List.all_map, List.all_eq_true]
  intro _ _
  rfl
theorem dp_ints {K : PySem.W.Frag} {H : Hp} : ∀ ns : List Int, DpAll K H (ns.map V.int) (ns.map PyData.int)
  | [] => .nil
  | n :: ns => .cons (.int n) (dp_ints ns)
theorem lay_ints : ∀ ns : List Int, PyData.canLayAll0 (ns.map PyData.int) = true ∧ PyData.depthAll (ns.map PyData.int) = 0
  | [] => by simp [PyData.canLayAll0, PyData.depthAll]
  | n :: ns => by
    obtain ⟨h1, h2⟩ := lay_ints ns
    simp only [List.map_cons, PyData.canLayAll0, PyData.depthAll, PyData.canLay0, PyData.depth, h1, h2, Bool.and_self, true_and]
    rfl
theorem ints_shaped (ns : List Int) : SeqAt.shaped (.list (ns.map PyData.int)) = true := by
  obtain ⟨h1, h2⟩ := lay_ints ns
  show ((PyData.list (ns.map PyData.int)).canLay0 && decide ((PyData.list (ns.map PyData.int)).depth ≤ 64)) = true
  simp only [PyData.canLay0, PyData.depth, h1, h2]
  decide
theorem eqv_nilL (ds : List PyData) : PyData.eqv (.list ds) (.list []) = ds.isEmpty := by
  cases ds <;> simp [PyData.eqv, PyData.eqvAll]
theorem filter_empty (cs xs : List Int) : ((cs.filter fun c => !decide (c ∈ xs)).map PyData.int).isEmpty = cs.all fun c => decide (c ∈ xs) := by
  induction cs with
  | nil => rfl
  | cons c cs ih =>
    by_cases h : c ∈ xs
    · rw [List.filter_cons_of_neg (by simp [h]), ih, List.all_cons, decide_eq_true h, Bool.true_and]
    · rw [List.filter_cons_of_pos (by simp [h]), List.all_cons, decide_eq_false h, Bool.false_and]
      rfl
structure Told (H : Hp) (v : Addr) (n : Str) (ga : Addr) (cols : List Int) (cap : Option Int) : Prop where
  tup : H v = some (.tup [.str n, .ref ga, capV cap])
  cols : H ga = some (.tup (cols.map V.int))
theorem Told.mono {H H' : Hp} {v : Addr} {n : Str} {ga : Addr} {cols : List Int} {cap : Option Int} (h : Told H v n ga cols cap) (m : ∀ b xs, H b = some (.tup xs) → H' b = some (.tup xs)) : Told H' v n ga cols cap := ⟨m _ _ h.tup, m _ _ h.cols⟩
def spWhole : Sp := fun vs H Q _ => ∃ (t k v ga : Addr) (m : Nat) (ts : List (Str × Int)) (ks : List KeyE) (n : Str) (w : Int) (cols : List Int) (cap : Option Int), vs = [.ref t, .ref k, .ref v] ∧ DctAt H t (tabK ts) ∧ DctAt H k (keyK ks) ∧ Tabs ts m 100 ∧ Keys H ts ks ∧
  Told H v n ga cols cap ∧ (n, w) ∈ ts ∧ cols.length ≤ 100 ∧ ∀ H', Same H H' → Q (.bl (isWh w ks n cols cap)) H'
theorem ok_is_whole (T : Txt K mg a d) : FnOk P w K mg base CX0 3 (a 35) (d 35) ["_law_tables_here", "_law_keys_here", "_law_told"] spWhole := by
  refine T.F35.ok sc__law_is_whole (fun vs H Q E h => ?_) (fun cdv A outer s H vs Q E hr h => ?_)
  · obtain ⟨t, k, v, ga, m, ts, ks, n, w, cols, cap, rfl, _⟩ := h
    rfl
  · obtain ⟨t, k, v, ga, m, ts, ks, n, w, cols, cap, rfl, ht, hk, hT, hK, hv, hm, hc, q⟩ := h
    refine ⟨_, (pss_cons (ps_asg (pv 2) (pg_tup rfl (pgs_cons (pg_name (i := 3) sc__law_is_whole.nd rfl (.inl rfl)) (pgs_cons (pg_name (i := 4) sc__law_is_whole.nd rfl (.inr rfl)) (pgs_cons (pg_name (i := 5) sc__law_is_whole.nd rfl (.inl rfl)) pgs_nil)))))
  (pss_cons (ps_if (PW.pt (pw_or (pt_cmpR op_isN (pv 5) pe_non (nomark _)) (pw_or1 (pt_cmpR op_eq (pe_callB (id := "len")  call_len_seq (by rfl) T.z_len (by decide +kernel) (pa_cons (pv 4) pa_nil)) (pe_dget (hu_of hr) (pv 0) (pv 3) (fun _ _ => rfl)) (nomark _)))))
    (pss_one (ps_ret pe_bl))
    pss_nil)
  (pss_cons (ps_if (pt_cmp (pc_dnotin (hu_of hr) (pv 3) (pv 1)))
    (pss_one (ps_ret pe_bl))
    pss_nil)
  (pss_one (ps_ret (pe_cmpR (op_eqD (hu_of64 hr)) (pe_lc (own := [("_law_column", 6)]) rfl sc__law_is_whole.nd (pi_tup (pe_dget (hu_of hr) (pv 1) (pv 3) (fun _ _ => rfl))) (blkOk_by (N := ["_law_tables_here", "_law_keys_here", "_law_told", "_law_table", "_law_given", "_law_cap", "_law_column"]) (sc := defScope s__law_is_whole) (by decide +kernel)) (fun _ _ _ _ _ => pg_name (i := 6) sc__law_is_whole.nd rfl (.inl rfl)) (fun _ _ _ _ _ => (pts_one (pt_cmpR (r := rIn K true) op_notIn_seq (pv 6) (pv 4) (by rfl)))) (fun _ _ _ _ _ => (pv 6))) (pe_lst pa_nil) (nomark _))))))), ?_⟩
    refine ⟨_, rfl, v, _, rfl, .of hv.tup, rfl, _, _, rfl, _, _, rfl, _, _, rfl, rfl, ?_⟩
    have fin : ∀ b : Bool, b = isWh w ks n cols cap → ∀ H', Same H H' → Q (.bl b) H' := fun b e H' s => by
      rw [e]
      exact q H' s
    refine ⟨_, rfl, rfl, _, rfl, ?_⟩
    rw [capV_none]
    cases e1 : cap.isNone with
    | true => exact fin true (by unfold isWh; rw [e1]; rfl) H (fun _ _ e => e)
    | false =>
      refine ⟨_, rfl, _, _, rfl, .inr (.of hv.cols), _, rfl, _, rfl, t, _, rfl, ht.at_ (tab_nd hT) (tab_val hT hm), rfl, _, rfl, ?_⟩
      rw [List.length_map]
      refine ite_eqI (fun e2 => ?_) (fun e2 => ?_)
      · exact fin true (by unfold isWh; rw [e1, decide_eq_true e2]; rfl) H (fun _ _ e => e)
      · refine ⟨_, rfl, _, rfl, k, _, rfl, hk.get (key_nd hT hK) (Sum.inr n), _, rfl, ?_⟩
        rw [keyAt_val]
        cases e3 : keyAt ks n with
        | none => exact fin false (by unfold isWh; rw [e1, decide_eq_false e2, e3]; rfl) H (fun _ _ e => e)
        | some b =>
          obtain ⟨bm, bn⟩ := keyAt_mem e3
          have hb := hK.at_ b bm
          obtain ⟨w', hw', hcols', hl1, hl2⟩ := hK.ok b bm
          have hw2 := (hT.wd _ hw').2
          have dg := hk.get (key_nd hT hK) (Sum.inr n)
          rw [keyAt_val, e3] at dg
          refine ⟨_, rfl, _, rfl, k, _, rfl, dg, b.2.1, rfl, ⟨_, .of hb⟩, fun D hD => ?_⟩
          refine lc_tup (K := K) (a := b.2.1) (xs := b.2.2.map V.int) (fun i H' => H' D = some (.lst (((b.2.2.take i).filter fun c => !decide (c ∈ cols)).map V.int)) ∧ Same H H') ⟨upd_same, same_upd hD⟩ (fun i H' _ hp => .of (hp.2 _ _ hb)) (fun i x H' hx hp => ?_) (fun H' hp => ?_)
          · obtain ⟨h1, h2⟩ := hp
            obtain ⟨c, hcx, rfl⟩ := map_at hx
            have hi : i < b.2.2.length := (List.getElem?_eq_some_iff.mp hcx).1
            refine ⟨rfl, _, rfl, _, rfl, ga, _, rfl, .inr (.of (h2 _ _ hv.cols)), rfl, flat_ints _, _, rfl, ?_⟩
            show if (!inV (.int c) (cols.map V.int)) = true then _ else _
            rw [inV_ints]
            have tk : (b.2.2.take (i + 1)).filter (fun c => !decide (c ∈ cols)) = (b.2.2.take i).filter (fun c => !decide (c ∈ cols)) ++ ([c].filter fun c => !decide (c ∈ cols)) := by
              rw [List.take_add_one, hcx, List.filter_append]
              rfl
            refine ite_nd (fun e => ?_) (fun e => ?_)
            · refine ⟨_, rfl, _, h1, ?_, ?_, ?_⟩
              · rw [List.length_map]
                have l1 := List.length_filter_le (fun c => !decide (c ∈ cols)) (b.2.2.take i)
                rw [List.length_take] at l1
                exact Nat.lt_of_le_of_lt (by omega : _ ≤ 100) (by decide)
              · rw [tk, List.map_append, List.filter_cons_of_pos (by simp [e])]
                exact upd_same
              · intro x o ex
                rw [upd_ne (ne_of_none ex hD)]
                exact h2 x o ex
            · refine ⟨?_, h2⟩
              rw [tk, List.filter_cons_of_neg (by simp [e])]
              simpa using h1
          · obtain ⟨h1, h2⟩ := hp
            rw [List.length_map, List.take_length] at h1
            refine ⟨Nat.zero_le _, fun p hp => ⟨_, .list [], .lst (.of (same_upd hp _ _ h1)) (dp_ints _), .lst (.of upd_same) .nil, ints_shaped _, by decide, ?_⟩⟩
            rw [eqv_nilL, filter_empty]
            exact fin _ (by unfold isWh; rw [e1, decide_eq_false e2, e3]; rfl) _ (h2.trans (same_upd hp))
/-! ### _law_services -/
structure SvE where
  name : Str
  at_ : Addr
  tab : Str
  ga : Addr
  cols : List Int
  cap : Option Int
def svK (ss : List SvE) : List (Key × V) := ss.map fun b => (Sum.inr b.name, V.ref b.at_)
theorem keys_sv (ss : List SvE) : (svK ss).map (·.1) = (ss.map (·.name)).map Sum.inr := by
  unfold svK
  rw [List.map_map, List.map_map]
  rfl
def widthAt (ts : List (Str × Int)) (n : Str) : Int := ((ts.find? fun b => decide (b.1 = n)).map (·.2)).getD 0
theorem widthAt_mem {n : Str} {w : Int} : ∀ {ts : List (Str × Int)}, (ts.map (·.1)).Nodup → (n, w) ∈ ts → widthAt ts n = w
  | b :: ts, nd, h => by
    rw [List.map_cons] at nd
    have nd' := List.nodup_cons.mp nd
    unfold widthAt
    by_cases e : b.1 = n
    · rcases List.mem_cons.mp h with h' | h'
      · rw [← h']
        simp
      · exact absurd (by rw [e]; exact List.mem_map.mpr ⟨_, h', rfl⟩) nd'.1
    · rcases List.mem_cons.mp h with h' | h'
      · exact absurd (by rw [← h']) e
      · have ih := widthAt_mem nd'.2 h'
        unfold widthAt at ih
        simpa [e] using ih
/-- is the service whole -/
def whE (ts : List (Str × Int)) (ks : List KeyE) (b : SvE) : Bool := isWh (widthAt ts b.tab) ks b.tab b.cols b.cap
def fillE (ts : List (Str × Int)) (ks : List KeyE) (ss : List SvE) : List Str := (ss.filter fun b => !whE ts ks b).map (·.tab)
theorem fillE_snoc (ts : List (Str × Int)) (ks : List KeyE) (ss : List SvE) (b : SvE) : fillE ts ks (ss ++ [b]) = fillE ts ks ss ++ (if whE ts ks b = true then [] else [b.tab]) := by
  unfold fillE
  rw [List.filter_append, List.map_append]
  cases e : whE ts ks b <;> simp [e]
structure SvOk (H : Hp) (ts : List (Str × Int)) (b : SvE) : Prop where
  told : Told H b.at_ b.tab b.ga b.cols b.cap
  ok : ∃ w, (b.tab, w) ∈ ts ∧ Cols b.cols w ∧ b.cols.length ≤ 4
  cap : ∀ c, b.cap = some c → 1 ≤ c ∧ c ≤ 4
theorem SvOk.mono {H H' : Hp} {ts : List (Str × Int)} {b : SvE} (h : SvOk H ts b) (m : ∀ b xs, H b = some (.tup xs) → H' b = some (.tup xs)) : SvOk H' ts b := ⟨h.told.mono m, h.ok, h.cap⟩
structure Svcs (H : Hp) (ts : List (Str × Int)) (ks : List KeyE) (ss : List SvE) (n : Nat) : Prop where
  nm : Nms (ss.map (·.name)) n
  ok : ∀ b ∈ ss, SvOk H ts b
  one : (fillE ts ks ss).Nodup
theorem Svcs.mono {H H' : Hp} {ts : List (Str × Int)} {ks : List KeyE} {ss : List SvE} {n : Nat} (h : Svcs H ts ks ss n) (m : ∀ b xs, H b = some (.tup xs) → H' b = some (.tup xs)) : Svcs H' ts ks ss n := ⟨h.nm, fun b hb => (h.ok b hb).mono m, h.one⟩
theorem inV_strs (n : Str) (xs : List Str) : inV (.str n) (xs.map V.str) = decide (n ∈ xs) := by
  unfold inV
  rw [List.any_map]
  apply Bool.eq_iff_iff.mpr
  rw [List.any_eq_true, decide_eq_true_iff]
  constructor
  · rintro ⟨x, hx, e⟩
    have e' : decide (x = n) = true := e
    rw [← of_decide_eq_true e']
    exact hx
  · intro h
    exact ⟨n, h, decide_eq_true rfl⟩
theorem flat_strs (xs : List Str) : (xs.map V.str).all flatV = true := by
  rw [List.all_map, List.all_eq_true]
  intro _ _
  rfl
/-- while the services are made -/
structure SvMade (p t k ca l1 l2 s f : Addr) (ts : List (Str × Int)) (ks : List KeyE) (cps : List (Option Int)) (ns : List Str) (H0 H : Hp) (ss : List SvE) (fl : List Str) : Prop where
  chg : Chg p H0 H
  sv : H s = some (.dK (svK ss))
  fil : H f = some (.lst (fl.map V.str))
  ord : H l1 = some (.lst ((ts.map (·.1)).map V.str))
  nam : H l2 = some (.lst (ns.map V.str))
  tabs : H t = some (.dK (tabK ts))
  keys : H k = some (.dK (keyK ks))
  caps : H ca = some (.lst (cps.map capV))
  kok : Keys H ts ks
  ok : ∀ b ∈ ss, SvOk H ts b
structure SvNe (p t k ca l1 l2 s f : Addr) (H0 : Hp) : Prop where
  s0 : H0 s = none
  f0 : H0 f = none
  sp : s ≠ p
  fp : f ≠ p
  cp : ca ≠ p
  p1 : l1 ≠ p
  p2 : l2 ≠ p
  f1 : l1 ≠ f
  f2 : l2 ≠ f
  fc : ca ≠ f
theorem SvMade.go {p t k ca l1 l2 s f : Addr} {ts : List (Str × Int)} {ks : List KeyE} {cps : List (Option Int)} {ns : List Str} {H0 H H' : Hp} {ss : List SvE} {fl : List Str} (h : SvMade p t k ca l1 l2 s f ts ks cps ns H0 H ss fl) (n : SvNe p t k ca l1 l2 s f H0) (c : Chg p H H') : SvMade p t k ca l1 l2 s f ts ks cps ns H0 H' ss fl := by
  have m := chg_tup h.chg.1 c
  have d : ∀ {b : Addr} {kvs : List (Key × V)}, H b = some (.dK kvs) → H' b = some (.dK kvs) := fun e => c.at (pool_ne h.chg.1 e (by intro _ z; cases z)) e
  exact ⟨h.chg.trans c, d h.sv, c.at n.fp h.fil, c.at n.p1 h.ord, c.at n.p2 h.nam, d h.tabs, d h.keys, c.at n.cp h.caps, h.kok.mono m, fun b hb => (h.ok b hb).mono m⟩
theorem SvMade.same {p t k ca l1 l2 s f : Addr} {ts : List (Str × Int)} {ks : List KeyE} {cps : List (Option Int)} {ns : List Str} {H0 H H' : Hp} {ss : List SvE} {fl : List Str} (h : SvMade p t k ca l1 l2 s f ts ks cps ns H0 H ss fl) (n : SvNe p t k ca l1 l2 s f H0) (c : Same H H') : SvMade p t k ca l1 l2 s f ts ks cps ns H0 H' ss fl :=
  h.go n ⟨h.chg.1.same c, fun b o _ e => c b o e⟩
theorem SvMade.fill {p t k ca l1 l2 s f : Addr} {ts : List (Str × Int)} {ks : List KeyE} {cps : List (Option Int)} {ns : List Str} {H0 H : Hp} {ss : List SvE} {fl gl : List Str} (h : SvMade p t k ca l1 l2 s f ts ks cps ns H0 H ss fl) (n : SvNe p t k ca l1 l2 s f H0) : SvMade p t k ca l1 l2 s f ts ks cps ns H0 (upd H f (.lst (gl.map V.str))) ss gl := by
  have m : ∀ b xs, H b = some (.tup xs) → upd H f (.lst (gl.map V.str)) b = some (.tup xs) := upd_tup h.fil (by intro _ z; cases z)
  have d : ∀ {b : Addr} {kvs : List (Key × V)}, H b = some (.dK kvs) → upd H f (.lst (gl.map V.str)) b = some (.dK kvs) := fun e => by
    rw [upd_ne (ne_of e h.fil (by intro z; cases z))]
    exact e
  exact ⟨h.chg.mut n.f0 n.fp, d h.sv, upd_same, by rw [upd_ne n.f1]; exact h.ord, by rw [upd_ne n.f2]; exact h.nam, d h.tabs, d h.keys, by rw [upd_ne n.fc]; exact h.caps, h.kok.mono m, fun b hb => (h.ok b hb).mono m⟩
theorem SvMade.put {p t k ca l1 l2 s f : Addr} {ts : List (Str × Int)} {ks : List KeyE} {cps : List (Option Int)} {ns : List Str} {H0 H : Hp} {ss : List SvE} {fl : List Str} {b : SvE} (h : SvMade p t k ca l1 l2 s f ts ks cps ns H0 H ss fl) (n : SvNe p t k ca l1 l2 s f H0) (ht : H0 t ≠ none) (hk : H0 k ≠ none) (hb : SvOk H ts b) :
    SvMade p t k ca l1 l2 s f ts ks cps ns H0 (upd H s (.dK (svK (ss ++ [b])))) (ss ++ [b]) fl := by
  have m : ∀ c xs, H c = some (.tup xs) → upd H s (.dK (svK (ss ++ [b]))) c = some (.tup xs) := upd_tup h.sv (by intro _ z; cases z)
  have l : ∀ {c : Addr} {xs : List V}, H c = some (.lst xs) → upd H s (.dK (svK (ss ++ [b]))) c = some (.lst xs) := fun e => by
    rw [upd_ne (ne_of e h.sv (by intro z; cases z))]
    exact e
  have nts : t ≠ s := fun e => ht (by rw [e]; exact n.s0)
  have nks : k ≠ s := fun e => hk (by rw [e]; exact n.s0)
  refine ⟨h.chg.mut n.s0 n.sp, upd_same, l h.fil, l h.ord, l h.nam, by rw [upd_ne nts]; exact h.tabs, by rw [upd_ne nks]; exact h.keys, l h.caps, h.kok.mono m, fun c hc => ?_⟩
  rcases List.mem_append.mp hc with e | e
  · exact (h.ok c e).mono m
  · rw [List.mem_singleton.mp e]
    exact hb.mono m
def spServices : Sp := fun vs H Q _ => ∃ (p t k ca : Addr) (m more : Nat) (ts : List (Str × Int)) (ks : List KeyE) (cps : List (Option Int)), vs = [.ref p, .ref t, .ref k, .ref ca, .int (more : Int)] ∧ PoolAt H p ∧ H t = some (.dK (tabK ts)) ∧ H k = some (.dK (keyK ks)) ∧ Tabs ts m 100 ∧ 1 ≤ m ∧ m + more ≤ 26 ∧ Keys H ts ks ∧
  H ca = some (.lst (cps.map capV)) ∧ ca ≠ p ∧ 1 ≤ cps.length ∧ cps.length ≤ 100 ∧ (∀ c, some c ∈ cps → 1 ≤ c ∧ c ≤ 4) ∧
  ∀ (s : Addr) (ss : List SvE) (H' : Hp), H s = none → H' s = some (.dK (svK ss)) → Svcs H' ts ks ss (m + more) → Chg p H H' → Q (.ref s) H'
theorem ok_services (T : Txt K mg a d) : FnOk P w K mg base CX0 5 (a 36) (d 36) ["_law_pool_here", "_law_tables_here", "_law_keys_here", "_law_caps", "_law_more"] spServices := by
  have G29 : FnOk P w K mg base CX0 2 (a 29) (d 29) ["_law_pool_here", "_law_many"] spDraw := ok_draw T
  have G31 : FnOk P w K mg base CX0 4 (a 31) (d 31) ["_law_pool_here", "_law_many"] spNames := ok_names T
  have G32 : FnOk P w K mg base CX0 3 (a 32) (d 32) ["_law_pool_here", "_law_width", "_law_low", "_law_high"] spCols := ok_columns T
  have G35 : FnOk P w K mg base CX0 3 (a 35) (d 35) ["_law_tables_here", "_law_keys_here", "_law_told"] spWhole := ok_is_whole T
  refine T.F36.ok sc__law_services (fun vs H Q E h => ?_) (fun cdv A outer s H vs Q E hr h => ?_)
  · obtain ⟨p, t, k, ca, m, more, ts, ks, cps, rfl, _⟩ := h
    rfl
  · obtain ⟨p, t, k, ca, m, more, ts, ks, cps, rfl, hP, ht, hk, hT, hm1, hm2, hK, hca, ncp, hc1, hc2, hcap, q⟩ := h
    refine ⟨_, (pss_cons (ps_set (i := 5) sc__law_services.nd rfl (.inl rfl) (pe_callTy (T := "list")  (call_listD rfl) (by rfl) T.z_list (by decide +kernel) (pa_cons (pv 1) pa_nil)))
  (pss_cons (ps_set (i := 6) sc__law_services.nd rfl (.inl rfl) (pe_call G31 (hr.mono (by decide)) (by rfl) T.g31 T.F31.kp T.b31 .nil pass0 (pa_cons (pv 0) (pa_cons (pe_op op_add (pe_callB (id := "len")  call_len_seq (by rfl) T.z_len (by decide +kernel) (pa_cons (pv 5) pa_nil)) (pv 4)) pa_nil))))
  (pss_cons (ps_set (i := 7) sc__law_services.nd rfl (.inl rfl) pe_dnewK)
  (pss_cons (ps_set (i := 8) sc__law_services.nd rfl (.inl rfl) (pe_lst pa_nil))
  (pss_cons (ps_for PassesOwn.never rfl (pi_range1 (by rfl) T.z_range (pa_cons (pe_callB (id := "len")  call_len_seq (by rfl) T.z_len (by decide +kernel) (pa_cons (pv 6) pa_nil)) pa_nil)) (pg_name (i := 9) sc__law_services.nd rfl (.inl rfl))
    (pss_cons (ps_set (i := 10) sc__law_services.nd rfl (.inl rfl) (pe_ix ix_list (pv 5) (pe_op op_mod (pv 9) (pe_callB (id := "len")  call_len_seq (by rfl) T.z_len (by decide +kernel) (pa_cons (pv 5) pa_nil))) (fun _ _ => rfl)))
      (pss_cons (ps_set (i := 11) sc__law_services.nd rfl (.inl rfl) (pe_ix ix_list (pv 3) (pe_call G29 (hr.mono (by decide)) (by rfl) T.g29 T.F29.kp T.b29 .nil pass0 (pa_cons (pv 0) (pa_cons (pe_callB (id := "len")  call_len_seq (by rfl) T.z_len (by decide +kernel) (pa_cons (pv 3) pa_nil)) pa_nil))) (fun _ _ => rfl)))
      (pss_cons (ps_set (i := 12) sc__law_services.nd rfl (.inl rfl) (pe_tup (pa_cons (pv 10) (pa_cons (pe_call G32 (hr.mono (by decide)) (by rfl) T.g32 T.F32.kp T.b32 .nil pass0 (pa_cons (pv 0) (pa_cons (pe_dget (hu_of hr) (pv 1) (pv 10) (fun _ _ => rfl)) (pa_cons pe_int (pa_cons pe_int pa_nil))))) (pa_cons (pv 11) pa_nil)))))
      (Evl.pss_cut (ps_if (pt_not (pt_val (pe_call G35 (hr.mono (by decide)) (by rfl) T.g35 T.F35.kp T.b35 .nil pass0 (pa_cons (pv 1) (pa_cons (pv 2) (pa_cons (pv 12) pa_nil))))))
        (pss_one (ps_if (pt_cmpR op_in_seq (pv 10) (pv 8) (by rfl))
            (pss_one (ps_set (i := 12) sc__law_services.nd rfl (.inl rfl) (pe_tup (pa_cons (pv 10) (pa_cons (pe_ix ix_tup (pv 12) pe_int (fun _ _ => rfl)) (pa_cons pe_non pa_nil))))))
            (pss_one (ps_expr (pe_bm PySem.F.plainAttrs_list PySem.F.slot_list_append PySem.F.type_list_append mt_append (pv 8) (pa_cons (pv 10) pa_nil))))))
        pss_nil)
      (pss_one (ps_dput (hu_of hr) (pv 7) (pe_ix ix_list (pv 6) (pv 9) (fun _ _ => rfl)) (pv 12) rfl)))))))
  (pss_one (ps_ret (pv 7)))))))), ?_⟩
    have e0 : (tabK ts).map (fun kv => kV kv.1) = (ts.map (·.1)).map V.str := by
      unfold tabK
      rw [List.map_map, List.map_map]
      rfl
    have lts : ((ts.map (·.1)).map V.str).length = m := by rw [List.length_map, hT.nm.len]
    refine ⟨_, rfl, t, tabK ts, rfl, .inl ht, fun l1 hl1 => ?_⟩
    rw [e0]
    have n1 : l1 ≠ p := Chg.ne hP hl1
    have C1 : Chg p H (upd H l1 (.lst ((ts.map (·.1)).map V.str))) := (Chg.refl hP).new hl1
    -- the names
    refine ⟨_, rfl, _, rfl, _, _, rfl, .inl (.of upd_same), _, rfl, _, _, rfl, rfl, p, m + more, ?_, C1.1, hm2, fun l2 ns H2 hl2 h2 hn C2 => ?_⟩
    · rw [lts]
      rfl
    have C02 := C1.trans C2
    have h1 := C2.at n1 upd_same
    have n2 : l2 ≠ p := fun e => by
      obtain ⟨p0, p1, p2, p3, r, e', c⟩ := C1.1
      rw [e, e'] at hl2
      cases hl2
    have nca : ca ≠ l1 := ne_of_none hca hl1
    have hca1 : upd H l1 (.lst ((ts.map (·.1)).map V.str)) ca = some (.lst (cps.map capV)) := C1.at ncp hca
    intro sv hsv
    have nsv : sv ≠ p := Chg.ne C2.1 hsv
    have C3 := C02.new (o := .dK []) hsv
    refine ⟨Nat.zero_le _, fun f hf => ?_⟩
    have nf : f ≠ p := Chg.ne C3.1 hf
    have C4 := C3.new (o := .lst []) hf
    have h14 : ∀ {b : Addr} {o : HO}, H2 b = some o → upd (upd H2 sv (.dK [])) f (.lst []) b = some o := fun e => (same_upd hf) _ _ ((same_upd hsv) _ _ e)
    have d4 : ∀ {b : Addr} {kvs : List (Key × V)}, H b = some (.dK kvs) → upd (upd H2 sv (.dK [])) f (.lst []) b = some (.dK kvs) := fun e => C4.at (pool_ne hP e (by intro _ z; cases z)) e
    have N : SvNe p t k ca l1 l2 sv f H := ⟨free_of C02 hP hsv, free_of C3 hP hf, nsv, nf, ncp, n1, n2, ne_of_none ((same_upd hsv) _ _ h1) hf, ne_of_none ((same_upd hsv) _ _ h2) hf, ne_of_none (C3.at ncp hca) hf⟩
    have M0 : SvMade p t k ca l1 l2 sv f ts ks cps ns H (upd (upd H2 sv (.dK [])) f (.lst [])) [] [] :=
      ⟨C4, (by rw [upd_ne (ne_of_none upd_same hf)]; exact upd_same), upd_same, h14 h1, h14 h2, d4 ht, d4 hk, C4.at ncp hca, hK.mono (chg_tup hP C4), fun b hb => by cases hb⟩
    have lns : ((ns.map V.str).length : Int) = ((m + more : Nat) : Int) := by rw [List.length_map, hn.len]
    refine ⟨_, rfl, _, _, rfl, .inl (.of M0.nam), _, rfl, by omega, by omega, ?_⟩
    rw [lns, Int.toNat_natCast]
    refine for_range (lo := 0) (n := m + more) (fun i σ H' => ∃ (ss : List SvE) (y9 y10 y11 y12 : Option V), σ = [some (.ref p), some (.ref t), some (.ref k), some (.ref ca), some (.int more), some (.ref l1), some (.ref l2), some (.ref sv), some (.ref f), y9, y10, y11, y12] ∧ SvMade p t k ca l1 l2 sv f ts ks cps ns H H' ss (fillE ts ks ss) ∧ ss.map (·.name) = ns.take i ∧ (fillE ts ks ss).Nodup)
      ⟨[], none, none, none, none, rfl, M0, rfl, List.nodup_nil⟩ (fun i σ H' hi hp => ?_) (fun σ H' hp => ?_)
    · obtain ⟨ss, y9, y10, y11, y12, rfl, M, hnm, hone⟩ := hp
      have hss : ss.length ≤ 26 := by
        have e := congrArg List.length hnm
        rw [List.length_map, List.length_take] at e
        have := hn.len
        omega
      have hfl : (fillE ts ks ss).length ≤ 26 := by
        unfold fillE
        rw [List.length_map]
        exact Nat.le_trans (List.length_filter_le _ _) hss
      -- table
      have hj : i % m < ts.length := by
        rw [hT.len]
        exact Nat.mod_lt _ (by omega)
      have hat : (ts.map (·.1))[i % m]? = some ts[i % m].1 := by rw [List.getElem?_map, List.getElem?_eq_getElem hj]; rfl
      generalize hb : ts[i % m] = b at hat
      obtain ⟨n, w⟩ := b
      have hmem : (n, w) ∈ ts := by
        rw [← hb]
        exact List.getElem_mem hj
      have hw := hT.wd _ hmem
      have hwa := widthAt_mem hT.nm.nd hmem
      refine ⟨_, rfl, _, rfl, _, rfl, _, _, rfl, .inl (.of M.ord), _, _, rfl, rfl, ?_, _, _, _, .str n, rfl, rfl, .of M.ord, at_g (j := i % m) ?_ (by rw [List.getElem?_map, hat]; rfl), ?_⟩
      · rw [lts]
        omega
      · rw [lts, Int.zero_add]
        exact (Int.natCast_emod i m).symm
      -- cap
      refine ⟨_, rfl, _, rfl, _, rfl, _, _, rfl, .inl (.of M.caps), p, _, rfl, M.chg.1, ?_, ?_, fun r H5 r0 r1 C5 => ?_⟩
      · rw [List.length_map]
        omega
      · rw [List.length_map]
        exact Nat.lt_of_le_of_lt (by omega : _ ≤ 100) (by decide)
      have M5 := M.go N C5
      obtain ⟨v, hv⟩ := at_some (xs := cps.map capV) r0 r1
      obtain ⟨cap, hcp, rfl⟩ := List.mem_map.mp (atI_mem hv)
      refine ⟨_, _, r, _, rfl, rfl, .of M5.caps, hv, ?_⟩
      -- told
      refine ⟨_, rfl, _, rfl, _, rfl, _, rfl, t, _, rfl, tab_at M5.tabs hT.nm.nd hmem, p, w, 0, 4, rfl, M5.chg.1, hw.1, hw.2, by decide, fun c cs H6 c0 c1 c2 c3 c4 C6 => ⟨_, rfl, by show 3 ≤ sizeLine; decide, fun v hv => ?_⟩⟩
      have M6 := (M5.go N C6).same N (same_upd (o := .tup [.str n, .ref c, capV cap]) hv)
      have told : Told (upd H6 v (.tup [.str n, .ref c, capV cap])) v n c cs cap := ⟨upd_same, same_upd hv _ _ c1⟩
      have hcapok : ∀ z, cap = some z → 1 ≤ z ∧ z ≤ 4 := fun z e => hcap z (e ▸ hcp)
      refine ⟨fun σ H' => ∃ (v : Addr) (cap capY : Option Int) (fl : List Str), σ = [some (.ref p), some (.ref t), some (.ref k), some (.ref ca), some (.int more), some (.ref l1), some (.ref l2), some (.ref sv), some (.ref f), some (.int ((0 : Int) + (i : Int))), some (.str n), some (capV capY), some (.ref v)] ∧ SvMade p t k ca l1 l2 sv f ts ks cps ns H H' ss fl ∧ Told H' v n c cs cap ∧ (∀ z, cap = some z → 1 ≤ z ∧ z ≤ 4) ∧ fl = fillE ts ks ss ++ (if isWh w ks n cs cap = true then [] else [n]) ∧ fl.Nodup, ?_, ?_⟩
      · refine ⟨_, rfl, _, rfl, _, rfl, t, k, v, c, m, ts, ks, n, w, cs, cap, rfl, .of M6.tabs, .of M6.keys, hT, M6.kok, told, hmem, by omega, fun H7 s7 => ⟨_, rfl, ?_⟩⟩
        have M7 := M6.same N s7
        have told7 := told.mono fun _ _ e => s7 _ _ e
        cases e : isWh w ks n cs cap with
        | true => exact ⟨v, cap, _, _, rfl, M7, told7, hcapok, by rw [e, if_pos rfl, List.append_nil], hone⟩
        | false =>
          refine ⟨_, rfl, _, rfl, f, _, rfl, .inl (.of M7.fil), rfl, flat_strs _, _, rfl, ?_⟩
          show if inV (.str n) ((fillE ts ks ss).map V.str) = true then _ else _
          rw [inV_strs]
          refine ite_d (fun h => ?_) (fun h => ?_)
          · refine ⟨_, rfl, _, rfl, _, _, _, _, rfl, rfl, .of told7.tup, atI_nat (j := 1) rfl, by show 3 ≤ sizeLine; decide, fun v2 hv2 => ?_⟩
            have s8 := same_upd (o := .tup [.str n, .ref c, .non]) hv2
            exact ⟨v2, none, _, _, rfl, M7.same N s8, ⟨upd_same, s8 _ _ told7.cols⟩, (fun z e => by cases e), by rw [show isWh w ks n cs none = true from rfl, if_pos rfl, List.append_nil], hone⟩
          · refine ⟨_, rfl, .inl ⟨rfl, _, .of M7.fil⟩, _, rfl, f, _, _, rfl, rfl, M7.fil, ?_, ?_⟩
            · rw [List.length_map]
              exact Nat.lt_of_le_of_lt hfl (by decide)
            · have M8 := M7.fill N (gl := fillE ts ks ss ++ [n])
              rw [List.map_append] at M8
              exact ⟨v, cap, _, _, rfl, M8, told7.mono (upd_tup M7.fil (by intro _ z; cases z)), hcapok, by rw [e, if_neg (by decide)], List.nodup_append.mpr ⟨hone, List.nodup_cons.mpr ⟨(fun z => by cases z), List.nodup_nil⟩, fun x hx y hy => fun z => h (by rw [← List.mem_singleton.mp hy, ← z]; exact hx)⟩⟩
      · rintro σ H8 ⟨v, cap, capY, fl, rfl, M8, told, hcapok, hfe, hnd⟩
        have hin : i < ns.length := by rw [hn.len]; exact hi
        refine ⟨_, rfl, _, rfl, _, rfl, _, rfl, _, _, _, .str ns[i], rfl, rfl, .of M8.nam, at_g (j := i) (by omega) (by rw [List.getElem?_map, List.getElem?_eq_getElem hin]; rfl), sv, _, rfl, DPut.k (k := Sum.inr ns[i]) M8.sv ?_, ss ++ [⟨ns[i], v, n, c, cs, cap⟩], _, _, _, _, rfl, ?_, ?_, ?_⟩
        · unfold svK
          rw [List.length_map]
          exact Nat.lt_of_le_of_lt hss (by decide)
        · have e : putK (svK ss) (Sum.inr ns[i]) (V.ref v) = svK (ss ++ [⟨ns[i], v, n, c, cs, cap⟩]) := by
            rw [putK_new _ (valV_no ?_)]
            · unfold svK
              rw [snoc_map]
            · rw [keys_sv, hnm]
              exact inr_no (nd_take hn.nd (List.getElem?_eq_getElem hin))
          rw [e]
          have hf2 : fillE ts ks (ss ++ [⟨ns[i], v, n, c, cs, cap⟩]) = fl := by
            rw [fillE_snoc, hfe]
            unfold whE
            rw [hwa]
          rw [hf2]
          exact M8.put N (by rw [ht]; intro z; cases z) (by rw [hk]; intro z; cases z) ⟨told, ⟨w, hmem, c2, c3⟩, hcapok⟩
        · rw [snoc_map, hnm, List.take_add_one, List.getElem?_eq_getElem hin]
          rfl
        · have hf2 : fillE ts ks (ss ++ [⟨ns[i], v, n, c, cs, cap⟩]) = fl := by
            rw [fillE_snoc, hfe]
            unfold whE
            rw [hwa]
          rw [hf2]
          exact hnd
    · obtain ⟨ss, y9, y10, y11, y12, rfl, M, hnm, hone⟩ := hp
      rw [← hn.len, List.take_length] at hnm
      exact ⟨_, rfl, q sv ss H' N.s0 M.sv ⟨by rw [hnm]; exact hn, M.ok, hone⟩ M.chg⟩
end
theorem lc_str {x : Str} {g : TG} {tt : TT} {te : TE} {vs : List Nat} {σ : L2.St} {H1 : Hp} {D : Addr} {Qd : Hp → Prop} (Pv : Nat → Hp → Prop) (h0 : Pv 0 (upd H1 D (.lst [])))
    (hs : ∀ i c H, x.cps[i]? = some c → Pv i H → g (.str ⟨#[c]⟩) (wipe σ vs) H fun σ2 H2 => wipe σ2 vs = wipe σ vs ∧ tt σ2 H2 fun b H3 =>
      if b = true then te σ2 H3 fun y H4 => ∃ acc, H4 D = some (.lst acc) ∧ acc.length < sizeLine ∧ Pv (i + 1) (upd H4 D (.lst (acc ++ [y]))) else Pv (i + 1) H3) (hd : ∀ H, Pv x.cps.size H → Qd H) :
    ∃ W : Nat → Nat → Hp → Prop, (∃ m, W 0 m (upd H1 D (.lst []))) ∧ ∀ i m H, W i m H →
      ((Its x).stop i H ∧ Qd H) ∨ ((Its x).go i H ∧ ∃ Nx : Hp → Prop, (∀ H', Nx H' → ∃ m', m' < m ∧ W (i + 1) m' H') ∧ ∀ v H', (Its x).yld i H v H' → g v (wipe σ vs) H' fun σ2 H2 => wipe σ2 vs = wipe σ vs ∧ tt σ2 H2 fun b H3 =>
        if b = true then te σ2 H3 fun y H4 => ∃ acc, H4 D = some (.lst acc) ∧ acc.length < sizeLine ∧ Nx (upd H4 D (.lst (acc ++ [y]))) else Nx H3) := by
  refine ⟨fun i m H => m = x.cps.size - i ∧ i ≤ x.cps.size ∧ Pv i H, ⟨x.cps.size, by simp, Nat.zero_le _, h0⟩, ?_⟩
  rintro i m H ⟨rfl, hi, p⟩
  by_cases hlt : i < x.cps.size
  · refine .inr ⟨hlt, Pv (i + 1), fun H' p' => ⟨x.cps.size - (i + 1), by omega, rfl, hlt, p'⟩, fun v H' y => ?_⟩
    obtain ⟨e, c, hc, ev⟩ := y
    subst e
    subst ev
    exact hs i c _ hc p
  · have e : i = x.cps.size := by omega
    subst e
    exact .inl ⟨Nat.le_refl _, hd H p⟩
/-! ### words and values -/
def okC (c : Nat) : Bool := decide (97 ≤ c ∧ c ≤ 122)
def wordB (s : Str) : Bool := decide (1 ≤ s.length ∧ s.length ≤ 8) && s.cps.toList.all okC
def wordV : V → Bool
  | .str s => wordB s
  | _ => false
def valV' : V → Bool
  | .int i => decide (-999999999999999999999999999999 ≤ i ∧ i ≤ 999999999999999999999999999999)
  | .str s => wordB s
  | _ => false
inductive Thg (H : Hp) : V → Prop
  | int (i : Int) : Thg H (.int i)
  | bl (b : Bool) : Thg H (.bl b)
  | non : Thg H .non
  | str (s : Str) (h : s.length ≤ 1000) (hc : ∀ c ∈ s.cps.toList, c < 128) : Thg H (.str s)
  | lst {a : Addr} {xs : List V} (e : H a = some (.lst xs)) : Thg H (.ref a)
  | tup {a : Addr} {xs : List V} (e : H a = some (.tup xs)) : Thg H (.ref a)
theorem Thg.same {H H' : Hp} {v : V} (h : Thg H v) (s : Same H H') : Thg H' v := by
  cases h with
  | int i => exact .int i
  | bl b => exact .bl b
  | non => exact .non
  | str s h hc => exact .str s h hc
  | lst e => exact .lst (s _ _ e)
  | tup e => exact .tup (s _ _ e)
def tyInt : V → Bool
  | .int _ => true
  | .bl _ => true
  | _ => false
def tyBool : V → Bool
  | .bl _ => true
  | _ => false
def plainV (v : V) : Bool := tyInt v && !tyBool v
def tyStr : V → Bool
  | .str _ => true
  | _ => false
section
variable {K : PySem.W.Frag} {H : Hp} {v : V} {Q : VK}
theorem Thg.ty (h : Thg H v) : ∃ n, TyX K H v (.type n) ∧ kitB n "int" = some (tyInt v) ∧ kitB n "bool" = some (tyBool v) ∧ kitB n "str" = some (tyStr v) := by
  cases h with
  | int i => exact ⟨_, .base (.int _), show kitB "int" "int" = some true by decide +kernel, show kitB "int" "bool" = some false by decide +kernel, show kitB "int" "str" = some false by decide +kernel⟩
  | bl b => exact ⟨_, .base (.bl _), show kitB "bool" "int" = some true by decide +kernel, show kitB "bool" "bool" = some true by decide +kernel, show kitB "bool" "str" = some false by decide +kernel⟩
  | non => exact ⟨_, .base .non, show kitB "NoneType" "int" = some false by decide +kernel, show kitB "NoneType" "bool" = some false by decide +kernel, show kitB "NoneType" "str" = some false by decide +kernel⟩
  | str s => exact ⟨_, .base (.str _), show kitB "str" "int" = some false by decide +kernel, show kitB "str" "bool" = some false by decide +kernel, show kitB "str" "str" = some true by decide +kernel⟩
  | lst e => exact ⟨_, .base (.lst e), show kitB "list" "int" = some false by decide +kernel, show kitB "list" "bool" = some false by decide +kernel, show kitB "list" "str" = some false by decide +kernel⟩
  | tup e => exact ⟨_, .base (.tup e), show kitB "tuple" "int" = some false by decide +kernel, show kitB "tuple" "bool" = some false by decide +kernel, show kitB "tuple" "str" = some false by decide +kernel⟩
end
def spB (f : V → Bool) : Sp := fun vs H Q _ => ∃ v : V, vs = [v] ∧ Thg H v ∧ ∀ H', Same H H' → Q (.bl (f v)) H'
theorem sgn_le {c : Nat} : ((!decide (([c] : List Nat) < [97])) && (!decide (([122] : List Nat) < [c]))) = okC c := by
  have h1 : (([c] : List Nat) < [97]) ↔ c < 97 := by rw [List.cons_lt_cons_iff]; simp
  have h2 : (([122] : List Nat) < [c]) ↔ 122 < c := by rw [List.cons_lt_cons_iff]; simp
  unfold okC
  simp only [h1, h2]
  by_cases a : c < 97 <;> by_cases b : 122 < c <;> simp [a, b] <;> omega
theorem sgn_in : ∀ {c : Nat}, decide (c ∈ ("abcdefghijklmnopqrstuvwxyz" : Str).cps.toList) = okC c := by
  intro c
  by_cases h : c < 128
  · exact (show ∀ c : Nat, c < 128 → decide (c ∈ ("abcdefghijklmnopqrstuvwxyz" : Str).cps.toList) = okC c by decide +kernel) c h
  · have e1 : okC c = false := by
      unfold okC
      exact decide_eq_false (by omega)
    rw [e1]
    refine decide_eq_false fun hm => ?_
    have := (show ∀ c ∈ ("abcdefghijklmnopqrstuvwxyz" : Str).cps.toList, c < 128 by decide +kernel) c hm
    omega
section
variable {P : Program} {w : World} {K : PySem.W.Frag} {mg : Str → Option Value} {base : Heap} {a : Nat → Addr} {d : Nat → FuncData}
theorem ok_plain (T : Txt K mg a d) : FnOk P w K mg base CX0 1 (a 7) (d 7) ["thing"] (spB plainV) := by
  refine T.F7.ok sc_is_plain_int (fun vs H Q E h => ?_) (fun cdv A outer s H vs Q E hr h => ?_)
  · obtain ⟨v, rfl, _⟩ := h
    rfl
  · obtain ⟨v, rfl, hv, q⟩ := h
    refine ⟨_, (pss_one (ps_ret (pe_and (pe_callB (id := "isinstance")  call_isi (by rfl) T.z_isinstance (by decide +kernel) (pa_cons (pv 0) (pa_cons (pe_bltn (v := .ty "int") (by rfl) T.z_int (by decide +kernel) rfl) pa_nil))) (pe_one (pe_not (pe_callB (id := "isinstance")  call_isi (by rfl) T.z_isinstance (by decide +kernel) (pa_cons (pv 0) (pa_cons (pe_bltn (v := .ty "bool") (by rfl) T.z_bool (by decide +kernel) rfl) pa_nil)))))))), ?_⟩
    obtain ⟨n, ht, k1, k2, k3⟩ := hv.ty (K := K)
    refine ⟨_, rfl, _, _, _, _, _, rfl, .ty _, ht, kit_ty k1, _, rfl, ?_⟩
    have q : Q (.bl (tyInt v && !tyBool v)) H := q H (Same.refl H)
    refine ite2 (fun e => ?_) (fun e => ?_)
    · rw [e] at q
      exact ⟨_, rfl, _, _, _, _, _, rfl, .ty _, ht, kit_ty k2, _, rfl, q⟩
    · rw [Bool.eq_false_iff.mpr e] at q
      exact q
theorem ok_is_word (T : Txt K mg a d) : FnOk P w K mg base CX0 1 (a 8) (d 8) ["thing"] (spB wordV) := by
  refine T.F8.ok sc_is_word (fun vs H Q E h => ?_) (fun cdv A outer s H vs Q E hr h => ?_)
  · obtain ⟨v, rfl, _⟩ := h
    rfl
  · obtain ⟨v, rfl, hv, q⟩ := h
    obtain ⟨t8, h_LONGEST_WORD⟩ := T.c_LONGEST_WORD
    refine ⟨_, (pss_cons (ps_if (PW.pt (pw_or (pt_not (pt_val (pe_callB (id := "isinstance")  call_isi (by rfl) T.z_isinstance (by decide +kernel) (pa_cons (pv 0) (pa_cons (pe_bltn (v := .ty "str") (by rfl) T.z_str (by decide +kernel) rfl) pa_nil))))) (pw_or1 (pt_not (pt_chain op_le op_le pe_int (pe_callB (id := "len")  call_len_str (by rfl) T.z_len (by decide +kernel) (pa_cons (pv 0) pa_nil)) (pe_glob (v := .int (8)) rfl h_LONGEST_WORD ⟨_, rfl⟩))))))
    (pss_one (ps_ret pe_bl))
    pss_nil)
  (pss_one (ps_ret (pe_callB (id := "all")  (cr_all rfl) (by rfl) T.z_all (by decide +kernel) (pa_cons (pe_lc (own := [("letter", 1)]) rfl sc_is_word.nd (pi_str (pv 0)) (blkOk_by (N := ["thing", "letter"]) (sc := defScope s_is_word) (by decide +kernel)) (fun _ _ _ _ _ => pg_name (i := 1) sc_is_word.nd rfl (.inl rfl)) (fun _ _ _ _ _ => pts_nil) (fun _ _ _ _ _ => (pe_chain op_le_str op_le_str pe_str (pv 1) pe_str))) pa_nil))))), ?_⟩
    obtain ⟨n, ht, k1, k2, k3⟩ := hv.ty (K := K)
    refine ⟨_, rfl, _, _, _, _, _, rfl, .ty _, ht, kit_ty k3, _, rfl, ?_⟩
    cases hv with
    | int i => exact q H (Same.refl H)
    | bl i => exact q H (Same.refl H)
    | non => exact q H (Same.refl H)
    | lst e => exact q H (Same.refl H)
    | tup e => exact q H (Same.refl H)
    | str s hl hc =>
      have q : ∀ H', Same H H' → Q (.bl (decide (1 ≤ s.length ∧ s.length ≤ 8) && s.cps.toList.all okC)) H' := q
      refine ⟨_, rfl, _, rfl, small1000' hl, _, _, rfl, rfl, _, rfl, ?_⟩
      refine ite_d (fun h1 => ?_) (fun h1 => ?_)
      · refine ⟨_, _, rfl, rfl, _, rfl, ?_⟩
        refine ite_nd (fun h2 => ?_) (fun h2 => ?_)
        · have e : decide (1 ≤ s.length ∧ s.length ≤ 8) = false := decide_eq_false (by omega)
          rw [e] at q
          exact q H (Same.refl H)
        · have e : decide (1 ≤ s.length ∧ s.length ≤ 8) = true := decide_eq_true (by omega)
          rw [e] at q
          refine ⟨_, rfl, _, rfl, fun D hD => ?_⟩
          refine lc_str (fun i H' => H' D = some (.lst (((s.cps.toList.take i).map okC).map V.bl)) ∧ Same H H') ⟨upd_same, same_upd hD⟩ (fun i c H' hx hp => ?_) (fun H' hp => ?_)
          · have hx' : s.cps.toList[i]? = some c := by rw [Array.getElem?_toList]; exact hx
            have hsz : (((s.cps.toList.take i).map okC).map V.bl).length < sizeLine := by
              rw [List.length_map, List.length_map, List.length_take]
              have : s.cps.toList.length = s.length := Array.length_toList
              exact small1000 (by omega)
            have step : ∀ b, b = okC c → ∀ H3, H3 = H' → (upd H3 D (.lst (((s.cps.toList.take i).map okC).map V.bl ++ [.bl b]))) D = some (.lst (((s.cps.toList.take (i + 1)).map okC).map V.bl)) ∧ Same H (upd H3 D (.lst (((s.cps.toList.take i).map okC).map V.bl ++ [.bl b]))) := fun b eb H3 e3 => by
              subst e3
              refine ⟨?_, fun x o ex => ?_⟩
              · rw [map_take hx', List.map_append, ← eb]
                exact upd_same
              · rw [upd_ne (ne_of_none ex hD)]
                exact hp.2 x o ex
            have e0 : ("a" : Str).cps.toList = [97] := by decide +kernel
            have e9 : ("z" : Str).cps.toList = [122] := by decide +kernel
            have eo := sgn_le (c := c)
            refine ⟨rfl, ?_⟩
            refine ⟨_, rfl, _, _, rfl, rfl, _, rfl, ?_⟩
            refine ite_nd (fun h3 => ?_) (fun h3 => ?_)
            · rw [e0] at h3
              have h3' : ¬ ([c] : List Nat) < [97] := h3
              rw [decide_eq_false h3'] at eo
              refine ⟨_, _, rfl, rfl, _, hp.1, hsz, step _ ?_ _ rfl⟩
              rw [e9]
              exact eo
            · rw [e0] at h3
              have h3' : ([c] : List Nat) < [97] := h3
              rw [decide_eq_true h3'] at eo
              exact ⟨_, hp.1, hsz, step _ eo _ rfl⟩
          · obtain ⟨h3, h4⟩ := hp
            have et : s.cps.toList.take s.cps.size = s.cps.toList := List.take_of_length_le (Nat.le_of_eq Array.length_toList)
            rw [et] at h3
            refine ⟨D, _, rfl, .of h3, ?_⟩
            have ea : ((s.cps.toList.map okC).all id) = s.cps.toList.all okC := by rw [List.all_map]; rfl
            rw [ea]
            exact q H' h4
      · have e : decide (1 ≤ s.length ∧ s.length ≤ 8) = false := decide_eq_false (by omega)
        rw [e] at q
        exact ⟨_, rfl, q H (Same.refl H)⟩
end
theorem nd_sub {α : Type} [DecidableEq α] : ∀ {xs ys : List α}, xs.Nodup → (∀ x ∈ xs, x ∈ ys) → xs.length ≤ ys.length ∧ (ys.length ≤ xs.length → ∀ y ∈ ys, y ∈ xs)
  | [], ys, _, _ => ⟨Nat.zero_le _, fun h y hy => by
    have : ys = [] := List.length_eq_zero_iff.mp (Nat.le_zero.mp h)
    rw [this] at hy
    exact hy⟩
  | x :: xs, ys, nd, sub => by
    obtain ⟨n1, n2⟩ := List.nodup_cons.mp nd
    have hx := sub x List.mem_cons_self
    have hl := List.length_erase_of_mem hx
    have hpos : 0 < ys.length := List.length_pos_of_mem hx
    have ih := nd_sub (ys := ys.erase x) n2 fun z hz => (List.mem_erase_of_ne (fun e => n1 (by rw [← e]; exact hz))).mpr (sub z (List.mem_cons_of_mem _ hz))
    refine ⟨by rw [List.length_cons]; omega, fun h y hy => ?_⟩
    rw [List.length_cons] at h
    by_cases e : y = x
    · rw [e]
      exact List.mem_cons_self
    · exact List.mem_cons_of_mem _ (ih.2 (by omega) y ((List.mem_erase_of_ne e).mpr hy))
theorem same_mut {H H1 : Hp} {D : Addr} {o : HO} (s : Same H H1) (h : H D = none) : Same H (upd H1 D o) := fun b u e => by
  rw [upd_ne (ne_of_none e h)]
  exact s b u e
theorem sv_nd {H : Hp} {ts : List (Str × Int)} {ks : List KeyE} {ss : List SvE} {n : Nat} (h : Svcs H ts ks ss n) : ((svK ss).map (·.1)).Nodup := by
  rw [keys_sv]
  exact inr_nd h.nm.nd
theorem Tabs.up {ts : List (Str × Int)} {m : Nat} {w v : Int} (h : Tabs ts m w) (hv : w ≤ v) : Tabs ts m v := ⟨h.nm, fun p hp => ⟨(h.wd p hp).1, Int.le_trans (h.wd p hp).2 hv⟩⟩
theorem wd_b {s : Str} (h : Wd s) : wordB s = true := by
  unfold wordB
  rw [decide_eq_true (show 1 ≤ s.length ∧ s.length ≤ 8 from ⟨h.1, h.2.1⟩), Bool.true_and, List.all_eq_true]
  intro c hc
  unfold okC
  exact decide_eq_true (h.2.2 c hc)
theorem wd_thg {H : Hp} {s : Str} (h : Wd s) : Thg H (.str s) := .str s (by have := h.2.1; omega) fun c hc => by have := (h.2.2 c hc).2; omega
theorem capV_none' {cap : Option Int} (h : cap.isNone = true) : capV cap = .non := by
  cases cap with
  | none => rfl
  | some c => cases h
theorem all_bls (bs : List Bool) : (bs.all id) = bs.all fun b => b := rfl
def spIsWh : Sp := fun vs H Q _ => ∃ (v t k ga : Addr) (n : Str) (cs : List Int) (cap : Option Int) (w : Int) (ts : List (Str × Int)) (ks : List KeyE) (m : Nat), vs = [.ref v, .ref t, .ref k] ∧ Told H v n ga cs cap ∧ DctAt H t (tabK ts) ∧ DctAt H k (keyK ks) ∧ Tabs ts m 4 ∧ Keys H ts ks ∧ (n, w) ∈ ts ∧ cs.length ≤ 100 ∧
  ∀ H', Same H H' → Q (.bl (isWh w ks n cs cap)) H'
section
variable {P : Program} {w : World} {K : PySem.W.Frag} {mg : Str → Option Value} {base : Heap} {a : Nat → Addr} {d : Nat → FuncData}
theorem ok_is_wh (T : Txt K mg a d) : FnOk P w K mg base CX0 1 (a 19) (d 19) ["service", "tables", "keys"] spIsWh := by
  refine T.F19.ok sc__is_whole_service (fun vs H Q E h => ?_) (fun cdv A outer s H vs Q E hr h => ?_)
  · obtain ⟨v, t, k, ga, n, cs, cap, w, ts, ks, m, rfl, _⟩ := h
    rfl
  · obtain ⟨v, t, k, ga, n, cs, cap, w, ts, ks, m, rfl, hv, ht, hk, hT, hK, hm, hl, q⟩ := h
    have fin : ∀ b : Bool, b = isWh w ks n cs cap → ∀ H', Same H H' → Q (.bl b) H' := fun b e H' s => by
      rw [e]
      exact q H' s
    have g := ht.get (tab_nd hT) (Sum.inr n)
    rw [tab_val hT hm] at g
    have gk := fun (H' : Hp) (s : Same H H') => (hk.same s).get (key_nd hT hK) (Sum.inr n)
    rw [keyAt_val] at gk
    refine ⟨_, (pss_cons (ps_asg (pv 0) (pg_tup rfl (pgs_cons (pg_name (i := 3) sc__is_whole_service.nd rfl (.inl rfl)) (pgs_cons (pg_name (i := 4) sc__is_whole_service.nd rfl (.inr rfl)) (pgs_cons (pg_name (i := 5) sc__is_whole_service.nd rfl (.inl rfl)) pgs_nil)))))
  (pss_cons (ps_if (PW.pt (pw_or (pt_cmpR op_isN (pv 5) pe_non (nomark _)) (pw_or1 (pt_cmpR op_eq (pe_callB (id := "len")  call_len_seq (by rfl) T.z_len (by decide +kernel) (pa_cons (pv 4) pa_nil)) (pe_dget (hu_of hr) (pv 1) (pv 3) (fun _ _ => rfl)) (nomark _)))))
    (pss_one (ps_ret pe_bl))
    pss_nil)
  (pss_one (ps_ret (pe_and (pe_cmp (pc_din (hu_of hr) (pv 3) (pv 2)) rfl) (pe_one (pe_callB (id := "all")  (cr_all rfl) (by rfl) T.z_all (by decide +kernel) (pa_cons (pe_lc (own := [("column", 6)]) rfl sc__is_whole_service.nd (pi_tup (pe_dget (hu_of hr) (pv 2) (pv 3) (fun _ _ => rfl))) (blkOk_by (N := ["service", "tables", "keys", "table", "given", "cap", "column"]) (sc := defScope s__is_whole_service) (by decide +kernel)) (fun _ _ _ _ _ => pg_name (i := 6) sc__is_whole_service.nd rfl (.inl rfl)) (fun _ _ _ _ _ => pts_nil) (fun _ _ _ _ _ => (pe_cmpR (r := rIn K false) op_in_seq (pv 6) (pv 4) (by rfl)))) pa_nil)))))))), ?_⟩
    refine ⟨_, rfl, v, _, rfl, .of hv.tup, rfl, _, _, rfl, _, _, rfl, _, _, rfl, rfl, ?_⟩
    refine ⟨_, rfl, rfl, _, rfl, ?_⟩
    rw [capV_none]
    cases e1 : cap.isNone with
    | true => exact fin true (by unfold isWh; rw [e1]; rfl) H (fun _ _ e => e)
    | false =>
      refine ⟨_, rfl, _, _, rfl, .inr (.of hv.cols), _, rfl, _, rfl, t, _, rfl, g, rfl, _, rfl, ?_⟩
      rw [List.length_map]
      refine ite_eqI (fun e2 => ?_) (fun e2 => ?_)
      · exact fin true (by unfold isWh; rw [e1, decide_eq_true e2]; rfl) H (fun _ _ e => e)
      · refine ⟨_, rfl, _, rfl, k, _, rfl, gk H (Same.refl H), _, rfl, ?_⟩
        cases e3 : keyAt ks n with
        | none => exact fin false (by unfold isWh; rw [e1, decide_eq_false e2, e3]; rfl) H (fun _ _ e => e)
        | some b =>
          rw [e3] at gk
          obtain ⟨bm, bn⟩ := keyAt_mem e3
          have hb := hK.at_ b bm
          obtain ⟨w', hw', hcols', hl1, hl2⟩ := hK.ok b bm
          have hw2 := (hT.wd _ hw').2
          refine ⟨_, rfl, _, rfl, k, _, rfl, gk H (Same.refl H), b.2.1, rfl, ⟨_, .of hb⟩, fun D hD => ?_⟩
          refine lc_tup (K := K) (a := b.2.1) (xs := b.2.2.map V.int) (fun i H' => H' D = some (.lst (((b.2.2.take i).map fun c => decide (c ∈ cs)).map V.bl)) ∧ Same H H') ⟨upd_same, same_upd hD⟩ (fun i H' _ hp => .of (hp.2 _ _ hb)) (fun i x H' hx hp => ?_) (fun H' hp => ?_)
          · obtain ⟨h1, h2⟩ := hp
            obtain ⟨c, hcx, rfl⟩ := map_at hx
            have hi : i < b.2.2.length := (List.getElem?_eq_some_iff.mp hcx).1
            refine ⟨rfl, ?_⟩
            refine ⟨_, rfl, _, rfl, ga, _, rfl, .inr (.of (h2 _ _ hv.cols)), rfl, flat_ints _, _, h1, ?_, ?_, ?_⟩
            · rw [List.length_map, List.length_map, List.length_take]
              exact Nat.lt_of_le_of_lt (by omega : _ ≤ 100) (by decide)
            · rw [map_take hcx, List.map_append]
              refine Eq.trans upd_same ?_
              show some (HO.lst (_ ++ [V.bl (inV (.int c) (cs.map V.int))])) = _
              rw [inV_ints]
              rfl
            · intro x o ex
              rw [upd_ne (ne_of_none ex hD)]
              exact h2 x o ex
          · obtain ⟨h1, h2⟩ := hp
            rw [List.length_map, List.take_length] at h1
            refine ⟨D, _, rfl, .of h1, ?_⟩
            refine fin _ ?_ _ h2
            unfold isWh
            rw [e1, decide_eq_false e2, e3, List.all_map]
            rfl
end
theorem perm_map_ex {α β : Type} {f : α → β} {ys zs : List β} (h : ys.Perm zs) : ∀ xs : List α, zs = xs.map f → ∃ L : List α, L.Perm xs ∧ L.map f = ys := by
  induction h with
  | nil =>
    intro xs e
    cases xs with
    | nil => exact ⟨[], .refl _, rfl⟩
    | cons x xs => cases e
  | cons y p ih =>
    intro xs e
    cases xs with
    | nil => cases e
    | cons x xs =>
      rw [List.map_cons] at e
      injection e with e1 e2
      obtain ⟨L, h1, h2⟩ := ih xs e2
      exact ⟨x :: L, h1.cons x, by rw [List.map_cons, h2, e1]⟩
  | swap y z l =>
    intro xs e
    cases xs with
    | nil => cases e
    | cons x xs =>
      cases xs with
      | nil => cases e
      | cons x' xs =>
        rw [List.map_cons, List.map_cons] at e
        injection e with e1 e2
        injection e2 with e2 e3
        exact ⟨x' :: x :: xs, .swap _ _ _, by rw [List.map_cons, List.map_cons, e1, e2, e3]⟩
  | trans p q ih1 ih2 =>
    intro xs e
    obtain ⟨L, h1, h2⟩ := ih2 xs e
    obtain ⟨M, h3, h4⟩ := ih1 L h2.symm
    exact ⟨M, h3.trans h1, h4⟩
/-- what sorted(d) is asked and gives -/
theorem DctAt.names {α : Type} {H : Hp} {t : Addr} {xs : List α} {g : α → Key × V} {f : α → Str} (h : DctAt H t (xs.map g)) (hg : ∀ x, (g x).1 = Sum.inr (f x)) (hl : xs.length < 64) :
    ∃ ks zs, H t = some (.dK ks) ∧ ks.length = xs.length ∧ ks.map (·.1) = zs.map Sum.inr ∧ zs.length < 64 ∧ zs.Perm (xs.map f) ∧ ∀ ys : List Str, ys.Perm zs → ∃ L : List α, L.Perm xs ∧ L.map f = ys := by
  obtain ⟨ks, e, p⟩ := h
  obtain ⟨L, h1, h2⟩ := perm_map_ex p xs rfl
  refine ⟨ks, L.map f, e, ?_, ?_, ?_, h1.map f, fun ys hy => ?_⟩
  · rw [← h2, List.length_map, h1.length_eq]
  · rw [← h2, List.map_map, List.map_map]
    exact List.map_congr_left fun x _ => hg x
  · rw [List.length_map, h1.length_eq]
    exact hl
  · obtain ⟨M, h3, h4⟩ := perm_map_ex hy L rfl
    exact ⟨M, h3.trans h1, h4⟩
theorem key_val {H : Hp} {ts : List (Str × Int)} {ks : List KeyE} {m : Nat} {wm : Int} (hT : Tabs ts m wm) (h : Keys H ts ks) {b : KeyE} (hb : b ∈ ks) : valV (keyK ks) (Sum.inr b.1) = some (.ref b.2.1) :=
  val_nodup (kvs := keyK ks) (key_nd hT h) (Sum.inr b.1, V.ref b.2.1) (List.mem_map.mpr ⟨b, hb, rfl⟩)
theorem sv_val {H : Hp} {ts : List (Str × Int)} {ks : List KeyE} {ss : List SvE} {n : Nat} (h : Svcs H ts ks ss n) {b : SvE} (hb : b ∈ ss) : valV (svK ss) (Sum.inr b.name) = some (.ref b.at_) :=
  val_nodup (kvs := svK ss) (sv_nd h) (Sum.inr b.name, V.ref b.at_) (List.mem_map.mpr ⟨b, hb, rfl⟩)
theorem fillE_perm {ts : List (Str × Int)} {ks : List KeyE} {a b : List SvE} (p : a.Perm b) : (fillE ts ks a).Perm (fillE ts ks b) := (p.filter _).map _
theorem fillE_take {ts : List (Str × Int)} {ks : List KeyE} (L : List SvE) (i : Nat) : (fillE ts ks (L.take i)).Sublist (fillE ts ks L) := ((List.take_sublist i L).filter _).map _
theorem rising_pw : ∀ (l : List Str) (p : Str), PyProof.Rows.risingS p l = true → (p :: l).Pairwise fun a b => a.cps.toList ≤ b.cps.toList
  | [], p, _ => List.pairwise_singleton _ _
  | x :: r, p, h => by
    have h' : (!PySem.Spec.ltCps x.cps.toList p.cps.toList && PyProof.Rows.risingS x r) = true := h
    rw [Bool.and_eq_true] at h'
    obtain ⟨h1, h2⟩ := h'
    have ih := rising_pw r x h2
    have hpx : p.cps.toList ≤ x.cps.toList := by
      rw [PyProof.Rows.ltCps_eq] at h1
      have h3 : ¬ x.cps.toList < p.cps.toList := by simpa using h1
      exact h3
    refine List.pairwise_cons.mpr ⟨fun y hy => ?_, ih⟩
    rcases List.mem_cons.mp hy with rfl | hy
    · exact hpx
    · exact List.le_trans hpx ((List.pairwise_cons.mp ih).1 y hy)
theorem sorted_pw {l : List Str} (h : PyProof.Rows.sortedS l = true) : l.Pairwise fun a b => a.cps.toList ≤ b.cps.toList := by
  cases l with
  | nil => exact .nil
  | cons x r => exact rising_pw r x h
theorem sorted_uniq {a b : List Str} (p : a.Perm b) (ha : PyProof.Rows.sortedS a = true) (hb : PyProof.Rows.sortedS b = true) : a = b := by
  refine List.Perm.eq_of_pairwise (le := fun a b : Str => a.cps.toList ≤ b.cps.toList) (fun x y _ _ h1 h2 => ?_) (sorted_pw ha) (sorted_pw hb) p
  have e := List.le_antisymm h1 h2
  cases x
  cases y
  congr
  exact Array.toList_inj.mp e
theorem dc_list {K : PySem.W.Frag} {a : Addr} {xs : List V} {g : TG} {tt : TT} {tk tv : TE} {vs : List Nat} {σ : L2.St} {H1 : Hp} {D : Addr} {Qd : Hp → Prop} (Pv : Nat → Hp → Prop) (h0 : Pv 0 (upd H1 D (.dK []))) (hl : ∀ i H, i ≤ xs.length → Pv i H → SqL K H a xs)
    (hs : ∀ i x H, xs[i]? = some x → Pv i H → g x (wipe σ vs) H fun σ2 H2 => wipe σ2 vs = wipe σ vs ∧ tt σ2 H2 fun b H3 =>
      if b = true then tk σ2 H3 fun y H4 => tv σ2 H4 fun z H5 => ∃ kvs k, y = kV k ∧ H5 D = some (.dK kvs) ∧ kvs.length < sizeLine ∧ Pv (i + 1) (upd H5 D (.dK (putK kvs k z))) else Pv (i + 1) H3) (hd : ∀ H, Pv xs.length H → Qd H) :
    ∃ W : Nat → Nat → Hp → Prop, (∃ m, W 0 m (upd H1 D (.dK []))) ∧ ∀ i m H, W i m H →
      ((Itl K a).stop i H ∧ Qd H) ∨ ((Itl K a).go i H ∧ ∃ Nx : Hp → Prop, (∀ H', Nx H' → ∃ m', m' < m ∧ W (i + 1) m' H') ∧ ∀ x H', (Itl K a).yld i H x H' → g x (wipe σ vs) H' fun σ2 H2 => wipe σ2 vs = wipe σ vs ∧ tt σ2 H2 fun b H3 =>
        if b = true then tk σ2 H3 fun y H4 => tv σ2 H4 fun z H5 => ∃ kvs k, y = kV k ∧ H5 D = some (.dK kvs) ∧ kvs.length < sizeLine ∧ Nx (upd H5 D (.dK (putK kvs k z))) else Nx H3) := by
  refine ⟨fun i m H => m = xs.length - i ∧ i ≤ xs.length ∧ Pv i H, ⟨xs.length, by simp, Nat.zero_le _, h0⟩, ?_⟩
  rintro i m H ⟨rfl, hi, p⟩
  have q := hl i H hi p
  rcases Nat.lt_or_ge i xs.length with lt | ge
  · refine .inr ⟨⟨xs, xs[i], q, by simp [lt]⟩, Pv (i + 1), fun H' p' => ⟨xs.length - (i + 1), by omega, rfl, lt, p'⟩, fun x H' y => ?_⟩
    obtain ⟨e, y⟩ := y
    subst e
    exact hs i x _ (y xs q) p
  · obtain rfl : i = xs.length := by omega
    exact .inl ⟨⟨xs, q, Nat.le_refl _⟩, hd H p⟩
def spCopied : Sp := fun vs H Q _ => ∃ (t : Addr) (kvs : List (Key × V)) (names : List Str), vs = [.ref t] ∧ DctAt H t kvs ∧ kvs.map (·.1) = names.map Sum.inr ∧ names.Nodup ∧ names.length < 64 ∧ ∀ D H', H D = none → DctAt H' D kvs → Same H H' → Q (.ref D) H'
section
variable {P : Program} {w : World} {K : PySem.W.Frag} {mg : Str → Option Value} {base : Heap} {a : Nat → Addr} {d : Nat → FuncData}
theorem ok_copied (T : Txt K mg a d) : FnOk P w K mg base CX0 1 (a 24) (d 24) ["things"] spCopied := by
  refine T.F24.ok sc__copied (fun vs H Q E h => ?_) (fun cdv A outer s H vs Q E hr h => ?_)
  · obtain ⟨t, kvs, names, rfl, _⟩ := h
    rfl
  · obtain ⟨t, kvs, names, rfl, ht, hk, hnd, h64, q⟩ := h
    have nd : (kvs.map (·.1)).Nodup := by
      rw [hk]
      exact inr_nd hnd
    obtain ⟨kd, e, pk⟩ := id ht
    have pk' := pk.map (·.1)
    rw [hk] at pk'
    obtain ⟨zs, z1, z2⟩ := perm_map_ex pk' names rfl
    refine ⟨_, (pss_one (ps_ret (pe_dc (own := [("name", 1)]) rfl sc__copied.nd (pi_list (pe_callB (id := "sorted")  (call_sortedD rfl) (by rfl) T.z_sorted (by decide +kernel) (pa_cons (pv 0) pa_nil))) (blkOk_by (N := ["things", "name"]) (sc := defScope s__copied) (by decide +kernel)) (fun _ _ _ _ _ => pg_name (i := 1) sc__copied.nd rfl (.inl rfl)) (fun _ _ _ _ _ => pts_nil) (fun _ _ _ _ _ => (pv 1)) (fun _ _ _ _ _ => (pe_dget (hu_of hr) (pv 0) (pv 1) (fun _ _ => rfl)))))), ?_⟩
    refine ⟨_, rfl, t, kd, zs, rfl, .inl e, z2.symm, by rw [z1.length_eq]; exact h64, fun ys p yp _ hp => ⟨p, rfl, ?_⟩⟩
    have s0 := same_upd (o := .lst (ys.map V.str)) hp
    have yn : ys.Perm names := yp.trans z1
    have ynd : ys.Nodup := yn.nodup_iff.mpr hnd
    have yl : ys.length < 64 := by rw [yn.length_eq]; exact h64
    refine ⟨⟨_, .of upd_same⟩, fun D hD => ?_⟩
    have hD0 : H D = none := s0.free hD
    have npD : p ≠ D := ne_of_none upd_same hD
    have pairs : ∀ zs : List Str, zs.Perm names → (zs.map fun n => ((Sum.inr n : Key), (valV kvs (Sum.inr n)).getD .non)).Perm kvs := fun zs hz => by
      refine (hz.map _).trans (List.Perm.of_eq ?_)
      have e1 : (names.map fun n => ((Sum.inr n : Key), (valV kvs (Sum.inr n)).getD .non)) = (kvs.map (·.1)).map fun k => (k, (valV kvs k).getD .non) := by
        rw [hk, List.map_map]
        rfl
      rw [e1, List.map_map]
      refine Eq.trans (List.map_congr_left (g := id) fun x hx => ?_) (List.map_id _)
      show (x.1, (valV kvs x.1).getD .non) = x
      rw [val_nodup nd x hx]
      rfl
    refine dc_list (K := K) (a := p) (xs := ys.map V.str) (fun i H' => H' D = some (.dK ((ys.take i).map fun n => ((Sum.inr n : Key), (valV kvs (Sum.inr n)).getD .non))) ∧ Same (upd H p (.lst (ys.map V.str))) H') ⟨upd_same, same_upd hD⟩ (fun i H' _ hp => .of (hp.2 _ _ upd_same)) (fun i x H' hx hp => ?_) (fun H' hp => ?_)
    · obtain ⟨h1, h2⟩ := hp
      obtain ⟨n, hn, rfl⟩ := map_at hx
      have hmem : n ∈ names := yn.mem_iff.mp (List.mem_of_getElem? hn)
      have hv : ∃ v, valV kvs (Sum.inr n) = some v := by
        have : (Sum.inr n : Key) ∈ kvs.map (·.1) := by
          rw [hk]
          exact List.mem_map.mpr ⟨n, hmem, rfl⟩
        obtain ⟨x, hx, e⟩ := List.mem_map.mp this
        exact ⟨x.2, by rw [← e]; exact val_nodup nd x hx⟩
      obtain ⟨v, hv⟩ := hv
      refine ⟨rfl, _, rfl, _, rfl, _, rfl, t, v, rfl, (ht.same (s0.trans h2)).at_ nd hv, _, Sum.inr n, rfl, h1, ?_, ?_, ?_⟩
      · rw [List.length_map, List.length_take]
        exact small1000 (by omega)
      · rw [map_take hn, hv]
        refine Eq.trans upd_same (congrArg (fun x => some (HO.dK x)) ?_)
        rw [putK_new _ (valV_no ?_)]
        · rfl
        · rw [List.map_map]
          exact inr_no (nd_take ynd hn)
      · intro x o ex
        rw [upd_ne (ne_of_none ex hD)]
        exact h2 x o ex
    · obtain ⟨h1, h2⟩ := hp
      rw [List.length_map, List.take_length] at h1
      exact q D H' hD0 ⟨_, h1, pairs ys yn⟩ (s0.trans h2)
end
def fldsS (d1 d2 d3 : Addr) : List (Str × V) := putF "_services" (.ref d3) (putF "_keys" (.ref d2) (putF "_tables" (.ref d1) []))
theorem flds_t (d1 d2 d3 : Addr) : (fldsS d1 d2 d3).lookup ("_tables" : Str) = some (V.ref d1) := by
  unfold fldsS
  rw [lookup_putF, if_neg (by decide +kernel), lookup_putF, if_neg (by decide +kernel), lookup_putF, if_pos rfl]
theorem flds_k (d1 d2 d3 : Addr) : (fldsS d1 d2 d3).lookup ("_keys" : Str) = some (V.ref d2) := by
  unfold fldsS
  rw [lookup_putF, if_neg (by decide +kernel), lookup_putF, if_pos rfl]
theorem flds_s (d1 d2 d3 : Addr) : (fldsS d1 d2 d3).lookup ("_services" : Str) = some (V.ref d3) := by
  unfold fldsS
  rw [lookup_putF, if_pos rfl]
theorem flds_no (d1 d2 d3 : Addr) {m : Str} (h1 : ¬ m = "_services") (h2 : ¬ m = "_keys") (h3 : ¬ m = "_tables") : (fldsS d1 d2 d3).lookup m = none := by
  unfold fldsS
  rw [lookup_putF, if_neg h1, lookup_putF, if_neg h2, lookup_putF, if_neg h3]
  rfl
theorem DctAt.but {H H' : Hp} {t p : Addr} {kvs : List (Key × V)} {C dx : Addr} {fs : List (Str × V)} (h : DctAt H t kvs) (hp : H p = some (.ins C dx fs)) (s : ∀ b o, b ≠ p → H b = some o → H' b = some o) : DctAt H' t kvs := by
  obtain ⟨ks, e, q⟩ := h
  exact ⟨ks, s _ _ (ne_of e hp (by intro z; cases z)) e, q⟩
/-! ### dicts with the same pairs in any order -/
section
variable {P : Program} {w : World} {K : PySem.W.Frag} {mg : Str → Option Value} {base : Heap} {a : Nat → Addr} {d : Nat → FuncData}
/-! ### the small ones -/
def spCount : Sp := fun vs H Q _ => ∃ (i m : Int), vs = [.int i, .int m] ∧ ∀ H', Same H H' → Q (.bl (decide (1 ≤ i ∧ i ≤ m))) H'
theorem ok_count (T : Txt K mg a d) : FnOk P w K mg base CX0 2 (a 14) (d 14) ["thing", "most"] spCount := by
  have G7 : FnOk P w K mg base CX0 1 (a 7) (d 7) ["thing"] (spB plainV) := ok_plain T
  refine T.F14.ok sc__is_count (fun vs H Q E h => ?_) (fun cdv A outer s H vs Q E hr h => ?_)
  · obtain ⟨i, m, rfl, _⟩ := h
    rfl
  · obtain ⟨i, m, rfl, q⟩ := h
    refine ⟨_, (pss_one (ps_ret (pe_and (pe_call G7 (hr.mono (by decide)) (by rfl) T.g7 T.F7.kp T.b7 .nil pass0 (pa_cons (pv 0) pa_nil)) (pe_one (pe_chain op_le op_le pe_int (pv 0) (pv 1)))))), ?_⟩
    refine ⟨_, rfl, _, rfl, .int i, fun H1 s1 => ⟨_, rfl, ?_⟩⟩
    refine ⟨_, rfl, _, _, rfl, rfl, _, rfl, ite_d (fun h1 => ?_) (fun h1 => ?_)⟩
    · refine ⟨_, rfl, _, _, rfl, rfl, ?_⟩
      have := q H1 s1
      show Q (.bl (decide (i ≤ m))) H1
      by_cases h2 : i ≤ m
      · rw [decide_eq_true (show 1 ≤ i ∧ i ≤ m from ⟨h1, h2⟩)] at this
        rw [decide_eq_true h2]
        exact this
      · rw [decide_eq_false (fun z : 1 ≤ i ∧ i ≤ m => h2 z.2)] at this
        rw [decide_eq_false h2]
        exact this
    · have := q H1 s1
      rw [decide_eq_false (fun z : 1 ≤ i ∧ i ≤ m => h1 z.1)] at this
      exact this
def spNameIn : Sp := fun vs H Q _ => ∃ (n : Str) (t : Addr) (kvs : List (Key × V)), vs = [.str n, .ref t] ∧ DctAt H t kvs ∧ (kvs.map (·.1)).Nodup ∧ Q (.bl (valV kvs (Sum.inr n)).isSome) H
theorem ok_name_in (T : Txt K mg a d) : FnOk P w K mg base CX0 1 (a 15) (d 15) ["thing", "names"] spNameIn := by
  refine T.F15.ok sc__is_name_in (fun vs H Q E h => ?_) (fun cdv A outer s H vs Q E hr h => ?_)
  · obtain ⟨n, t, kvs, rfl, _⟩ := h
    rfl
  · obtain ⟨n, t, kvs, rfl, ht, nd, q⟩ := h
    refine ⟨_, (pss_one (ps_ret (pe_and (pe_callB (id := "isinstance")  call_isi (by rfl) T.z_isinstance (by decide +kernel) (pa_cons (pv 0) (pa_cons (pe_bltn (v := .ty "str") (by rfl) T.z_str (by decide +kernel) rfl) pa_nil))) (pe_one (pe_cmp (pc_din (hu_of hr) (pv 0) (pv 1)) rfl))))), ?_⟩
    refine ⟨_, rfl, _, _, _, _, _, rfl, .ty _, .base (.str n), kit_ty (show kitB "str" "str" = some true by decide +kernel), _, rfl, ?_⟩
    exact ⟨_, rfl, _, rfl, t, _, rfl, ht.get nd (Sum.inr n), q⟩
def spAreCols : Sp := fun vs H Q _ => ∃ (c : Addr) (cs : List Int) (w : Int), vs = [.ref c, .int w] ∧ H c = some (.tup (cs.map V.int)) ∧ Cols cs w ∧ cs.length ≤ 100 ∧ ∀ H', Same H H' → Q (.bl true) H'
theorem ok_are_columns (T : Txt K mg a d) : FnOk P w K mg base CX0 2 (a 16) (d 16) ["thing", "width"] spAreCols := by
  have G7 : FnOk P w K mg base CX0 1 (a 7) (d 7) ["thing"] (spB plainV) := ok_plain T
  refine T.F16.ok sc__are_columns (fun vs H Q E h => ?_) (fun cdv A outer s H vs Q E hr h => ?_)
  · obtain ⟨c, cs, w, rfl, _⟩ := h
    rfl
  · obtain ⟨c, cs, w, rfl, hc, hcs, hl, q⟩ := h
    refine ⟨_, (pss_cons (ps_if (pt_not (pt_val (pe_callB (id := "isinstance")  call_isi (by rfl) T.z_isinstance (by decide +kernel) (pa_cons (pv 0) (pa_cons (pe_bltn (v := .ty "tuple") (by rfl) T.z_tuple (by decide +kernel) rfl) pa_nil)))))
    (pss_one (ps_ret pe_bl))
    pss_nil)
  (pss_cons (ps_set (i := 2) sc__are_columns.nd rfl (.inl rfl) pe_int)
  (pss_cons (ps_for PassesOwn.never rfl (pi_tup (pv 0)) (pg_name (i := 3) sc__are_columns.nd rfl (.inl rfl))
    (pss_cons (ps_if (PW.pt (pw_or (pt_not (pt_val (pe_call G7 (hr.mono (by decide)) (by rfl) T.g7 T.F7.kp T.b7 .nil pass0 (pa_cons (pv 3) pa_nil)))) (pw_or1 (pt_not (pt_chain op_le op_lt (pv 2) (pv 3) (pv 1))))))
        (pss_one (ps_ret pe_bl))
        pss_nil)
      (pss_one (ps_set (i := 2) sc__are_columns.nd rfl (.inl rfl) (pe_op op_add (pv 3) pe_int)))))
  (pss_one (ps_ret pe_bl))))), ?_⟩
    refine ⟨_, rfl, _, _, _, _, _, rfl, .ty _, .base (.tup hc), kit_ty (show kitB "tuple" "tuple" = some true by decide +kernel), _, rfl, ?_⟩
    refine ⟨_, rfl, c, rfl, ⟨_, .of hc⟩, for_tup (K := K) (a := c) (xs := cs.map V.int) (fun i σ H' => ∃ (l : Int) (y3 : Option V), σ = [some (.ref c), some (.int w), some (.int l), y3] ∧ Same H H' ∧ (∀ j x, i ≤ j → cs[j]? = some x → l ≤ x)) ⟨0, none, rfl, Same.refl H, fun j x _ e => (hcs.2 x (List.mem_of_getElem? e)).1⟩ (fun i σ H' _ hp => ?_) (fun i y σ H' hy hp => ?_) (fun σ H' hp => ?_)⟩
    · obtain ⟨l, y3, rfl, s1, _⟩ := hp
      exact .of (s1 _ _ hc)
    · obtain ⟨l, y3, rfl, s1, hlow⟩ := hp
      obtain ⟨x, hx, rfl⟩ := map_at hy
      have hb := hcs.2 x (List.mem_of_getElem? hx)
      have h1 := hlow i x (Nat.le_refl _) hx
      refine ⟨_, rfl, _, rfl, .int x, fun H1 s2 => ⟨_, rfl, ?_⟩⟩
      refine ⟨_, rfl, _, rfl, _, _, rfl, rfl, _, rfl, ite_d (fun _ => ?_) (fun z => absurd h1 z)⟩
      refine ⟨_, rfl, _, _, rfl, rfl, _, rfl, ?_⟩
      rw [decide_eq_true hb.2]
      refine ⟨_, rfl, _, _, rfl, rfl, _, _, rfl, s1.trans s2, fun j z hj e => ?_⟩
      have hij : i < j := hj
      obtain ⟨hi', ei⟩ := List.getElem?_eq_some_iff.mp hx
      obtain ⟨hj', ej⟩ := List.getElem?_eq_some_iff.mp e
      have := List.pairwise_iff_getElem.mp hcs.1 i j hi' hj' hij
      rw [ei, ej] at this
      omega
    · obtain ⟨l, y3, rfl, s1, _⟩ := hp
      exact q H' s1
/-! ### keys and services that are right -/
def spIsKey : Sp := fun vs H Q _ => ∃ (c : Addr) (cs : List Int) (w : Int), vs = [.ref c, .int w] ∧ H c = some (.tup (cs.map V.int)) ∧ Cols cs w ∧ cs.length ≤ 100 ∧ 1 ≤ cs.length ∧ (cs.length : Int) < w ∧ ∀ H', Same H H' → Q (.bl true) H'
theorem ok_is_key (T : Txt K mg a d) : FnOk P w K mg base CX0 3 (a 17) (d 17) ["thing", "width"] spIsKey := by
  have G16 : FnOk P w K mg base CX0 2 (a 16) (d 16) ["thing", "width"] spAreCols := ok_are_columns T
  refine T.F17.ok sc__is_key (fun vs H Q E h => ?_) (fun cdv A outer s H vs Q E hr h => ?_)
  · obtain ⟨c, cs, w, rfl, _⟩ := h
    rfl
  · obtain ⟨c, cs, w, rfl, hc, hcs, hl, h1, h2, q⟩ := h
    refine ⟨_, (pss_one (ps_ret (pe_and (pe_call G16 (hr.mono (by decide)) (by rfl) T.g16 T.F16.kp T.b16 .nil pass0 (pa_cons (pv 0) (pa_cons (pv 1) pa_nil))) (pe_one (pe_chain op_lt op_lt pe_int (pe_callB (id := "len")  call_len_seq (by rfl) T.z_len (by decide +kernel) (pa_cons (pv 0) pa_nil)) (pv 1)))))), ?_⟩
    refine ⟨_, rfl, _, rfl, c, cs, w, rfl, hc, hcs, hl, fun H1 s1 => ⟨_, rfl, ?_⟩⟩
    have lc : ((cs.map V.int).length : Int) = cs.length := by rw [List.length_map]
    refine ⟨_, rfl, _, _, rfl, .inr (.of (s1 _ _ hc)), _, _, rfl, rfl, _, rfl, ite_d (fun _ => ?_) (fun z => absurd (by omega) z)⟩
    refine ⟨_, rfl, _, _, rfl, rfl, ?_⟩
    show Q (.bl (decide (((cs.map V.int).length : Int) < w))) H1
    rw [lc, decide_eq_true h2]
    exact q H1 s1
def spIsSvc : Sp := fun vs H Q _ => ∃ (v t ga : Addr) (n : Str) (cs : List Int) (cap : Option Int) (w : Int) (ts : List (Str × Int)) (m : Nat), vs = [.ref v, .ref t] ∧ Told H v n ga cs cap ∧ DctAt H t (tabK ts) ∧ Tabs ts m 4 ∧ (n, w) ∈ ts ∧ Cols cs w ∧ cs.length ≤ 4 ∧ (∀ z, cap = some z → 1 ≤ z ∧ z ≤ 4) ∧ ∀ H', Same H H' → Q (.bl true) H'
theorem ok_is_service (T : Txt K mg a d) : FnOk P w K mg base CX0 3 (a 18) (d 18) ["thing", "tables"] spIsSvc := by
  have G16 : FnOk P w K mg base CX0 2 (a 16) (d 16) ["thing", "width"] spAreCols := ok_are_columns T
  have G15 : FnOk P w K mg base CX0 1 (a 15) (d 15) ["thing", "names"] spNameIn := ok_name_in T
  have G14 : FnOk P w K mg base CX0 2 (a 14) (d 14) ["thing", "most"] spCount := ok_count T
  refine T.F18.ok sc__is_service (fun vs H Q E h => ?_) (fun cdv A outer s H vs Q E hr h => ?_)
  · obtain ⟨v, t, ga, n, cs, cap, w, ts, m, rfl, _⟩ := h
    rfl
  · obtain ⟨v, t, ga, n, cs, cap, w, ts, m, rfl, hv, ht, hT, hm, hcs, hl, hcap, q⟩ := h
    obtain ⟨t9, h_MOST_CAP⟩ := T.c_MOST_CAP
    have tv := tab_val hT hm
    have g := fun (H' : Hp) (s : Same H H') => (ht.same s).get (tab_nd hT) (Sum.inr n)
    rw [tv] at g
    refine ⟨_, (pss_cons (ps_if (PW.pt (pw_or (pt_not (pt_val (pe_callB (id := "isinstance")  call_isi (by rfl) T.z_isinstance (by decide +kernel) (pa_cons (pv 0) (pa_cons (pe_bltn (v := .ty "tuple") (by rfl) T.z_tuple (by decide +kernel) rfl) pa_nil))))) (pw_or1 (pt_cmpR op_ne (pe_callB (id := "len")  call_len_seq (by rfl) T.z_len (by decide +kernel) (pa_cons (pv 0) pa_nil)) pe_int (nomark _)))))
    (pss_one (ps_ret pe_bl))
    pss_nil)
  (pss_cons (ps_asg (pv 0) (pg_tup rfl (pgs_cons (pg_name (i := 2) sc__is_service.nd rfl (.inl rfl)) (pgs_cons (pg_name (i := 3) sc__is_service.nd rfl (.inl rfl)) (pgs_cons (pg_name (i := 4) sc__is_service.nd rfl (.inl rfl)) pgs_nil)))))
  (pss_cons (ps_if (PW.pt (pw_or (pt_not (pt_val (pe_call G15 (hr.mono (by decide)) (by rfl) T.g15 T.F15.kp T.b15 .nil pass0 (pa_cons (pv 2) (pa_cons (pv 1) pa_nil))))) (pw_or1 (pt_not (pt_val (pe_call G16 (hr.mono (by decide)) (by rfl) T.g16 T.F16.kp T.b16 .nil pass0 (pa_cons (pv 3) (pa_cons (pe_dget (hu_of hr) (pv 1) (pv 2) (fun _ _ => rfl)) pa_nil))))))))
    (pss_one (ps_ret pe_bl))
    pss_nil)
  (pss_one (ps_ret (pe_or (pe_cmpR op_isN (pv 4) pe_non (nomark _)) (pe_one (pe_call G14 (hr.mono (by decide)) (by rfl) T.g14 T.F14.kp T.b14 .nil pass0 (pa_cons (pv 4) (pa_cons (pe_glob (v := .int (4)) rfl h_MOST_CAP ⟨_, rfl⟩) pa_nil)))))))))), ?_⟩
    refine ⟨_, rfl, _, _, _, _, _, rfl, .ty _, .base (.tup hv.tup), kit_ty (show kitB "tuple" "tuple" = some true by decide +kernel), _, rfl, ?_⟩
    refine ⟨_, rfl, _, _, rfl, .inr (.of hv.tup), rfl, _, rfl, ?_⟩
    refine ⟨_, rfl, v, _, rfl, .of hv.tup, rfl, _, _, rfl, _, _, rfl, _, _, rfl, rfl, ?_⟩
    refine ⟨_, rfl, _, rfl, n, t, tabK ts, rfl, ht, tab_nd hT, ?_⟩
    rw [tv]
    refine ⟨_, rfl, _, rfl, _, rfl, _, rfl, t, _, rfl, g H (Same.refl H), ga, cs, w, rfl, hv.cols, hcs, by omega, fun H1 s1 => ⟨_, rfl, ?_⟩⟩
    refine ⟨_, rfl, rfl, _, rfl, ?_⟩
    rw [capV_none]
    cases e : cap.isNone with
    | true => exact q H1 s1
    | false =>
      cases cap with
      | none => cases e
      | some z =>
        have hz := hcap z rfl
        refine ⟨_, rfl, z, 4, rfl, fun H2 s2 => ?_⟩
        rw [decide_eq_true hz]
        exact q H2 (s1.trans s2)
end
/-! ### a dict whose names are sorted -/
section
variable {P : Program} {w : World} {K : PySem.W.Frag} {mg : Str → Option Value} {base : Heap} {a : Nat → Addr} {d : Nat → FuncData}
def spChkT : Sp := fun vs H Q _ => ∃ (t : Addr) (ts : List (Str × Int)) (m : Nat), vs = [.ref t] ∧ DctAt H t (tabK ts) ∧ Tabs ts m 4 ∧ 1 ≤ m ∧ m ≤ 5 ∧ ∀ H', Same H H' → Q .non H'
theorem ok_check_tables (T : Txt K mg a d) : FnOk P w K mg base CX0 3 (a 20) (d 20) ["tables"] spChkT := by
  have G8 : FnOk P w K mg base CX0 1 (a 8) (d 8) ["thing"] (spB wordV) := ok_is_word T
  have G14 : FnOk P w K mg base CX0 2 (a 14) (d 14) ["thing", "most"] spCount := ok_count T
  refine T.F20.ok sc__check_tables (fun vs H Q E h => ?_) (fun cdv A outer s H vs Q E hr h => ?_)
  · obtain ⟨t, ts, m, rfl, _⟩ := h
    rfl
  · obtain ⟨t, ts, m, rfl, ht, hT, hm1, hm2, q⟩ := h
    obtain ⟨t8, h_MOST_TABLES⟩ := T.c_MOST_TABLES
    obtain ⟨t9, h_MOST_WIDTH⟩ := T.c_MOST_WIDTH
    have hlen := hT.len
    obtain ⟨ks, zs, e, kl, ek, z64, _, hL⟩ := DctAt.names (f := (·.1)) ht (fun _ => rfl) (by omega)
    refine ⟨_, (pss_cons (ps_if (pt_not (pt_chain op_le op_le pe_int (pe_callB (id := "len")  call_lenD (by rfl) T.z_len (by decide +kernel) (pa_cons (pv 0) pa_nil)) (pe_glob (v := .int (5)) rfl h_MOST_TABLES ⟨_, rfl⟩)))
    (pss_one ps_never)
    pss_nil)
  (pss_one (ps_for PassesOwn.never rfl (pi_list (pe_callB (id := "sorted")  (call_sortedD rfl) (by rfl) T.z_sorted (by decide +kernel) (pa_cons (pv 0) pa_nil))) (pg_name (i := 1) sc__check_tables.nd rfl (.inl rfl))
    (pss_one (ps_if (PW.pt (pw_or (pt_not (pt_val (pe_call G8 (hr.mono (by decide)) (by rfl) T.g8 T.F8.kp T.b8 .nil pass0 (pa_cons (pv 1) pa_nil)))) (pw_or1 (pt_not (pt_val (pe_call G14 (hr.mono (by decide)) (by rfl) T.g14 T.F14.kp T.b14 .nil pass0 (pa_cons (pe_dget (hu_of hr) (pv 0) (pv 1) (fun _ _ => rfl)) (pa_cons (pe_glob (v := .int (4)) rfl h_MOST_WIDTH ⟨_, rfl⟩) pa_nil))))))))
        (pss_one ps_never)
        pss_nil))))), ?_⟩
    refine ⟨_, rfl, t, ks, rfl, e, _, _, rfl, rfl, _, rfl, ite_d (fun _ => ?_) (fun z => absurd (by omega) z)⟩
    refine ⟨_, _, rfl, rfl, _, rfl, ?_⟩
    show if (!decide ((ks.length : Int) ≤ 5)) = true then _ else _
    rw [decide_eq_true (by omega)]
    refine ⟨_, rfl, t, ks, zs, rfl, .inl e, ek, z64, fun ys p yp _ hp => ⟨p, rfl, ?_⟩⟩
    obtain ⟨L, hLp, rfl⟩ := hL ys yp
    have s0 := same_upd (o := .lst ((L.map (·.1)).map V.str)) hp
    refine ⟨⟨_, .of upd_same⟩, for_list (K := K) (a := p) (xs := (L.map (·.1)).map V.str) (fun i σ H' => ∃ y1 : Option V, σ = [some (.ref t), y1] ∧ Same (upd H p (.lst ((L.map (·.1)).map V.str))) H') ⟨none, rfl, Same.refl _⟩ (fun i σ H' _ hp => ?_) (fun i y σ H' hy hp => ?_) (fun σ H' hp => ?_)⟩
    · obtain ⟨y1, rfl, s1⟩ := hp
      exact .of (s1 _ _ upd_same)
    · obtain ⟨y1, rfl, s1⟩ := hp
      obtain ⟨n, hn, rfl⟩ := map_at hy
      obtain ⟨b, hb, rfl⟩ := map_at hn
      have hm : (b.1, b.2) ∈ ts := hLp.mem_iff.mp (List.mem_of_getElem? hb)
      have hw := hT.wd _ hm
      have hwd := hT.nm.wd b.1 (List.mem_map.mpr ⟨_, hm, rfl⟩)
      refine ⟨_, rfl, .str b.1, rfl, wd_thg hwd, fun H1 s2 => ⟨_, rfl, ?_⟩⟩
      show if (!wordB b.1) = true then _ else _
      rw [wd_b hwd]
      refine ⟨_, rfl, _, rfl, t, _, rfl, (ht.same ((s0.trans s1).trans s2)).at_ (tab_nd hT) (tab_val hT hm), b.2, 4, rfl, fun H2 s3 => ⟨_, rfl, ?_⟩⟩
      rw [decide_eq_true hw]
      exact ⟨_, rfl, (s1.trans s2).trans s3⟩
    · obtain ⟨y1, rfl, s1⟩ := hp
      exact q H' (s0.trans s1)
def spChkK : Sp := fun vs H Q _ => ∃ (k t : Addr) (ts : List (Str × Int)) (ks : List KeyE) (m : Nat), vs = [.ref k, .ref t] ∧ DctAt H k (keyK ks) ∧ DctAt H t (tabK ts) ∧ Tabs ts m 4 ∧ Keys H ts ks ∧ m ≤ 5 ∧ ∀ H', Same H H' → Q .non H'
theorem ok_check_keys (T : Txt K mg a d) : FnOk P w K mg base CX0 4 (a 21) (d 21) ["keys", "tables"] spChkK := by
  have G17 : FnOk P w K mg base CX0 3 (a 17) (d 17) ["thing", "width"] spIsKey := ok_is_key T
  refine T.F21.ok sc__check_keys (fun vs H Q E h => ?_) (fun cdv A outer s H vs Q E hr h => ?_)
  · obtain ⟨k, t, ts, ks, m, rfl, _⟩ := h
    rfl
  · obtain ⟨k, t, ts, ks, m, rfl, hk, ht, hT, hK, hm2, q⟩ := h
    have hlen := hT.len
    have hkl : ks.length ≤ 5 := by
      have := hK.le
      omega
    obtain ⟨kd, zs, e, kl, ek, z64, _, hL⟩ := DctAt.names (f := (·.1)) hk (fun _ => rfl) (by omega)
    refine ⟨_, (pss_one (ps_for PassesOwn.never rfl (pi_list (pe_callB (id := "sorted")  (call_sortedD rfl) (by rfl) T.z_sorted (by decide +kernel) (pa_cons (pv 0) pa_nil))) (pg_name (i := 2) sc__check_keys.nd rfl (.inl rfl))
    (pss_one (ps_if (PW.pt (pw_or (pt_cmp (pc_dnotin (hu_of hr) (pv 2) (pv 1))) (pw_or1 (pt_not (pt_val (pe_call G17 (hr.mono (by decide)) (by rfl) T.g17 T.F17.kp T.b17 .nil pass0 (pa_cons (pe_dget (hu_of hr) (pv 0) (pv 2) (fun _ _ => rfl)) (pa_cons (pe_dget (hu_of hr) (pv 1) (pv 2) (fun _ _ => rfl)) pa_nil))))))))
        (pss_one ps_never)
        pss_nil)))), ?_⟩
    refine ⟨_, rfl, k, kd, zs, rfl, .inl e, ek, z64, fun ys p yp _ hp => ⟨p, rfl, ?_⟩⟩
    obtain ⟨L, hLp, rfl⟩ := hL ys yp
    have s0 := same_upd (o := .lst ((L.map (·.1)).map V.str)) hp
    refine ⟨⟨_, .of upd_same⟩, for_list (K := K) (a := p) (xs := (L.map (·.1)).map V.str) (fun i σ H' => ∃ y1 : Option V, σ = [some (.ref k), some (.ref t), y1] ∧ Same (upd H p (.lst ((L.map (·.1)).map V.str))) H') ⟨none, rfl, Same.refl _⟩ (fun i σ H' _ hp => ?_) (fun i y σ H' hy hp => ?_) (fun σ H' hp => ?_)⟩
    · obtain ⟨y1, rfl, s1⟩ := hp
      exact .of (s1 _ _ upd_same)
    · obtain ⟨y1, rfl, s1⟩ := hp
      obtain ⟨n, hn, rfl⟩ := map_at hy
      obtain ⟨b, hb, rfl⟩ := map_at hn
      have hm : b ∈ ks := hLp.mem_iff.mp (List.mem_of_getElem? hb)
      obtain ⟨w', hw', hcols, hl1, hl2⟩ := hK.ok b hm
      have hwd := hT.wd _ hw'
      have s2 := s0.trans s1
      have gt := (ht.same s2).at_ (tab_nd hT) (tab_val hT hw')
      refine ⟨_, rfl, _, rfl, t, _, rfl, gt, _, rfl, ?_⟩
      refine ⟨_, rfl, _, rfl, k, _, rfl, (hk.same s2).at_ (key_nd hT hK) (key_val hT hK hm), _, rfl, _, rfl, t, _, rfl, gt, b.2.1, b.2.2, w', rfl, s2 _ _ (hK.at_ b hm), hcols, by omega, hl1, hl2, fun H1 s3 => ⟨_, rfl, ?_⟩⟩
      exact ⟨_, rfl, s1.trans s3⟩
    · obtain ⟨y1, rfl, s1⟩ := hp
      exact q H' (s0.trans s1)
def spChkS : Sp := fun vs H Q _ => ∃ (v t : Addr) (ts : List (Str × Int)) (ks : List KeyE) (ss : List SvE) (m n : Nat), vs = [.ref v, .ref t] ∧ DctAt H v (svK ss) ∧ DctAt H t (tabK ts) ∧ Tabs ts m 4 ∧ Svcs H ts ks ss n ∧ 1 ≤ n ∧ n ≤ 8 ∧ ∀ H', Same H H' → Q .non H'
theorem ok_check_services (T : Txt K mg a d) : FnOk P w K mg base CX0 4 (a 22) (d 22) ["services", "tables"] spChkS := by
  have G8 : FnOk P w K mg base CX0 1 (a 8) (d 8) ["thing"] (spB wordV) := ok_is_word T
  have G18 : FnOk P w K mg base CX0 3 (a 18) (d 18) ["thing", "tables"] spIsSvc := ok_is_service T
  refine T.F22.ok sc__check_services (fun vs H Q E h => ?_) (fun cdv A outer s H vs Q E hr h => ?_)
  · obtain ⟨v, t, ts, ks, ss, m, n, rfl, _⟩ := h
    rfl
  · obtain ⟨v, t, ts, ks, ss, m, n, rfl, hv, ht, hT, hS, hm1, hm2, q⟩ := h
    obtain ⟨t8, h_MOST_SERVICES⟩ := T.c_MOST_SERVICES
    have hlen : ss.length = n := by rw [← hS.nm.len, List.length_map]
    obtain ⟨kd, zs, e, kl, ek, z64, _, hL⟩ := DctAt.names (f := (·.name)) hv (fun _ => rfl) (by omega)
    refine ⟨_, (pss_cons (ps_if (pt_not (pt_chain op_le op_le pe_int (pe_callB (id := "len")  call_lenD (by rfl) T.z_len (by decide +kernel) (pa_cons (pv 0) pa_nil)) (pe_glob (v := .int (8)) rfl h_MOST_SERVICES ⟨_, rfl⟩)))
    (pss_one ps_never)
    pss_nil)
  (pss_one (ps_for PassesOwn.never rfl (pi_list (pe_callB (id := "sorted")  (call_sortedD rfl) (by rfl) T.z_sorted (by decide +kernel) (pa_cons (pv 0) pa_nil))) (pg_name (i := 2) sc__check_services.nd rfl (.inl rfl))
    (pss_one (ps_if (PW.pt (pw_or (pt_not (pt_val (pe_call G8 (hr.mono (by decide)) (by rfl) T.g8 T.F8.kp T.b8 .nil pass0 (pa_cons (pv 2) pa_nil)))) (pw_or1 (pt_not (pt_val (pe_call G18 (hr.mono (by decide)) (by rfl) T.g18 T.F18.kp T.b18 .nil pass0 (pa_cons (pe_dget (hu_of hr) (pv 0) (pv 2) (fun _ _ => rfl)) (pa_cons (pv 1) pa_nil))))))))
        (pss_one ps_never)
        pss_nil))))), ?_⟩
    refine ⟨_, rfl, v, kd, rfl, e, _, _, rfl, rfl, _, rfl, ite_d (fun _ => ?_) (fun z => absurd (by omega) z)⟩
    refine ⟨_, _, rfl, rfl, _, rfl, ?_⟩
    show if (!decide ((kd.length : Int) ≤ 8)) = true then _ else _
    rw [decide_eq_true (by omega)]
    refine ⟨_, rfl, v, kd, zs, rfl, .inl e, ek, z64, fun ys p yp _ hp => ⟨p, rfl, ?_⟩⟩
    obtain ⟨L, hLp, rfl⟩ := hL ys yp
    have s0 := same_upd (o := .lst ((L.map (·.name)).map V.str)) hp
    refine ⟨⟨_, .of upd_same⟩, for_list (K := K) (a := p) (xs := (L.map (·.name)).map V.str) (fun i σ H' => ∃ y1 : Option V, σ = [some (.ref v), some (.ref t), y1] ∧ Same (upd H p (.lst ((L.map (·.name)).map V.str))) H') ⟨none, rfl, Same.refl _⟩ (fun i σ H' _ hp => ?_) (fun i y σ H' hy hp => ?_) (fun σ H' hp => ?_)⟩
    · obtain ⟨y1, rfl, s1⟩ := hp
      exact .of (s1 _ _ upd_same)
    · obtain ⟨y1, rfl, s1⟩ := hp
      obtain ⟨nm, hn, rfl⟩ := map_at hy
      obtain ⟨b, hb, rfl⟩ := map_at hn
      have hm : b ∈ ss := hLp.mem_iff.mp (List.mem_of_getElem? hb)
      have hwd := hS.nm.wd b.name (List.mem_map.mpr ⟨_, hm, rfl⟩)
      obtain ⟨htold, ⟨w', hw', hcols, hcl⟩, hcap⟩ := hS.ok b hm
      refine ⟨_, rfl, .str b.name, rfl, wd_thg hwd, fun H1 s2 => ⟨_, rfl, ?_⟩⟩
      have s3 := (s0.trans s1).trans s2
      show if (!wordB b.name) = true then _ else _
      rw [wd_b hwd]
      refine ⟨_, rfl, _, rfl, v, _, rfl, (hv.same s3).at_ (sv_nd hS) (sv_val hS hm), _, rfl, b.at_, t, b.ga, b.tab, b.cols, b.cap, w', ts, m, rfl, htold.mono fun _ _ e => s3 _ _ e, ht.same s3, hT, hw', hcols, hcl, hcap, fun H2 s4 => ⟨_, rfl, ?_⟩⟩
      exact ⟨_, rfl, (s1.trans s2).trans s4⟩
    · obtain ⟨y1, rfl, s1⟩ := hp
      exact q H' (s0.trans s1)
end
/-! ### the order of names -/
section
variable {P : Program} {w : World} {K : PySem.W.Frag} {mg : Str → Option Value} {base : Heap} {a : Nat → Addr} {d : Nat → FuncData}
def spChkC : Sp := fun vs H Q _ => ∃ (v t k : Addr) (ts : List (Str × Int)) (ks : List KeyE) (ss : List SvE) (m n : Nat), vs = [.ref v, .ref t, .ref k] ∧ DctAt H v (svK ss) ∧ DctAt H t (tabK ts) ∧ DctAt H k (keyK ks) ∧ Tabs ts m 4 ∧ Keys H ts ks ∧ Svcs H ts ks ss n ∧ n ≤ 8 ∧ ∀ H', Same H H' → Q .non H'
theorem ok_check_capped (T : Txt K mg a d) : FnOk P w K mg base CX0 2 (a 23) (d 23) ["services", "tables", "keys"] spChkC := by
  have G19 : FnOk P w K mg base CX0 1 (a 19) (d 19) ["service", "tables", "keys"] spIsWh := ok_is_wh T
  refine T.F23.ok sc__check_capped (fun vs H Q E h => ?_) (fun cdv A outer s H vs Q E hr h => ?_)
  · obtain ⟨v, t, k, ts, ks, ss, m, n, rfl, _⟩ := h
    rfl
  · obtain ⟨v, t, k, ts, ks, ss, m, n, rfl, hv, ht, hk, hT, hK, hS, hn, q⟩ := h
    have hlen : ss.length = n := by rw [← hS.nm.len, List.length_map]
    obtain ⟨kd, zs, e, kl, ek, z64, _, hL⟩ := DctAt.names (f := (·.name)) hv (fun _ => rfl) (by omega)
    refine ⟨_, (pss_cons (ps_set (i := 3) sc__check_capped.nd rfl (.inl rfl) (pe_lst pa_nil))
  (pss_one (ps_for PassesOwn.never rfl (pi_list (pe_callB (id := "sorted")  (call_sortedD rfl) (by rfl) T.z_sorted (by decide +kernel) (pa_cons (pv 0) pa_nil))) (pg_name (i := 4) sc__check_capped.nd rfl (.inl rfl))
    (pss_cons (ps_set (i := 5) sc__check_capped.nd rfl (.inl rfl) (pe_dget (hu_of hr) (pv 0) (pv 4) (fun _ _ => rfl)))
      (pss_one (ps_if (pt_not (pt_val (pe_call G19 (hr.mono (by decide)) (by rfl) T.g19 T.F19.kp T.b19 .nil pass0 (pa_cons (pv 5) (pa_cons (pv 1) (pa_cons (pv 2) pa_nil))))))
        (pss_cons (ps_if (pt_cmpR op_in_seq (pe_ix ix_tup (pv 5) pe_int (fun _ _ => rfl)) (pv 3) (by rfl))
            (pss_one ps_never)
            pss_nil)
          (pss_one (ps_expr (pe_bm PySem.F.plainAttrs_list PySem.F.slot_list_append PySem.F.type_list_append mt_append (pv 3) (pa_cons (pe_ix ix_tup (pv 5) pe_int (fun _ _ => rfl)) pa_nil)))))
        pss_nil)))))), ?_⟩
    refine ⟨Nat.zero_le _, fun f hf => ?_⟩
    have s0 := same_upd (o := .lst []) hf
    refine ⟨_, rfl, v, kd, zs, rfl, .inl (s0 _ _ e), ek, z64, fun ys p yp _ hp => ⟨p, rfl, ?_⟩⟩
    obtain ⟨L, hLp, rfl⟩ := hL ys yp
    have s1 := same_upd (o := .lst ((L.map (·.name)).map V.str)) hp
    have nfp : f ≠ p := ne_of_none upd_same hp
    have nd : (fillE ts ks L).Nodup := (fillE_perm hLp).nodup_iff.mpr hS.one
    have lL : L.length ≤ 8 := by rw [hLp.length_eq]; omega
    refine ⟨⟨_, .of upd_same⟩, for_list (K := K) (a := p) (xs := (L.map (·.name)).map V.str) (fun i σ H' => ∃ y4 y5 : Option V, σ = [some (.ref v), some (.ref t), some (.ref k), some (.ref f), y4, y5] ∧ H' p = some (.lst ((L.map (·.name)).map V.str)) ∧ H' f = some (.lst ((fillE ts ks (L.take i)).map V.str)) ∧ Same H H')
      ⟨none, none, rfl, upd_same, s1 _ _ upd_same, s0.trans s1⟩ (fun i σ H' _ hp => ?_) (fun i y σ H' hy hp => ?_) (fun σ H' hp => ?_)⟩
    · obtain ⟨y4, y5, rfl, hp', _⟩ := hp
      exact .of hp'
    · obtain ⟨y4, y5, rfl, hp', hf', sm⟩ := hp
      obtain ⟨nm, hn', rfl⟩ := map_at hy
      obtain ⟨b, hb, rfl⟩ := map_at hn'
      have hm : b ∈ ss := hLp.mem_iff.mp (List.mem_of_getElem? hb)
      obtain ⟨htold, ⟨w', hw', hcols, hcl⟩, hcap⟩ := hS.ok b hm
      have hw2 := widthAt_mem hT.nm.nd hw'
      have tk : L.take (i + 1) = L.take i ++ [b] := by
        rw [List.take_add_one, hb]
        rfl
      have fs := fillE_snoc ts ks (L.take i) b
      rw [← tk] at fs
      have we : whE ts ks b = isWh w' ks b.tab b.cols b.cap := by
        unfold whE
        rw [hw2]
      refine ⟨_, rfl, _, rfl, v, _, rfl, (hv.same sm).at_ (sv_nd hS) (sv_val hS hm), ?_⟩
      refine ⟨_, rfl, _, rfl, _, rfl, b.at_, t, k, b.ga, b.tab, b.cols, b.cap, w', ts, ks, m, rfl, htold.mono fun _ _ e => sm _ _ e, ht.same sm, hk.same sm, hT, hK.mono fun _ _ e => sm _ _ e, hw', by omega, fun H2 s2 => ⟨_, rfl, ?_⟩⟩
      have sm2 := sm.trans s2
      cases ew : isWh w' ks b.tab b.cols b.cap with
      | true =>
        rw [we, ew, if_pos rfl, List.append_nil] at fs
        refine ⟨_, _, rfl, s2 _ _ hp', ?_, sm2⟩
        rw [fs]
        exact s2 _ _ hf'
      | false =>
        rw [we, ew, if_neg (by decide)] at fs
        have hno : b.tab ∉ fillE ts ks (L.take i) := fun hx => by
          have nd2 : (fillE ts ks (L.take (i + 1))).Nodup := nd.sublist (fillE_take L (i + 1))
          rw [fs] at nd2
          exact (List.nodup_append.mp nd2).2.2 b.tab hx b.tab (by simp) rfl
        have hat := htold.tup
        refine ⟨_, rfl, _, _, _, _, rfl, rfl, .of (sm2 _ _ hat), atI_nat (j := 0) rfl, _, rfl, f, _, rfl, .inl (.of (s2 _ _ hf')), rfl, flat_strs _, _, rfl, ?_⟩
        show if inV (.str b.tab) ((fillE ts ks (L.take i)).map V.str) = true then _ else _
        rw [inV_strs, decide_eq_false hno]
        refine ⟨_, rfl, .inl ⟨rfl, _, .of (s2 _ _ hf')⟩, _, rfl, _, _, _, _, rfl, rfl, .of (sm2 _ _ hat), atI_nat (j := 0) rfl, f, _, _, rfl, rfl, s2 _ _ hf', ?_, _, _, rfl, ?_, ?_, ?_⟩
        · rw [List.length_map]
          unfold fillE
          rw [List.length_map]
          have l1 := List.length_filter_le (fun b => !whE ts ks b) (L.take i)
          rw [List.length_take] at l1
          exact Nat.lt_of_le_of_lt (by omega : _ ≤ 8) (by decide)
        · rw [upd_ne nfp.symm]
          exact s2 _ _ hp'
        · rw [fs, List.map_append]
          exact upd_same
        · intro x o ex
          rw [upd_ne (ne_of_none ex hf)]
          exact sm2 x o ex
    · obtain ⟨y4, y5, rfl, hp', hf', sm⟩ := hp
      exact q H' sm
end
/-! ### the class -/
/-- a Schema at p -/
structure SchO (C p dx d1 d2 d3 : Addr) (H : Hp) (ts : List (Str × Int)) (ks : List KeyE) (ss : List SvE) (m n : Nat) : Prop where
  ob : H p = some (.ins C dx (fldsS d1 d2 d3))
  tb : DctAt H d1 (tabK ts)
  ky : DctAt H d2 (keyK ks)
  sv : DctAt H d3 (svK ss)
  hT : Tabs ts m 4
  hK : Keys H ts ks
  hS : Svcs H ts ks ss n
  m5 : m ≤ 5
  n8 : n ≤ 8
def SchAt (C p : Addr) (H : Hp) (ts : List (Str × Int)) (ks : List KeyE) (ss : List SvE) (m n : Nat) : Prop := ∃ dx d1 d2 d3, SchO C p dx d1 d2 d3 H ts ks ss m n
theorem SchO.same {C p dx d1 d2 d3 : Addr} {H H' : Hp} {ts : List (Str × Int)} {ks : List KeyE} {ss : List SvE} {m n : Nat} (h : SchO C p dx d1 d2 d3 H ts ks ss m n) (s : Same H H') : SchO C p dx d1 d2 d3 H' ts ks ss m n :=
  ⟨s _ _ h.ob, h.tb.same s, h.ky.same s, h.sv.same s, h.hT, h.hK.mono fun _ _ e => s _ _ e, h.hS.mono fun _ _ e => s _ _ e, h.m5, h.n8⟩
theorem SchAt.same {C p : Addr} {H H' : Hp} {ts : List (Str × Int)} {ks : List KeyE} {ss : List SvE} {m n : Nat} (h : SchAt C p H ts ks ss m n) (s : Same H H') : SchAt C p H' ts ks ss m n := by
  obtain ⟨dx, d1, d2, d3, o⟩ := h
  exact ⟨dx, d1, d2, d3, o.same s⟩
section
variable {P : Program} {w : World} {K : PySem.W.Frag} {mg : Str → Option Value} {base : Heap} {a : Nat → Addr} {d : Nat → FuncData}
def spSInit (C : Addr) : Sp := fun vs H Q _ => ∃ (p dx t k v : Addr) (ts : List (Str × Int)) (ks : List KeyE) (ss : List SvE) (m n : Nat), vs = [.ref p, .ref t, .ref k, .ref v] ∧ H p = some (.ins C dx []) ∧ DctAt H t (tabK ts) ∧ DctAt H k (keyK ks) ∧ DctAt H v (svK ss) ∧ Tabs ts m 4 ∧ Keys H ts ks ∧ Svcs H ts ks ss n ∧ 1 ≤ m ∧ m ≤ 5 ∧ 1 ≤ n ∧ n ≤ 8 ∧
  ∀ H' d1 d2 d3, SchO C p dx d1 d2 d3 H' ts ks ss m n → H d1 = none → H d2 = none → H d3 = none → (∀ b o, b ≠ p → H b = some o → H' b = some o) → Q .non H'
theorem ok_sinit (T : Txt K mg a d) : FnOk P w K mg base CX0 5 (a 3500) (d 3500) ["self", "tables", "keys", "services"] (spSInit (a 25)) := by
  have G20 : FnOk P w K mg base CX0 3 (a 20) (d 20) ["tables"] spChkT := ok_check_tables T
  have G21 : FnOk P w K mg base CX0 4 (a 21) (d 21) ["keys", "tables"] spChkK := ok_check_keys T
  have G22 : FnOk P w K mg base CX0 4 (a 22) (d 22) ["services", "tables"] spChkS := ok_check_services T
  have G23 : FnOk P w K mg base CX0 2 (a 23) (d 23) ["services", "tables", "keys"] spChkC := ok_check_capped T
  have G24 : FnOk P w K mg base CX0 1 (a 24) (d 24) ["things"] spCopied := ok_copied T
  refine T.F3500.ok sc_Schema___init__ (fun vs H Q E h => ?_) (fun cdv A outer s H vs Q E hr h => ?_)
  · obtain ⟨p, dx, t, k, v, ts, ks, ss, m, n, rfl, _⟩ := h
    rfl
  · obtain ⟨p, dx, t, k, v, ts, ks, ss, m, n, rfl, hp, ht, hk, hv, hT, hK, hS, hm1, hm2, hn1, hn2, q⟩ := h
    have lt : ts.length = m := hT.len
    have lk : ks.length ≤ 5 := by
      have := hK.le
      omega
    have ls : ss.length = n := by rw [← hS.nm.len, List.length_map]
    refine ⟨_, (pss_cons (ps_expr (pe_call G20 (hr.mono (by decide)) (by rfl) T.g20 T.F20.kp T.b20 .nil pass0 (pa_cons (pv 1) pa_nil)))
  (pss_cons (ps_expr (pe_call G21 (hr.mono (by decide)) (by rfl) T.g21 T.F21.kp T.b21 .nil pass0 (pa_cons (pv 2) (pa_cons (pv 1) pa_nil))))
  (pss_cons (ps_expr (pe_call G22 (hr.mono (by decide)) (by rfl) T.g22 T.F22.kp T.b22 .nil pass0 (pa_cons (pv 3) (pa_cons (pv 1) pa_nil))))
  (pss_cons (ps_expr (pe_call G23 (hr.mono (by decide)) (by rfl) T.g23 T.F23.kp T.b23 .nil pass0 (pa_cons (pv 3) (pa_cons (pv 1) (pa_cons (pv 2) pa_nil)))))
  (pss_cons (ps_fld (pv 0) (pe_call G24 (hr.mono (by decide)) (by rfl) T.g24 T.F24.kp T.b24 .nil pass0 (pa_cons (pv 1) pa_nil)) rfl)
  (pss_cons (ps_fld (pv 0) (pe_call G24 (hr.mono (by decide)) (by rfl) T.g24 T.F24.kp T.b24 .nil pass0 (pa_cons (pv 2) pa_nil)) rfl)
  (pss_one (ps_fld (pv 0) (pe_call G24 (hr.mono (by decide)) (by rfl) T.g24 T.F24.kp T.b24 .nil pass0 (pa_cons (pv 3) pa_nil)) rfl)))))))), ?_⟩
    refine ⟨_, rfl, t, ts, m, rfl, ht, hT, hm1, hm2, fun H1 s1 => ?_⟩
    refine ⟨_, rfl, _, rfl, k, t, ts, ks, m, rfl, hk.same s1, ht.same s1, hT, hK.mono fun _ _ e => s1 _ _ e, hm2, fun H2 s2 => ?_⟩
    have s12 := s1.trans s2
    refine ⟨_, rfl, _, rfl, v, t, ts, ks, ss, m, n, rfl, hv.same s12, ht.same s12, hT, hS.mono fun _ _ e => s12 _ _ e, hn1, hn2, fun H3 s3 => ?_⟩
    have s13 := s12.trans s3
    refine ⟨_, rfl, _, rfl, _, rfl, v, t, k, ts, ks, ss, m, n, rfl, hv.same s13, ht.same s13, hk.same s13, hT, hK.mono fun _ _ e => s13 _ _ e, hS.mono fun _ _ e => s13 _ _ e, hn2, fun H4 s4 => ?_⟩
    have s14 := s13.trans s4
    -- the three copies
    refine ⟨_, rfl, t, tabK ts, ts.map (·.1), rfl, ht.same s14, keys_tab ts, hT.nm.nd, by rw [List.length_map]; omega, fun d1 H5 f1 D1 s5 => ?_⟩
    have hp5 := (s14.trans s5) _ _ hp
    refine ⟨_, rfl, p, _, dx, _, rfl, hp5, T.cl_25, T.no_25__tables, by show 0 < 1000; decide, ?_⟩
    generalize hH6 : upd H5 p _ = H6
    have hp6 : H6 p = some (.ins (a 25) dx (putF "_tables" (.ref d1) [])) := by rw [← hH6]; exact upd_same
    have o6 : ∀ b o, b ≠ p → H5 b = some o → H6 b = some o := fun b o n e => by rw [← hH6, upd_ne n]; exact e
    have o06 : ∀ b o, b ≠ p → H b = some o → H6 b = some o := fun b o n e => o6 b o n ((s14.trans s5) _ _ e)
    have kn : ((keyK ks).map (·.1)) = (ks.map (·.1)).map Sum.inr := keys_key ks
    refine ⟨_, rfl, k, keyK ks, ks.map (·.1), rfl, hk.but hp o06, kn, hK.nd, by rw [List.length_map]; omega, fun d2 H7 f2 D2 s7 => ?_⟩
    have hp7 := s7 _ _ hp6
    refine ⟨_, rfl, p, _, dx, _, rfl, hp7, T.cl_25, T.no_25__keys, by show 1 < 1000; decide, ?_⟩
    generalize hH8 : upd H7 p _ = H8
    have hp8 : H8 p = some (.ins (a 25) dx (putF "_keys" (.ref d2) (putF "_tables" (.ref d1) []))) := by rw [← hH8]; exact upd_same
    have o8 : ∀ b o, b ≠ p → H7 b = some o → H8 b = some o := fun b o n e => by rw [← hH8, upd_ne n]; exact e
    have o68 : ∀ b o, b ≠ p → H6 b = some o → H8 b = some o := fun b o n e => o8 b o n (s7 _ _ e)
    have o08 : ∀ b o, b ≠ p → H b = some o → H8 b = some o := fun b o n e => o68 b o n (o06 b o n e)
    refine ⟨_, rfl, v, svK ss, ss.map (·.name), rfl, hv.but hp o08, keys_sv ss, hS.nm.nd, by rw [List.length_map]; omega, fun d3 H9 f3 D3 s9 => ?_⟩
    have hp9 := s9 _ _ hp8
    have l2 : ∀ d1 d2 : Addr, (putF "_keys" (.ref d2) (putF "_tables" (.ref d1) ([] : List (Str × V)))).length < 1000 := fun d1 d2 => by
      have e : putF "_keys" (.ref d2) (putF "_tables" (.ref d1) ([] : List (Str × V))) = [(("_tables" : Str), V.ref d1), (("_keys" : Str), V.ref d2)] := by
        show (if ("_tables" : Str) = "_keys" then _ else (("_tables" : Str), V.ref d1) :: putF "_keys" (.ref d2) []) = _
        rw [if_neg (by decide +kernel)]
        rfl
      rw [e]
      show 2 < 1000
      decide
    refine ⟨_, rfl, p, _, dx, _, rfl, hp9, T.cl_25, T.no_25__services, l2 _ _, ?_⟩
    generalize hH : upd H9 p _ = Hz
    have hpz : Hz p = some (.ins (a 25) dx (fldsS d1 d2 d3)) := by rw [← hH]; exact upd_same
    have oz : ∀ b o, b ≠ p → H9 b = some o → Hz b = some o := fun b o n e => by rw [← hH, upd_ne n]; exact e
    have o0z : ∀ b o, b ≠ p → H b = some o → Hz b = some o := fun b o n e => oz b o n (s9 _ _ (o08 b o n e))
    have tz : ∀ b xs, H b = some (.tup xs) → Hz b = some (.tup xs) := fun b xs e => o0z b _ (ne_of e hp (by intro z; cases z)) e
    have free : ∀ {x : Addr} {G : Hp} {o : HO}, G p = some o → (∀ b o, b ≠ p → H b = some o → G b = some o) → G x = none → H x = none := fun {x G o} hG k e => by
      cases e' : H x with
      | none => rfl
      | some u =>
        by_cases n : x = p
        · rw [n, hG] at e
          cases e
        · rw [k x u n e'] at e
          cases e
    refine q Hz d1 d2 d3 ⟨hpz, (((D1.but hp5 o6).same s7).but hp7 o8 |>.same s9).but hp9 oz, ((D2.but hp7 o8).same s9).but hp9 oz, D3.but hp9 oz, hT, hK.mono tz, hS.mono tz, hm2, hn2⟩ (s14.free f1) (free hp6 o06 f2) (free hp8 o08 f3) o0z
/-! ### its properties and lists of names -/
def spProp (C : Addr) (f : List (Str × Int) → List KeyE → List SvE → List (Key × V)) : Sp := fun vs H Q _ => ∃ (p : Addr) (ts : List (Str × Int)) (ks : List KeyE) (ss : List SvE) (m n : Nat), vs = [.ref p] ∧ SchAt C p H ts ks ss m n ∧ ∀ D H', H D = none → DctAt H' D (f ts ks ss) → Same H H' → Q (.ref D) H'
theorem ok_p_tables (T : Txt K mg a d) : FnOk P w K mg base CX0 1 (a 3501) (d 3501) ["self"] (spProp (a 25) fun ts _ _ => tabK ts) := by
  refine T.F3501.ok sc_Schema_tables (fun vs H Q E h => ?_) (fun cdv A outer s H vs Q E hr h => ?_)
  · obtain ⟨p, ts, ks, ss, m, n, rfl, _⟩ := h
    rfl
  · obtain ⟨p, ts, ks, ss, m, n, rfl, ⟨dx, d1, d2, d3, o⟩, q⟩ := h
    obtain ⟨kd, e, pk⟩ := o.tb
    exact ⟨_, (pss_one (ps_ret (pe_callTy (T := "dict")  call_dictD (by rfl) T.z_dict (by decide +kernel) (pa_cons (pe_fld (pv 0) rfl) pa_nil)))), _, rfl, p, _, dx, _, _, rfl, o.ob, T.cl_25, T.no_25__tables, flds_t _ _ _, d1, kd, rfl, .inl e, fun D hD => q D _ hD ⟨kd, upd_same, pk⟩ (same_upd hD)⟩
theorem ok_p_keys (T : Txt K mg a d) : FnOk P w K mg base CX0 1 (a 3502) (d 3502) ["self"] (spProp (a 25) fun _ ks _ => keyK ks) := by
  refine T.F3502.ok sc_Schema_key_columns (fun vs H Q E h => ?_) (fun cdv A outer s H vs Q E hr h => ?_)
  · obtain ⟨p, ts, ks, ss, m, n, rfl, _⟩ := h
    rfl
  · obtain ⟨p, ts, ks, ss, m, n, rfl, ⟨dx, d1, d2, d3, o⟩, q⟩ := h
    obtain ⟨kd, e, pk⟩ := o.ky
    exact ⟨_, (pss_one (ps_ret (pe_callTy (T := "dict")  call_dictD (by rfl) T.z_dict (by decide +kernel) (pa_cons (pe_fld (pv 0) rfl) pa_nil)))), _, rfl, p, _, dx, _, _, rfl, o.ob, T.cl_25, T.no_25__keys, flds_k _ _ _, d2, kd, rfl, .inl e, fun D hD => q D _ hD ⟨kd, upd_same, pk⟩ (same_upd hD)⟩
theorem ok_p_services (T : Txt K mg a d) : FnOk P w K mg base CX0 1 (a 3503) (d 3503) ["self"] (spProp (a 25) fun _ _ ss => svK ss) := by
  refine T.F3503.ok sc_Schema_services (fun vs H Q E h => ?_) (fun cdv A outer s H vs Q E hr h => ?_)
  · obtain ⟨p, ts, ks, ss, m, n, rfl, _⟩ := h
    rfl
  · obtain ⟨p, ts, ks, ss, m, n, rfl, ⟨dx, d1, d2, d3, o⟩, q⟩ := h
    obtain ⟨kd, e, pk⟩ := o.sv
    exact ⟨_, (pss_one (ps_ret (pe_callTy (T := "dict")  call_dictD (by rfl) T.z_dict (by decide +kernel) (pa_cons (pe_fld (pv 0) rfl) pa_nil)))), _, rfl, p, _, dx, _, _, rfl, o.ob, T.cl_25, T.no_25__services, flds_s _ _ _, d3, kd, rfl, .inl e, fun D hD => q D _ hD ⟨kd, upd_same, pk⟩ (same_upd hD)⟩
def spNms (C : Addr) (f : List (Str × Int) → List SvE → List Str) : Sp := fun vs H Q _ => ∃ (p : Addr) (ts : List (Str × Int)) (ks : List KeyE) (ss : List SvE) (m n : Nat), vs = [.ref p] ∧ SchAt C p H ts ks ss m n ∧ ∀ l ys H', H l = none → H' l = some (.lst (ys.map V.str)) → ys.Perm (f ts ss) → PyProof.Rows.sortedS ys = true → Same H H' → Q (.ref l) H'
theorem ok_service_names (T : Txt K mg a d) : FnOk P w K mg base CX0 1 (a 3506) (d 3506) ["self"] (spNms (a 25) fun _ ss => ss.map (·.name)) := by
  refine T.F3506.ok sc_Schema_service_names (fun vs H Q E h => ?_) (fun cdv A outer s H vs Q E hr h => ?_)
  · obtain ⟨p, ts, ks, ss, m, n, rfl, _⟩ := h
    rfl
  · obtain ⟨p, ts, ks, ss, m, n, rfl, ⟨dx, d1, d2, d3, o⟩, q⟩ := h
    have ls : ss.length = n := by rw [← o.hS.nm.len, List.length_map]
    obtain ⟨kd, zs, e, kl, ek, z64, zp, _⟩ := DctAt.names (f := (·.name)) o.sv (fun _ => rfl) (by have := o.n8; omega)
    exact ⟨_, (pss_one (ps_ret (pe_callB (id := "sorted")  (call_sortedD rfl) (by rfl) T.z_sorted (by decide +kernel) (pa_cons (pe_fld (pv 0) rfl) pa_nil)))), _, rfl, p, _, dx, _, _, rfl, o.ob, T.cl_25, T.no_25__services, flds_s _ _ _, d3, kd, zs, rfl, .inl e, ek, z64, fun ys l yp so hl => q l ys _ hl upd_same (yp.trans zp) so (same_upd hl)⟩
end
section
variable {P : Program} {w : World} {K : PySem.W.Frag} {mg : Str → Option Value} {base : Heap} {a : Nat → Addr} {d : Nat → FuncData}
/-! ### an unknown name -/
def spUInit (C : Addr) : Sp := fun vs H Q _ => ∃ (x : Addr) (v : V), vs = [.ref x, v] ∧ H x = some (exo x C none) ∧ ∀ dx, H dx = none → dx ≠ x → Q .non (upd (upd H dx (exd dx [(("name" : Str), v)])) x (exo x C (some dx)))
theorem ok_uinit (T : Txt K mg a d) : FnOk P w K mg base CX0 1 (a 1300) (d 1300) ["self", "name"] (spUInit (a 3)) := by
  refine T.F1300.ok sc_UnknownName___init__ (fun vs H Q E h => ?_) (fun cdv A outer s H vs Q E hr h => ?_)
  · obtain ⟨x, v, rfl, _⟩ := h
    rfl
  · obtain ⟨x, v, rfl, hx, q⟩ := h
    exact ⟨_, (pss_one (ps_ost (pv 0) (pv 1))), _, rfl, _, rfl, x, _, rfl, T.x_3, T.no_3_name, .inl ⟨hx, fun dx hdx ne => q dx hdx ne⟩⟩
/-- how an UnknownName(v) goes out: its dict dx, new -/
def Unk (C : Addr) (v : V) (H : Hp) (E : XK) : Prop := ∀ dx H', H dx = none → H' dx = some (.xd [(("name" : Str), v)]) → Same H H' → E (.ref C) (some dx) H'
theorem unk_raise {C : Addr} {v : V} {H : Hp} {E : XK} (k : Unk C v H E) : ([v] : List V).length ≤ 1000 ∧ ∀ x, H x = none → spUInit C (.ref x :: ([v] ++ [])) (upd H x (exo x C none))
    (fun u H2 => u = .non ∧ ∃ (dd : Addr) (fs : List (Str × V)), H2 x = some (exo x C (some dd)) ∧ H2 dd = some (exd dd fs) ∧ H dd = none ∧ E (.ref C) (some dd) (upd (del H2 x) dd (.xd fs))) (fun _ _ _ => False) := by
  refine ⟨by show 1 ≤ 1000; decide, fun x hx => ⟨x, v, rfl, upd_same, fun dx hdx ne => ⟨rfl, dx, _, upd_same, by rw [upd_ne ne]; exact upd_same, ?_, ?_⟩⟩⟩
  · rw [upd_ne ne] at hdx
    exact hdx
  · rw [upd_ne ne] at hdx
    refine k dx _ hdx upd_same fun b o e => ?_
    have nb : b ≠ x := ne_of_none e hx
    have nd : b ≠ dx := ne_of_none e hdx
    rw [upd_ne nd, del_ne nb, upd_ne nb, upd_ne nd, upd_ne nb]
    exact e
/-- what is asked of a name: told, or unknown -/
def spAsk (C CU : Addr) (f g : List (Str × Int) → List KeyE → List SvE → Str → Option V) : Sp := fun vs H Q E => ∃ (p : Addr) (n : Str) (ts : List (Str × Int)) (ks : List KeyE) (ss : List SvE) (mt ms : Nat), vs = [.ref p, .str n] ∧ SchAt C p H ts ks ss mt ms ∧
  (∀ v, f ts ks ss n = some v → ∃ u, g ts ks ss n = some u ∧ Q u H) ∧ (f ts ks ss n = none → Unk CU (.str n) H E)
theorem ok_service_of (T : Txt K mg a d) : FnOk P w K mg base (L2.CX P w) 4 (a 3510) (d 3510) ["self", "name"] (spAsk (a 25) (a 3) (fun _ _ ss n => valV (svK ss) (Sum.inr n)) (fun _ _ ss n => valV (svK ss) (Sum.inr n))) := by
  have G15 : FnOk P w K mg base CX0 1 (a 15) (d 15) ["thing", "names"] spNameIn := ok_name_in T
  have G1300 : FnOk P w K mg base CX0 1 (a 1300) (d 1300) ["self", "name"] (spUInit (a 3)) := ok_uinit T
  refine T.F3510.okX sc_Schema_service_of (fun vs H Q E h => ?_) (fun cdv A outer s H vs Q E hr h => ?_)
  · obtain ⟨p, n, ts, ks, ss, mt, ms, rfl, _⟩ := h
    rfl
  · obtain ⟨p, n, ts, ks, ss, mt, ms, rfl, ⟨dx, d1, d2, d3, o⟩, q1, q2⟩ := h
    refine ⟨_, (pss_cons (ps_if (pt_not (pt_val (pe_call G15 (hr.mono (by decide)) (by rfl) T.g15 T.F15.kp T.b15 .nil pass0 (pa_cons (pv 1) (pa_cons (pe_fld (pv 0) rfl) pa_nil)))))
    (pss_one (ps_raise rfl (takes_of rfl rfl rfl rfl) (pmk_oex T.x_3 T.in_3 T.ti_3 G1300 (hr.mono (by decide)) T.b1300 .nil pass0 (by rfl) T.cg_3 (pa_cons (pv 1) pa_nil))))
    pss_nil)
  (pss_one (ps_ret (pe_dget (hu_of hr) (pe_fld (pv 0) rfl) (pv 1) (fun _ _ => rfl))))), ?_⟩
    refine ⟨_, rfl, _, rfl, p, _, dx, _, _, rfl, o.ob, T.cl_25, T.no_25__services, flds_s _ _ _, n, d3, svK ss, rfl, o.sv, sv_nd o.hS, ?_⟩
    cases e : valV (svK ss) (Sum.inr n) with
    | none => exact ⟨_, rfl, _, rfl, unk_raise (q2 e)⟩
    | some v =>
      obtain ⟨u, hu, q⟩ := q1 v e
      exact ⟨_, rfl, _, rfl, p, _, dx, _, _, rfl, o.ob, T.cl_25, T.no_25__services, flds_s _ _ _, _, rfl, d3, u, rfl, o.sv.at_ (sv_nd o.hS) hu, q⟩
/-! ### is_whole, capped_names -/
def svAt (ss : List SvE) (n : Str) : Option SvE := ss.find? fun b => decide (b.name = n)
theorem svAt_val (n : Str) : ∀ ss : List SvE, valV (svK ss) (Sum.inr n) = (svAt ss n).map fun b => V.ref b.at_
  | [] => rfl
  | b :: ks => by
    have ih := svAt_val n ks
    unfold svAt svK at ih ⊢
    rw [List.map_cons]
    by_cases e : b.name = n
    · rw [valV_pos (by rw [e])]
      simp [e]
    · rw [valV_neg (fun z => e (Sum.inr.inj z)), ih]
      simp [e]
theorem svAt_mem {ss : List SvE} {n : Str} {b : SvE} (h : svAt ss n = some b) : b ∈ ss ∧ b.name = n := by
  unfold svAt at h
  exact ⟨List.mem_of_find?_eq_some h, by simpa using List.find?_some h⟩
def spAskW (C CU : Addr) : Sp := fun vs H Q E => ∃ (p : Addr) (n : Str) (ts : List (Str × Int)) (ks : List KeyE) (ss : List SvE) (mt ms : Nat), vs = [.ref p, .str n] ∧ SchAt C p H ts ks ss mt ms ∧
  (∀ b, svAt ss n = some b → ∀ H', Same H H' → Q (.bl (whE ts ks b)) H') ∧ (svAt ss n = none → Unk CU (.str n) H E)
theorem ok_is_whole_m (T : Txt K mg a d) : FnOk P w K mg base (L2.CX P w) 5 (a 3511) (d 3511) ["self", "name"] (spAskW (a 25) (a 3)) := by
  have G19 : FnOk P w K mg base CX0 1 (a 19) (d 19) ["service", "tables", "keys"] spIsWh := ok_is_wh T
  have G3510 : FnOk P w K mg base (L2.CX P w) 4 (a 3510) (d 3510) ["self", "name"] (spAsk (a 25) (a 3) (fun _ _ ss n => valV (svK ss) (Sum.inr n)) (fun _ _ ss n => valV (svK ss) (Sum.inr n))) := ok_service_of T
  refine T.F3511.okX sc_Schema_is_whole (fun vs H Q E h => ?_) (fun cdv A outer s H vs Q E hr h => ?_)
  · obtain ⟨p, n, ts, ks, ss, mt, ms, rfl, _⟩ := h
    rfl
  · obtain ⟨p, n, ts, ks, ss, mt, ms, rfl, ⟨dx, d1, d2, d3, o⟩, q1, q2⟩ := h
    refine ⟨_, (pss_one (ps_ret (pe_call G19 (hr.mono (by decide)) (by rfl) T.g19 T.F19.kp T.b19 .nil pass0 (pa_cons (pe_meth (pv 0) T.cl_25 T.m_3510 G3510 (hr.mono (by decide)) T.b3510 .nil (passes_call (takes_of rfl rfl rfl rfl) (fun _ _ _ _ h => h)) (pa_cons (pv 1) pa_nil)) (pa_cons (pe_fld (pv 0) rfl) (pa_cons (pe_fld (pv 0) rfl) pa_nil)))))), ?_⟩
    refine ⟨_, rfl, p, dx, _, rfl, o.ob, flds_no _ _ _ (by decide +kernel) (by decide +kernel) (by decide +kernel), _, rfl, p, n, ts, ks, ss, mt, ms, rfl, ⟨dx, d1, d2, d3, o⟩, fun v hv => ?_, fun e => ?_⟩
    · refine ⟨v, hv, ?_⟩
      have hv : valV (svK ss) (Sum.inr n) = some v := hv
      rw [svAt_val] at hv
      cases e : svAt ss n with
      | none =>
        rw [e] at hv
        cases hv
      | some b =>
        rw [e] at hv
        obtain rfl : V.ref b.at_ = v := Option.some.inj hv
        obtain ⟨bm, _⟩ := svAt_mem e
        obtain ⟨htold, ⟨w', hw', hcols, hcl⟩, hcap⟩ := o.hS.ok b bm
        refine ⟨_, rfl, p, _, dx, _, _, rfl, o.ob, T.cl_25, T.no_25__tables, flds_t _ _ _, _, rfl, p, _, dx, _, _, rfl, o.ob, T.cl_25, T.no_25__keys, flds_k _ _ _, b.at_, d1, d2, b.ga, b.tab, b.cols, b.cap, w', ts, ks, mt, rfl, htold, o.tb, o.ky, o.hT, o.hK, hw', by omega, fun H' s' => ?_⟩
        have q := q1 b e H' s'
        unfold whE at q
        rw [widthAt_mem o.hT.nm.nd hw'] at q
        exact q
    · have e : valV (svK ss) (Sum.inr n) = none := e
      rw [svAt_val] at e
      cases e2 : svAt ss n with
      | none => exact q2 e2
      | some b =>
        rw [e2] at e
        cases e
end
section
variable {P : Program} {w : World} {K : PySem.W.Frag} {mg : Str → Option Value} {base : Heap} {a : Nat → Addr} {d : Nat → FuncData}
/-! ### capped_names -/
def whN (ts : List (Str × Int)) (ks : List KeyE) (ss : List SvE) (n : Str) : Bool := match svAt ss n with
  | some b => whE ts ks b
  | none => false
theorem svAt_some {ss : List SvE} {n : Str} (h : n ∈ ss.map (·.name)) : ∃ b, svAt ss n = some b := by
  obtain ⟨b, hb, e⟩ := List.mem_map.mp h
  cases q : svAt ss n with
  | some b => exact ⟨b, rfl⟩
  | none =>
    unfold svAt at q
    have := List.find?_eq_none.mp q b hb
    simp [e] at this
def spCap (C : Addr) : Sp := fun vs H Q _ => ∃ (p : Addr) (ts : List (Str × Int)) (ks : List KeyE) (ss : List SvE) (m n : Nat), vs = [.ref p] ∧ SchAt C p H ts ks ss m n ∧ ∀ l ys H', H l = none → H' l = some (.lst ((ys.filter fun n => !whN ts ks ss n).map V.str)) → ys.Perm (ss.map (·.name)) → PyProof.Rows.sortedS ys = true → Same H H' → Q (.ref l) H'
theorem ok_capped_names (T : Txt K mg a d) : FnOk P w K mg base CX0 6 (a 3507) (d 3507) ["self"] (spCap (a 25)) := by
  have G3506 : FnOk P w K mg base CX0 1 (a 3506) (d 3506) ["self"] (spNms (a 25) fun _ ss => ss.map (·.name)) := ok_service_names T
  have G3511 : FnOk P w K mg base (L2.CX P w) 5 (a 3511) (d 3511) ["self", "name"] (spAskW (a 25) (a 3)) := ok_is_whole_m T
  refine T.F3507.ok sc_Schema_capped_names (fun vs H Q E h => ?_) (fun cdv A outer s H vs Q E hr h => ?_)
  · obtain ⟨p, ts, ks, ss, m, n, rfl, _⟩ := h
    rfl
  · obtain ⟨p, ts, ks, ss, m, n, rfl, ⟨dx, d1, d2, d3, o⟩, q⟩ := h
    refine ⟨_, (pss_one (ps_ret (pe_lc (own := [("name", 1)]) rfl sc_Schema_capped_names.nd (pi_list (pe_meth0 (pv 0) T.cl_25 T.m_3506 G3506 (hr.mono (by decide)) T.b3506 .nil pass0)) (blkOk_by (N := ["self", "name"]) (sc := defScope s_Schema_capped_names) (by decide +kernel)) (fun _ _ _ _ _ => pg_name (i := 1) sc_Schema_capped_names.nd rfl (.inl rfl)) (fun _ _ _ _ _ => (pts_one (pt_not (pt_val (pe_meth (pv 0) T.cl_25 T.m_3511 G3511 (hr.mono (by decide)) T.b3511 .nil (passN rfl) (pa_cons (pv 1) pa_nil)))))) (fun _ _ _ _ _ => (pv 1))))), ?_⟩
    refine ⟨_, rfl, p, dx, _, rfl, o.ob, flds_no _ _ _ (by decide +kernel) (by decide +kernel) (by decide +kernel), p, ts, ks, ss, m, n, rfl, ⟨dx, d1, d2, d3, o⟩, fun l ys H1 hl hly yp so s1 => ⟨l, rfl, ⟨_, .of hly⟩, fun D hD => ?_⟩⟩
    have hD0 : H D = none := s1.free hD
    have ylen : ys.length ≤ 8 := by
      rw [yp.length_eq, o.hS.nm.len]
      exact o.n8
    refine lc_list (K := K) (a := l) (xs := ys.map V.str) (fun i H' => H' D = some (.lst (((ys.take i).filter fun n => !whN ts ks ss n).map V.str)) ∧ Same H1 H') ⟨upd_same, same_upd hD⟩ (fun i H' _ hp => .of (hp.2 _ _ hly)) (fun i x H' hx hp => ?_) (fun H' hp => ?_)
    · obtain ⟨h1, h2⟩ := hp
      obtain ⟨nm, hn, rfl⟩ := map_at hx
      obtain ⟨b, hb⟩ := svAt_some (yp.mem_iff.mp (List.mem_of_getElem? hn))
      have sm := s1.trans h2
      have ow := o.same sm
      have hwn : whN ts ks ss nm = whE ts ks b := by
        unfold whN
        rw [hb]
      have tk : (ys.take (i + 1)).filter (fun n => !whN ts ks ss n) = (ys.take i).filter (fun n => !whN ts ks ss n) ++ ([nm].filter fun n => !whN ts ks ss n) := by
        rw [List.take_add_one, hn, List.filter_append]
        rfl
      refine ⟨rfl, _, rfl, p, dx, _, rfl, ow.ob, flds_no _ _ _ (by decide +kernel) (by decide +kernel) (by decide +kernel), _, rfl, p, nm, ts, ks, ss, m, n, rfl, ⟨dx, d1, d2, d3, ow⟩, fun b' hb' H2 s2 => ⟨_, rfl, ?_⟩, fun e => ?_⟩
      · rw [hb] at hb'
        cases hb'
        cases ew : whE ts ks b with
        | true =>
          refine ⟨?_, h2.trans s2⟩
          rw [tk, List.filter_cons_of_neg (by rw [hwn, ew]; decide), List.filter_nil, List.append_nil]
          exact s2 _ _ h1
        | false =>
          refine ⟨_, rfl, _, s2 _ _ h1, ?_, ?_, ?_⟩
          · rw [List.length_map]
            have l1 := List.length_filter_le (fun n => !whN ts ks ss n) (ys.take i)
            rw [List.length_take] at l1
            exact Nat.lt_of_le_of_lt (by omega : _ ≤ 8) (by decide)
          · rw [tk, List.map_append, List.filter_cons_of_pos (by rw [hwn, ew]; decide)]
            exact upd_same
          · intro x o ex
            rw [upd_ne (ne_of_none ex hD)]
            exact s2 _ _ (h2 x o ex)
      · rw [hb] at e
        cases e
    · obtain ⟨h1, h2⟩ := hp
      rw [List.length_map, List.take_length] at h1
      exact q D ys H' hD0 h1 yp so (s1.trans h2)
end
/-! ### uncapped -/
def uncE (ss : List SvE) (n : Str) (p : Addr) : List SvE := ss.map fun c => if c.name = n then { c with at_ := p, cap := none } else c
theorem uncE_names (ss : List SvE) (n : Str) (p : Addr) : (uncE ss n p).map (·.name) = ss.map (·.name) := by
  unfold uncE
  rw [List.map_map]
  refine List.map_congr_left fun c _ => ?_
  show (if c.name = n then _ else c).name = c.name
  split <;> rfl
theorem fillE_unc (ts : List (Str × Int)) (ks : List KeyE) (n : Str) (p : Addr) : ∀ ss : List SvE, (fillE ts ks (uncE ss n p)).Sublist (fillE ts ks ss)
  | [] => List.Sublist.refl _
  | c :: ss => by
    have ih := fillE_unc ts ks n p ss
    unfold fillE uncE at ih ⊢
    rw [List.map_cons]
    by_cases e : c.name = n
    · rw [if_pos e]
      have hw : whE ts ks { c with at_ := p, cap := none } = true := rfl
      rw [List.filter_cons_of_neg (by rw [hw]; decide)]
      by_cases h : whE ts ks c = true
      · rw [List.filter_cons_of_neg (by rw [h]; decide)]
        exact ih
      · rw [List.filter_cons_of_pos (by simp [h]), List.map_cons]
        exact ih.cons _
    · rw [if_neg e]
      by_cases h : whE ts ks c = true
      · rw [List.filter_cons_of_neg (by rw [h]; decide), List.filter_cons_of_neg (by rw [h]; decide)]
        exact ih
      · rw [List.filter_cons_of_pos (by simp [h]), List.filter_cons_of_pos (by simp [h]), List.map_cons, List.map_cons]
        exact ih.cons₂ _
theorem putK_map {ss : List SvE} {n : Str} (p : Addr) (h : n ∈ ss.map (·.name)) : putK (svK ss) (Sum.inr n) (V.ref p) = svK (uncE ss n p) := by
  unfold putK
  have ha : ((svK ss).any fun kv => decide (kv.1 = Sum.inr n)) = true := by
    obtain ⟨b, hb, e⟩ := List.mem_map.mp h
    exact List.any_eq_true.mpr ⟨_, List.mem_map.mpr ⟨b, hb, rfl⟩, decide_eq_true (by rw [e])⟩
  rw [if_pos ha]
  unfold svK uncE
  rw [List.map_map, List.map_map]
  refine List.map_congr_left fun c _ => ?_
  show (if (Sum.inr c.name : Key) = Sum.inr n then _ else _) = (fun b : SvE => ((Sum.inr b.name : Key), V.ref b.at_)) (if c.name = n then _ else c)
  by_cases e : c.name = n
  · rw [if_pos e, if_pos (by rw [e])]
  · rw [if_neg e, if_neg (fun z => e (Sum.inr.inj z))]
theorem putK_perm {κ : Type} [DecidableEq κ] {a b : List (κ × V)} (p : a.Perm b) (k : κ) (v : V) : (putK a k v).Perm (putK b k v) := by
  unfold putK
  have e : (a.any fun kv => decide (kv.1 = k)) = b.any fun kv => decide (kv.1 = k) := by
    apply Bool.eq_iff_iff.mpr
    rw [List.any_eq_true, List.any_eq_true]
    exact ⟨fun ⟨x, hx, h⟩ => ⟨x, p.mem_iff.mp hx, h⟩, fun ⟨x, hx, h⟩ => ⟨x, p.mem_iff.mpr hx, h⟩⟩
  rw [e]
  split
  · exact p.map _
  · exact p.append_right _
/-- the services, some of them without their caps -/
def Unc (ss ss' : List SvE) (f : Str → Bool) : Prop := ss'.map (fun b => (b.name, b.tab, b.ga, b.cols, b.cap)) = ss.map fun b => (b.name, b.tab, b.ga, b.cols, if f b.name = true then none else b.cap)
theorem Unc.step {ss ss' : List SvE} {f g : Str → Bool} {n : Str} {p : Addr} (h : Unc ss ss' f) (hg : ∀ x, g x = (f x || decide (x = n))) : Unc ss (uncE ss' n p) g := by
  unfold Unc at h ⊢
  unfold uncE
  rw [List.map_map]
  have e1 : ss'.map ((fun b : SvE => (b.name, b.tab, b.ga, b.cols, b.cap)) ∘ fun c => if c.name = n then { c with at_ := p, cap := none } else c) = (ss'.map (fun b => (b.name, b.tab, b.ga, b.cols, b.cap))).map fun q => (q.1, q.2.1, q.2.2.1, q.2.2.2.1, if decide (q.1 = n) = true then none else q.2.2.2.2) := by
    rw [List.map_map]
    refine List.map_congr_left fun c _ => ?_
    show (fun b : SvE => (b.name, b.tab, b.ga, b.cols, b.cap)) (if c.name = n then { c with at_ := p, cap := none } else c) = (c.name, c.tab, c.ga, c.cols, if decide (c.name = n) = true then none else c.cap)
    by_cases e : c.name = n
    · rw [if_pos e, if_pos (decide_eq_true e)]
    · rw [if_neg e, if_neg (by rw [decide_eq_false e]; decide)]
  rw [e1, h, List.map_map]
  refine List.map_congr_left fun c _ => ?_
  show (c.name, c.tab, c.ga, c.cols, if decide (c.name = n) = true then none else (if f c.name = true then none else c.cap)) = (c.name, c.tab, c.ga, c.cols, if g c.name = true then none else c.cap)
  rw [hg]
  by_cases e : c.name = n <;> cases f c.name <;> simp [e]
theorem name_uniq : ∀ {ss : List SvE} {b c : SvE}, (ss.map (·.name)).Nodup → b ∈ ss → c ∈ ss → b.name = c.name → b = c
  | x :: ss, b, c, nd, hb, hc, e => by
    rw [List.map_cons] at nd
    obtain ⟨n1, n2⟩ := List.nodup_cons.mp nd
    rcases List.mem_cons.mp hb with rfl | hb
    · rcases List.mem_cons.mp hc with rfl | hc
      · rfl
      · exact absurd (by rw [e]; exact List.mem_map.mpr ⟨_, hc, rfl⟩) n1
    · rcases List.mem_cons.mp hc with rfl | hc
      · exact absurd (by rw [← e]; exact List.mem_map.mpr ⟨_, ‹b ∈ ss›, rfl⟩) n1
      · exact name_uniq n2 ‹b ∈ ss› ‹c ∈ ss› e
theorem svAt_some' {ss : List SvE} {n : Str} (h : n ∈ ss.map (·.name)) : ∃ b, svAt ss n = some b := by
  obtain ⟨b, hb, e⟩ := List.mem_map.mp h
  cases q : svAt ss n with
  | some b => exact ⟨b, rfl⟩
  | none =>
    unfold svAt at q
    have := List.find?_eq_none.mp q b hb
    simp [e] at this
section
variable {P : Program} {w : World} {K : PySem.W.Frag} {mg : Str → Option Value} {base : Heap} {a : Nat → Addr} {d : Nat → FuncData}
def spUncap (C CU : Addr) : Sp := fun vs H Q E => ∃ (p l : Addr) (ts : List (Str × Int)) (ks : List KeyE) (ss : List SvE) (m n : Nat) (names : List Str), vs = [.ref p, .ref l] ∧ SchAt C p H ts ks ss m n ∧ 1 ≤ m ∧ 1 ≤ n ∧ H l = some (.lst (names.map V.str)) ∧ names.length ≤ 100 ∧
  ((∀ x ∈ names, x ∈ ss.map (·.name)) → ∀ r H' ss', SchAt C r H' ts ks ss' m n → Unc ss ss' (fun x => decide (x ∈ names)) → H r = none → Same H H' → Q (.ref r) H') ∧
  (∀ i x, names[i]? = some x → (∀ y ∈ names.take i, y ∈ ss.map (·.name)) → x ∉ ss.map (·.name) → ∀ H', Same H H' → Unk CU (.str x) H' E)
theorem ok_uncapped (T : Txt K mg a d) : FnOk P w K mg base (L2.CX P w) 7 (a 3512) (d 3512) ["self", "names"] (spUncap (a 25) (a 3)) := by
  have G3510 : FnOk P w K mg base (L2.CX P w) 4 (a 3510) (d 3510) ["self", "name"] (spAsk (a 25) (a 3) (fun _ _ ss n => valV (svK ss) (Sum.inr n)) (fun _ _ ss n => valV (svK ss) (Sum.inr n))) := ok_service_of T
  have G3500 : FnOk P w K mg base CX0 5 (a 3500) (d 3500) ["self", "tables", "keys", "services"] (spSInit (a 25)) := ok_sinit T
  refine T.F3512.okX sc_Schema_uncapped (fun vs H Q E h => ?_) (fun cdv A outer s H vs Q E hr h => ?_)
  · obtain ⟨p, l, ts, ks, ss, m, n, names, rfl, _⟩ := h
    rfl
  · obtain ⟨p, l, ts, ks, ss, m, n, names, rfl, ⟨dx, d1, d2, d3, O⟩, hm, hn, hl, hlen, q1, q2⟩ := h
    have lss : ss.length = n := by rw [← O.hS.nm.len, List.length_map]
    have n8 := O.n8
    refine ⟨_, (pss_cons (ps_set (i := 2) sc_Schema_uncapped.nd rfl (.inl rfl) (pe_callTy (T := "dict")  call_dictD (by rfl) T.z_dict (by decide +kernel) (pa_cons (pe_fld (pv 0) rfl) pa_nil)))
  (pss_cons (ps_for (passes_of rfl) rfl (pi_list (pv 1)) (pg_name (i := 3) sc_Schema_uncapped.nd rfl (.inl rfl))
    (pss_cons (ps_asg (pe_meth (pv 0) T.cl_25 T.m_3510 G3510 (hr.mono (by decide)) T.b3510 .nil (passes_call (takes_of rfl rfl rfl rfl) (fun _ _ _ _ h => h)) (pa_cons (pv 3) pa_nil)) (pg_tup rfl (pgs_cons (pg_name (i := 4) sc_Schema_uncapped.nd rfl (.inl rfl)) (pgs_cons (pg_name (i := 5) sc_Schema_uncapped.nd rfl (.inl rfl)) (pgs_cons (pg_name (i := 6) sc_Schema_uncapped.nd rfl (.inl rfl)) pgs_nil)))))
      (pss_one (ps_dput (hu_of hr) (pv 2) (pv 3) (pe_tup (pa_cons (pv 4) (pa_cons (pv 5) (pa_cons pe_non pa_nil)))) rfl))))
  (pss_one (ps_ret (pe_make T.M_25 G3500 (hr.mono (by decide)) (by rfl) T.cg_25 T.b3500 .nil pass0 (pa_cons (pe_fld (pv 0) rfl) (pa_cons (pe_fld (pv 0) rfl) (pa_cons (pv 2) pa_nil)))))))), ?_⟩
    obtain ⟨kd0, ek0, pk0⟩ := id O.sv
    refine ⟨_, rfl, p, _, dx, _, _, rfl, O.ob, T.cl_25, T.no_25__services, flds_s _ _ _, d3, kd0, rfl, .inl ek0, fun D hD => ?_⟩
    have s0 := same_upd (o := .dK kd0) hD
    refine ⟨_, rfl, l, rfl, ⟨_, .of (s0 _ _ hl)⟩, for_list (K := K) (a := l) (xs := names.map V.str) (fun i σ H' => ∃ (ss' : List SvE) (y3 y4 y5 y6 : Option V), σ = [some (.ref p), some (.ref l), some (.ref D), y3, y4, y5, y6] ∧ Same H H' ∧ DctAt H' D (svK ss') ∧ (∀ b ∈ ss', SvOk H' ts b) ∧ ss'.map (·.name) = ss.map (·.name) ∧ (fillE ts ks ss').Nodup ∧ Unc ss ss' (fun x => decide (x ∈ names.take i)) ∧ (∀ x ∈ names.take i, x ∈ ss.map (·.name)))
      ⟨ss, none, none, none, none, rfl, s0, ⟨kd0, upd_same, pk0⟩, fun b hb => (O.hS.ok b hb).mono fun _ _ e => s0 _ _ e, rfl, O.hS.one, ?_, fun x hx => by cases hx⟩ (fun i σ H' _ hp => ?_) (fun i y σ H' hy hp => ?_) (fun σ H' hp => ?_)⟩
    · unfold Unc
      refine List.map_congr_left fun c _ => ?_
      simp
    · obtain ⟨ss', y3, y4, y5, y6, rfl, sm, _⟩ := hp
      exact .of (sm _ _ hl)
    · obtain ⟨ss', y3, y4, y5, y6, rfl, sm, hdD, hok, hnm, hone, hunc, hknown⟩ := hp
      obtain ⟨nm, hn', rfl⟩ := map_at hy
      have O1 := O.same sm
      have hi : i < names.length := (List.getElem?_eq_some_iff.mp hn').1
      have tk : names.take (i + 1) = names.take i ++ [nm] := by
        rw [List.take_add_one, hn']
        rfl
      refine ⟨_, rfl, p, dx, _, rfl, O1.ob, flds_no _ _ _ (by decide +kernel) (by decide +kernel) (by decide +kernel), _, rfl, p, nm, ts, ks, ss, m, n, rfl, ⟨dx, d1, d2, d3, O1⟩, fun v hv => ⟨v, hv, ?_⟩, fun e => ?_⟩
      · have hv : valV (svK ss) (Sum.inr nm) = some v := hv
        rw [svAt_val] at hv
        cases eb : svAt ss nm with
        | none =>
          rw [eb] at hv
          cases hv
        | some b =>
          rw [eb] at hv
          obtain rfl : V.ref b.at_ = v := Option.some.inj hv
          obtain ⟨bm, bn⟩ := svAt_mem eb
          have hmem : nm ∈ ss.map (·.name) := List.mem_map.mpr ⟨b, bm, bn⟩
          obtain ⟨htold, ⟨w', hw', hcols, hcl⟩, hcap⟩ := O1.hS.ok b bm
          obtain ⟨kd, ekd, pkd⟩ := hdD
          refine ⟨b.at_, _, rfl, .of htold.tup, rfl, _, _, rfl, _, _, rfl, _, _, rfl, rfl, ?_⟩
          refine ⟨_, rfl, _, rfl, by show 3 ≤ sizeLine; decide, fun x hx => ?_⟩
          have sx := same_upd (o := .tup [.str b.tab, .ref b.ga, .non]) hx
          have ekd' := sx _ _ ekd
          have tpD : ∀ c xs, upd H' x (.tup [.str b.tab, .ref b.ga, .non]) c = some (.tup xs) → upd (upd H' x (.tup [.str b.tab, .ref b.ga, .non])) D (.dK (putK kd (Sum.inr nm) (.ref x))) c = some (.tup xs) := upd_tup ekd' (by intro _ z; cases z)
          refine ⟨_, rfl, _, rfl, D, _, rfl, DPut.k (k := Sum.inr nm) ekd' ?_, uncE ss' nm x, _, _, _, _, rfl, same_mut (sm.trans sx) hD, ⟨_, upd_same, ?_⟩, fun c hc => ?_, (uncE_names ss' nm x).trans hnm, hone.sublist (fillE_unc ts ks nm x ss'), hunc.step fun z => ?_, fun z hz => ?_⟩
          · rw [pkd.length_eq]
            unfold svK
            have e := congrArg List.length hnm
            rw [List.length_map, List.length_map] at e
            rw [List.length_map]
            exact small1000 (by omega)
          · rw [← putK_map x (by rw [hnm]; exact hmem)]
            exact putK_perm pkd _ _
          · obtain ⟨c0, hc0, rfl⟩ := List.mem_map.mp hc
            have old : SvOk (upd (upd H' x (.tup [.str b.tab, .ref b.ga, .non])) D (.dK (putK kd (Sum.inr nm) (.ref x)))) ts c0 := ((hok c0 hc0).mono fun _ _ e => sx _ _ e).mono tpD
            show SvOk _ ts (if c0.name = nm then { c0 with at_ := x, cap := none } else c0)
            by_cases e : c0.name = nm
            · rw [if_pos e]
              have hin : (c0.name, c0.tab, c0.ga, c0.cols, c0.cap) ∈ ss'.map fun b => (b.name, b.tab, b.ga, b.cols, b.cap) := List.mem_map.mpr ⟨c0, hc0, rfl⟩
              have hunc' : ss'.map (fun b => (b.name, b.tab, b.ga, b.cols, b.cap)) = _ := hunc
              rw [hunc'] at hin
              obtain ⟨b', hb', eb'⟩ := List.mem_map.mp hin
              have z1 : b'.name = c0.name := congrArg Prod.fst eb'
              have z2 : b'.tab = c0.tab := congrArg (fun q => q.2.1) eb'
              have z3 : b'.ga = c0.ga := congrArg (fun q => q.2.2.1) eb'
              have ebb : b' = b := name_uniq O.hS.nm.nd hb' bm (by rw [z1, e, bn])
              subst ebb
              refine ⟨⟨?_, old.told.cols⟩, old.ok, fun z hz => by cases hz⟩
              show _ = some (HO.tup [.str c0.tab, .ref c0.ga, .non])
              rw [← z2, ← z3]
              exact tpD x _ upd_same
            · rw [if_neg e]
              exact old
          · rw [tk]
            by_cases h1 : z ∈ names.take i <;> by_cases h2 : z = nm <;> simp [h1, h2]
          · rw [tk] at hz
            rcases List.mem_append.mp hz with h | h
            · exact hknown z h
            · rw [List.mem_singleton.mp h]
              exact hmem
      · have e : valV (svK ss) (Sum.inr nm) = none := e
        rw [svAt_val] at e
        refine q2 i nm hn' hknown (fun hx => ?_) H' sm
        obtain ⟨b, hb⟩ := svAt_some' hx
        rw [hb] at e
        cases e
    · obtain ⟨ss', y3, y4, y5, y6, rfl, sm, hdD, hok, hnm, hone, hunc, hknown⟩ := hp
      rw [List.length_map, List.take_length] at hunc hknown
      have O1 := O.same sm
      refine ⟨_, rfl, p, _, dx, _, _, rfl, O1.ob, T.cl_25, T.no_25__tables, flds_t _ _ _, _, rfl, p, _, dx, _, _, rfl, O1.ob, T.cl_25, T.no_25__keys, flds_k _ _ _, _, rfl, fun r dr fr fdr ndr => ?_⟩
      have sr1 := same_upd (o := .own r) fdr
      have fr1 : upd H' dr (.own r) r = none := by rw [upd_ne ndr.symm]; exact fr
      have sr := sr1.trans (same_upd (o := .ins (a 25) dr []) fr1)
      refine ⟨r, dr, d1, d2, D, ts, ks, ss', m, n, rfl, upd_same, O1.tb.same sr, O1.ky.same sr, hdD.same sr, O.hT, O1.hK.mono fun _ _ e => sr _ _ e, ⟨by rw [hnm]; exact O.hS.nm, fun b hb => (hok b hb).mono fun _ _ e => sr _ _ e, hone⟩, hm, O.m5, hn, O.n8, fun Hz e1 e2 e3 Oz _ _ _ keep => ⟨rfl, ?_⟩⟩
      exact q1 hknown r Hz ss' ⟨dr, e1, e2, e3, Oz⟩ hunc (sm.free fr) fun b u e => keep b u (ne_of_none (sm _ _ e) fr) (sr _ _ (sm _ _ e))
end
def Low (s : Str) : Prop := ∀ c ∈ s.cps.toList, c < 128
theorem low_ok {s : Str} (h : Low s) : PyData.strOk s = true := by
  unfold PyData.strOk
  rw [Array.all_eq_true']
  intro c hc
  have := h c (by simpa using hc)
  exact decide_eq_true (by omega)
theorem dp_strs {K : PySem.W.Frag} {H : Hp} : ∀ ns : List Str, DpAll K H (ns.map V.str) (ns.map PyData.str)
  | [] => .nil
  | n :: ns => .cons (.str n) (dp_strs ns)
theorem lay_strs : ∀ ns : List Str, (∀ s ∈ ns, Low s) → PyData.canLayAll0 (ns.map PyData.str) = true ∧ PyData.depthAll (ns.map PyData.str) = 0
  | [], _ => by simp [PyData.canLayAll0, PyData.depthAll]
  | n :: ns, h => by
    obtain ⟨h1, h2⟩ := lay_strs ns fun x hx => h x (List.mem_cons_of_mem _ hx)
    simp only [List.map_cons, PyData.canLayAll0, PyData.depthAll, PyData.canLay0, PyData.depth, low_ok (h n List.mem_cons_self), h1, h2, Bool.and_self, true_and]
    rfl
theorem strs_data {K : PySem.W.Frag} {H : Hp} {ns : List Str} (h : ∀ s ∈ ns, Low s) : ∃ dd, (∀ r, H r = some (.lst (ns.map V.str)) → Dp K H (.ref r) dd) ∧ SeqAt.shaped dd = true ∧ PyData.eqv dd dd = true := by
  obtain ⟨h1, h2⟩ := lay_strs ns h
  have hc : (PyData.list (ns.map PyData.str)).canLay0 = true := by simp only [PyData.canLay0, h1]
  refine ⟨.list (ns.map PyData.str), fun r hr => .lst (.of hr) (dp_strs ns), ?_, PySem.SeqAt.eqv_refl _ hc⟩
  unfold SeqAt.shaped
  rw [hc, Bool.true_and]
  exact decide_eq_true (by simp only [PyData.depth, h2]; omega)
theorem wd_low {s : Str} (h : Wd s) : Low s := fun c hc => by
  have := (h.2.2 c hc).2
  omega
theorem str_shaped {x : Str} (h : Low x) : SeqAt.shaped (.str x) = true := by
  unfold SeqAt.shaped
  simp only [PyData.canLay0, PyData.depth, low_ok h]
  rfl
theorem strs_shapedL {ns : List Str} (h : ∀ s ∈ ns, Low s) : SeqAt.shaped (.list (ns.map PyData.str)) = true := by
  obtain ⟨h1, h2⟩ := lay_strs ns h
  unfold SeqAt.shaped
  simp only [PyData.canLay0, PyData.depth, h1, h2]
  decide
/-! ### two dicts by what they hold -/
def valP (f : List (Key × PyData)) (k : Key) : Option PyData := (f.find? fun p => decide (p.1 = k)).map (·.2)
def optE : Option PyData → Option PyData → Bool
  | none, none => true
  | some a, some b => PyData.eqv a b
  | _, _ => false
def eqP (f g : List (Key × PyData)) : Bool := (f.length == g.length) && f.all fun p => match valP g p.1 with
  | none => false
  | some v => PyData.eqv p.2 v
theorem valP_mem {k : Key} {v : PyData} {f : List (Key × PyData)} (h : valP f k = some v) : (k, v) ∈ f := by
  unfold valP at h
  cases e : f.find? fun p => decide (p.1 = k) with
  | none => rw [e] at h; cases h
  | some p =>
    rw [e] at h
    have h1 := List.mem_of_find?_eq_some e
    have h2 : p.1 = k := by simpa using List.find?_some e
    have h3 : p = (k, v) := by rw [← h2, ← Option.some.inj h]
    rw [← h3]
    exact h1
theorem valP_nd {f : List (Key × PyData)} (nd : (f.map (·.1)).Nodup) {k : Key} {v : PyData} (h : (k, v) ∈ f) : valP f k = some v := by
  induction f with
  | nil => cases h
  | cons p f ih =>
    rw [List.map_cons] at nd
    obtain ⟨n1, n2⟩ := List.nodup_cons.mp nd
    unfold valP at ih ⊢
    rcases List.mem_cons.mp h with rfl | h
    · rw [List.find?_cons_of_pos (by simp)]
      rfl
    · rw [List.find?_cons_of_neg ?_]
      · exact ih n2 h
      · intro z
        have z' : p.1 = k := by simpa using z
        exact n1 (by rw [z']; exact List.mem_map.mpr ⟨_, h, rfl⟩)
theorem valP_none {f : List (Key × PyData)} {k : Key} (h : valP f k = none) : k ∉ f.map (·.1) := fun hm => by
  obtain ⟨p, hp, e⟩ := List.mem_map.mp hm
  unfold valP at h
  cases e2 : f.find? fun p => decide (p.1 = k) with
  | some q => rw [e2] at h; cases h
  | none =>
    have := List.find?_eq_none.mp e2 p hp
    simp [e] at this
theorem eqP_iff {f g : List (Key × PyData)} (nf : (f.map (·.1)).Nodup) (ng : (g.map (·.1)).Nodup) : eqP f g = true ↔ ∀ k, optE (valP f k) (valP g k) = true := by
  unfold eqP
  rw [Bool.and_eq_true, List.all_eq_true, beq_iff_eq]
  constructor
  · rintro ⟨h1, h2⟩ k
    have sub : ∀ x ∈ f.map (·.1), x ∈ g.map (·.1) := fun x hx => by
      obtain ⟨p, hp, rfl⟩ := List.mem_map.mp hx
      have := h2 p hp
      cases e : valP g p.1 with
      | none => rw [e] at this; cases this
      | some v => exact List.mem_map.mpr ⟨_, valP_mem e, rfl⟩
    have back := (nd_sub nf sub).2 (by rw [List.length_map, List.length_map, h1]; exact Nat.le_refl _)
    cases e1 : valP f k with
    | none =>
      cases e2 : valP g k with
      | none => rfl
      | some v => exact absurd (back k (List.mem_map.mpr ⟨_, valP_mem e2, rfl⟩)) (valP_none e1)
    | some u =>
      have := h2 _ (valP_mem e1)
      cases e2 : valP g k with
      | none =>
        have e2' : valP g (k, u).1 = none := e2
        rw [e2'] at this
        cases this
      | some v =>
        have e2' : valP g (k, u).1 = some v := e2
        rw [e2'] at this
        exact this
  · intro h
    have key : ∀ f g : List (Key × PyData), (∀ k, optE (valP f k) (valP g k) = true) → (f.map (·.1)).Nodup → ∀ x ∈ f.map (·.1), x ∈ g.map (·.1) := fun f g h nf x hx => by
      obtain ⟨p, hp, rfl⟩ := List.mem_map.mp hx
      have := h p.1
      rw [valP_nd nf (k := p.1) (v := p.2) hp] at this
      cases e : valP g p.1 with
      | none => rw [e] at this; cases this
      | some v => exact List.mem_map.mpr ⟨_, valP_mem e, rfl⟩
    have h' : ∀ k, optE (valP g k) (valP f k) = true := fun k => by
      have := h k
      cases e1 : valP f k <;> cases e2 : valP g k <;> rw [e1, e2] at this <;> try (first | rfl | cases this)
      show PyData.eqv _ _ = true
      rw [PySem.W.eqv_comm]
      exact this
    have l1 := (nd_sub nf (key f g h nf)).1
    have l2 := (nd_sub ng (key g f h' ng)).1
    rw [List.length_map, List.length_map] at l1 l2
    refine ⟨by omega, fun p hp => ?_⟩
    have := h p.1
    rw [valP_nd nf (k := p.1) (v := p.2) hp] at this
    cases e : valP g p.1 with
    | none => rw [e] at this; cases this
    | some v => rw [e] at this; exact this
theorem optE_comm (a b : Option PyData) : optE a b = optE b a := by
  cases a <;> cases b <;> try rfl
  exact PySem.W.eqv_comm _ _
theorem eqP_comm {f g : List (Key × PyData)} (nf : (f.map (·.1)).Nodup) (ng : (g.map (·.1)).Nodup) : eqP f g = eqP g f := by
  apply Bool.eq_iff_iff.mpr
  rw [eqP_iff nf ng, eqP_iff ng nf]
  exact ⟨fun h k => by rw [optE_comm]; exact h k, fun h k => by rw [optE_comm]; exact h k⟩
theorem permP_nd {f g : List (Key × PyData)} (p : f.Perm g) (ng : (g.map (·.1)).Nodup) : (f.map (·.1)).Nodup := (p.map (·.1)).nodup_iff.mpr ng
theorem valP_perm {f g : List (Key × PyData)} (p : f.Perm g) (ng : (g.map (·.1)).Nodup) (k : Key) : valP f k = valP g k := by
  cases h : valP g k with
  | some v => exact valP_nd (permP_nd p ng) (p.mem_iff.mpr (valP_mem h))
  | none =>
    cases h' : valP f k with
    | none => rfl
    | some v => rw [valP_nd ng (p.mem_iff.mp (valP_mem h'))] at h; cases h
theorem eqP_perm {f f' g g' : List (Key × PyData)} (p : f.Perm f') (q : g.Perm g') (nf : (f'.map (·.1)).Nodup) (ng : (g'.map (·.1)).Nodup) : eqP f g = eqP f' g' := by
  apply Bool.eq_iff_iff.mpr
  rw [eqP_iff (permP_nd p nf) (permP_nd q ng), eqP_iff nf ng]
  exact ⟨fun h k => by have := h k; rw [valP_perm p nf, valP_perm q ng] at this; exact this, fun h k => by rw [valP_perm p nf, valP_perm q ng]; exact h k⟩
theorem eqP_refl {f : List (Key × PyData)} (nf : (f.map (·.1)).Nodup) (hd : ∀ p ∈ f, SeqAt.shaped p.2 = true) : eqP f f = true := by
  rw [eqP_iff nf nf]
  intro k
  cases e : valP f k with
  | none => rfl
  | some v => exact PySem.SeqAt.eqv_refl v (PySem.SeqAt.canLay_of_shaped (hd _ (valP_mem e)))
/-! data at an address, two levels deep -/
def dt0 : V → PyData
  | .int i => .int i
  | .str s => .str s
  | .bl b => .bool b
  | _ => .none
def dt1 (H : Hp) : V → PyData
  | .ref a => match H a with
    | some (.tup xs) => .tuple (xs.map dt0)
    | _ => .none
  | v => dt0 v
def dt2 (H : Hp) : V → PyData
  | .ref a => match H a with
    | some (.tup xs) => .tuple (xs.map (dt1 H))
    | _ => .none
  | v => dt0 v
/-- a dict at t that holds this data, in any order -/
def DDat (K : PySem.W.Frag) (H : Hp) (t : Addr) (f : List (Key × PyData)) : Prop := ∃ ks, H t = some (.dK ks) ∧ (ks.map fun p => (p.1, dt2 H p.2)).Perm f ∧ ∀ p ∈ ks, Dp K H p.2 (dt2 H p.2) ∧ SeqAt.shaped (dt2 H p.2) = true
theorem valP_map (D : V → PyData) (k : Key) : ∀ ls : List (Key × V), valP (ls.map fun p => (p.1, D p.2)) k = (valV ls k).map D
  | [] => rfl
  | p :: ls => by
    have ih := valP_map D k ls
    unfold valP at ih ⊢
    rw [List.map_cons]
    by_cases e : p.1 = k
    · rw [valV_pos e, List.find?_cons_of_pos (by simp [e])]
      rfl
    · rw [valV_neg e, List.find?_cons_of_neg (by simp [e])]
      exact ih
theorem eqT_P (D : V → PyData) (ks ls : List (Key × V)) : L2.eqT D ks ls = eqP (ks.map fun p => (p.1, D p.2)) (ls.map fun p => (p.1, D p.2)) := by
  unfold L2.eqT eqP
  rw [List.length_map, List.length_map, List.all_map]
  congr 1
  congr 1
  funext p
  show (match valV ls p.1 with | none => false | some v => PyData.eqv (D p.2) (D v)) = match valP (ls.map fun p => (p.1, D p.2)) p.1 with | none => false | some v => PyData.eqv (D p.2) v
  rw [valP_map]
  cases valV ls p.1 <;> rfl
theorem rEqT_of {K : PySem.W.Frag} {H : Hp} {a b : Addr} {f g : List (Key × PyData)} {neg : Bool} {Q : VK} (h1 : DDat K H a f) (h2 : DDat K H b g) (nf : (f.map (·.1)).Nodup) (ng : (g.map (·.1)).Nodup) (q : Q (.bl (if neg then !eqP f g else eqP f g)) H) : rEqT K neg (.ref a) (.ref b) H Q := by
  obtain ⟨ks, e1, p1, d1⟩ := h1
  obtain ⟨ls, e2, p2, d2⟩ := h2
  refine ⟨a, b, ks, ls, dt2 H, rfl, rfl, e1, e2, d1, d2, ?_⟩
  rw [eqT_P, eqP_perm p1 p2 nf ng]
  exact q
theorem DDat.of {K : PySem.W.Frag} {H : Hp} {t : Addr} {kvs : List (Key × V)} {f : List (Key × PyData)} (h : DctAt H t kvs) (e : (kvs.map fun p => (p.1, dt2 H p.2)) = f) (hd : ∀ p ∈ kvs, Dp K H p.2 (dt2 H p.2) ∧ SeqAt.shaped (dt2 H p.2) = true) : DDat K H t f := by
  obtain ⟨ks, e1, p⟩ := h
  exact ⟨ks, e1, by rw [← e]; exact p.map _, fun x hx => hd x (p.mem_iff.mp hx)⟩
/-! the data of tables, keys and services -/
def tabP (ts : List (Str × Int)) : List (Key × PyData) := ts.map fun p => (Sum.inr p.1, .int p.2)
def keyP (ks : List KeyE) : List (Key × PyData) := ks.map fun b => (Sum.inr b.1, .tuple (b.2.2.map PyData.int))
def capP : Option Int → PyData
  | none => .none
  | some c => .int c
def svP (ss : List SvE) : List (Key × PyData) := ss.map fun b => (Sum.inr b.name, .tuple [.str b.tab, .tuple (b.cols.map PyData.int), capP b.cap])
theorem tabP_nd {ts : List (Str × Int)} {m : Nat} {wm : Int} (h : Tabs ts m wm) : ((tabP ts).map (·.1)).Nodup := by
  have := tab_nd h
  unfold tabK at this
  unfold tabP
  rw [List.map_map] at this ⊢
  exact this
theorem keyP_nd {H : Hp} {ts : List (Str × Int)} {ks : List KeyE} (h : Keys H ts ks) : ((keyP ks).map (·.1)).Nodup := by
  have := inr_nd h.nd
  unfold keyP
  rw [List.map_map] at this ⊢
  exact this
theorem svP_nd {ss : List SvE} {n : Nat} (h : Nms (ss.map (·.name)) n) : ((svP ss).map (·.1)).Nodup := by
  have := inr_nd h.nd
  unfold svP
  rw [List.map_map] at this ⊢
  exact this
theorem wd_strOk {s : Str} (h : Wd s) : PyData.strOk s = true := by
  unfold PyData.strOk
  rw [Array.all_eq_true_iff_forall_mem]
  intro c hc
  have := (h.2.2 c (Array.mem_toList_iff.mpr hc)).2
  exact decide_eq_true (by omega)
theorem ints_tup_shaped (ns : List Int) : SeqAt.shaped (.tuple (ns.map PyData.int)) = true := by
  obtain ⟨h1, h2⟩ := lay_ints ns
  show ((PyData.tuple (ns.map PyData.int)).canLay0 && decide ((PyData.tuple (ns.map PyData.int)).depth ≤ 64)) = true
  simp only [PyData.canLay0, PyData.depth, h1, h2]
  decide
theorem sv_shaped {n : Str} (hn : PyData.strOk n = true) (ns : List Int) (c : Option Int) : SeqAt.shaped (.tuple [.str n, .tuple (ns.map PyData.int), capP c]) = true := by
  obtain ⟨h1, h2⟩ := lay_ints ns
  show ((PyData.tuple [.str n, .tuple (ns.map PyData.int), capP c]).canLay0 && decide ((PyData.tuple [.str n, .tuple (ns.map PyData.int), capP c]).depth ≤ 64)) = true
  cases c <;> simp only [PyData.canLay0, PyData.depth, PyData.canLayAll0, PyData.depthAll, capP, h1, h2, hn] <;> decide
theorem dt1_ints {H : Hp} {a : Addr} {ns : List Int} (h : H a = some (.tup (ns.map V.int))) : dt1 H (.ref a) = .tuple (ns.map PyData.int) := by
  show (match H a with | some (.tup xs) => PyData.tuple (xs.map dt0) | _ => .none) = _
  rw [h]
  show PyData.tuple ((ns.map V.int).map dt0) = _
  rw [List.map_map]
  rfl
theorem dt2_ints {H : Hp} {a : Addr} {ns : List Int} (h : H a = some (.tup (ns.map V.int))) : dt2 H (.ref a) = .tuple (ns.map PyData.int) := by
  show (match H a with | some (.tup xs) => PyData.tuple (xs.map (dt1 H)) | _ => .none) = _
  rw [h]
  show PyData.tuple ((ns.map V.int).map (dt1 H)) = _
  rw [List.map_map]
  rfl
theorem dt_cap (H : Hp) (c : Option Int) : dt1 H (capV c) = capP c := by cases c <;> rfl
theorem dp_cap {K : PySem.W.Frag} {H : Hp} (c : Option Int) : Dp K H (capV c) (capP c) := by
  cases c with
  | none => exact .non
  | some i => exact .int i
theorem dt2_told {H : Hp} {v ga : Addr} {n : Str} {cs : List Int} {c : Option Int} (h : Told H v n ga cs c) : dt2 H (.ref v) = .tuple [.str n, .tuple (cs.map PyData.int), capP c] := by
  show (match H v with | some (.tup xs) => PyData.tuple (xs.map (dt1 H)) | _ => .none) = _
  rw [h.tup]
  show PyData.tuple [dt1 H (.str n), dt1 H (.ref ga), dt1 H (capV c)] = _
  rw [dt1_ints h.cols, dt_cap]
  rfl
theorem ddat_tab {K : PySem.W.Frag} {H : Hp} {t : Addr} {ts : List (Str × Int)} (h : DctAt H t (tabK ts)) : DDat K H t (tabP ts) := by
  refine .of h ?_ fun p hp => ?_
  · unfold tabK tabP
    rw [List.map_map]
    rfl
  · obtain ⟨b, _, rfl⟩ := List.mem_map.mp hp
    exact ⟨.int _, rfl⟩
theorem ddat_key {K : PySem.W.Frag} {H : Hp} {t : Addr} {ts : List (Str × Int)} {ks : List KeyE} (h : DctAt H t (keyK ks)) (hK : Keys H ts ks) : DDat K H t (keyP ks) := by
  refine .of h ?_ fun p hp => ?_
  · unfold keyK keyP
    rw [List.map_map]
    refine List.map_congr_left fun b hb => ?_
    show (Sum.inr b.1, dt2 H (.ref b.2.1)) = _
    rw [dt2_ints (hK.at_ b hb)]
  · obtain ⟨b, hb, rfl⟩ := List.mem_map.mp hp
    show Dp K H (.ref b.2.1) (dt2 H (.ref b.2.1)) ∧ SeqAt.shaped (dt2 H (.ref b.2.1)) = true
    rw [dt2_ints (hK.at_ b hb)]
    exact ⟨.tup (.of (hK.at_ b hb)) (dp_ints _), ints_tup_shaped _⟩
theorem ddat_sv {K : PySem.W.Frag} {H : Hp} {t : Addr} {ss : List SvE} (h : DctAt H t (svK ss)) (hS : ∀ b ∈ ss, Told H b.at_ b.tab b.ga b.cols b.cap ∧ Wd b.tab) : DDat K H t (svP ss) := by
  refine .of h ?_ fun p hp => ?_
  · unfold svK svP
    rw [List.map_map]
    refine List.map_congr_left fun b hb => ?_
    show (Sum.inr b.name, dt2 H (.ref b.at_)) = _
    rw [dt2_told (hS b hb).1]
  · obtain ⟨b, hb, rfl⟩ := List.mem_map.mp hp
    show Dp K H (.ref b.at_) (dt2 H (.ref b.at_)) ∧ SeqAt.shaped (dt2 H (.ref b.at_)) = true
    rw [dt2_told (hS b hb).1]
    exact ⟨.tup (.of (hS b hb).1.tup) (.cons (.str _) (.cons (.tup (.of (hS b hb).1.cols) (dp_ints _)) (.cons (dp_cap _) .nil))), sv_shaped (wd_strOk (hS b hb).2) _ _⟩
section
/-! ### a schema's parts changed -/
theorem kd_names {kd : List (Key × V)} {zs : List Str} (h : kd.map (·.1) = zs.map Sum.inr) : kd.map (fun kv => kV kv.1) = zs.map V.str := by
  have : kd.map (fun kv => kV kv.1) = (kd.map (·.1)).map kV := by rw [List.map_map]; rfl
  rw [this, h, List.map_map]
  rfl
def upTs (ts : List (Str × Int)) (n : Str) (w : Int) : List (Str × Int) := ts.map fun b => if b.1 = n then (b.1, w) else b
theorem upTs_names (ts : List (Str × Int)) (n : Str) (w : Int) : (upTs ts n w).map (·.1) = ts.map (·.1) := by
  unfold upTs
  rw [List.map_map]
  refine List.map_congr_left fun b _ => ?_
  show (if b.1 = n then (b.1, w) else b).1 = b.1
  split <;> rfl
theorem upTs_put {ts : List (Str × Int)} {n : Str} {w : Int} (h : n ∈ ts.map (·.1)) : putK (tabK ts) (Sum.inr n) (.int w) = tabK (upTs ts n w) := by
  unfold putK
  have ha : ((tabK ts).any fun kv => decide (kv.1 = Sum.inr n)) = true := by
    obtain ⟨b, hb, e⟩ := List.mem_map.mp h
    exact List.any_eq_true.mpr ⟨_, List.mem_map.mpr ⟨b, hb, rfl⟩, decide_eq_true (by rw [e])⟩
  rw [if_pos ha]
  unfold tabK upTs
  rw [List.map_map, List.map_map]
  refine List.map_congr_left fun c _ => ?_
  show (if (Sum.inr c.1 : Key) = Sum.inr n then _ else _) = (fun b : Str × Int => ((Sum.inr b.1 : Key), V.int b.2)) (if c.1 = n then (c.1, w) else c)
  by_cases e : c.1 = n
  · rw [if_pos e, if_pos (by rw [e])]
  · rw [if_neg e, if_neg (fun z => e (Sum.inr.inj z))]
theorem upTs_len (ts : List (Str × Int)) (n : Str) (w : Int) : (upTs ts n w).length = ts.length := List.length_map ..
theorem upTs_mem {ts : List (Str × Int)} {n x : Str} {w v : Int} (h : (x, v) ∈ ts) (nd : (ts.map (·.1)).Nodup) {v0 : Int} (h0 : (n, v0) ∈ ts) (hw : v0 ≤ w) : ∃ v', (x, v') ∈ upTs ts n w ∧ v ≤ v' := by
  by_cases e : x = n
  · subst e
    have : v = v0 := by rw [← widthAt_mem nd h, ← widthAt_mem nd h0]
    refine ⟨w, List.mem_map.mpr ⟨_, h, by rw [if_pos rfl]⟩, by omega⟩
  · exact ⟨v, List.mem_map.mpr ⟨_, h, by rw [if_neg e]⟩, Int.le_refl _⟩
theorem Tabs.upd {ts : List (Str × Int)} {m : Nat} {wm : Int} {n : Str} {w : Int} (h : Tabs ts m wm) (h1 : 1 ≤ w) (h2 : w ≤ wm) : Tabs (upTs ts n w) m wm := ⟨by rw [upTs_names]; exact h.nm, fun b hb => by
  obtain ⟨c, hc, rfl⟩ := List.mem_map.mp hb
  show 1 ≤ (if c.1 = n then (c.1, w) else c).2 ∧ (if c.1 = n then (c.1, w) else c).2 ≤ wm
  split
  · exact ⟨h1, h2⟩
  · exact h.wd c hc⟩
theorem Keys.upTs {H : Hp} {ts : List (Str × Int)} {ks : List KeyE} {m : Nat} {wm : Int} {n : Str} {w v0 : Int} (hT : Tabs ts m wm) (h : Keys H ts ks) (h0 : (n, v0) ∈ ts) (hw : v0 ≤ w) : Keys H (upTs ts n w) ks :=
  ⟨h.nd, by rw [upTs_len]; exact h.le, h.at_, fun b hb => by
    obtain ⟨v, hv, hc, h1, h2⟩ := h.ok b hb
    obtain ⟨v', hv', hle⟩ := upTs_mem hv hT.nm.nd h0 hw
    exact ⟨v', hv', hc.up hle, h1, by omega⟩⟩
theorem SvOk.upTs {H : Hp} {ts : List (Str × Int)} {b : SvE} {m : Nat} {wm : Int} {n : Str} {w v0 : Int} (hT : Tabs ts m wm) (h : SvOk H ts b) (h0 : (n, v0) ∈ ts) (hw : v0 ≤ w) : SvOk H (upTs ts n w) b := by
  obtain ⟨v, hv, hc, hl⟩ := h.ok
  obtain ⟨v', hv', hle⟩ := upTs_mem hv hT.nm.nd h0 hw
  exact ⟨h.told, ⟨v', hv', hc.up hle, hl⟩, h.cap⟩
structure Ch3 (p t k v : Addr) (m n : Nat) (H0 H : Hp) (ts : List (Str × Int)) (ks : List KeyE) (ss : List SvE) : Prop where
  mm : m ≤ 26
  nn : n ≤ 26
  pool : PoolAt H p
  tb : DctAt H t (tabK ts)
  ky : DctAt H k (keyK ks)
  sv : DctAt H v (svK ss)
  hT : Tabs ts m 4
  hK : Keys H ts ks
  hS : ∀ b ∈ ss, SvOk H ts b
  nm : Nms (ss.map (·.name)) n
  oth : ∀ b o, b ≠ p → b ≠ t → b ≠ k → b ≠ v → H0 b = some o → H b = some o
theorem DctAt.ne {H : Hp} {t p : Addr} {kvs : List (Key × V)} (h : DctAt H t kvs) (hP : PoolAt H p) : t ≠ p := by
  obtain ⟨kd, e, _⟩ := h
  exact pool_ne hP e (by intro _ z; cases z)
theorem DctAt.chg {H H' : Hp} {t p : Addr} {kvs : List (Key × V)} (h : DctAt H t kvs) (hP : PoolAt H p) (c : Chg p H H') : DctAt H' t kvs := by
  have n := h.ne hP
  obtain ⟨kd, e, q⟩ := h
  exact ⟨kd, c.at n e, q⟩
theorem pool_ne' {H : Hp} {p b : Addr} (h : PoolAt H p) (e : H b = none) : b ≠ p := Chg.ne h e
theorem Ch3.chg {p t k v : Addr} {m n : Nat} {H0 H H' : Hp} {ts : List (Str × Int)} {ks : List KeyE} {ss : List SvE} (h : Ch3 p t k v m n H0 H ts ks ss) (c : Chg p H H') : Ch3 p t k v m n H0 H' ts ks ss :=
  ⟨h.mm, h.nn, c.1, h.tb.chg h.pool c, h.ky.chg h.pool c, h.sv.chg h.pool c, h.hT, h.hK.mono (chg_tup h.pool c), fun b hb => (h.hS b hb).mono (chg_tup h.pool c), h.nm, fun b o n1 n2 n3 n4 e => c.at n1 (h.oth b o n1 n2 n3 n4 e)⟩
theorem Ch3.same {p t k v : Addr} {m n : Nat} {H0 H H' : Hp} {ts : List (Str × Int)} {ks : List KeyE} {ss : List SvE} (h : Ch3 p t k v m n H0 H ts ks ss) (c : Same H H') : Ch3 p t k v m n H0 H' ts ks ss :=
  ⟨h.mm, h.nn, h.pool.same c, h.tb.same c, h.ky.same c, h.sv.same c, h.hT, h.hK.mono fun _ _ e => c _ _ e, fun b hb => (h.hS b hb).mono fun _ _ e => c _ _ e, h.nm, fun b o n1 n2 n3 n4 e => c _ _ (h.oth b o n1 n2 n3 n4 e)⟩
/-- a dict of the three is written -/
theorem DctAt.oth {H : Hp} {t b : Addr} {kvs : List (Key × V)} {o : HO} (h : DctAt H t kvs) (n : t ≠ b) : DctAt (upd H b o) t kvs := by
  obtain ⟨kd, e, q⟩ := h
  exact ⟨kd, by rw [upd_ne n]; exact e, q⟩
theorem DctAt.putD {H : Hp} {t : Addr} {kvs : List (Key × V)} {k : Key} {v : V} (h : DctAt H t kvs) : ∃ kd, H t = some (.dK kd) ∧ kd.length = kvs.length ∧ DctAt (upd H t (.dK (putK kd k v))) t (putK kvs k v) := by
  obtain ⟨kd, e, q⟩ := h
  exact ⟨kd, e, q.length_eq, _, upd_same, putK_perm q k v⟩
theorem DctAt.tup {H : Hp} {t : Addr} {kvs : List (Key × V)} (h : DctAt H t kvs) (o : HO) : ∀ b xs, H b = some (.tup xs) → upd H t o b = some (.tup xs) := by
  obtain ⟨kd, e, q⟩ := h
  exact upd_tup e (by intro _ z; cases z)
theorem DctAt.pool {H : Hp} {t p : Addr} {kvs : List (Key × V)} (h : DctAt H t kvs) (hP : PoolAt H p) (o : HO) : PoolAt (upd H t o) p := by
  have n := h.ne hP
  obtain ⟨p0, p1, p2, p3, r, e, c⟩ := hP
  exact ⟨p0, p1, p2, p3, r, by rw [upd_ne n.symm]; exact e, c⟩
theorem keyK_drop (ks : List KeyE) (n : Str) : dropK (keyK ks) (Sum.inr n) = keyK (ks.filter fun b => decide (b.1 ≠ n)) := by
  unfold dropK keyK
  rw [List.filter_map]
  congr 1
  refine List.filter_congr fun b _ => ?_
  show decide ((Sum.inr b.1 : Key) ≠ Sum.inr n) = decide (b.1 ≠ n)
  by_cases e : b.1 = n
  · rw [e]
    simp
  · have e' : (Sum.inr b.1 : Key) ≠ Sum.inr n := fun z => e (Sum.inr.inj z)
    rw [decide_eq_true e, decide_eq_true e']
theorem dropK_perm {κ : Type} [DecidableEq κ] {x y : List (κ × V)} (p : x.Perm y) (k : κ) : (dropK x k).Perm (dropK y k) := p.filter _
theorem Ch3.putT {p t k v : Addr} {m n : Nat} {H0 H : Hp} {ts : List (Str × Int)} {ks : List KeyE} {ss : List SvE} (h : Ch3 p t k v m n H0 H ts ks ss) (ntk : t ≠ k) (ntv : t ≠ v) {nm : Str} {w w' : Int} (hm : (nm, w) ∈ ts) (h1 : w ≤ w') (h2 : w' ≤ 4) :
    ∃ kd, H t = some (.dK kd) ∧ kd.length < sizeLine ∧ Ch3 p t k v m n H0 (upd H t (.dK (putK kd (Sum.inr nm) (.int w')))) (upTs ts nm w') ks ss := by
  have hw := h.hT.wd _ hm
  have hmem : nm ∈ ts.map (·.1) := List.mem_map.mpr ⟨_, hm, rfl⟩
  obtain ⟨kd, e, l, d⟩ := h.tb.putD (k := Sum.inr nm) (v := .int w')
  rw [upTs_put hmem] at d
  have tup := h.tb.tup (.dK (putK kd (Sum.inr nm) (.int w')))
  refine ⟨kd, e, ?_, h.mm, h.nn, h.tb.pool h.pool _, d, h.ky.oth ntk.symm, h.sv.oth ntv.symm, h.hT.upd (by have := hw.1; omega) h2, (h.hK.upTs h.hT hm h1).mono tup, fun b hb => ((h.hS b hb).upTs h.hT hm h1).mono tup, h.nm, fun b o n1 n2 n3 n4 e => ?_⟩
  · rw [l]
    unfold tabK
    rw [List.length_map, h.hT.len]
    have := h.hT.len
    have := h.mm
    exact small1000 (by omega)
  · rw [upd_ne n2]
    exact h.oth b o n1 n2 n3 n4 e
theorem Ch3.putK_ {p t k v : Addr} {m n : Nat} {H0 H : Hp} {ts : List (Str × Int)} {ks : List KeyE} {ss : List SvE} (h : Ch3 p t k v m n H0 H ts ks ss) (ntk : t ≠ k) (nkv : k ≠ v) {nm : Str} {w : Int} (hm : (nm, w) ∈ ts) (h1 : 1 < w) (hno : nm ∉ ks.map (·.1)) {x : Addr} (hx : H x = some (.tup [.int (w - 1)])) :
    ∃ kd, H k = some (.dK kd) ∧ kd.length < sizeLine ∧ Ch3 p t k v m n H0 (upd H k (.dK (putK kd (Sum.inr nm) (.ref x)))) ts (ks ++ [(nm, x, [w - 1])]) ss := by
  obtain ⟨kd, e, l, d⟩ := h.ky.putD (k := Sum.inr nm) (v := .ref x)
  have e1 : putK (keyK ks) (Sum.inr nm) (V.ref x) = keyK (ks ++ [(nm, x, [w - 1])]) := by
    unfold keyK
    rw [snoc_map]
    refine putK_new _ (valV_no ?_)
    have e := keys_key ks
    unfold keyK at e
    rw [e]
    exact inr_no hno
  rw [e1] at d
  have tup := h.ky.tup (.dK (putK kd (Sum.inr nm) (.ref x)))
  have hlen := h.hK.le
  have hlt := h.hT.len
  have hmm := h.mm
  have nd : ((ks ++ [(nm, x, [w - 1])]).map (·.1)).Nodup := by
    rw [snoc_map]
    exact List.nodup_append.mpr ⟨h.hK.nd, by simp, fun a ha b hb e => hno (by have hb' : b = nm := List.mem_singleton.mp hb; rw [← hb', ← e]; exact ha)⟩
  have hok : ∀ b ∈ ks ++ [(nm, x, [w - 1])], ∃ w', (b.1, w') ∈ ts ∧ Cols b.2.2 w' ∧ 1 ≤ b.2.2.length ∧ (b.2.2.length : Int) < w' := fun b hb => by
    rcases List.mem_append.mp hb with h' | h'
    · exact h.hK.ok b h'
    · rw [List.mem_singleton.mp h']
      refine ⟨w, hm, ⟨List.pairwise_singleton _ _, fun c hc => ?_⟩, Nat.le_refl 1, h1⟩
      rw [List.mem_singleton.mp hc]
      omega
  have le' : (ks ++ [(nm, x, [w - 1])]).length ≤ ts.length := by
    have sub := (nd_sub nd (ys := ts.map (·.1)) fun y hy => by
      obtain ⟨b, hb, rfl⟩ := List.mem_map.mp hy
      obtain ⟨w', hw', _⟩ := hok b hb
      exact List.mem_map.mpr ⟨_, hw', rfl⟩).1
    rw [List.length_map, List.length_map] at sub
    exact sub
  refine ⟨kd, e, ?_, h.mm, h.nn, h.ky.pool h.pool _, h.tb.oth ntk, d, h.sv.oth nkv.symm, h.hT, ⟨nd, le', fun b hb => ?_, hok⟩, fun b hb => (h.hS b hb).mono tup, h.nm, fun b o n1 n2 n3 n4 e => ?_⟩
  · rw [l]
    unfold keyK
    rw [List.length_map]
    exact small1000 (by omega)
  · rcases List.mem_append.mp hb with h' | h'
    · exact tup _ _ (h.hK.at_ b h')
    · rw [List.mem_singleton.mp h']
      exact tup _ _ hx
  · rw [upd_ne n3]
    exact h.oth b o n1 n2 n3 n4 e
theorem Ch3.dropK_ {p t k v : Addr} {m n : Nat} {H0 H : Hp} {ts : List (Str × Int)} {ks : List KeyE} {ss : List SvE} (h : Ch3 p t k v m n H0 H ts ks ss) (ntk : t ≠ k) (nkv : k ≠ v) {nm : Str} {b : KeyE} (hb : keyAt ks nm = some b) :
    ∃ kd, H k = some (.dK kd) ∧ valV kd (Sum.inr nm) = some (.ref b.2.1) ∧ Ch3 p t k v m n H0 (upd H k (.dK (dropK kd (Sum.inr nm)))) ts (ks.filter fun c => decide (c.1 ≠ nm)) ss := by
  obtain ⟨kd, e, q⟩ := h.ky
  have nd := key_nd h.hT h.hK
  have hv : valV kd (Sum.inr nm) = some (.ref b.2.1) := by
    rw [valV_perm q nd, keyAt_val, hb]
    rfl
  have tup := h.ky.tup (.dK (dropK kd (Sum.inr nm)))
  have sl : (ks.filter fun c => decide (c.1 ≠ nm)).Sublist ks := List.filter_sublist
  refine ⟨kd, e, hv, h.mm, h.nn, h.ky.pool h.pool _, h.tb.oth ntk, ⟨_, upd_same, ?_⟩, h.sv.oth nkv.symm, h.hT, ⟨h.hK.nd.sublist (sl.map _), Nat.le_trans sl.length_le h.hK.le, fun c hc => tup _ _ (h.hK.at_ c (sl.subset hc)), fun c hc => h.hK.ok c (sl.subset hc)⟩, fun b hb => (h.hS b hb).mono tup, h.nm, fun b o n1 n2 n3 n4 e => ?_⟩
  · rw [← keyK_drop]
    exact dropK_perm q _
  · rw [upd_ne n3]
    exact h.oth b o n1 n2 n3 n4 e
theorem Ch3.putS {p t k v : Addr} {m n : Nat} {H0 H : Hp} {ts : List (Str × Int)} {ks : List KeyE} {ss : List SvE} (h : Ch3 p t k v m n H0 H ts ks ss) (ntv : t ≠ v) (nkv : k ≠ v) {b : SvE} (hb : b ∈ ss) {x : Addr} (hx : H x = some (.tup [.str b.tab, .ref b.ga, .non])) :
    ∃ kd, H v = some (.dK kd) ∧ kd.length < sizeLine ∧ ∃ ss', Ch3 p t k v m n H0 (upd H v (.dK (putK kd (Sum.inr b.name) (.ref x)))) ts ks ss' := by
  have hmem : b.name ∈ ss.map (·.name) := List.mem_map.mpr ⟨b, hb, rfl⟩
  obtain ⟨kd, e, l, d⟩ := h.sv.putD (k := Sum.inr b.name) (v := .ref x)
  rw [putK_map x hmem] at d
  have tup := h.sv.tup (.dK (putK kd (Sum.inr b.name) (.ref x)))
  have hnn := h.nn
  refine ⟨kd, e, ?_, uncE ss b.name x, h.mm, h.nn, h.sv.pool h.pool _, h.tb.oth ntv, h.ky.oth nkv, d, h.hT, h.hK.mono tup, fun c hc => ?_, by rw [uncE_names]; exact h.nm, fun b o n1 n2 n3 n4 e => ?_⟩
  · rw [l]
    unfold svK
    have := h.nm.len
    rw [List.length_map] at this
    rw [List.length_map]
    exact small1000 (by omega)
  · obtain ⟨c0, hc0, rfl⟩ := List.mem_map.mp hc
    have old := (h.hS c0 hc0).mono tup
    show SvOk _ ts (if c0.name = b.name then { c0 with at_ := x, cap := none } else c0)
    by_cases e : c0.name = b.name
    · rw [if_pos e]
      have ebb := name_uniq h.nm.nd hc0 hb e
      subst ebb
      exact ⟨⟨tup _ _ hx, old.told.cols⟩, old.ok, fun z hz => by cases hz⟩
    · rw [if_neg e]
      exact old
  · rw [upd_ne n4]
    exact h.oth b o n1 n2 n3 n4 e
end
/-! ### a Schema made of dicts that are right -/
theorem SchO.chg {C p dx d1 d2 d3 a : Addr} {H H' : Hp} {ts : List (Str × Int)} {ks : List KeyE} {ss : List SvE} {m n : Nat} (h : SchO C p dx d1 d2 d3 H ts ks ss m n) (hP : PoolAt H a) (c : Chg a H H') : SchO C p dx d1 d2 d3 H' ts ks ss m n :=
  ⟨c.at (pool_ne hP h.ob (by intro _ z; cases z)) h.ob, h.tb.chg hP c, h.ky.chg hP c, h.sv.chg hP c, h.hT, h.hK.mono (chg_tup hP c), h.hS.mono (chg_tup hP c), h.m5, h.n8⟩
theorem SchAt.chg {C p a : Addr} {H H' : Hp} {ts : List (Str × Int)} {ks : List KeyE} {ss : List SvE} {m n : Nat} (h : SchAt C p H ts ks ss m n) (hP : PoolAt H a) (c : Chg a H H') : SchAt C p H' ts ks ss m n := by
  obtain ⟨dx, d1, d2, d3, o⟩ := h
  exact ⟨dx, d1, d2, d3, o.chg hP c⟩
theorem mk_schema {C t k v : Addr} {H : Hp} {ts : List (Str × Int)} {ks : List KeyE} {ss : List SvE} {m n : Nat} {Q' : Hp → Prop} {E : XK} {x dx : Addr} (ht : DctAt H t (tabK ts)) (hk : DctAt H k (keyK ks)) (hv : DctAt H v (svK ss)) (hT : Tabs ts m 4) (hK : Keys H ts ks) (hS : Svcs H ts ks ss n) (m1 : 1 ≤ m) (m5 : m ≤ 5) (n1 : 1 ≤ n) (n8 : n ≤ 8)
    (fx : H x = none) (fdx : H dx = none) (ndx : dx ≠ x) (q : ∀ H', SchAt C x H' ts ks ss m n → Same H H' → Q' H') :
    spSInit C (.ref x :: ([.ref t, .ref k, .ref v] ++ [])) (upd (upd H dx (.own x)) x (.ins C dx [])) (fun u H2 => u = .non ∧ Q' H2) E := by
  have s1 := same_upd (o := .own x) fdx
  have f1 : upd H dx (.own x) x = none := by rw [upd_ne ndx.symm]; exact fx
  have s := s1.trans (same_upd (o := .ins C dx []) f1)
  exact ⟨x, dx, t, k, v, ts, ks, ss, m, n, rfl, upd_same, ht.same s, hk.same s, hv.same s, hT, hK.mono fun _ _ e => s _ _ e, hS.mono fun _ _ e => s _ _ e, m1, m5, n1, n8, fun Hz e1 e2 e3 Oz _ _ _ keep => ⟨rfl, q Hz ⟨dx, e1, e2, e3, Oz⟩ fun b u e => keep b u (ne_of_none e fx) (s _ _ e)⟩⟩
section
variable {P : Program} {w : World} {K : PySem.W.Frag} {mg : Str → Option Value} {base : Heap} {a : Nat → Addr} {d : Nat → FuncData}
def spParts : Sp := fun vs H Q _ => ∃ (p ca : Addr) (m more : Nat) (wm : Int) (cps : List (Option Int)), vs = [.ref p, .int (m : Int), .int wm, .ref ca, .int (more : Int)] ∧ PoolAt H p ∧ H ca = some (.lst (cps.map capV)) ∧ ca ≠ p ∧ 1 ≤ m ∧ m + more ≤ 26 ∧ 1 ≤ wm ∧ wm ≤ 100 ∧ 1 ≤ cps.length ∧ cps.length ≤ 100 ∧ (∀ c, some c ∈ cps → 1 ≤ c ∧ c ≤ 4) ∧
  ∀ (l t k v : Addr) (ts : List (Str × Int)) (ks : List KeyE) (ss : List SvE) (H' : Hp), H' l = some (.lst [.ref t, .ref k, .ref v]) → H l = none → H t = none → H k = none → H v = none → t ≠ k → H' t = some (.dK (tabK ts)) → H' k = some (.dK (keyK ks)) → H' v = some (.dK (svK ss)) → Tabs ts m wm → Keys H' ts ks → Svcs H' ts ks ss (m + more) → Chg p H H' → Q (.ref l) H'
theorem ok_parts (T : Txt K mg a d) : FnOk P w K mg base CX0 6 (a 37) (d 37) ["_law_pool_here", "_law_many", "_law_widest", "_law_caps", "_law_more"] spParts := by
  have G33 : FnOk P w K mg base CX0 5 (a 33) (d 33) ["_law_pool_here", "_law_many", "_law_widest"] spTables := ok_tables T
  have G34 : FnOk P w K mg base CX0 4 (a 34) (d 34) ["_law_pool_here", "_law_tables_here"] spKeys := ok_keys T
  have G36 : FnOk P w K mg base CX0 5 (a 36) (d 36) ["_law_pool_here", "_law_tables_here", "_law_keys_here", "_law_caps", "_law_more"] spServices := ok_services T
  refine T.F37.ok sc__law_schema_parts (fun vs H Q E h => ?_) (fun cdv A outer s H vs Q E hr h => ?_)
  · obtain ⟨p, ca, m, more, wm, cps, rfl, _⟩ := h
    rfl
  · obtain ⟨p, ca, m, more, wm, cps, rfl, hP, hca, ncp, hm1, hm2, hw1, hw2, hc1, hc2, hcap, q⟩ := h
    refine ⟨_, (pss_cons (ps_set (i := 5) sc__law_schema_parts.nd rfl (.inl rfl) (pe_call G33 (hr.mono (by decide)) (by rfl) T.g33 T.F33.kp T.b33 .nil pass0 (pa_cons (pv 0) (pa_cons (pv 1) (pa_cons (pv 2) pa_nil)))))
  (pss_cons (ps_set (i := 6) sc__law_schema_parts.nd rfl (.inl rfl) (pe_call G34 (hr.mono (by decide)) (by rfl) T.g34 T.F34.kp T.b34 .nil pass0 (pa_cons (pv 0) (pa_cons (pv 5) pa_nil))))
  (pss_one (ps_ret (pe_lst (pa_cons (pv 5) (pa_cons (pv 6) (pa_cons (pe_call G36 (hr.mono (by decide)) (by rfl) T.g36 T.F36.kp T.b36 .nil pass0 (pa_cons (pv 0) (pa_cons (pv 5) (pa_cons (pv 6) (pa_cons (pv 3) (pa_cons (pv 4) pa_nil)))))) pa_nil)))))))), ?_⟩
    refine ⟨_, rfl, _, rfl, _, rfl, p, m, wm, rfl, hP, by omega, hw1, hw2, fun t ts H1 t0 ht hT C1 => ?_⟩
    refine ⟨_, rfl, _, rfl, p, t, m, ts, rfl, C1.1, ht, hT.up hw2, by omega, fun k ks H2 k0 hk hK C2 => ?_⟩
    have nt : t ≠ p := pool_ne C1.1 ht (by intro _ z; cases z)
    have ht2 := C2.at nt ht
    have nk : k ≠ p := pool_ne C2.1 hk (by intro _ z; cases z)
    have C12 := C1.trans C2
    refine ⟨_, rfl, _, rfl, _, rfl, _, rfl, _, rfl, _, rfl, _, rfl, p, t, k, ca, m, more, ts, ks, cps, rfl, C2.1, ht2, hk, hT.up hw2, hm1, hm2, hK, C12.at ncp hca, ncp, hc1, hc2, hcap, fun v ss H3 v0 hv hS C3 => ⟨by show 3 ≤ sizeLine; decide, fun l hl => ?_⟩⟩
    have C13 := C12.trans C3
    have s3 := same_upd (o := .lst [.ref t, .ref k, .ref v]) hl
    have K3 := hK.mono (chg_tup C2.1 C3)
    exact q l t k v ts ks ss _ upd_same (free_of C13 hP hl) t0 (free_of C1 hP k0) (free_of C12 hP v0) (ne_of_none ht k0) (s3 _ _ (C3.at nt ht2)) (s3 _ _ (C3.at nk hk)) (s3 _ _ hv) hT (K3.mono fun _ _ e => s3 _ _ e) (hS.mono fun _ _ e => s3 _ _ e) (C13.new hl)
end
section
variable {P : Program} {w : World} {K : PySem.W.Frag} {mg : Str → Option Value} {base : Heap} {a : Nat → Addr} {d : Nat → FuncData}
/-! ### == of two schemas -/
def schB (ts : List (Str × Int)) (ks : List KeyE) (ss : List SvE) (ts' : List (Str × Int)) (ks' : List KeyE) (ss' : List SvE) : Bool := eqP (tabP ts) (tabP ts') && (eqP (keyP ks) (keyP ks') && eqP (svP ss) (svP ss'))
theorem sv_toldW {H : Hp} {ts : List (Str × Int)} {ss : List SvE} {m : Nat} {wm : Int} (hT : Tabs ts m wm) (h : ∀ b ∈ ss, SvOk H ts b) : ∀ b ∈ ss, Told H b.at_ b.tab b.ga b.cols b.cap ∧ Wd b.tab := fun b hb => by
  obtain ⟨t, ⟨w, hw, _⟩, _⟩ := h b hb
  exact ⟨t, hT.nm.wd _ (List.mem_map.mpr ⟨_, hw, rfl⟩)⟩
def spSEq (C : Addr) : Sp := fun vs H Q _ => ∃ (p q : Addr) (ts : List (Str × Int)) (ks : List KeyE) (ss : List SvE) (m n : Nat) (ts' : List (Str × Int)) (ks' : List KeyE) (ss' : List SvE) (m' n' : Nat), vs = [.ref p, .ref q] ∧ SchAt C p H ts ks ss m n ∧ SchAt C q H ts' ks' ss' m' n' ∧ Q (.bl (schB ts ks ss ts' ks' ss')) H
theorem ok_seq (T : Txt K mg a d) : FnOk P w K mg base CX0 1 (a 3504) (d 3504) ["self", "other"] (spSEq (a 25)) := by
  refine T.F3504.ok sc_Schema___eq__ (fun vs H Q E h => ?_) (fun cdv A outer s H vs Q E hr h => ?_)
  · obtain ⟨p, q, ts, ks, ss, m, n, ts', ks', ss', m', n', rfl, _⟩ := h
    rfl
  · obtain ⟨p, q, ts, ks, ss, m, n, ts', ks', ss', m', n', rfl, ⟨dx, d1, d2, d3, O⟩, ⟨dy, e1, e2, e3, O'⟩, k⟩ := h
    refine ⟨_, (pss_one (ps_ret (pe_and (pe_callB (id := "isinstance")  (C8.call_isC T.ic_25) (by rfl) T.z_isinstance (by decide +kernel) (pa_cons (pv 1) (pa_cons (pe_glob (v := .ref (a 25)) (by rfl) T.cg_25 rfl) pa_nil))) (pe_and (pe_cmpR (op_eqT (hu_of65 hr)) (pe_fld (pv 0) rfl) (pe_fld (pv 1) rfl) (nomark _)) (pe_and (pe_cmpR (op_eqT (hu_of65 hr)) (pe_fld (pv 0) rfl) (pe_fld (pv 1) rfl) (nomark _)) (pe_one (pe_cmpR (op_eqT (hu_of65 hr)) (pe_fld (pv 0) rfl) (pe_fld (pv 1) rfl) (nomark _)))))))), ?_⟩
    refine ⟨_, rfl, q, dy, _, rfl, O'.ob, true, rfl, ?_⟩
    unfold schB at k
    refine ⟨_, rfl, p, _, dx, _, _, rfl, O.ob, T.cl_25, T.no_25__tables, flds_t _ _ _, _, rfl, q, _, dy, _, _, rfl, O'.ob, T.cl_25, T.no_25__tables, flds_t _ _ _, rEqT_of (ddat_tab O.tb) (ddat_tab O'.tb) (tabP_nd O.hT) (tabP_nd O'.hT) ⟨_, rfl, ?_⟩⟩
    show if eqP (tabP ts) (tabP ts') = true then _ else _
    cases h1 : eqP (tabP ts) (tabP ts') with
    | false =>
      rw [h1] at k
      exact k
    | true =>
      rw [h1, Bool.true_and] at k
      refine ⟨_, rfl, p, _, dx, _, _, rfl, O.ob, T.cl_25, T.no_25__keys, flds_k _ _ _, _, rfl, q, _, dy, _, _, rfl, O'.ob, T.cl_25, T.no_25__keys, flds_k _ _ _, rEqT_of (ddat_key O.ky O.hK) (ddat_key O'.ky O'.hK) (keyP_nd O.hK) (keyP_nd O'.hK) ⟨_, rfl, ?_⟩⟩
      show if eqP (keyP ks) (keyP ks') = true then _ else _
      cases h2 : eqP (keyP ks) (keyP ks') with
      | false =>
        rw [h2] at k
        exact k
      | true =>
        rw [h2, Bool.true_and] at k
        exact ⟨_, rfl, p, _, dx, _, _, rfl, O.ob, T.cl_25, T.no_25__services, flds_s _ _ _, _, rfl, q, _, dy, _, _, rfl, O'.ob, T.cl_25, T.no_25__services, flds_s _ _ _, rEqT_of (ddat_sv O.sv (sv_toldW O.hT O.hS.ok)) (ddat_sv O'.sv (sv_toldW O'.hT O'.hS.ok)) (svP_nd O.hS.nm) (svP_nd O'.hS.nm) k⟩
/-! ### helpers of the law -/
def spPick : Sp := fun vs H Q _ => ∃ (p l : Addr) (xs : List V), vs = [.ref p, .ref l] ∧ PoolAt H p ∧ H l = some (.lst xs) ∧ l ≠ p ∧ 1 ≤ xs.length ∧ xs.length ≤ 1000 ∧ ∀ v H', v ∈ xs → Chg p H H' → Q v H'
theorem ok_pick (T : Txt K mg a d) : FnOk P w K mg base CX0 3 (a 38) (d 38) ["_law_pool_here", "_law_row"] spPick := by
  have G29 : FnOk P w K mg base CX0 2 (a 29) (d 29) ["_law_pool_here", "_law_many"] spDraw := ok_draw T
  refine T.F38.ok sc__law_pick (fun vs H Q E h => ?_) (fun cdv A outer s H vs Q E hr h => ?_)
  · obtain ⟨p, l, xs, rfl, _⟩ := h
    rfl
  · obtain ⟨p, l, xs, rfl, hP, hl, nl, h1, h2, q⟩ := h
    refine ⟨_, (pss_one (ps_ret (pe_ix ix_list (pv 1) (pe_call G29 (hr.mono (by decide)) (by rfl) T.g29 T.F29.kp T.b29 .nil pass0 (pa_cons (pv 0) (pa_cons (pe_callB (id := "len")  call_len_seq (by rfl) T.z_len (by decide +kernel) (pa_cons (pv 1) pa_nil)) pa_nil))) (fun _ _ => rfl)))), ?_⟩
    refine ⟨_, rfl, _, rfl, _, rfl, _, _, rfl, .inl (.of hl), p, _, rfl, hP, by omega, Nat.lt_of_le_of_lt (by omega : _ ≤ 1000) (by decide), fun r H1 r0 r1 C1 => ?_⟩
    obtain ⟨v, hv⟩ := at_some (xs := xs) r0 r1
    exact ⟨l, xs, r, v, rfl, rfl, .of (C1.at nl hl), hv, q v H1 (atI_mem hv) C1⟩
def spTurned : Sp := fun vs H Q _ => ∃ (t : Addr) (kvs : List (Key × V)) (names : List Str), vs = [.ref t] ∧ H t = some (.dK kvs) ∧ kvs.map (·.1) = names.map Sum.inr ∧ names.Nodup ∧ names.length ≤ 100 ∧ ∀ D H', H D = none → DctAt H' D kvs → Same H H' → Q (.ref D) H'
theorem ok_turned (T : Txt K mg a d) : FnOk P w K mg base CX0 1 (a 39) (d 39) ["_law_table"] spTurned := by
  refine T.F39.ok sc__law_turned (fun vs H Q E h => ?_) (fun cdv A outer s H vs Q E hr h => ?_)
  · obtain ⟨t, kvs, names, rfl, _⟩ := h
    rfl
  · obtain ⟨t, kvs, names, rfl, ht, hk, hnd, hl, q⟩ := h
    have nd : (kvs.map (·.1)).Nodup := by
      rw [hk]
      exact inr_nd hnd
    have e0 : kvs.map (fun kv => kV kv.1) = names.map V.str := by
      have : kvs.map (fun kv => kV kv.1) = (kvs.map (·.1)).map kV := by rw [List.map_map]; rfl
      rw [this, hk, List.map_map]
      rfl
    refine ⟨_, (pss_cons (ps_set (i := 1) sc__law_turned.nd rfl (.inl rfl) pe_dnewK)
  (pss_cons (ps_for PassesOwn.never rfl (pi_list (LR.pe_listRev rfl (by rfl) T.z_list (by rfl) T.z_reversed (pe_callTy (T := "list")  (call_listD rfl) (by rfl) T.z_list (by decide +kernel) (pa_cons (pv 0) pa_nil)))) (pg_name (i := 2) sc__law_turned.nd rfl (.inl rfl))
    (pss_one (ps_dput (hu_of hr) (pv 1) (pv 2) (pe_dget (hu_of hr) (pv 0) (pv 2) (fun _ _ => rfl)) rfl)))
  (pss_one (ps_ret (pv 1))))), ?_⟩
    intro D hD
    have sD := same_upd (o := .dK []) hD
    refine ⟨_, rfl, t, kvs, rfl, .inl (sD _ _ ht), fun l hl1 => ?_⟩
    rw [e0]
    have sl := same_upd (o := .lst (names.map V.str)) hl1
    refine ⟨l, _, rfl, .of upd_same, fun r hr1 => ⟨r, rfl, ?_⟩⟩
    have sr := same_upd (o := .lst (names.map V.str).reverse) hr1
    rw [← List.map_reverse] at sr ⊢
    have hD3 : upd (upd (upd H D (.dK [])) l (.lst (names.map V.str))) r (.lst (names.reverse.map V.str)) D = some (.dK []) := sr _ _ (sl _ _ upd_same)
    have ht3 := sr _ _ (sl _ _ (sD _ _ ht))
    have hr3 : upd (upd (upd H D (.dK [])) l (.lst (names.map V.str))) r (.lst (names.reverse.map V.str)) r = some (.lst (names.reverse.map V.str)) := upd_same
    have s3 : Same H (upd (upd (upd H D (.dK [])) l (.lst (names.map V.str))) r (.lst (names.reverse.map V.str))) := (sD.trans sl).trans sr
    generalize upd (upd (upd H D (.dK [])) l (.lst (names.map V.str))) r (.lst (names.reverse.map V.str)) = H3 at *
    have nDr : D ≠ r := ne_of hD3 hr3 (by intro z; cases z)
    have ntD : t ≠ D := ne_of_none ht hD
    have rnd : names.reverse.Nodup := (List.reverse_perm names).nodup_iff.mpr hnd
    have pairs : (names.reverse.map fun n => ((Sum.inr n : Key), (valV kvs (Sum.inr n)).getD .non)).Perm kvs := by
      refine ((List.reverse_perm names).map _).trans (List.Perm.of_eq ?_)
      have e1 : (names.map fun n => ((Sum.inr n : Key), (valV kvs (Sum.inr n)).getD .non)) = (kvs.map (·.1)).map fun k => (k, (valV kvs k).getD .non) := by
        rw [hk, List.map_map]
        rfl
      rw [e1, List.map_map]
      refine Eq.trans (List.map_congr_left (g := id) fun x hx => ?_) (List.map_id _)
      show (x.1, (valV kvs x.1).getD .non) = x
      rw [val_nodup nd x hx]
      rfl
    refine ⟨⟨_, .of hr3⟩, for_list (K := K) (a := r) (xs := names.reverse.map V.str) (fun i σ H' => ∃ y2 : Option V, σ = [some (.ref t), some (.ref D), y2] ∧ H' D = some (.dK ((names.reverse.take i).map fun n => ((Sum.inr n : Key), (valV kvs (Sum.inr n)).getD .non))) ∧ (∀ b o, b ≠ D → H3 b = some o → H' b = some o)) ⟨none, rfl, hD3, fun _ _ _ e => e⟩ (fun i σ H' _ hp => ?_) (fun i y σ H' hy hp => ?_) (fun σ H' hp => ?_)⟩
    · obtain ⟨y2, rfl, _, o⟩ := hp
      exact .of (o _ _ nDr.symm hr3)
    · obtain ⟨y2, rfl, hD', o⟩ := hp
      obtain ⟨n, hn, rfl⟩ := map_at hy
      have hmem : n ∈ names := List.mem_reverse.mp (List.mem_of_getElem? hn)
      have hv : ∃ v, valV kvs (Sum.inr n) = some v := by
        have : (Sum.inr n : Key) ∈ kvs.map (·.1) := by
          rw [hk]
          exact List.mem_map.mpr ⟨n, hmem, rfl⟩
        obtain ⟨x, hx, e⟩ := List.mem_map.mp this
        exact ⟨x.2, by rw [← e]; exact val_nodup nd x hx⟩
      obtain ⟨v, hv⟩ := hv
      refine ⟨_, rfl, _, rfl, t, v, rfl, DctAt.at_ (.of (o _ _ ntD ht3)) nd hv, _, rfl, _, rfl, D, _, rfl, DPut.k (k := Sum.inr n) hD' ?_, _, rfl, ?_, fun b u nb e => ?_⟩
      · rw [List.length_map, List.length_take, List.length_reverse]
        exact small1000 (by omega)
      · rw [map_take hn, hv]
        refine Eq.trans upd_same (congrArg (fun x => some (HO.dK x)) ?_)
        rw [putK_new _ (valV_no ?_)]
        · rfl
        · rw [List.map_map]
          exact inr_no (nd_take rnd hn)
      · rw [upd_ne nb]
        exact o b u nb e
    · obtain ⟨y2, rfl, hD', o⟩ := hp
      rw [List.length_map, List.take_length] at hD'
      exact ⟨_, rfl, q D H' hD ⟨_, hD', pairs⟩ fun b u e => o b u (ne_of_none e hD) (s3 _ _ e)⟩
end
section
variable {P : Program} {w : World} {K : PySem.W.Frag} {mg : Str → Option Value} {base : Heap} {a : Nat → Addr} {d : Nat → FuncData}
/-- the list of a dict's keys, at l -/
theorem DctAt.keysL {H : Hp} {t : Addr} {kvs : List (Key × V)} {names : List Str} (h : DctAt H t kvs) (hk : kvs.map (·.1) = names.map Sum.inr) : ∃ (kd : List (Key × V)) (zs : List Str), H t = some (.dK kd) ∧ kd.map (fun kv => kV kv.1) = zs.map V.str ∧ zs.Perm names := by
  obtain ⟨kd, e, p⟩ := h
  have p1 := p.map (·.1)
  rw [hk] at p1
  obtain ⟨zs, z1, z2⟩ := perm_map_ex p1 names rfl
  exact ⟨kd, zs, e, kd_names z2.symm, z1⟩
def spChanged : Sp := fun vs H Q _ => ∃ (p t k v : Addr) (m n : Nat) (ts : List (Str × Int)) (ks : List KeyE) (ss : List SvE), vs = [.ref p, .ref t, .ref k, .ref v] ∧ t ≠ k ∧ t ≠ v ∧ k ≠ v ∧ 1 ≤ m ∧ 1 ≤ n ∧ Ch3 p t k v m n H H ts ks ss ∧
  ∀ ts' ks' ss' H', Ch3 p t k v m n H H' ts' ks' ss' → Q .non H'
theorem ok_changed (T : Txt K mg a d) : FnOk P w K mg base CX0 4 (a 40) (d 40) ["_law_pool_here", "_law_tables_here", "_law_keys_here", "_law_services_here"] spChanged := by
  have G29 : FnOk P w K mg base CX0 2 (a 29) (d 29) ["_law_pool_here", "_law_many"] spDraw := ok_draw T
  have G38 : FnOk P w K mg base CX0 3 (a 38) (d 38) ["_law_pool_here", "_law_row"] spPick := ok_pick T
  refine T.F40.ok sc__law_changed (fun vs H Q E h => ?_) (fun cdv A outer s H vs Q E hr h => ?_)
  · obtain ⟨p, t, k, v, m, n, ts, ks, ss, rfl, _⟩ := h
    rfl
  · obtain ⟨p, t, k, v, m, n, ts, ks, ss, rfl, ntk, ntv, nkv, hm1, hn1, C0, q⟩ := h
    refine ⟨_, (pss_cons (ps_set (i := 4) sc__law_changed.nd rfl (.inl rfl) (pe_call G29 (hr.mono (by decide)) (by rfl) T.g29 T.F29.kp T.b29 .nil pass0 (pa_cons (pv 0) (pa_cons pe_int pa_nil))))
  (Evl.pss_cut (ps_if (pt_cmpR op_eq (pv 4) pe_int (nomark _))
    (pss_cons (ps_setLc (i := 5) (own := [("_law_name", 6)]) rfl sc__law_changed.nd rfl rfl (sw_true rfl rfl rfl (by decide +kernel)) (pi_list (pe_callTy (T := "list")  (call_listD rfl) (by rfl) T.z_list (by decide +kernel) (pa_cons (pv 1) pa_nil))) (blkOk_by (N := ["_law_pool_here", "_law_tables_here", "_law_keys_here", "_law_services_here", "_law_kind", "_law_free", "_law_name"]) (sc := defScope s__law_changed) (by decide +kernel)) (fun _ _ _ _ _ => pg_name (i := 6) sc__law_changed.nd rfl (.inl rfl)) (fun _ _ _ _ _ => (pts_one (pt_cmpR op_lt (pe_dget (hu_of hr) (pv 1) (pv 6) (fun _ _ => rfl)) pe_int (nomark _)))) (fun _ _ _ _ _ => (pv 6)))
      (pss_one (ps_if (pt_cmpR (op_neD (hu_of64 hr)) (pv 5) (pe_lst pa_nil) (nomark _))
        (pss_cons (ps_set (i := 6) sc__law_changed.nd rfl (.inl rfl) (pe_call G38 (hr.mono (by decide)) (by rfl) T.g38 T.F38.kp T.b38 .nil pass0 (pa_cons (pv 0) (pa_cons (pv 5) pa_nil))))
          (pss_one (ps_dput (hu_of hr) (pv 1) (pv 6) (pe_op op_add (pe_dget (hu_of hr) (pv 1) (pv 6) (fun _ _ => rfl)) pe_int) rfl)))
        pss_nil)))
    pss_nil)
  (Evl.pss_cut (ps_if (pt_cmpR op_eq (pv 4) pe_int (nomark _))
    (pss_cons (ps_set (i := 6) sc__law_changed.nd rfl (.inl rfl) (pe_call G38 (hr.mono (by decide)) (by rfl) T.g38 T.F38.kp T.b38 .nil pass0 (pa_cons (pv 0) (pa_cons (pe_callTy (T := "list")  (call_listD rfl) (by rfl) T.z_list (by decide +kernel) (pa_cons (pv 1) pa_nil)) pa_nil))))
      (pss_one (ps_if (pt_cmp (pc_din (hu_of hr) (pv 6) (pv 2)))
        (pss_one (ps_expr (pe_dpop1 (pv 2) (pv 6) ⟨rfl, rfl, rfl, rfl⟩)))
        (pss_one (ps_if (pt_cmpR op_gt (pe_dget (hu_of hr) (pv 1) (pv 6) (fun _ _ => rfl)) pe_int (nomark _))
            (pss_one (ps_dput (hu_of hr) (pv 2) (pv 6) (pe_tup (pa_cons (pe_op op_sub (pe_dget (hu_of hr) (pv 1) (pv 6) (fun _ _ => rfl)) pe_int) pa_nil)) rfl))
            pss_nil)))))
    pss_nil)
  (pss_one (ps_if (pt_cmpR op_eq (pv 4) pe_int (nomark _))
    (pss_cons (ps_set (i := 6) sc__law_changed.nd rfl (.inl rfl) (pe_call G38 (hr.mono (by decide)) (by rfl) T.g38 T.F38.kp T.b38 .nil pass0 (pa_cons (pv 0) (pa_cons (pe_callTy (T := "list")  (call_listD rfl) (by rfl) T.z_list (by decide +kernel) (pa_cons (pv 3) pa_nil)) pa_nil))))
      (pss_one (ps_dput (hu_of hr) (pv 3) (pv 6) (pe_tup (pa_cons (pe_ix ix_tup (pe_dget (hu_of hr) (pv 3) (pv 6) (fun _ _ => rfl)) pe_int (fun _ _ => rfl)) (pa_cons (pe_ix ix_tup (pe_dget (hu_of hr) (pv 3) (pv 6) (fun _ _ => rfl)) pe_int (fun _ _ => rfl)) (pa_cons pe_non pa_nil)))) rfl)))
    pss_nil))))), ?_⟩
    have hmm := C0.mm
    have hnn := C0.nn
    refine ⟨_, rfl, p, 3, rfl, C0.pool, by decide, by decide, fun r H1 r0 r1 c1 => ?_⟩
    -- a table wider
    refine ⟨fun σ H' => ∃ (y5 y6 : Option V) (ts' : List (Str × Int)), σ = [some (.ref p), some (.ref t), some (.ref k), some (.ref v), some (.int r), y5, y6] ∧ Ch3 p t k v m n H H' ts' ks ss, ?_, ?_⟩
    · refine ⟨_, rfl, rfl, _, rfl, ite_eqI (fun _ => ?_) (fun _ => ⟨none, none, ts, rfl, C0.chg c1⟩)⟩
      have C1 := C0.chg c1
      obtain ⟨kd, zs, ekd, ezs, pz⟩ := C1.tb.keysL (keys_tab ts)
      have lz : zs.length = m := by rw [pz.length_eq, C1.hT.nm.len]
      refine ⟨_, rfl, t, kd, rfl, .inl ekd, fun l hl => ⟨l, rfl, ?_⟩⟩
      rw [ezs]
      have sl := same_upd (o := .lst (zs.map V.str)) hl
      refine ⟨⟨_, .of upd_same⟩, fun D hD => ?_⟩
      refine lc_list (K := K) (a := l) (xs := zs.map V.str) (fun i H' => ∃ fs : List Str, H' D = some (.lst (fs.map V.str)) ∧ fs.length ≤ i ∧ (∀ x ∈ fs, ∃ w, (x, w) ∈ ts ∧ w < 4) ∧ Same (upd H1 l (.lst (zs.map V.str))) H') ⟨[], upd_same, Nat.le_refl _, (fun x hx => by cases hx), same_upd hD⟩ (fun i H' _ hp => ?_) (fun i x H' hx hp => ?_) (fun H' hp => ?_)
      · obtain ⟨fs, _, _, _, s2⟩ := hp
        exact .of (s2 _ _ upd_same)
      · obtain ⟨fs, h1, h2, h3, s2⟩ := hp
        obtain ⟨nm, hn, rfl⟩ := map_at hx
        have hi : i < zs.length := (List.getElem?_eq_some_iff.mp hn).1
        obtain ⟨⟨nm', w⟩, hm, e⟩ := List.mem_map.mp (pz.mem_iff.mp (List.mem_of_getElem? hn))
        obtain rfl : nm' = nm := e
        have C2 := (C1.same sl).same s2
        refine ⟨rfl, _, rfl, _, rfl, t, _, rfl, C2.tb.at_ (tab_nd C2.hT) (tab_val C2.hT hm), _, _, rfl, rfl, _, rfl, ite_d (fun hw => ?_) (fun hw => ?_)⟩
        · refine ⟨_, rfl, _, h1, ?_, fs ++ [nm'], ?_, ?_, fun x hx => ?_, fun b u e => ?_⟩
          · rw [List.length_map]
            exact small1000 (by omega)
          · rw [snoc_map]
            exact upd_same
          · rw [List.length_append, List.length_singleton]
            omega
          · rcases List.mem_append.mp hx with h | h
            · exact h3 x h
            · rw [List.mem_singleton.mp h]
              exact ⟨w, hm, hw⟩
          · rw [upd_ne (ne_of_none e hD)]
            exact s2 b u e
        · exact ⟨fs, h1, Nat.le_succ_of_le h2, h3, s2⟩
      · obtain ⟨fs, h1, h2, h3, s2⟩ := hp
        rw [List.length_map, lz] at h2
        have C2 := (C1.same sl).same s2
        have hlow : ∀ s ∈ fs, Low s := fun s hs => by
          obtain ⟨w, hw, _⟩ := h3 s hs
          exact wd_low (C2.hT.nm.wd _ (List.mem_map.mpr ⟨_, hw, rfl⟩))
        refine ⟨_, rfl, Nat.zero_le _, fun e he => ⟨_, .list [], .lst (.of (same_upd he _ _ h1)) (dp_strs _), .lst (.of upd_same) .nil, strs_shapedL hlow, by decide, _, rfl, ?_⟩⟩
        have se := same_upd (o := .lst []) he
        have C3 := C2.same se
        rw [eqv_nilL]
        cases fs with
        | nil => exact ⟨_, _, ts, rfl, C3⟩
        | cons f fs =>
          have nD : D ≠ p := pool_ne' (C1.pool.same sl) hD
          refine ⟨_, rfl, _, rfl, p, D, _, rfl, C3.pool, se _ _ h1, nD, by simp, ?_, fun x H4 hx c4 => ?_⟩
          · rw [List.length_map]
            omega
          · obtain ⟨nm, hnm, rfl⟩ := List.mem_map.mp hx
            obtain ⟨w, hm, hw⟩ := h3 nm hnm
            have C4 := C3.chg c4
            obtain ⟨kd4, e4, l4, C5⟩ := C4.putT ntk ntv (w' := w + 1) hm (by omega) (by omega)
            exact ⟨_, rfl, _, rfl, t, _, rfl, C4.tb.at_ (tab_nd C4.hT) (tab_val C4.hT hm), _, _, rfl, rfl, _, rfl, _, rfl, t, _, rfl, DPut.k (k := Sum.inr nm) e4 l4, _, _, _, rfl, C5⟩
    · rintro σ H2 ⟨y5, y6, ts2, rfl, C2⟩
      -- a key less or more
      refine ⟨fun σ H' => ∃ (y5 y6 : Option V) (ts' : List (Str × Int)) (ks' : List KeyE), σ = [some (.ref p), some (.ref t), some (.ref k), some (.ref v), some (.int r), y5, y6] ∧ Ch3 p t k v m n H H' ts' ks' ss, ?_, ?_⟩
      · refine ⟨_, rfl, rfl, _, rfl, ite_eqI (fun _ => ?_) (fun _ => ⟨_, _, ts2, ks, rfl, C2⟩)⟩
        obtain ⟨kd, zs, ekd, ezs, pz⟩ := C2.tb.keysL (keys_tab ts2)
        have lz : zs.length = m := by rw [pz.length_eq, C2.hT.nm.len]
        refine ⟨_, rfl, _, rfl, t, kd, rfl, .inl ekd, fun l hl => ?_⟩
        rw [ezs]
        have sl := same_upd (o := .lst (zs.map V.str)) hl
        refine ⟨p, l, zs.map V.str, rfl, C2.pool.same sl, upd_same, pool_ne' C2.pool hl, by rw [List.length_map]; omega, by rw [List.length_map]; omega, fun x H3 hx c3 => ?_⟩
        obtain ⟨nm, hnm, rfl⟩ := List.mem_map.mp hx
        obtain ⟨⟨nm', w⟩, hm, e⟩ := List.mem_map.mp (pz.mem_iff.mp hnm)
        obtain rfl : nm' = nm := e
        have C3 := (C2.same sl).chg c3
        have gk := C3.ky.get (key_nd C3.hT C3.hK) (Sum.inr nm')
        rw [keyAt_val] at gk
        refine ⟨_, rfl, _, rfl, k, _, rfl, gk, _, rfl, ?_⟩
        cases e3 : keyAt ks nm' with
        | some b =>
          obtain ⟨kd3, ek3, vk3, C4⟩ := C3.dropK_ ntk nkv e3
          exact ⟨_, rfl, k, rfl, .inl ⟨kd3, .inl ek3⟩, _, rfl, kd3, Sum.inr nm', _, ek3, rfl, vk3, _, _, ts2, _, rfl, C4⟩
        | none =>
          refine ⟨_, rfl, _, rfl, t, _, rfl, C3.tb.at_ (tab_nd C3.hT) (tab_val C3.hT hm), _, _, rfl, rfl, _, rfl, ite_d (fun hw => ?_) (fun _ => ⟨_, _, ts2, ks, rfl, C3⟩)⟩
          refine ⟨_, rfl, _, rfl, t, _, rfl, C3.tb.at_ (tab_nd C3.hT) (tab_val C3.hT hm), _, _, rfl, rfl, by show 1 ≤ sizeLine; decide, fun x hx => ?_⟩
          have C4 := C3.same (same_upd (o := .tup [.int (w - 1)]) hx)
          have hno : nm' ∉ ks.map (·.1) := fun hm => by
            obtain ⟨b, hb, e⟩ := List.mem_map.mp hm
            unfold keyAt at e3
            have := List.find?_eq_none.mp e3 b hb
            simp [e] at this
          obtain ⟨kd4, ek4, lk4, C5⟩ := C4.putK_ ntk nkv hm hw hno upd_same
          exact ⟨_, rfl, _, rfl, k, _, rfl, DPut.k (k := Sum.inr nm') ek4 lk4, _, _, ts2, _, rfl, C5⟩
      · rintro σ H3 ⟨y5, y6, ts3, ks3, rfl, C3⟩
        refine ⟨_, rfl, rfl, _, rfl, ite_eqI (fun _ => ?_) (fun _ => q _ _ _ _ C3)⟩
        obtain ⟨kd, zs, ekd, ezs, pz⟩ := C3.sv.keysL (keys_sv ss)
        have lz : zs.length = n := by rw [pz.length_eq, C3.nm.len]
        refine ⟨_, rfl, _, rfl, v, kd, rfl, .inl ekd, fun l hl => ?_⟩
        rw [ezs]
        have sl := same_upd (o := .lst (zs.map V.str)) hl
        refine ⟨p, l, zs.map V.str, rfl, C3.pool.same sl, upd_same, pool_ne' C3.pool hl, by rw [List.length_map]; omega, by rw [List.length_map]; omega, fun x H4 hx c4 => ?_⟩
        obtain ⟨nm, hnm, rfl⟩ := List.mem_map.mp hx
        obtain ⟨b, hb, rfl⟩ := List.mem_map.mp (pz.mem_iff.mp hnm)
        have C4 := (C3.same sl).chg c4
        have nd4 : ((svK ss).map (·.1)).Nodup := by rw [keys_sv]; exact inr_nd C4.nm.nd
        have vb : valV (svK ss) (Sum.inr b.name) = some (.ref b.at_) := val_nodup (kvs := svK ss) nd4 (Sum.inr b.name, V.ref b.at_) (List.mem_map.mpr ⟨b, hb, rfl⟩)
        have ht := (C4.hS b hb).told
        refine ⟨_, rfl, _, rfl, v, _, rfl, C4.sv.at_ nd4 vb, _, _, _, _, rfl, rfl, .of ht.tup, atI_nat (j := 0) rfl, _, rfl, _, rfl, v, _, rfl, C4.sv.at_ nd4 vb, _, _, _, _, rfl, rfl, .of ht.tup, atI_nat (j := 1) rfl, by show 3 ≤ sizeLine; decide, fun x hx => ?_⟩
        have C5 := C4.same (same_upd (o := .tup [.str b.tab, .ref b.ga, .non]) hx)
        obtain ⟨kd5, ek5, lk5, ss', C6⟩ := C5.putS ntv nkv hb upd_same
        exact ⟨_, rfl, _, rfl, v, _, rfl, DPut.k (k := Sum.inr b.name) ek5 lk5, q _ _ _ _ C6⟩
end
section
variable {P : Program} {w : World} {K : PySem.W.Frag} {mg : Str → Option Value} {base : Heap} {a : Nat → Addr} {d : Nat → FuncData}
def spFits : Sp := fun vs H Q _ => ∃ (t k v : Addr) (m n : Nat) (ts : List (Str × Int)) (ks : List KeyE) (ss : List SvE), vs = [.ref t, .ref k, .ref v] ∧ DctAt H t (tabK ts) ∧ DctAt H k (keyK ks) ∧ DctAt H v (svK ss) ∧ Tabs ts m 4 ∧ Keys H ts ks ∧ (∀ b ∈ ss, SvOk H ts b) ∧ Nms (ss.map (·.name)) n ∧ n ≤ 26 ∧
  ∀ H', Same H H' → Q (.bl (decide (fillE ts ks ss).Nodup)) H'
theorem ok_fits (T : Txt K mg a d) : FnOk P w K mg base CX0 4 (a 41) (d 41) ["_law_tables_here", "_law_keys_here", "_law_services_here"] spFits := by
  have G35 : FnOk P w K mg base CX0 3 (a 35) (d 35) ["_law_tables_here", "_law_keys_here", "_law_told"] spWhole := ok_is_whole T
  refine T.F41.ok sc__law_fits (fun vs H Q E h => ?_) (fun cdv A outer s H vs Q E hr h => ?_)
  · obtain ⟨t, k, v, m, n, ts, ks, ss, rfl, _⟩ := h
    rfl
  · obtain ⟨t, k, v, m, n, ts, ks, ss, rfl, ht, hk, hv, hT, hK, hS, hN, hn, q⟩ := h
    obtain ⟨kd, zs, ekd, ezs, pz⟩ := hv.keysL (keys_sv ss)
    obtain ⟨L, hLp, eL⟩ := perm_map_ex pz ss rfl
    subst eL
    have lL : L.length = n := by rw [← hN.len, List.length_map, hLp.length_eq]
    have ndS : ((svK ss).map (·.1)).Nodup := by rw [keys_sv]; exact inr_nd hN.nd
    refine ⟨_, (pss_cons (ps_set (i := 3) sc__law_fits.nd rfl (.inl rfl) (pe_lst pa_nil))
  (pss_cons (ps_for PassesOwn.never rfl (pi_list (pe_callTy (T := "list")  (call_listD rfl) (by rfl) T.z_list (by decide +kernel) (pa_cons (pv 2) pa_nil))) (pg_name (i := 4) sc__law_fits.nd rfl (.inl rfl))
    (pss_one (ps_if (pt_not (pt_val (pe_call G35 (hr.mono (by decide)) (by rfl) T.g35 T.F35.kp T.b35 .nil pass0 (pa_cons (pv 0) (pa_cons (pv 1) (pa_cons (pe_dget (hu_of hr) (pv 2) (pv 4) (fun _ _ => rfl)) pa_nil))))))
        (pss_cons (ps_if (pt_cmpR op_in_seq (pe_ix ix_tup (pe_dget (hu_of hr) (pv 2) (pv 4) (fun _ _ => rfl)) pe_int (fun _ _ => rfl)) (pv 3) (by rfl))
            (pss_one (ps_ret pe_bl))
            pss_nil)
          (pss_one (ps_expr (pe_bm PySem.F.plainAttrs_list PySem.F.slot_list_append PySem.F.type_list_append mt_append (pv 3) (pa_cons (pe_ix ix_tup (pe_dget (hu_of hr) (pv 2) (pv 4) (fun _ _ => rfl)) pe_int (fun _ _ => rfl)) pa_nil)))))
        pss_nil)))
  (pss_one (ps_ret pe_bl)))), ?_⟩
    refine ⟨Nat.zero_le _, fun f hf => ?_⟩
    have s0 := same_upd (o := .lst []) hf
    refine ⟨_, rfl, v, kd, rfl, .inl (s0 _ _ ekd), fun l hl => ⟨l, rfl, ?_⟩⟩
    rw [ezs]
    have s1 := same_upd (o := .lst ((L.map (·.name)).map V.str)) hl
    have nfl : f ≠ l := ne_of_none upd_same hl
    refine ⟨⟨_, .of upd_same⟩, for_list (K := K) (a := l) (xs := (L.map (·.name)).map V.str) (fun i σ H' => ∃ y4 : Option V, σ = [some (.ref t), some (.ref k), some (.ref v), some (.ref f), y4] ∧ H' l = some (.lst ((L.map (·.name)).map V.str)) ∧ H' f = some (.lst ((fillE ts ks (L.take i)).map V.str)) ∧ (fillE ts ks (L.take i)).Nodup ∧ Same H H')
      ⟨none, rfl, upd_same, s1 _ _ upd_same, List.nodup_nil, s0.trans s1⟩ (fun i σ H' _ hp => ?_) (fun i y σ H' hy hp => ?_) (fun σ H' hp => ?_)⟩
    · obtain ⟨y4, rfl, hl', _⟩ := hp
      exact .of hl'
    · obtain ⟨y4, rfl, hl', hf', hnd, sm⟩ := hp
      obtain ⟨nm, hn', rfl⟩ := map_at hy
      obtain ⟨b, hb, rfl⟩ := map_at hn'
      have hm : b ∈ ss := hLp.mem_iff.mp (List.mem_of_getElem? hb)
      obtain ⟨htold, ⟨w', hw', hcols, hcl⟩, hcap⟩ := hS b hm
      have hw2 := widthAt_mem hT.nm.nd hw'
      have vb : valV (svK ss) (Sum.inr b.name) = some (.ref b.at_) := val_nodup (kvs := svK ss) ndS (Sum.inr b.name, V.ref b.at_) (List.mem_map.mpr ⟨b, hm, rfl⟩)
      have tk : L.take (i + 1) = L.take i ++ [b] := by
        rw [List.take_add_one, hb]
        rfl
      have fs := fillE_snoc ts ks (L.take i) b
      rw [← tk] at fs
      have we : whE ts ks b = isWh w' ks b.tab b.cols b.cap := by
        unfold whE
        rw [hw2]
      refine ⟨_, rfl, _, rfl, _, rfl, _, rfl, v, _, rfl, (hv.same sm).at_ ndS vb, t, k, b.at_, b.ga, m, ts, ks, b.tab, w', b.cols, b.cap, rfl, ht.same sm, hk.same sm, hT.up (by decide), hK.mono fun _ _ e => sm _ _ e, htold.mono fun _ _ e => sm _ _ e, hw', by omega, fun H2 s2 => ⟨_, rfl, ?_⟩⟩
      have sm2 := sm.trans s2
      cases ew : isWh w' ks b.tab b.cols b.cap with
      | true =>
        rw [we, ew, if_pos rfl, List.append_nil] at fs
        exact ⟨_, rfl, s2 _ _ hl', by rw [fs]; exact s2 _ _ hf', by rw [fs]; exact hnd, sm2⟩
      | false =>
        rw [we, ew, if_neg (by decide)] at fs
        have hat := htold.tup
        refine ⟨_, rfl, _, rfl, v, _, rfl, (hv.same sm2).at_ ndS vb, _, _, _, _, rfl, rfl, .of (sm2 _ _ hat), atI_nat (j := 0) rfl, _, rfl, f, _, rfl, .inl (.of (s2 _ _ hf')), rfl, flat_strs _, _, rfl, ?_⟩
        show if inV (.str b.tab) ((fillE ts ks (L.take i)).map V.str) = true then _ else _
        rw [inV_strs]
        refine ite_d (fun hin => ?_) (fun hno => ?_)
        · have : decide (fillE ts ks ss).Nodup = false := by
            refine decide_eq_false fun nd => ?_
            have nd2 : (fillE ts ks (L.take (i + 1))).Nodup := ((fillE_perm hLp).nodup_iff.mpr nd).sublist (fillE_take L (i + 1))
            rw [fs] at nd2
            exact (List.nodup_append.mp nd2).2.2 b.tab hin b.tab (by simp) rfl
          have qq := q H2 sm2
          rw [this] at qq
          exact qq
        · refine ⟨_, rfl, .inl ⟨rfl, _, .of (s2 _ _ hf')⟩, _, rfl, _, rfl, v, _, rfl, (hv.same sm2).at_ ndS vb, _, _, _, _, rfl, rfl, .of (sm2 _ _ hat), atI_nat (j := 0) rfl, f, _, _, rfl, rfl, s2 _ _ hf', ?_, _, rfl, ?_, ?_, ?_, ?_⟩
          · rw [List.length_map]
            unfold fillE
            rw [List.length_map]
            have l1 := List.length_filter_le (fun b => !whE ts ks b) (L.take i)
            rw [List.length_take] at l1
            exact Nat.lt_of_le_of_lt (by omega : _ ≤ 26) (by decide)
          · rw [upd_ne nfl.symm]
            exact s2 _ _ hl'
          · rw [fs, List.map_append]
            exact upd_same
          · rw [fs]
            exact List.nodup_append.mpr ⟨hnd, by simp, fun a ha b' hb' e => hno (by rw [← List.mem_singleton.mp hb', ← e]; exact ha)⟩
          · intro x o ex
            rw [upd_ne (ne_of_none ex hf)]
            exact sm2 x o ex
    · obtain ⟨y4, rfl, hl', hf', hnd, sm⟩ := hp
      rw [List.length_map, List.length_map, List.take_length] at hnd
      have : decide (fillE ts ks ss).Nodup = true := decide_eq_true ((fillE_perm hLp).nodup_iff.mp hnd)
      have qq := q H' sm
      rw [this] at qq
      exact qq
end
section
variable {P : Program} {w : World} {K : PySem.W.Frag} {mg : Str → Option Value} {base : Heap} {a : Nat → Addr} {d : Nat → FuncData}
theorem toldMono {H H' : Hp} {ss : List SvE} (h : ∀ b ∈ ss, Told H b.at_ b.tab b.ga b.cols b.cap) (m : ∀ b xs, H b = some (.tup xs) → H' b = some (.tup xs)) : ∀ b ∈ ss, Told H' b.at_ b.tab b.ga b.cols b.cap := fun b hb => (h b hb).mono m
def spUDue : Sp := fun vs H Q _ => ∃ (v l : Addr) (n : Nat) (ss : List SvE) (names : List Str), vs = [.ref v, .ref l] ∧ H v = some (.dK (svK ss)) ∧ H l = some (.lst (names.map V.str)) ∧ (∀ b ∈ ss, Told H b.at_ b.tab b.ga b.cols b.cap) ∧ Nms (ss.map (·.name)) n ∧ n ≤ 26 ∧
  ∀ D ss' H', H D = none → H' D = some (.dK (svK ss')) → Unc ss ss' (fun x => decide (x ∈ names)) → (∀ b ∈ ss', Told H' b.at_ b.tab b.ga b.cols b.cap) → Same H H' → Q (.ref D) H'
theorem ok_udue (T : Txt K mg a d) : FnOk P w K mg base CX0 1 (a 42) (d 42) ["_law_services_here", "_law_names_here"] spUDue := by
  refine T.F42.ok sc__law_uncapped_due (fun vs H Q E h => ?_) (fun cdv A outer s H vs Q E hr h => ?_)
  · obtain ⟨v, l, n, ss, names, rfl, _⟩ := h
    rfl
  · obtain ⟨v, l, n, ss, names, rfl, hv, hl, hS, hN, hn, q⟩ := h
    have ndS : ((svK ss).map (·.1)).Nodup := by rw [keys_sv]; exact inr_nd hN.nd
    have lss : ss.length = n := by rw [← hN.len, List.length_map]
    refine ⟨_, (pss_cons (ps_set (i := 2) sc__law_uncapped_due.nd rfl (.inl rfl) pe_dnewK)
  (pss_cons (ps_for PassesOwn.never rfl (pi_list (pe_callTy (T := "list")  (call_listD rfl) (by rfl) T.z_list (by decide +kernel) (pa_cons (pv 0) pa_nil))) (pg_name (i := 3) sc__law_uncapped_due.nd rfl (.inl rfl))
    (pss_cons (ps_asg (pe_dget (hu_of hr) (pv 0) (pv 3) (fun _ _ => rfl)) (pg_tup rfl (pgs_cons (pg_name (i := 4) sc__law_uncapped_due.nd rfl (.inl rfl)) (pgs_cons (pg_name (i := 5) sc__law_uncapped_due.nd rfl (.inl rfl)) (pgs_cons (pg_name (i := 6) sc__law_uncapped_due.nd rfl (.inl rfl)) pgs_nil)))))
      (Evl.pss_cut (ps_if (pt_cmpR op_in_seq (pv 3) (pv 1) (by rfl))
        (pss_one (ps_set (i := 6) sc__law_uncapped_due.nd rfl (.inl rfl) pe_non))
        pss_nil)
      (pss_one (ps_dput (hu_of hr) (pv 2) (pv 3) (pe_tup (pa_cons (pv 4) (pa_cons (pv 5) (pa_cons (pv 6) pa_nil)))) rfl)))))
  (pss_one (ps_ret (pv 2))))), ?_⟩
    intro D hD
    have s0 := same_upd (o := .dK []) hD
    refine ⟨_, rfl, v, svK ss, rfl, .inl (s0 _ _ hv), fun r hr1 => ⟨r, rfl, ?_⟩⟩
    rw [kd_names (keys_sv ss)]
    have s1 := same_upd (o := .lst ((ss.map (·.name)).map V.str)) hr1
    have nDr : D ≠ r := ne_of_none upd_same hr1
    have sr := s0.trans s1
    refine ⟨⟨_, .of upd_same⟩, for_list (K := K) (a := r) (xs := (ss.map (·.name)).map V.str) (fun i σ H' => ∃ (ss' : List SvE) (y3 y4 y5 y6 : Option V), σ = [some (.ref v), some (.ref l), some (.ref D), y3, y4, y5, y6] ∧ H' r = some (.lst ((ss.map (·.name)).map V.str)) ∧ H' D = some (.dK (svK ss')) ∧ Unc (ss.take i) ss' (fun x => decide (x ∈ names)) ∧ (∀ b ∈ ss', Told H' b.at_ b.tab b.ga b.cols b.cap) ∧ Same H H')
      ⟨[], none, none, none, none, rfl, upd_same, s1 _ _ upd_same, rfl, (fun b hb => by cases hb), sr⟩ (fun i σ H' _ hp => ?_) (fun i y σ H' hy hp => ?_) (fun σ H' hp => ?_)⟩
    · obtain ⟨ss', y3, y4, y5, y6, rfl, hr', _⟩ := hp
      exact .of hr'
    · obtain ⟨ss', y3, y4, y5, y6, rfl, hr', hD', hU, hT', sm⟩ := hp
      obtain ⟨nm, hn', rfl⟩ := map_at hy
      obtain ⟨b, hb, rfl⟩ := map_at hn'
      have hm : b ∈ ss := List.mem_of_getElem? hb
      have hi : i < ss.length := (List.getElem?_eq_some_iff.mp hb).1
      have ht := (hS b hm).mono fun _ _ e => sm _ _ e
      have vb : valV (svK ss) (Sum.inr b.name) = some (.ref b.at_) := val_nodup (kvs := svK ss) ndS (Sum.inr b.name, V.ref b.at_) (List.mem_map.mpr ⟨b, hm, rfl⟩)
      have tk : ss.take (i + 1) = ss.take i ++ [b] := by
        rw [List.take_add_one, hb]
        rfl
      have hnm : ss'.map (·.name) = (ss.take i).map (·.name) := by
        have := congrArg (List.map Prod.fst) hU
        rw [List.map_map, List.map_map] at this
        exact this
      have lss' : ss'.length ≤ 26 := by
        have := congrArg List.length hnm
        rw [List.length_map, List.length_map, List.length_take] at this
        omega
      have hnew : b.name ∉ ss'.map (·.name) := by
        rw [hnm, List.map_take]
        exact nd_take hN.nd hn'
      refine ⟨_, rfl, _, rfl, v, _, rfl, DctAt.at_ (.of (sm _ _ hv)) ndS vb, b.at_, _, rfl, .of ht.tup, rfl, _, _, rfl, _, _, rfl, _, _, rfl, rfl, ?_⟩
      refine ⟨fun σ H'' => H'' = H' ∧ σ = [some (.ref v), some (.ref l), some (.ref D), some (.str b.name), some (.str b.tab), some (.ref b.ga), some (capV (if decide (b.name ∈ names) = true then none else b.cap))], ?_, ?_⟩
      · refine ⟨_, rfl, _, rfl, l, _, rfl, .inl (.of (sm _ _ hl)), rfl, flat_strs _, _, rfl, ?_⟩
        show if inV (.str b.name) (names.map V.str) = true then _ else _
        rw [inV_strs]
        cases decide (b.name ∈ names) with
        | true => exact ⟨rfl, rfl⟩
        | false => exact ⟨rfl, rfl⟩
      · rintro σ H'' ⟨rfl, rfl⟩
        refine ⟨_, rfl, _, rfl, _, rfl, by show 3 ≤ sizeLine; decide, fun x hx => ?_⟩
        have sx := same_upd (o := .tup [.str b.tab, .ref b.ga, capV (if decide (b.name ∈ names) = true then none else b.cap)]) hx
        have hDx := sx _ _ hD'
        generalize hcap : (if decide (b.name ∈ names) = true then none else b.cap) = cap at sx hDx ⊢
        have hk : putK (svK ss') (Sum.inr b.name) (V.ref x) = svK (ss' ++ [⟨b.name, x, b.tab, b.ga, b.cols, cap⟩]) := by
          unfold svK
          rw [snoc_map]
          refine putK_new _ (valV_no ?_)
          have e := keys_sv ss'
          unfold svK at e
          rw [e]
          exact inr_no hnew
        have tup : ∀ c xs, upd H'' x (.tup [.str b.tab, .ref b.ga, capV cap]) c = some (.tup xs) → upd (upd H'' x (.tup [.str b.tab, .ref b.ga, capV cap])) D (.dK (putK (svK ss') (Sum.inr b.name) (.ref x))) c = some (.tup xs) := upd_tup hDx (by intro _ z; cases z)
        refine ⟨_, rfl, _, rfl, D, _, rfl, DPut.k (k := Sum.inr b.name) hDx ?_, ss' ++ [⟨b.name, x, b.tab, b.ga, b.cols, cap⟩], _, _, _, _, rfl, ?_, ?_, ?_, fun c hc => ?_, ?_⟩
        · unfold svK
          rw [List.length_map]
          exact small1000 (by omega)
        · rw [upd_ne nDr.symm]
          exact sx _ _ hr'
        · rw [← hk]
          exact upd_same
        · rw [tk]
          unfold Unc at hU ⊢
          rw [List.map_append, List.map_append, hU]
          show _ ++ [(b.name, b.tab, b.ga, b.cols, cap)] = _ ++ [(b.name, b.tab, b.ga, b.cols, if decide (b.name ∈ names) = true then none else b.cap)]
          rw [hcap]
        · rcases List.mem_append.mp hc with h | h
          · exact ((hT' c h).mono fun _ _ e => sx _ _ e).mono tup
          · rw [List.mem_singleton.mp h]
            exact ⟨tup _ _ upd_same, tup _ _ (sx _ _ ht.cols)⟩
        · exact same_mut (sm.trans sx) hD
    · obtain ⟨ss', y3, y4, y5, y6, rfl, hr', hD', hU, hT', sm⟩ := hp
      rw [List.length_map, List.length_map, List.take_length] at hU
      exact ⟨_, rfl, q D ss' H' hD hD' hU hT' sm⟩
end
section
variable {P : Program} {w : World} {K : PySem.W.Frag} {mg : Str → Option Value} {base : Heap} {a : Nat → Addr} {d : Nat → FuncData}
theorem unc_svP {ss x y : List SvE} {f : Str → Bool} (hx : Unc ss x f) (hy : Unc ss y f) : svP x = svP y := by
  have e := hx.trans hy.symm
  have := congrArg (List.map fun q : Str × Str × Addr × List Int × Option Int => ((Sum.inr q.1 : Key), PyData.tuple [.str q.2.1, .tuple (q.2.2.2.1.map PyData.int), capP q.2.2.2.2])) e
  rw [List.map_map, List.map_map] at this
  exact this
theorem unc_names {ss x : List SvE} {f : Str → Bool} (hx : Unc ss x f) : x.map (·.name) = ss.map (·.name) := by
  have := congrArg (List.map Prod.fst) hx
  rw [List.map_map, List.map_map] at this
  exact this
theorem unc_whN {ss x y : List SvE} {f : Str → Bool} (ts : List (Str × Int)) (ks : List KeyE) (hx : Unc ss x f) (hy : Unc ss y f) (n : Str) : whN ts ks x n = whN ts ks y n := by
  have e := hx.trans hy.symm
  clear hx hy
  unfold whN svAt
  induction x generalizing y with
  | nil =>
    cases y with
    | nil => rfl
    | cons b y => cases e
  | cons b x ih =>
    cases y with
    | nil => cases e
    | cons c y =>
      rw [List.map_cons, List.map_cons] at e
      injection e with e1 e2
      obtain ⟨na, ad, tb, ga, co, ca⟩ := b
      obtain ⟨na', ad', tb', ga', co', ca'⟩ := c
      simp only [Prod.mk.injEq] at e1
      obtain ⟨rfl, rfl, rfl, rfl, rfl⟩ := e1
      by_cases h : na = n
      · rw [List.find?_cons_of_pos (by simp [h]), List.find?_cons_of_pos (by simp [h])]
        rfl
      · rw [List.find?_cons_of_neg (by simp [h]), List.find?_cons_of_neg (by simp [h])]
        exact ih e2
theorem unc_ok {ts : List (Str × Int)} {ss x : List SvE} {f : Str → Bool} (hx : Unc ss x f) (hS : ∀ b ∈ ss, ∃ w, (b.tab, w) ∈ ts ∧ Cols b.cols w ∧ b.cols.length ≤ 4) : ∀ b ∈ x, ∃ w, (b.tab, w) ∈ ts ∧ Cols b.cols w ∧ b.cols.length ≤ 4 := fun b hb => by
  have hin : (b.name, b.tab, b.ga, b.cols, b.cap) ∈ x.map fun b => (b.name, b.tab, b.ga, b.cols, b.cap) := List.mem_map.mpr ⟨b, hb, rfl⟩
  have hx' : x.map (fun b => (b.name, b.tab, b.ga, b.cols, b.cap)) = _ := hx
  rw [hx'] at hin
  obtain ⟨c, hc, e⟩ := List.mem_map.mp hin
  have z2 : c.tab = b.tab := congrArg (fun q => q.2.1) e
  have z4 : c.cols = b.cols := congrArg (fun q => q.2.2.2.1) e
  rw [← z2, ← z4]
  exact hS c hc
def spUHolds (C : Addr) : Sp := fun vs H Q _ => ∃ (p t k v l : Addr) (m n : Nat) (ts : List (Str × Int)) (ks : List KeyE) (ss : List SvE) (names : List Str), vs = [.ref p, .ref t, .ref k, .ref v, .ref l] ∧ SchAt C p H ts ks ss m n ∧ 1 ≤ m ∧ 1 ≤ n ∧ H t = some (.dK (tabK ts)) ∧ H k = some (.dK (keyK ks)) ∧ H v = some (.dK (svK ss)) ∧ H l = some (.lst (names.map V.str)) ∧ names.length ≤ 100 ∧ (∀ x ∈ names, Low x) ∧
  ∀ H', Same H H' → Q (.bl true) H'
theorem eqvL_refl {ns : List Str} (h : ∀ s ∈ ns, Low s) : PyData.eqv (.list (ns.map PyData.str)) (.list (ns.map PyData.str)) = true := PySem.SeqAt.eqv_refl _ (PySem.SeqAt.canLay_of_shaped (strs_shapedL h))
theorem first_bad {p : Str → Bool} : ∀ {xs : List Str}, (∃ x ∈ xs, p x = false) → ∃ i x, xs[i]? = some x ∧ (∀ y ∈ xs.take i, p y = true) ∧ p x = false ∧ (xs.filter fun y => !p y)[0]? = some x
  | [], h => by
    obtain ⟨x, hx, _⟩ := h
    cases hx
  | x :: xs, h => by
    cases e : p x with
    | false => exact ⟨0, x, rfl, fun y hy => (by cases hy), e, by rw [List.filter_cons_of_pos (by simp [e])]; rfl⟩
    | true =>
      obtain ⟨y, hy, ey⟩ := h
      rcases List.mem_cons.mp hy with rfl | hy
      · rw [e] at ey
        cases ey
      · obtain ⟨i, z, h1, h2, h3, h4⟩ := first_bad ⟨y, hy, ey⟩
        refine ⟨i + 1, z, h1, fun y hy => ?_, h3, by rw [List.filter_cons_of_neg (by simp [e])]; exact h4⟩
        rcases List.mem_cons.mp hy with rfl | hy
        · exact e
        · exact h2 y hy
theorem ok_uholds (T : Txt K mg a d) : FnOk P w K mg base CX0 8 (a 43) (d 43) ["_law_schema", "_law_tables_here", "_law_keys_here", "_law_services_here", "_law_names_here"] (spUHolds (a 25)) := by
  have G3512 : FnOk P w K mg base (L2.CX P w) 7 (a 3512) (d 3512) ["self", "names"] (spUncap (a 25) (a 3)) := ok_uncapped T
  have G42 : FnOk P w K mg base CX0 1 (a 42) (d 42) ["_law_services_here", "_law_names_here"] spUDue := ok_udue T
  have G35 : FnOk P w K mg base CX0 3 (a 35) (d 35) ["_law_tables_here", "_law_keys_here", "_law_told"] spWhole := ok_is_whole T
  have G3507 : FnOk P w K mg base CX0 6 (a 3507) (d 3507) ["self"] (spCap (a 25)) := ok_capped_names T
  have G3501 : FnOk P w K mg base CX0 1 (a 3501) (d 3501) ["self"] (spProp (a 25) fun ts _ _ => tabK ts) := ok_p_tables T
  have G3502 : FnOk P w K mg base CX0 1 (a 3502) (d 3502) ["self"] (spProp (a 25) fun _ ks _ => keyK ks) := ok_p_keys T
  have G3503 : FnOk P w K mg base CX0 1 (a 3503) (d 3503) ["self"] (spProp (a 25) fun _ _ ss => svK ss) := ok_p_services T
  refine T.F43.ok sc__law_uncapped_holds (fun vs H Q E h => ?_) (fun cdv A outer s H vs Q E hr h => ?_)
  · obtain ⟨p, t, k, v, l, m, n, ts, ks, ss, names, rfl, _⟩ := h
    rfl
  · obtain ⟨p, t, k, v, l, m, n, ts, ks, ss, names, rfl, ⟨dx, d1, d2, d3, O⟩, hm1, hn1, ht, hk, hv, hl, hlen, hlow, q⟩ := h
    have ndS := sv_nd O.hS
    have n8 := O.n8
    refine ⟨_, (pss_cons (ps_setLc (i := 5) (own := [("_law_name", 13)]) rfl sc__law_uncapped_holds.nd rfl rfl (sw_true rfl rfl rfl (by decide +kernel)) (pi_list (pv 4)) (blkOk_by (N := ["_law_schema", "_law_tables_here", "_law_keys_here", "_law_services_here", "_law_names_here", "_law_unknown", "_law_handed", "_law_told", "_law_word_here", "_law_under", "e", "_law_due", "_law_whole", "_law_name"]) (sc := defScope s__law_uncapped_holds) (by decide +kernel)) (fun _ _ _ _ _ => pg_name (i := 13) sc__law_uncapped_holds.nd rfl (.inl rfl)) (fun _ _ _ _ _ => (pts_one (pt_cmp (pc_dnotin (hu_of hr) (pv 13) (pv 3))))) (fun _ _ _ _ _ => (pv 13)))
  (pss_cons (ps_set (i := 6) sc__law_uncapped_holds.nd rfl (.inl rfl) (pe_callTy (T := "list")  call_list_of (by rfl) T.z_list (by decide +kernel) (pa_cons (pv 4) pa_nil)))
  (pss_cons (ps_set (i := 7) sc__law_uncapped_holds.nd rfl (.inl rfl) pe_non)
  (pss_cons (ps_set (i := 8) sc__law_uncapped_holds.nd rfl (.inl rfl) pe_non)
  (pss_cons (ps_set (i := 9) sc__law_uncapped_holds.nd rfl (.inl rfl) pe_bl)
  (pss_cons (ps_try_as (i := 10) (Wout := fun _ _ _ _ => False) rfl rfl sc__law_uncapped_holds.nd rfl rfl ⟨rfl, by decide, Or.inl T.cg_3⟩ takes0
    (fun W pn xe tk po => (pss_one (ps_set (i := 7) sc__law_uncapped_holds.nd rfl (.inl rfl) (pe_methX (pv 0) T.cl_25 T.m_3512 G3512 (hr.mono (by decide)) T.b3512 (fun σ => passAt tk σ) (pa_cons (pv 6) pa_nil)))))
    (fun ea oe cls ed pn hz hf => (pss_cons (ps_set (i := 8) sc__law_uncapped_holds.nd rfl (.inl rfl) (pe_xf T.xf_3 T.no_3_name hz hf (pv 10)))
      (pss_one (ps_set (i := 9) sc__law_uncapped_holds.nd rfl (.inl rfl) (pe_callB (id := "isinstance")  (call_isX T.xi_3 hz hf) (by rfl) T.z_isinstance (by decide +kernel) (pa_cons (pv 10) (pa_cons (pe_glob (v := .ref (a 2)) (by rfl) T.cg_2 rfl) pa_nil))))))))
  (pss_cons (ps_if (pt_cmpR (op_neD (hu_of64 hr)) (pv 6) (pv 4) (nomark _))
    (pss_one (ps_ret pe_bl))
    pss_nil)
  (pss_cons (ps_if (pt_cmpR (op_neD (hu_of64 hr)) (pv 5) (pe_lst pa_nil) (nomark _))
    (pss_one (ps_ret (pe_and (pv 9) (pe_one (pe_cmpR (op_eqD (hu_of64 hr)) (pv 8) (pe_ix ix_list (pv 5) pe_int (fun _ _ => rfl)) (nomark _))))))
    pss_nil)
  (pss_cons (ps_if (PW.pt (pw_or (pt_cmpR op_isN (pv 7) pe_non (nomark _)) (pw_or (pt_cmpR (op_neT (hu_of65 hr)) (pe_prop (pv 7) T.cl_25 T.p_3501 G3501 (hr.mono (by decide)) T.b3501 .nil pass0 rfl) (pv 1) (nomark _)) (pw_or1 (pt_cmpR (op_neT (hu_of65 hr)) (pe_prop (pv 7) T.cl_25 T.p_3502 G3502 (hr.mono (by decide)) T.b3502 .nil pass0 rfl) (pv 2) (nomark _))))))
    (pss_one (ps_ret pe_bl))
    pss_nil)
  (pss_cons (ps_set (i := 11) sc__law_uncapped_holds.nd rfl (.inr rfl) (pe_call G42 (hr.mono (by decide)) (by rfl) T.g42 T.F42.kp T.b42 .nil pass0 (pa_cons (pv 3) (pa_cons (pv 4) pa_nil))))
  (pss_cons (ps_setLc (i := 12) (own := [("_law_name", 13)]) rfl sc__law_uncapped_holds.nd rfl rfl (sw_true rfl rfl rfl (by decide +kernel)) (pi_list (pe_callB (id := "sorted")  cr_sortedS (by rfl) T.z_sorted (by decide +kernel) (pa_cons (pe_callTy (T := "list")  (call_listD rfl) (by rfl) T.z_list (by decide +kernel) (pa_cons (pv 11) pa_nil)) pa_nil))) (blkOk_by (N := ["_law_schema", "_law_tables_here", "_law_keys_here", "_law_services_here", "_law_names_here", "_law_unknown", "_law_handed", "_law_told", "_law_word_here", "_law_under", "e", "_law_due", "_law_whole", "_law_name"]) (sc := defScope s__law_uncapped_holds) (by decide +kernel)) (fun _ _ _ _ _ => pg_name (i := 13) sc__law_uncapped_holds.nd rfl (.inl rfl)) (fun _ _ _ _ _ => (pts_one (pt_not (pt_val (pe_call G35 (hr.mono (by decide)) (by rfl) T.g35 T.F35.kp T.b35 .nil pass0 (pa_cons (pv 1) (pa_cons (pv 2) (pa_cons (pe_dget (hu_of hr) (pv 11) (pv 13) (fun _ _ => rfl)) pa_nil)))))))) (fun _ _ _ _ _ => (pv 13)))
  (pss_one (ps_ret (pe_and (pe_cmpR (op_eqT (hu_of65 hr)) (pe_prop (pv 7) T.cl_25 T.p_3503 G3503 (hr.mono (by decide)) T.b3503 .nil pass0 rfl) (pv 11) (nomark _)) (pe_one (pe_cmpR (op_eqD (hu_of64 hr)) (pe_meth0 (pv 7) T.cl_25 T.m_3507 G3507 (hr.mono (by decide)) T.b3507 .nil pass0) (pv 12) (nomark _))))))))))))))))), ?_⟩
    refine ⟨_, rfl, l, rfl, ⟨_, .of hl⟩, fun D hD => ?_⟩
    refine lc_list (K := K) (a := l) (xs := names.map V.str) (fun i H' => H' D = some (.lst (((names.take i).filter fun x => !(valV (svK ss) (Sum.inr x)).isSome).map V.str)) ∧ Same H H') ⟨upd_same, same_upd hD⟩ (fun i H' _ hp => .of (hp.2 _ _ hl)) (fun i x H' hx hp => ?_) (fun H1 hp => ?_)
    · obtain ⟨h1, h2⟩ := hp
      obtain ⟨nm, hn, rfl⟩ := map_at hx
      have hi : i < names.length := (List.getElem?_eq_some_iff.mp hn).1
      have tk : (names.take (i + 1)).filter (fun x => !(valV (svK ss) (Sum.inr x)).isSome) = (names.take i).filter (fun x => !(valV (svK ss) (Sum.inr x)).isSome) ++ ([nm].filter fun x => !(valV (svK ss) (Sum.inr x)).isSome) := by
        rw [List.take_add_one, hn, List.filter_append]
        rfl
      refine ⟨rfl, _, rfl, _, rfl, v, _, rfl, DctAt.get (.of (h2 _ _ hv)) ndS (Sum.inr nm), _, rfl, ?_⟩
      cases ev : (valV (svK ss) (Sum.inr nm)).isSome with
      | true =>
        refine ⟨?_, h2⟩
        rw [tk, List.filter_cons_of_neg (by rw [ev]; decide), List.filter_nil, List.append_nil]
        exact h1
      | false =>
        refine ⟨_, rfl, _, h1, ?_, ?_, ?_⟩
        · rw [List.length_map]
          have l1 := List.length_filter_le (fun x => !(valV (svK ss) (Sum.inr x)).isSome) (names.take i)
          rw [List.length_take] at l1
          exact Nat.lt_of_le_of_lt (by omega : _ ≤ 100) (by decide)
        · rw [tk, List.map_append, List.filter_cons_of_pos (by rw [ev]; decide)]
          exact upd_same
        · intro x o ex
          rw [upd_ne (ne_of_none ex hD)]
          exact h2 x o ex
    · obtain ⟨h1, s1⟩ := hp
      rw [List.length_map, List.take_length] at h1
      refine ⟨_, rfl, l, _, rfl, .inl (.of (s1 _ _ hl)), fun hd hhd => ?_⟩
      have s2 := s1.trans (same_upd (o := .lst (names.map V.str)) hhd)
      have h1' := (same_upd (o := .lst (names.map V.str)) hhd) _ _ h1
      have hhd' : upd H1 hd (.lst (names.map V.str)) hd = some (.lst (names.map V.str)) := upd_same
      generalize upd H1 hd (.lst (names.map V.str)) = H2 at *
      have O2 := O.same s2
      refine ⟨_, rfl, p, dx, _, rfl, O2.ob, flds_no _ _ _ (by decide +kernel) (by decide +kernel) (by decide +kernel), _, rfl, p, hd, ts, ks, ss, m, n, names, rfl, ⟨dx, d1, d2, d3, O2⟩, hm1, hn1, hhd', hlen, fun hall r H3 ss' O3 hU hr0 s3 => ?_, fun i x hx hbef hno H3 s3 dd H4 hdd hd4 s4 => ⟨true, T.exm_3_3, fun _ ea hea => ?_, fun z => Bool.noConfusion z⟩⟩
      · -- all are known
        have hknown : ∀ x ∈ names, (!(valV (svK ss) (Sum.inr x)).isSome) = false := fun x hx => by
          rw [svAt_val]
          obtain ⟨b, hb⟩ := svAt_some' (hall x hx)
          rw [hb]
          rfl
        have hnil : names.filter (fun x => !(valV (svK ss) (Sum.inr x)).isSome) = [] := List.filter_eq_nil_iff.mpr fun x hx => by rw [hknown x hx]; decide
        rw [hnil] at h1'
        have s23 := s2.trans s3
        refine ⟨_, rfl, _, rfl, _, _, .lst (.of (s3 _ _ hhd')) (dp_strs _), .lst (.of (s23 _ _ hl)) (dp_strs _), strs_shapedL hlow, strs_shapedL hlow, _, rfl, ?_⟩
        rw [eqvL_refl hlow]
        refine ⟨_, rfl, Nat.zero_le _, fun e he => ⟨.list [], .list [], .lst (.of (same_upd he _ _ (s3 _ _ h1'))) .nil, .lst (.of upd_same) .nil, by decide, by decide, _, rfl, ?_⟩⟩
        rw [show PyData.eqv (.list []) (.list []) = true from by simp [PyData.eqv, PyData.eqvAll]]
        have s4 := s23.trans (same_upd (o := .lst []) he)
        have s34 := same_upd (o := .lst []) he
        have O4 := O3.same s34
        generalize upd H3 e (.lst []) = H4 at *
        -- told is None or ..
        refine ⟨_, rfl, rfl, _, rfl, ?_⟩
        show if decide (V.ref r = V.non) = true then _ else _
        rw [decide_eq_false (by intro z; cases z)]
        obtain ⟨dy, e1, e2, e3, Or⟩ := O4
        refine ⟨_, rfl, r, dy, _, rfl, Or.ob, r, ts, ks, ss', m, n, rfl, ⟨dy, e1, e2, e3, Or⟩, fun D5 H5 f5 hD5 s5 => ⟨_, rfl, rEqT_of (ddat_tab hD5) (ddat_tab (.of (s5 _ _ (s4 _ _ ht)))) (tabP_nd O.hT) (tabP_nd O.hT) ⟨_, rfl, ?_⟩⟩⟩
        have rt : eqP (tabP ts) (tabP ts) = true := eqP_refl (tabP_nd O.hT) fun p hp => by
          obtain ⟨b, _, rfl⟩ := List.mem_map.mp hp
          rfl
        have rk : eqP (keyP ks) (keyP ks) = true := eqP_refl (keyP_nd O.hK) fun p hp => by
          obtain ⟨b, _, rfl⟩ := List.mem_map.mp hp
          exact ints_tup_shaped _
        show if (!eqP (tabP ts) (tabP ts)) = true then _ else _
        rw [rt]
        have s45 := s4.trans s5
        have Or5 := Or.same s5
        refine ⟨_, rfl, r, dy, _, rfl, Or5.ob, r, ts, ks, ss', m, n, rfl, ⟨dy, e1, e2, e3, Or5⟩, fun D6 H6 f6 hD6 s6 => ⟨_, rfl, rEqT_of (ddat_key hD6 (Or5.hK.mono fun _ _ e => s6 _ _ e)) (ddat_key (.of (s6 _ _ (s45 _ _ hk))) (Or5.hK.mono fun _ _ e => s6 _ _ e)) (keyP_nd O.hK) (keyP_nd O.hK) ⟨_, rfl, ?_⟩⟩⟩
        show if (!eqP (keyP ks) (keyP ks)) = true then _ else _
        rw [rk]
        have s46 := s45.trans s6
        have Or6 := Or5.same s6
        -- due
        have O6 := O.same s46
        refine ⟨_, rfl, _, rfl, v, l, n, ss, names, rfl, s46 _ _ hv, s46 _ _ hl, (fun b hb => (O6.hS.ok b hb).told), O.hS.nm, by omega, fun Du ss2 H7 f7 hDu hU2 hT2 s7 => ?_⟩
        have s47 := s46.trans s7
        have Or7 := Or6.same s7
        have nm2 : ss2.map (·.name) = ss.map (·.name) := unc_names hU2
        have ndu : ((svK ss2).map (·.1)).Nodup := by rw [keys_sv, nm2]; exact inr_nd O.hS.nm.nd
        have l2 : (ss2.map (·.name)).length = n := by rw [nm2, O.hS.nm.len]
        have hok2 := unc_ok hU2 fun b hb => (O.hS.ok b hb).ok
        -- whole
        refine ⟨_, rfl, Du, svK ss2, rfl, .inl hDu, fun g hg => ?_⟩
        rw [kd_names (keys_sv ss2)]
        refine ⟨g, ss2.map (·.name), rfl, .of upd_same, by omega, fun ys g2 yp so hg2 => ⟨g2, rfl, ⟨_, .of upd_same⟩, fun W hW => ?_⟩⟩
        have s8 := (same_upd (o := .lst ((ss2.map (·.name)).map V.str)) hg).trans (same_upd (o := .lst (ys.map V.str)) hg2)
        have hg8 : upd (upd H7 g (.lst ((ss2.map (·.name)).map V.str))) g2 (.lst (ys.map V.str)) g2 = some (.lst (ys.map V.str)) := upd_same
        generalize upd (upd H7 g (.lst ((ss2.map (·.name)).map V.str))) g2 (.lst (ys.map V.str)) = H8 at *
        have s48 := s47.trans s8
        have O8 := O.same s48
        have Or8 := Or7.same s8
        have hDu8 := s8 _ _ hDu
        have hT28 := toldMono hT2 fun _ _ e => s8 _ _ e
        have yl : ys.length ≤ 8 := by rw [yp.length_eq]; omega
        refine lc_list (K := K) (a := g2) (xs := ys.map V.str) (fun i H' => H' W = some (.lst (((ys.take i).filter fun n => !whN ts ks ss2 n).map V.str)) ∧ Same H8 H') ⟨upd_same, same_upd hW⟩ (fun i H' _ hp => .of (hp.2 _ _ hg8)) (fun i x H' hx hp => ?_) (fun H9 hp => ?_)
        · obtain ⟨h1, h2⟩ := hp
          obtain ⟨nm, hn, rfl⟩ := map_at hx
          obtain ⟨b, hb⟩ := svAt_some' (ss := ss2) (yp.mem_iff.mp (List.mem_of_getElem? hn))
          obtain ⟨bm, bn⟩ := svAt_mem hb
          obtain ⟨w', hw', hcols, hcl⟩ := hok2 b bm
          have hwn : whN ts ks ss2 nm = isWh w' ks b.tab b.cols b.cap := by
            unfold whN
            rw [hb]
            show whE ts ks b = _
            unfold whE
            rw [widthAt_mem O.hT.nm.nd hw']
          have vb : valV (svK ss2) (Sum.inr nm) = some (.ref b.at_) := by rw [svAt_val, hb]; rfl
          have tk : (ys.take (i + 1)).filter (fun n => !whN ts ks ss2 n) = (ys.take i).filter (fun n => !whN ts ks ss2 n) ++ ([nm].filter fun n => !whN ts ks ss2 n) := by
            rw [List.take_add_one, hn, List.filter_append]
            rfl
          refine ⟨rfl, _, rfl, _, rfl, _, rfl, _, rfl, Du, _, rfl, DctAt.at_ (.of (h2 _ _ hDu8)) ndu vb, t, k, b.at_, b.ga, m, ts, ks, b.tab, w', b.cols, b.cap, rfl, .of (h2 _ _ (s48 _ _ ht)), .of (h2 _ _ (s48 _ _ hk)), O.hT.up (by decide), O8.hK.mono fun _ _ e => h2 _ _ e, (hT28 b bm).mono fun _ _ e => h2 _ _ e, hw', by omega, fun Hx sx => ⟨_, rfl, ?_⟩⟩
          cases ew : isWh w' ks b.tab b.cols b.cap with
          | true =>
            refine ⟨?_, h2.trans sx⟩
            rw [tk, List.filter_cons_of_neg (by rw [hwn, ew]; decide), List.filter_nil, List.append_nil]
            exact sx _ _ h1
          | false =>
            refine ⟨_, rfl, _, sx _ _ h1, ?_, ?_, ?_⟩
            · rw [List.length_map]
              have l1 := List.length_filter_le (fun n => !whN ts ks ss2 n) (ys.take i)
              rw [List.length_take] at l1
              exact Nat.lt_of_le_of_lt (by omega : _ ≤ 8) (by decide)
            · rw [tk, List.map_append, List.filter_cons_of_pos (by rw [hwn, ew]; decide)]
              exact upd_same
            · intro x o ex
              rw [upd_ne (ne_of_none ex hW)]
              exact sx _ _ (h2 x o ex)
        · obtain ⟨h1, s9⟩ := hp
          rw [List.length_map, List.take_length] at h1
          have Or9 := Or8.same s9
          have s49 := s48.trans s9
          have nmr : ss'.map (·.name) = ss.map (·.name) := unc_names hU
          refine ⟨_, rfl, r, dy, _, rfl, Or9.ob, r, ts, ks, ss', m, n, rfl, ⟨dy, e1, e2, e3, Or9⟩, fun D10 H10 f10 hD10 s10 => ⟨_, rfl, rEqT_of (ddat_sv hD10 (sv_toldW O.hT fun b hb => (Or9.hS.ok b hb).mono fun _ _ e => s10 _ _ e)) (ddat_sv (.of (s10 _ _ (s9 _ _ hDu8))) fun b hb => ⟨((hT28 b hb).mono fun _ _ e => s9 _ _ e).mono fun _ _ e => s10 _ _ e, ?_⟩) (svP_nd Or.hS.nm) (svP_nd (n := n) (by rw [nm2]; exact O.hS.nm)) ⟨_, rfl, ?_⟩⟩⟩
          · obtain ⟨w', hw', _⟩ := hok2 b hb
            exact O.hT.nm.wd _ (List.mem_map.mpr ⟨_, hw', rfl⟩)
          · rw [unc_svP hU hU2]
            have rs : eqP (svP ss2) (svP ss2) = true := eqP_refl (svP_nd (n := n) (by rw [nm2]; exact O.hS.nm)) fun p hp => by
              obtain ⟨b, hb, rfl⟩ := List.mem_map.mp hp
              obtain ⟨w', hw', _⟩ := hok2 b hb
              exact sv_shaped (wd_strOk (O.hT.nm.wd _ (List.mem_map.mpr ⟨_, hw', rfl⟩))) _ _
            show if eqP (svP ss2) (svP ss2) = true then _ else _
            rw [rs]
            have Or10 := Or9.same s10
            refine ⟨_, rfl, r, dy, _, rfl, Or10.ob, flds_no _ _ _ (by decide +kernel) (by decide +kernel) (by decide +kernel), r, ts, ks, ss', m, n, rfl, ⟨dy, e1, e2, e3, Or10⟩, fun c cs H11 fc hc yp2 so2 s11 => ?_⟩
            have ecs : cs = ys := sorted_uniq (yp2.trans (by rw [nmr, ← nm2]; exact yp.symm)) so2 so
            subst ecs
            have ef : (cs.filter fun n => !whN ts ks ss' n) = cs.filter fun n => !whN ts ks ss2 n := List.filter_congr fun x _ => by rw [unc_whN ts ks hU hU2]
            rw [ef] at hc
            have hlow3 : ∀ y ∈ cs.filter (fun n => !whN ts ks ss2 n), Low y := fun y hy => by
              have := yp.mem_iff.mp (List.mem_filter.mp hy).1
              rw [nm2] at this
              exact wd_low (O.hS.nm.wd _ this)
            refine ⟨_, rfl, _, _, .lst (.of hc) (dp_strs _), .lst (.of (s11 _ _ (s10 _ _ h1))) (dp_strs _), strs_shapedL hlow3, strs_shapedL hlow3, ?_⟩
            rw [eqvL_refl hlow3]
            exact q _ ((s49.trans s10).trans s11)
      · have hx' : (valV (svK ss) (Sum.inr x)).isSome = false := by
          rw [svAt_val]
          cases e : svAt ss x with
          | none => rfl
          | some b => exact absurd (List.mem_map.mpr ⟨b, (svAt_mem e).1, (svAt_mem e).2⟩) hno
        have hbef' : ∀ y ∈ names.take i, (valV (svK ss) (Sum.inr y)).isSome = true := fun y hy => by
          rw [svAt_val]
          obtain ⟨b, hb⟩ := svAt_some' (hbef y hy)
          rw [hb]
          rfl
        have hfil : names.filter (fun x => !(valV (svK ss) (Sum.inr x)).isSome) = x :: (names.drop (i + 1)).filter (fun x => !(valV (svK ss) (Sum.inr x)).isSome) := by
          have e : names = names.take i ++ x :: names.drop (i + 1) := by
            have hi : i < names.length := (List.getElem?_eq_some_iff.mp hx).1
            rw [← (List.getElem?_eq_some_iff.mp hx).2, List.getElem_cons_drop, List.take_append_drop]
          conv => lhs; rw [e]
          rw [List.filter_append, List.filter_eq_nil_iff.mpr (fun y hy => by rw [hbef' y hy]; decide), List.nil_append, List.filter_cons_of_pos (by rw [hx']; decide)]
        rw [hfil] at h1'
        have s24 := (s2.trans s3).trans s4
        have lx : Low x := hlow x (List.mem_of_getElem? hx)
        refine ⟨_, rfl, rfl, rfl, dd, _, _, rfl, hd4, rfl, _, rfl, dd, _, _, _, true, rfl, rfl, hd4, rfl, fun u hu => hu, T.kit_3_2, ?_⟩
        refine ⟨_, rfl, _, rfl, _, _, .lst (.of ((s3.trans s4) _ _ hhd')) (dp_strs _), .lst (.of (s24 _ _ hl)) (dp_strs _), strs_shapedL hlow, strs_shapedL hlow, _, rfl, ?_⟩
        rw [eqvL_refl hlow]
        have hlow2 : ∀ y ∈ x :: (names.drop (i + 1)).filter (fun x => !(valV (svK ss) (Sum.inr x)).isSome), Low y := fun y hy => by
          rw [← hfil] at hy
          exact hlow y (List.mem_filter.mp hy).1
        refine ⟨_, rfl, Nat.zero_le _, fun e he => ⟨_, .list [], .lst (.of (same_upd he _ _ ((s3.trans s4) _ _ h1'))) (dp_strs _), .lst (.of upd_same) .nil, strs_shapedL hlow2, by decide, _, rfl, ?_⟩⟩
        rw [eqv_nilL]
        have h1e := same_upd (o := .lst []) he _ _ ((s3.trans s4) _ _ h1')
        refine ⟨_, rfl, true, rfl, _, rfl, _, rfl, _, _, _, _, rfl, rfl, .of h1e, atI_nat (j := 0) rfl, .str x, .str x, .str x, .str x, ?_, ?_, ?_⟩
        · exact str_shaped lx
        · exact str_shaped lx
        · rw [show PyData.eqv (.str x) (.str x) = true from by simp [PyData.eqv]]
          exact q _ (s24.trans (same_upd he))
end
def spLaw (K : PySem.W.Frag) : Sp := fun vs H Q _ => ∃ (p : Addr) (ns : List Int), vs = [.ref p] ∧ SqL K H p (ns.map V.int) ∧ ns.length ≤ 63 ∧ ∀ H', Q (.bl true) H'
section
variable {P : Program} {w : World} {K : PySem.W.Frag} {mg : Str → Option Value} {base : Heap} {a : Nat → Addr} {d : Nat → FuncData}
/-- what stands from the making of the schema on -/
structure LB (C pl x t k v : Addr) (m n : Nat) (ts : List (Str × Int)) (ks : List KeyE) (ss : List SvE) (H : Hp) : Prop where
  pool : PoolAt H pl
  sch : SchAt C x H ts ks ss m n
  ht : H t = some (.dK (tabK ts))
  hk : H k = some (.dK (keyK ks))
  hv : H v = some (.dK (svK ss))
theorem LB.same {C pl x t k v : Addr} {m n : Nat} {ts : List (Str × Int)} {ks : List KeyE} {ss : List SvE} {H H' : Hp} (h : LB C pl x t k v m n ts ks ss H) (s : Same H H') : LB C pl x t k v m n ts ks ss H' :=
  ⟨h.pool.same s, h.sch.same s, s _ _ h.ht, s _ _ h.hk, s _ _ h.hv⟩
theorem LB.chg {C pl x t k v : Addr} {m n : Nat} {ts : List (Str × Int)} {ks : List KeyE} {ss : List SvE} {H H' : Hp} (h : LB C pl x t k v m n ts ks ss H) (c : Chg pl H H') : LB C pl x t k v m n ts ks ss H' :=
  ⟨c.1, h.sch.chg h.pool c, c.at (pool_ne h.pool h.ht (by intro _ z; cases z)) h.ht, c.at (pool_ne h.pool h.hk (by intro _ z; cases z)) h.hk, c.at (pool_ne h.pool h.hv (by intro _ z; cases z)) h.hv⟩
theorem Chg.same {a : Addr} {H H1 H2 : Hp} (x : Chg a H H1) (s : Same H1 H2) : Chg a H H2 := ⟨x.1.same s, fun b o n e => s _ _ (x.2 b o n e)⟩
theorem wd_isWd {s : Str} {m : Nat} (h : IsWd s m) : Low s := fun c hc => by
  have := (h.2 c hc).2
  omega
theorem ok_law (T : Txt K mg a d) : FnOk P w K mg base CX0 9 (a 44) (d 44) ["_law_script"] (spLaw K) := by
  have G27 : FnOk P w K mg base CX0 1 (a 27) (d 27) ["_law_script"] (spPool K) := ok_pool T
  have G29 : FnOk P w K mg base CX0 2 (a 29) (d 29) ["_law_pool_here", "_law_many"] spDraw := ok_draw T
  have G30 : FnOk P w K mg base CX0 3 (a 30) (d 30) ["_law_pool_here", "_law_many"] spWord := ok_word T
  have G37 : FnOk P w K mg base CX0 6 (a 37) (d 37) ["_law_pool_here", "_law_many", "_law_widest", "_law_caps", "_law_more"] spParts := ok_parts T
  have G39 : FnOk P w K mg base CX0 1 (a 39) (d 39) ["_law_table"] spTurned := ok_turned T
  have G40 : FnOk P w K mg base CX0 4 (a 40) (d 40) ["_law_pool_here", "_law_tables_here", "_law_keys_here", "_law_services_here"] spChanged := ok_changed T
  have G41 : FnOk P w K mg base CX0 4 (a 41) (d 41) ["_law_tables_here", "_law_keys_here", "_law_services_here"] spFits := ok_fits T
  have G43 : FnOk P w K mg base CX0 8 (a 43) (d 43) ["_law_schema", "_law_tables_here", "_law_keys_here", "_law_services_here", "_law_names_here"] (spUHolds (a 25)) := ok_uholds T
  have G3500 : FnOk P w K mg base CX0 5 (a 3500) (d 3500) ["self", "tables", "keys", "services"] (spSInit (a 25)) := ok_sinit T
  have G3504 : FnOk P w K mg base CX0 1 (a 3504) (d 3504) ["self", "other"] (spSEq (a 25)) := ok_seq T
  have G3512 : FnOk P w K mg base (L2.CX P w) 7 (a 3512) (d 3512) ["self", "names"] (spUncap (a 25) (a 3)) := ok_uncapped T
  have G3503 : FnOk P w K mg base CX0 1 (a 3503) (d 3503) ["self"] (spProp (a 25) fun _ _ ss => svK ss) := ok_p_services T
  have G3507 : FnOk P w K mg base CX0 6 (a 3507) (d 3507) ["self"] (spCap (a 25)) := ok_capped_names T
  refine T.F44.ok sc_law (fun vs H Q E h => ?_) (fun cdv A outer s H vs Q E hr h => ?_)
  · obtain ⟨p, ns, rfl, _⟩ := h
    rfl
  · obtain ⟨p0, ns, rfl, hS0, hl0, q⟩ := h
    refine ⟨_, (pss_cons (ps_set (i := 1) sc_law.nd rfl (.inr rfl) (pe_call G27 (hr.mono (by decide)) (by rfl) T.g27 T.F27.kp T.b27 .nil pass0 (pa_cons (pv 0) pa_nil)))
  (pss_cons (ps_set (i := 2) sc_law.nd rfl (.inl rfl) (pe_call G29 (hr.mono (by decide)) (by rfl) T.g29 T.F29.kp T.b29 .nil pass0 (pa_cons (pv 1) (pa_cons pe_int pa_nil))))
  (pss_cons (ps_set (i := 3) sc_law.nd rfl (.inl rfl) (pe_call G29 (hr.mono (by decide)) (by rfl) T.g29 T.F29.kp T.b29 .nil pass0 (pa_cons (pv 1) (pa_cons pe_int pa_nil))))
  (pss_cons (ps_asg (pe_call G37 (hr.mono (by decide)) (by rfl) T.g37 T.F37.kp T.b37 .nil pass0 (pa_cons (pv 1) (pa_cons (pe_op op_add pe_int (pe_call G29 (hr.mono (by decide)) (by rfl) T.g29 T.F29.kp T.b29 .nil pass0 (pa_cons (pv 1) (pa_cons pe_int pa_nil)))) (pa_cons pe_int (pa_cons (pe_lst (pa_cons pe_non (pa_cons pe_int (pa_cons pe_int (pa_cons pe_int (pa_cons pe_int pa_nil)))))) (pa_cons (pe_call G29 (hr.mono (by decide)) (by rfl) T.g29 T.F29.kp T.b29 .nil pass0 (pa_cons (pv 1) (pa_cons pe_int pa_nil))) pa_nil)))))) (pg_unl rfl (pgs_cons (pg_name (i := 4) sc_law.nd rfl (.inl rfl)) (pgs_cons (pg_name (i := 5) sc_law.nd rfl (.inl rfl)) (pgs_cons (pg_name (i := 6) sc_law.nd rfl (.inl rfl)) pgs_nil)))))
  (pss_cons (ps_set (i := 7) sc_law.nd rfl (.inl rfl) (pe_make T.M_25 G3500 (hr.mono (by decide)) (by rfl) T.cg_25 T.b3500 .nil pass0 (pa_cons (pe_callTy (T := "dict")  call_dictD (by rfl) T.z_dict (by decide +kernel) (pa_cons (pv 4) pa_nil)) (pa_cons (pe_callTy (T := "dict")  call_dictD (by rfl) T.z_dict (by decide +kernel) (pa_cons (pv 5) pa_nil)) (pa_cons (pe_callTy (T := "dict")  call_dictD (by rfl) T.z_dict (by decide +kernel) (pa_cons (pv 6) pa_nil)) pa_nil)))))
  (pss_cons (ps_set (i := 8) sc_law.nd rfl (.inl rfl) (pe_call G39 (hr.mono (by decide)) (by rfl) T.g39 T.F39.kp T.b39 .nil pass0 (pa_cons (pv 4) pa_nil)))
  (pss_cons (ps_set (i := 9) sc_law.nd rfl (.inl rfl) (pe_call G39 (hr.mono (by decide)) (by rfl) T.g39 T.F39.kp T.b39 .nil pass0 (pa_cons (pv 5) pa_nil)))
  (pss_cons (ps_set (i := 10) sc_law.nd rfl (.inl rfl) (pe_call G39 (hr.mono (by decide)) (by rfl) T.g39 T.F39.kp T.b39 .nil pass0 (pa_cons (pv 6) pa_nil)))
  (Evl.pss_cut (ps_if (pt_cmpR op_eq (pv 2) pe_int (nomark _))
    (pss_one (ps_expr (pe_call G40 (hr.mono (by decide)) (by rfl) T.g40 T.F40.kp T.b40 .nil pass0 (pa_cons (pv 1) (pa_cons (pv 8) (pa_cons (pv 9) (pa_cons (pv 10) pa_nil)))))))
    pss_nil)
  (Evl.pss_cut (ps_if (pt_val (pe_call G41 (hr.mono (by decide)) (by rfl) T.g41 T.F41.kp T.b41 .nil pass0 (pa_cons (pv 8) (pa_cons (pv 9) (pa_cons (pv 10) pa_nil)))))
    (pss_cons (ps_set (i := 11) sc_law.nd rfl (.inl rfl) (pe_make T.M_25 G3500 (hr.mono (by decide)) (by rfl) T.cg_25 T.b3500 .nil pass0 (pa_cons (pv 8) (pa_cons (pv 9) (pa_cons (pv 10) pa_nil)))))
      (Evl.pss_cut (ps_set (i := 12) sc_law.nd rfl (.inl rfl) (pe_and (pe_cmpR (op_eqT (hu_of65 hr)) (pv 8) (pv 4) (nomark _)) (pe_and (pe_cmpR (op_eqT (hu_of65 hr)) (pv 9) (pv 5) (nomark _)) (pe_one (pe_cmpR (op_eqT (hu_of65 hr)) (pv 10) (pv 6) (nomark _))))))
      (pss_one (ps_if (PW.pt (pw_or (pt_cmpR op_ne (pe_cmpR (op_eqO (E := fun _ _ _ => False) G3504 (hr.mono (by decide)) T.m_3504.at_ T.m_3504.fn T.b3504 pass0) (pv 7) (pv 11) (nomark _)) (pv 12) (nomark _)) (pw_or (pt_cmpR op_ne (pe_cmpR (op_eqO (E := fun _ _ _ => False) G3504 (hr.mono (by decide)) T.m_3504.at_ T.m_3504.fn T.b3504 pass0) (pv 11) (pv 7) (nomark _)) (pv 12) (nomark _)) (pw_or1 (pt_not (pt_cmpR (op_eqO (E := fun _ _ _ => False) G3504 (hr.mono (by decide)) T.m_3504.at_ T.m_3504.fn T.b3504 pass0) (pv 7) (pe_make T.M_25 G3500 (hr.mono (by decide)) (by rfl) T.cg_25 T.b3500 .nil pass0 (pa_cons (pv 4) (pa_cons (pv 5) (pa_cons (pv 6) pa_nil)))) (nomark _)))))))
        (pss_one (ps_ret pe_bl))
        pss_nil))))
    pss_nil)
  (pss_cons (ps_setLc (i := 13) (own := [("_law_name", 15)]) rfl sc_law.nd rfl rfl (sw_true rfl rfl rfl (by decide +kernel)) (pi_list (pe_callTy (T := "list")  (call_listD rfl) (by rfl) T.z_list (by decide +kernel) (pa_cons (pv 6) pa_nil))) (blkOk_by (N := ["_law_script", "_law_pool_here", "_law_change", "_law_unknown", "_law_tables_here", "_law_keys_here", "_law_services_here", "_law_schema", "_law_one", "_law_two", "_law_three", "_law_other", "_law_due", "_law_names_here", "_law_asked", "_law_name"]) (sc := defScope s_law) (by decide +kernel)) (fun _ _ _ _ _ => pg_name (i := 15) sc_law.nd rfl (.inl rfl)) (fun _ _ _ _ _ => (pts_one (pt_cmpR op_eq (pe_call G29 (hr.mono (by decide)) (by rfl) T.g29 T.F29.kp T.b29 .nil pass0 (pa_cons (pv 1) (pa_cons pe_int pa_nil))) pe_int (nomark _)))) (fun _ _ _ _ _ => (pv 15)))
  (Evl.pss_cut (ps_if (pt_cmpR op_eq (pv 3) pe_int (nomark _))
    (pss_one (ps_expr (pe_bm PySem.F.plainAttrs_list PySem.F.slot_list_insert PySem.F.type_list_insert mt_insert (pv 13) (pa_cons (pe_call G29 (hr.mono (by decide)) (by rfl) T.g29 T.F29.kp T.b29 .nil pass0 (pa_cons (pv 1) (pa_cons (pe_op op_add (pe_callB (id := "len")  call_len_seq (by rfl) T.z_len (by decide +kernel) (pa_cons (pv 13) pa_nil)) pe_int) pa_nil))) (pa_cons (pe_call G30 (hr.mono (by decide)) (by rfl) T.g30 T.F30.kp T.b30 .nil pass0 (pa_cons (pv 1) (pa_cons (pe_op op_add pe_int (pe_call G29 (hr.mono (by decide)) (by rfl) T.g29 T.F29.kp T.b29 .nil pass0 (pa_cons (pv 1) (pa_cons pe_int pa_nil)))) pa_nil))) pa_nil)))))
    pss_nil)
  (pss_cons (ps_for PassesOwn.never rfl (pi_list (pe_lst (pa_cons (pv 13) (pa_cons (pe_meth0 (pv 7) T.cl_25 T.m_3507 G3507 (hr.mono (by decide)) T.b3507 .nil pass0) (pa_cons (pe_lst pa_nil) pa_nil))))) (pg_name (i := 14) sc_law.nd rfl (.inl rfl))
    (pss_one (ps_if (pt_not (pt_val (pe_call G43 (hr.mono (by decide)) (by rfl) T.g43 T.F43.kp T.b43 .nil pass0 (pa_cons (pv 7) (pa_cons (pv 4) (pa_cons (pv 5) (pa_cons (pv 6) (pa_cons (pv 14) pa_nil))))))))
        (pss_one (ps_ret pe_bl))
        pss_nil)))
  (pss_one (ps_ret (pe_and (pe_cmpR (op_eqT (hu_of65 hr)) (pe_prop (pv 7) T.cl_25 T.p_3503 G3503 (hr.mono (by decide)) T.b3503 .nil pass0 rfl) (pv 6) (nomark _)) (pe_one (pe_cmpR (op_eqD (hu_of64 hr)) (pe_meth0 (pe_meth (pv 7) T.cl_25 T.m_3512 G3512 (hr.mono (by decide)) T.b3512 .nil (passN rfl) (pa_cons (pe_callTy (T := "list")  (call_listD rfl) (by rfl) T.z_list (by decide +kernel) (pa_cons (pv 6) pa_nil)) pa_nil)) T.cl_25 T.m_3507 G3507 (hr.mono (by decide)) T.b3507 .nil pass0) (pe_lst pa_nil) (nomark _))))))))))))))))))), ?_⟩
    refine ⟨_, rfl, p0, ns, rfl, hS0, hl0, fun pl H1 np hP s1 => ?_⟩
    refine ⟨_, rfl, pl, 2, rfl, hP, by decide, by decide, fun ch H2 ch0 ch1 C2 => ?_⟩
    refine ⟨_, rfl, pl, 3, rfl, C2.1, by decide, by decide, fun un H3 un0 un1 C3 => ?_⟩
    -- the parts
    refine ⟨_, rfl, _, rfl, pl, 5, rfl, C3.1, by decide, by decide, fun m H4 m0 m1 C4 => ⟨_, _, rfl, rfl, by show 5 ≤ sizeLine; decide, fun ca hca => ?_⟩⟩
    have s5 := same_upd (o := .lst [.non, .int 1, .int 2, .int 3, .int 4]) hca
    have P5 := C4.1.same s5
    have nca : ca ≠ pl := pool_ne' C4.1 hca
    refine ⟨_, rfl, pl, 4, rfl, P5, by decide, by decide, fun mo H6 o0 o1 C6 => ?_⟩
    refine ⟨pl, ca, (1 + m).toNat, mo.toNat, 4, [none, some 1, some 2, some 3, some 4], by rw [Int.toNat_of_nonneg (by omega), Int.toNat_of_nonneg o0]; rfl, C6.1, C6.at nca upd_same, nca, by omega, by omega, by decide, by decide, by decide, by decide, fun c hc => ?_, fun l t k v ts ks ss H7 hl l0 t0 k0 v0 ntk ht hk hv hT hK hSv C7 => ?_⟩
    · simp only [List.mem_cons, List.not_mem_nil, or_false, reduceCtorEq, false_or, Option.some.injEq] at hc
      omega
    have hm5 : (1 + m).toNat ≤ 5 := by omega
    have hm1 : 1 ≤ (1 + m).toNat := by omega
    have hn8 : (1 + m).toNat + mo.toNat ≤ 8 := by omega
    have hn1 : 1 ≤ (1 + m).toNat + mo.toNat := by omega
    generalize (1 + m).toNat + mo.toNat = n at hSv hn8 hn1
    generalize (1 + m).toNat = mt at hT hm5 hm1
    have C17 := ((C2.trans C3).trans C4)
    have P7 := C7.1
    refine ⟨l, _, rfl, .of hl, rfl, _, _, rfl, _, _, rfl, _, _, rfl, rfl, ?_⟩
    -- the schema
    refine ⟨_, rfl, t, tabK ts, rfl, .inl ht, fun d1 f1 => ?_⟩
    have sb := same_upd (o := .dK (tabK ts)) f1
    refine ⟨_, rfl, k, keyK ks, rfl, .inl (sb _ _ hk), fun d2 f2 => ?_⟩
    have sc := same_upd (o := .dK (keyK ks)) f2
    refine ⟨_, rfl, v, svK ss, rfl, .inl (sc _ _ (sb _ _ hv)), fun d3 f3 => ?_⟩
    have sd := same_upd (o := .dK (svK ss)) f3
    have s78 := (sb.trans sc).trans sd
    have e1 : upd (upd (upd H7 d1 (.dK (tabK ts))) d2 (.dK (keyK ks))) d3 (.dK (svK ss)) d1 = some (.dK (tabK ts)) := sd _ _ (sc _ _ upd_same)
    have e2 : upd (upd (upd H7 d1 (.dK (tabK ts))) d2 (.dK (keyK ks))) d3 (.dK (svK ss)) d2 = some (.dK (keyK ks)) := sd _ _ upd_same
    have e3 : upd (upd (upd H7 d1 (.dK (tabK ts))) d2 (.dK (keyK ks))) d3 (.dK (svK ss)) d3 = some (.dK (svK ss)) := upd_same
    generalize upd (upd (upd H7 d1 (.dK (tabK ts))) d2 (.dK (keyK ks))) d3 (.dK (svK ss)) = H8 at s78 e1 e2 e3
    refine fun x dx fx fdx ndx => mk_schema (.of e1) (.of e2) (.of e3) hT (hK.mono fun _ _ e => s78 _ _ e) (hSv.mono fun _ _ e => s78 _ _ e) hm1 hm5 hn1 hn8 fx fdx ndx fun H9 hx s89 => ?_
    have s79 := s78.trans s89
    have B9 : LB (a 25) pl x t k v mt n ts ks ss H9 := ⟨P7.same s79, hx, s79 _ _ ht, s79 _ _ hk, s79 _ _ hv⟩
    have K9 := hK.mono fun _ _ e => s79 _ _ e
    have S9 := hSv.mono fun _ _ e => s79 _ _ e
    clear hl l0 t0 k0 v0 hS0 hl0 s1 C17 C4 C6 C7 sb sc sd e1 e2 e3 f1 f2 f3 s5 P5 nca hca
    have lts : ts.length = mt := hT.len
    have lks := hK.le
    have lss : ss.length = n := by rw [← hSv.nm.len, List.length_map]
    -- turned
    refine ⟨_, rfl, t, tabK ts, ts.map (·.1), rfl, B9.ht, keys_tab ts, hT.nm.nd, by rw [List.length_map]; omega, fun o1 H10 g1 D1 s10 => ?_⟩
    have B10 := B9.same s10
    refine ⟨_, rfl, k, keyK ks, ks.map (·.1), rfl, B10.hk, keys_key ks, hK.nd, by rw [List.length_map]; omega, fun o2 H11 g2 D2 s11 => ?_⟩
    have B11 := B10.same s11
    refine ⟨_, rfl, v, svK ss, ss.map (·.name), rfl, B11.hv, keys_sv ss, hSv.nm.nd, by rw [List.length_map]; omega, fun o3 H12 g3 D3 s12 => ?_⟩
    have B12 := B11.same s12
    have s912 := (s10.trans s11).trans s12
    have n12 : o1 ≠ o2 := by
      obtain ⟨kd, e, _⟩ := D1
      exact ne_of_none e g2
    have n13 : o1 ≠ o3 := by
      obtain ⟨kd, e, _⟩ := D1.same s11
      exact ne_of_none e g3
    have n23 : o2 ≠ o3 := by
      obtain ⟨kd, e, _⟩ := D2
      exact ne_of_none e g3
    have q1 : H9 o1 = none := g1
    have q2 : H9 o2 = none := s10.free g2
    have q3 : H9 o3 = none := (s10.trans s11).free g3
    have E12 : Ch3 pl o1 o2 o3 mt n H12 H12 ts ks ss := ⟨by omega, by omega, B12.pool, (D1.same s11).same s12, D2.same s12, D3, hT, K9.mono fun _ _ e => s912 _ _ e, fun b hb => (S9.ok b hb).mono fun _ _ e => s912 _ _ e, hSv.nm, fun _ _ _ _ _ _ e => e⟩
    -- changed
    refine ⟨fun σ H' => σ = [some (.ref p0), some (.ref pl), some (.int ch), some (.int un), some (.ref t), some (.ref k), some (.ref v), some (.ref x), some (.ref o1), some (.ref o2), some (.ref o3), none, none, none, none, none] ∧ Chg pl H9 H' ∧ ∃ ts' ks' ss', Ch3 pl o1 o2 o3 mt n H' H' ts' ks' ss', ?_, ?_⟩
    · refine ⟨_, rfl, rfl, _, rfl, ite_eqI (fun _ => ?_) (fun _ => ⟨rfl, (Chg.refl B9.pool).same s912, ts, ks, ss, E12⟩)⟩
      refine ⟨_, rfl, _, rfl, _, rfl, _, rfl, pl, o1, o2, o3, mt, n, ts, ks, ss, rfl, n12, n13, n23, hm1, hn1, E12, fun ts' ks' ss' H13 E13 => ⟨rfl, ⟨E13.pool, fun b u nb e => E13.oth b u nb (ne_of_none e q1) (ne_of_none e q2) (ne_of_none e q3) (s912 _ _ e)⟩, ts', ks', ss', ⟨E13.mm, E13.nn, E13.pool, E13.tb, E13.ky, E13.sv, E13.hT, E13.hK, E13.hS, E13.nm, fun _ _ _ _ _ _ e => e⟩⟩⟩
    · rintro σ H13 ⟨rfl, C13, ts', ks', ss', E13⟩
      have B13 := B9.chg C13
      have K13 := K9.mono (chg_tup B9.pool C13)
      have S13 := S9.mono (chg_tup B9.pool C13)
      refine ⟨fun σ H' => ∃ y11 y12 : Option V, σ = [some (.ref p0), some (.ref pl), some (.int ch), some (.int un), some (.ref t), some (.ref k), some (.ref v), some (.ref x), some (.ref o1), some (.ref o2), some (.ref o3), y11, y12, none, none, none] ∧ Chg pl H9 H', ?_, ?_⟩
      · refine ⟨_, rfl, _, rfl, _, rfl, o1, o2, o3, mt, n, ts', ks', ss', rfl, E13.tb, E13.ky, E13.sv, E13.hT, E13.hK, E13.hS, E13.nm, E13.nn, fun H14 s14 => ⟨_, rfl, ?_⟩⟩
        refine ite_d (fun hfit => ?_) (fun _ => ⟨_, _, rfl, C13.same s14⟩)
        have E14 := E13.same s14
        have B14 := B13.same s14
        have K14 := K13.mono fun _ _ e => s14 _ _ e
        have S14 := S13.mono fun _ _ e => s14 _ _ e
        refine ⟨_, rfl, _, rfl, _, rfl, fun o dy fo fdy ndy => mk_schema E14.tb E14.ky E14.sv E14.hT E14.hK ⟨E14.nm, E14.hS, hfit⟩ hm1 hm5 hn1 hn8 fo fdy ndy fun H15 ho s15 => ?_⟩
        have E15 := E14.same s15
        have B15 := B14.same s15
        have K15 := K14.mono fun _ _ e => s15 _ _ e
        have S15 := S14.mono fun _ _ e => s15 _ _ e
        refine ⟨fun σ H' => σ = [some (.ref p0), some (.ref pl), some (.int ch), some (.int un), some (.ref t), some (.ref k), some (.ref v), some (.ref x), some (.ref o1), some (.ref o2), some (.ref o3), some (.ref o), some (.bl (eqP (tabP ts') (tabP ts) && (eqP (keyP ks') (keyP ks) && eqP (svP ss') (svP ss)))), none, none, none] ∧ H' = H15, ?_, ?_⟩
        · refine ⟨_, rfl, _, rfl, rEqT_of (ddat_tab E15.tb) (ddat_tab (.of B15.ht)) (tabP_nd E15.hT) (tabP_nd hT) ⟨_, rfl, ?_⟩⟩
          show if eqP (tabP ts') (tabP ts) = true then _ else _
          cases eqP (tabP ts') (tabP ts) with
          | false => exact ⟨rfl, rfl⟩
          | true =>
            refine ⟨_, rfl, _, rfl, rEqT_of (ddat_key E15.ky E15.hK) (ddat_key (.of B15.hk) K15) (keyP_nd E15.hK) (keyP_nd K15) ⟨_, rfl, ?_⟩⟩
            show if eqP (keyP ks') (keyP ks) = true then _ else _
            cases eqP (keyP ks') (keyP ks) with
            | false => exact ⟨rfl, rfl⟩
            | true => exact ⟨_, rfl, _, rfl, rEqT_of (ddat_sv E15.sv (sv_toldW E15.hT E15.hS)) (ddat_sv (.of B15.hv) (sv_toldW hT S15.ok)) (svP_nd E15.nm) (svP_nd S15.nm) ⟨rfl, rfl⟩⟩
        rintro σ _ ⟨rfl, rfl⟩
        have hd1 : schB ts ks ss ts' ks' ss' = (eqP (tabP ts') (tabP ts) && (eqP (keyP ks') (keyP ks) && eqP (svP ss') (svP ss))) := by
          unfold schB
          rw [eqP_comm (tabP_nd hT) (tabP_nd E15.hT), eqP_comm (keyP_nd K15) (keyP_nd E15.hK), eqP_comm (svP_nd S15.nm) (svP_nd E15.nm)]
        have hd2 : schB ts' ks' ss' ts ks ss = (eqP (tabP ts') (tabP ts) && (eqP (keyP ks') (keyP ks) && eqP (svP ss') (svP ss))) := rfl
        have hd3 : schB ts ks ss ts ks ss = true := by
          unfold schB
          rw [eqP_refl (tabP_nd hT) (fun p hp => by obtain ⟨b, _, rfl⟩ := List.mem_map.mp hp; rfl), eqP_refl (keyP_nd K15) (fun p hp => by obtain ⟨b, _, rfl⟩ := List.mem_map.mp hp; exact ints_tup_shaped _), eqP_refl (svP_nd S15.nm) (fun p hp => by obtain ⟨b, hb, rfl⟩ := List.mem_map.mp hp; exact sv_shaped (wd_strOk (sv_toldW hT S15.ok b hb).2) _ _)]
          rfl
        generalize (eqP (tabP ts') (tabP ts) && (eqP (keyP ks') (keyP ks) && eqP (svP ss') (svP ss))) = due at hd1 hd2 ⊢
        obtain ⟨dx', a1, a2, a3, Ox⟩ := id B15.sch
        obtain ⟨dy', b1, b2, b3, Oo⟩ := id ho
        refine ⟨_, rfl, _, rfl, x, o, _, _, _, _, rfl, rfl, Ox.ob, Oo.ob, x, o, ts, ks, ss, mt, n, ts', ks', ss', mt, n, rfl, B15.sch, ho, _, rfl, ?_⟩
        rw [hd1]
        refine ⟨_, rfl, rfl, _, rfl, ?_⟩
        show if (!decide (V.bl due = V.bl due)) = true then _ else _
        rw [decide_eq_true rfl]
        refine ⟨_, rfl, _, rfl, o, x, _, _, _, _, rfl, rfl, Oo.ob, Ox.ob, o, x, ts', ks', ss', mt, n, ts, ks, ss, mt, n, rfl, ho, B15.sch, _, rfl, ?_⟩
        rw [hd2]
        refine ⟨_, rfl, rfl, _, rfl, ?_⟩
        show if (!decide (V.bl due = V.bl due)) = true then _ else _
        rw [decide_eq_true rfl]
        refine ⟨_, rfl, _, rfl, _, rfl, _, rfl, fun z dz fz fdz ndz => mk_schema (.of B15.ht) (.of B15.hk) (.of B15.hv) hT K15 S15 hm1 hm5 hn1 hn8 fz fdz ndz fun H16 hz s16 => ?_⟩
        have B16 := B15.same s16
        obtain ⟨dx'', a1, a2, a3, Ox⟩ := id B16.sch
        obtain ⟨dz', b1, b2, b3, Oz⟩ := id hz
        refine ⟨x, z, _, _, _, _, rfl, rfl, Ox.ob, Oz.ob, x, z, ts, ks, ss, mt, n, ts, ks, ss, mt, n, rfl, B16.sch, hz, _, rfl, _, rfl, ?_⟩
        rw [hd3]
        exact ⟨_, _, rfl, ((C13.same s14).same s15).same s16⟩
      · rintro σ Hm ⟨y11, y12, rfl, Cm⟩
        have Bm := B9.chg Cm
        have nlp : ∀ {b : Addr}, Hm b = none → b ≠ pl := fun h => pool_ne' Bm.pool h
        -- the names
        refine ⟨_, rfl, v, svK ss, rfl, .inl Bm.hv, fun l hl => ⟨l, rfl, ?_⟩⟩
        rw [kd_names (keys_sv ss)]
        have Cl := (Chg.refl Bm.pool).new (o := .lst ((ss.map (·.name)).map V.str)) hl
        have nl := nlp hl
        refine ⟨⟨_, .of upd_same⟩, fun D hD => ?_⟩
        have hDm : Hm D = none := (same_upd hl).free hD
        have nD := nlp hDm
        have nlD : l ≠ D := ne_of_none upd_same hD
        have CD := Cl.new (o := .lst []) hD
        have loww : ∀ x ∈ ss.map (·.name), Low x := fun x hx => wd_low (hSv.nm.wd x hx)
        refine lc_list (K := K) (a := l) (xs := (ss.map (·.name)).map V.str) (fun i H' => ∃ fs : List Str, H' D = some (.lst (fs.map V.str)) ∧ fs.length ≤ i ∧ (∀ x ∈ fs, x ∈ ss.map (·.name)) ∧ H' l = some (.lst ((ss.map (·.name)).map V.str)) ∧ Chg pl Hm H') ⟨[], upd_same, Nat.le_refl _, (fun x hx => by cases hx), (by rw [upd_ne nlD]; exact upd_same), CD⟩ (fun i H' _ hp => ?_) (fun i x H' hx hp => ?_) (fun H14 hp => ?_)
        · obtain ⟨fs, _, _, _, hl', _⟩ := hp
          exact .of hl'
        · obtain ⟨fs, hD', hfl, hfm, hl', Cx⟩ := hp
          obtain ⟨nm, hn, rfl⟩ := map_at hx
          have hi : i < (ss.map (·.name)).length := (List.getElem?_eq_some_iff.mp hn).1
          rw [List.length_map] at hi
          refine ⟨rfl, _, rfl, pl, 2, rfl, Cx.1, by decide, by decide, fun r H2 r0 r1 C2 => ⟨rfl, _, rfl, ite_eqI (fun _ => ?_) (fun _ => ⟨fs, C2.at nD hD', Nat.le_succ_of_le hfl, hfm, C2.at nl hl', Cx.trans C2⟩)⟩⟩
          refine ⟨_, rfl, _, C2.at nD hD', ?_, fs ++ [nm], ?_, ?_, fun y hy => ?_, ?_, (Cx.trans C2).mut hDm nD⟩
          · rw [List.length_map]
            exact small1000 (by omega)
          · rw [snoc_map]
            exact upd_same
          · rw [List.length_append, List.length_singleton]
            omega
          · rcases List.mem_append.mp hy with h | h
            · exact hfm y h
            · rw [List.mem_singleton.mp h]
              exact List.mem_of_getElem? hn
          · rw [upd_ne nlD]
            exact C2.at nl hl'
        · obtain ⟨fs, hD', hfl, hfm, hl', Cx⟩ := hp
          rw [List.length_map, List.length_map] at hfl
          -- a name put in
          refine ⟨fun σ H' => ∃ names : List Str, σ = [some (.ref p0), some (.ref pl), some (.int ch), some (.int un), some (.ref t), some (.ref k), some (.ref v), some (.ref x), some (.ref o1), some (.ref o2), some (.ref o3), y11, y12, some (.ref D), none, none] ∧ H' D = some (.lst (names.map V.str)) ∧ names.length ≤ 9 ∧ (∀ x ∈ names, Low x) ∧ Chg pl Hm H', ?_, ?_⟩
          · refine ⟨_, rfl, rfl, _, rfl, ite_eqI (fun _ => ?_) (fun _ => ⟨fs, rfl, hD', by omega, fun x hx => loww x (hfm x hx), Cx⟩)⟩
            refine ⟨_, rfl, .inl ⟨rfl, _, .of hD'⟩, _, rfl, _, rfl, _, _, rfl, .inl (.of hD'), _, _, rfl, rfl, pl, _, rfl, Cx.1, by omega, ?_, fun r H2 r0 r1 C2 => ?_⟩
            · rw [List.length_map]
              exact Nat.lt_of_le_of_lt (by omega : _ ≤ 100) (by decide)
            · rw [List.length_map] at r1
              refine ⟨_, rfl, _, rfl, pl, 8, rfl, C2.1, by decide, by decide, fun m3 H3 a0 a1 C3 => ⟨_, _, rfl, rfl, pl, (1 + m3).toNat, by rw [Int.toNat_of_nonneg (by omega)]; rfl, C3.1, by omega, fun sx H4 hsx C4 => ?_⟩⟩
              have C24 := (C2.trans C3).trans C4
              refine ⟨D, fs.map V.str, r, .str sx, rfl, rfl, C24.at nD hD', ?_, r0, ?_, fs.take r.toNat ++ [sx] ++ fs.drop r.toNat, rfl, ?_, ?_, fun y hy => ?_, (Cx.trans C24).mut hDm nD⟩
              · rw [List.length_map]
                exact Nat.lt_of_le_of_lt (by omega : _ ≤ 100) (by decide)
              · exact Int.lt_of_lt_of_le r1 (by omega)
              · rw [List.map_append, List.map_append, List.map_take, List.map_drop]
                exact upd_same
              · rw [List.length_append, List.length_append, List.length_take, List.length_drop, List.length_singleton]
                omega
              · rcases List.mem_append.mp hy with h | h
                · rcases List.mem_append.mp h with h | h
                  · exact loww y (hfm y (List.mem_of_mem_take h))
                  · rw [List.mem_singleton.mp h]
                    exact wd_isWd hsx
                · exact loww y (hfm y (List.mem_of_mem_drop h))
          · rintro σ H15 ⟨names, rfl, hD15, hnl, hnlow, C15⟩
            have B15 := Bm.chg C15
            -- the lists that are asked
            obtain ⟨dx', a1, a2, a3, O15⟩ := id B15.sch
            refine ⟨_, rfl, _, rfl, x, _, _, rfl, O15.ob, flds_no _ _ _ (by decide +kernel) (by decide +kernel) (by decide +kernel), x, ts, ks, ss, mt, n, rfl, B15.sch, fun c ys H16 c0 hc yp so s16 => ⟨Nat.zero_le _, fun e he => ⟨by show 3 ≤ sizeLine; decide, fun g hg => ⟨g, rfl, ?_⟩⟩⟩⟩
            have s17 := (same_upd (o := .lst []) he).trans (same_upd (o := .lst [.ref D, .ref c, .ref e]) hg)
            have he17 : upd (upd H16 e (.lst [])) g (.lst [.ref D, .ref c, .ref e]) e = some (.lst []) := same_upd hg _ _ upd_same
            have hg17 : upd (upd H16 e (.lst [])) g (.lst [.ref D, .ref c, .ref e]) g = some (.lst [.ref D, .ref c, .ref e]) := upd_same
            have hc17 := s17 _ _ hc
            have hD17 := s17 _ _ (s16 _ _ hD15)
            have B17 := (B15.same s16).same s17
            generalize upd (upd H16 e (.lst [])) g (.lst [.ref D, .ref c, .ref e]) = H17 at *
            have hall : ∀ r ∈ ([.ref D, .ref c, .ref e] : List V), ∃ (b : Addr) (nn : List Str), r = .ref b ∧ H17 b = some (.lst (nn.map V.str)) ∧ nn.length ≤ 100 ∧ ∀ x ∈ nn, Low x := fun r hr => by
              simp only [List.mem_cons, List.not_mem_nil, or_false] at hr
              rcases hr with rfl | rfl | rfl
              · exact ⟨D, names, rfl, hD17, by omega, hnlow⟩
              · refine ⟨c, _, rfl, hc17, ?_, fun y hy => loww y (yp.mem_iff.mp (List.mem_filter.mp hy).1)⟩
                have l1 := List.length_filter_le (fun n => !whN ts ks ss n) ys
                have l2 := yp.length_eq
                rw [List.length_map] at l2
                omega
              · exact ⟨e, [], rfl, he17, by decide, fun y hy => by cases hy⟩
            refine ⟨⟨_, .of hg17⟩, for_list (K := K) (a := g) (xs := [.ref D, .ref c, .ref e]) (fun i σ H' => ∃ y14 : Option V, σ = [some (.ref p0), some (.ref pl), some (.int ch), some (.int un), some (.ref t), some (.ref k), some (.ref v), some (.ref x), some (.ref o1), some (.ref o2), some (.ref o3), y11, y12, some (.ref D), y14, none] ∧ Same H17 H') ⟨none, rfl, Same.refl _⟩ (fun i σ H' _ hp => ?_) (fun i y σ H' hy hp => ?_) (fun σ H18 hp => ?_)⟩
            · obtain ⟨y14, rfl, sm⟩ := hp
              exact .of (sm _ _ hg17)
            · obtain ⟨y14, rfl, sm⟩ := hp
              obtain ⟨b, nn, rfl, hb, hbl, hblow⟩ := hall y (List.mem_of_getElem? hy)
              have Bz := B17.same sm
              exact ⟨_, rfl, _, rfl, _, rfl, _, rfl, _, rfl, x, t, k, v, b, mt, n, ts, ks, ss, nn, rfl, Bz.sch, hm1, hn1, Bz.ht, Bz.hk, Bz.hv, sm _ _ hb, hbl, hblow, fun H2 s2 => ⟨_, rfl, _, rfl, sm.trans s2⟩⟩
            · obtain ⟨y14, rfl, sm⟩ := hp
              have B18 := B17.same sm
              obtain ⟨dx'', b1, b2, b3, O18⟩ := id B18.sch
              refine ⟨_, rfl, x, _, _, rfl, O18.ob, x, ts, ks, ss, mt, n, rfl, B18.sch, fun D2 H19 f19 hD19 s19 => ⟨_, rfl, rEqT_of (ddat_sv hD19 (sv_toldW hT fun b hb => (O18.hS.ok b hb).mono fun _ _ e => s19 _ _ e)) (ddat_sv (.of (s19 _ _ B18.hv)) (sv_toldW hT fun b hb => (O18.hS.ok b hb).mono fun _ _ e => s19 _ _ e)) (svP_nd hSv.nm) (svP_nd hSv.nm) ⟨_, rfl, ?_⟩⟩⟩
              have rs : eqP (svP ss) (svP ss) = true := eqP_refl (svP_nd hSv.nm) fun p hp => by
                obtain ⟨b, hb, rfl⟩ := List.mem_map.mp hp
                exact sv_shaped (wd_strOk (sv_toldW hT O18.hS.ok b hb).2) _ _
              show if eqP (svP ss) (svP ss) = true then _ else _
              rw [rs]
              have B19 := B18.same s19
              have O19 := O18.same s19
              refine ⟨_, rfl, x, _, _, rfl, O19.ob, flds_no _ _ _ (by decide +kernel) (by decide +kernel) (by decide +kernel), _, rfl, v, _, rfl, .inl B19.hv, fun u hu => ?_⟩
              rw [kd_names (keys_sv ss)]
              have s20 := same_upd (o := .lst ((ss.map (·.name)).map V.str)) hu
              have B20 := B19.same s20
              refine ⟨x, u, ts, ks, ss, mt, n, ss.map (·.name), rfl, B20.sch, hm1, hn1, upd_same, by rw [List.length_map]; omega, fun _ r H21 ss' O21 hU _ s21 => ?_, fun i z hz hbef hno H' s' => absurd (List.mem_of_getElem? hz) hno⟩
              obtain ⟨dr, z1, z2, z3, Or⟩ := id O21
              refine ⟨r, _, _, rfl, Or.ob, flds_no _ _ _ (by decide +kernel) (by decide +kernel) (by decide +kernel), r, ts, ks, ss', mt, n, rfl, O21, fun c2 ys2 H22 f22 hc2 yp2 so2 s22 => ?_⟩
              have hnil : ys2.filter (fun n => !whN ts ks ss' n) = [] := List.filter_eq_nil_iff.mpr fun y hy => by
                have hy' := yp2.mem_iff.mp hy
                obtain ⟨b, hb⟩ := svAt_some' hy'
                have hin : (b.name, b.tab, b.ga, b.cols, b.cap) ∈ ss'.map fun b => (b.name, b.tab, b.ga, b.cols, b.cap) := List.mem_map.mpr ⟨b, (svAt_mem hb).1, rfl⟩
                have hU' : ss'.map (fun b => (b.name, b.tab, b.ga, b.cols, b.cap)) = _ := hU
                rw [hU'] at hin
                obtain ⟨c0, hc0, ec⟩ := List.mem_map.mp hin
                have zc : (if decide (c0.name ∈ ss.map (·.name)) = true then none else c0.cap) = b.cap := congrArg (fun q => q.2.2.2.2) ec
                rw [decide_eq_true (List.mem_map.mpr ⟨c0, hc0, rfl⟩), if_pos rfl] at zc
                unfold whN
                rw [hb]
                show ¬ (!whE ts ks b) = true
                unfold whE isWh
                rw [← zc]
                intro z
                cases z
              rw [hnil] at hc2
              refine ⟨Nat.zero_le _, fun e2 he2 => ⟨.list [], .list [], .lst (.of (same_upd he2 _ _ hc2)) .nil, .lst (.of upd_same) .nil, by decide, by decide, ?_⟩⟩
              rw [show PyData.eqv (.list []) (.list []) = true from by simp [PyData.eqv, PyData.eqvAll]]
              exact q _
end
theorem all_mk {P : Program} {w : World} {K : PySem.W.Frag} {h : Heap} {mg : Str → Option Value} {fa : Addr} (X : K.In h) (G : h.Ns mainGlobals mg) (hfa : mg "law" = some (.ref fa))
    {f1300 : Addr} {od1300 an1300 : Option Addr} {sl1300 : Array (Option Value)} {oc1300 kV1300 dc1300 pm1300 cd1300 ct1300 : Value}
    {f7 : Addr} {od7 an7 : Option Addr} {sl7 : Array (Option Value)} {oc7 kV7 dc7 pm7 cd7 ct7 : Value}
    {f8 : Addr} {od8 an8 : Option Addr} {sl8 : Array (Option Value)} {oc8 kV8 dc8 pm8 cd8 ct8 : Value}
    {f14 : Addr} {od14 an14 : Option Addr} {sl14 : Array (Option Value)} {oc14 kV14 dc14 pm14 cd14 ct14 : Value}
    {f15 : Addr} {od15 an15 : Option Addr} {sl15 : Array (Option Value)} {oc15 kV15 dc15 pm15 cd15 ct15 : Value}
    {f16 : Addr} {od16 an16 : Option Addr} {sl16 : Array (Option Value)} {oc16 kV16 dc16 pm16 cd16 ct16 : Value}
    {f17 : Addr} {od17 an17 : Option Addr} {sl17 : Array (Option Value)} {oc17 kV17 dc17 pm17 cd17 ct17 : Value}
    {f18 : Addr} {od18 an18 : Option Addr} {sl18 : Array (Option Value)} {oc18 kV18 dc18 pm18 cd18 ct18 : Value}
    {f19 : Addr} {od19 an19 : Option Addr} {sl19 : Array (Option Value)} {oc19 kV19 dc19 pm19 cd19 ct19 : Value}
    {f20 : Addr} {od20 an20 : Option Addr} {sl20 : Array (Option Value)} {oc20 kV20 dc20 pm20 cd20 ct20 : Value}
    {f21 : Addr} {od21 an21 : Option Addr} {sl21 : Array (Option Value)} {oc21 kV21 dc21 pm21 cd21 ct21 : Value}
    {f22 : Addr} {od22 an22 : Option Addr} {sl22 : Array (Option Value)} {oc22 kV22 dc22 pm22 cd22 ct22 : Value}
    {f23 : Addr} {od23 an23 : Option Addr} {sl23 : Array (Option Value)} {oc23 kV23 dc23 pm23 cd23 ct23 : Value}
    {f24 : Addr} {od24 an24 : Option Addr} {sl24 : Array (Option Value)} {oc24 kV24 dc24 pm24 cd24 ct24 : Value}
    {f3500 : Addr} {od3500 an3500 : Option Addr} {sl3500 : Array (Option Value)} {oc3500 kV3500 dc3500 pm3500 cd3500 ct3500 : Value}
    {f3501 : Addr} {od3501 an3501 : Option Addr} {sl3501 : Array (Option Value)} {oc3501 kV3501 dc3501 pm3501 cd3501 ct3501 : Value}
    {f3502 : Addr} {od3502 an3502 : Option Addr} {sl3502 : Array (Option Value)} {oc3502 kV3502 dc3502 pm3502 cd3502 ct3502 : Value}
    {f3503 : Addr} {od3503 an3503 : Option Addr} {sl3503 : Array (Option Value)} {oc3503 kV3503 dc3503 pm3503 cd3503 ct3503 : Value}
    {f3504 : Addr} {od3504 an3504 : Option Addr} {sl3504 : Array (Option Value)} {oc3504 kV3504 dc3504 pm3504 cd3504 ct3504 : Value}
    {f3506 : Addr} {od3506 an3506 : Option Addr} {sl3506 : Array (Option Value)} {oc3506 kV3506 dc3506 pm3506 cd3506 ct3506 : Value}
    {f3507 : Addr} {od3507 an3507 : Option Addr} {sl3507 : Array (Option Value)} {oc3507 kV3507 dc3507 pm3507 cd3507 ct3507 : Value}
    {f3510 : Addr} {od3510 an3510 : Option Addr} {sl3510 : Array (Option Value)} {oc3510 kV3510 dc3510 pm3510 cd3510 ct3510 : Value}
    {f3511 : Addr} {od3511 an3511 : Option Addr} {sl3511 : Array (Option Value)} {oc3511 kV3511 dc3511 pm3511 cd3511 ct3511 : Value}
    {f3512 : Addr} {od3512 an3512 : Option Addr} {sl3512 : Array (Option Value)} {oc3512 kV3512 dc3512 pm3512 cd3512 ct3512 : Value}
    {f27 : Addr} {od27 an27 : Option Addr} {sl27 : Array (Option Value)} {oc27 kV27 dc27 pm27 cd27 ct27 : Value}
    {f28 : Addr} {od28 an28 : Option Addr} {sl28 : Array (Option Value)} {oc28 kV28 dc28 pm28 cd28 ct28 : Value}
    {f29 : Addr} {od29 an29 : Option Addr} {sl29 : Array (Option Value)} {oc29 kV29 dc29 pm29 cd29 ct29 : Value}
    {f30 : Addr} {od30 an30 : Option Addr} {sl30 : Array (Option Value)} {oc30 kV30 dc30 pm30 cd30 ct30 : Value}
    {f31 : Addr} {od31 an31 : Option Addr} {sl31 : Array (Option Value)} {oc31 kV31 dc31 pm31 cd31 ct31 : Value}
    {f32 : Addr} {od32 an32 : Option Addr} {sl32 : Array (Option Value)} {oc32 kV32 dc32 pm32 cd32 ct32 : Value}
    {f33 : Addr} {od33 an33 : Option Addr} {sl33 : Array (Option Value)} {oc33 kV33 dc33 pm33 cd33 ct33 : Value}
    {f34 : Addr} {od34 an34 : Option Addr} {sl34 : Array (Option Value)} {oc34 kV34 dc34 pm34 cd34 ct34 : Value}
    {f35 : Addr} {od35 an35 : Option Addr} {sl35 : Array (Option Value)} {oc35 kV35 dc35 pm35 cd35 ct35 : Value}
    {f36 : Addr} {od36 an36 : Option Addr} {sl36 : Array (Option Value)} {oc36 kV36 dc36 pm36 cd36 ct36 : Value}
    {f37 : Addr} {od37 an37 : Option Addr} {sl37 : Array (Option Value)} {oc37 kV37 dc37 pm37 cd37 ct37 : Value}
    {f38 : Addr} {od38 an38 : Option Addr} {sl38 : Array (Option Value)} {oc38 kV38 dc38 pm38 cd38 ct38 : Value}
    {f39 : Addr} {od39 an39 : Option Addr} {sl39 : Array (Option Value)} {oc39 kV39 dc39 pm39 cd39 ct39 : Value}
    {f40 : Addr} {od40 an40 : Option Addr} {sl40 : Array (Option Value)} {oc40 kV40 dc40 pm40 cd40 ct40 : Value}
    {f41 : Addr} {od41 an41 : Option Addr} {sl41 : Array (Option Value)} {oc41 kV41 dc41 pm41 cd41 ct41 : Value}
    {f42 : Addr} {od42 an42 : Option Addr} {sl42 : Array (Option Value)} {oc42 kV42 dc42 pm42 cd42 ct42 : Value}
    {f43 : Addr} {od43 an43 : Option Addr} {sl43 : Array (Option Value)} {oc43 kV43 dc43 pm43 cd43 ct43 : Value}
    {f44 : Addr} {od44 an44 : Option Addr} {sl44 : Array (Option Value)} {oc44 kV44 dc44 pm44 cd44 ct44 : Value}
    {f2 : Addr}
    {nm_2 qn_2 : Str} {N_2 : Addr} {bs_2 : List Value} {sn_2 : List Str} {sub_2 : List Value} {ab_2 : Bool} {col_2 : Option Bool} {dd_2 : Option Addr} {m0_2 m1_2 m2_2 m3_2 m5_2 : Option Value}
    {f3 : Addr}
    {nm_3 qn_3 : Str} {N_3 : Addr} {bs_3 : List Value} {sn_3 : List Str} {sub_3 : List Value} {ab_3 : Bool} {col_3 : Option Bool} {dd_3 : Option Addr} {m0_3 m1_3 m2_3 m3_3 m5_3 : Option Value}
    {f25 : Addr}
    {f53501 : Addr} {rest3501 : List Value}
    {f53502 : Addr} {rest3502 : List Value}
    {f53503 : Addr} {rest3503 : List Value}
    (ac_2 : PySem.W.nsIn K mainGlobals "CappedError" = some (some (.ref f2)))
    (ac_3 : PySem.W.nsIn K mainGlobals "UnknownName" = some (some (.ref f3)))
    (ac_25 : PySem.W.nsIn K mainGlobals "Schema" = some (some (.ref f25)))
    (fi_3 : PySem.W.findIn K (.ref f3) "__init__" = some (some (.ref f1300)))
    (fi_25 : PySem.W.findIn K (.ref f25) "__init__" = some (some (.ref f3500)))
    (ma_3504 : PySem.W.findIn K (.ref f25) "__eq__" = some (some (.ref f3504)))
    (ma_3506 : PySem.W.findIn K (.ref f25) "service_names" = some (some (.ref f3506)))
    (ma_3507 : PySem.W.findIn K (.ref f25) "capped_names" = some (some (.ref f3507)))
    (ma_3510 : PySem.W.findIn K (.ref f25) "service_of" = some (some (.ref f3510)))
    (ma_3511 : PySem.W.findIn K (.ref f25) "is_whole" = some (some (.ref f3511)))
    (ma_3512 : PySem.W.findIn K (.ref f25) "uncapped" = some (some (.ref f3512)))
    (pa_3501 : PySem.W.findIn K (.ref f25) "tables" = some (some (.ref f53501)))
    (pa_3502 : PySem.W.findIn K (.ref f25) "key_columns" = some (some (.ref f53502)))
    (pa_3503 : PySem.W.findIn K (.ref f25) "services" = some (some (.ref f53503)))
    (pd_3501 : PySem.W.recIn K f53501 "property" = some (.ref f3501 :: rest3501))
    (pd_3502 : PySem.W.recIn K f53502 "property" = some (.ref f3502 :: rest3502))
    (pd_3503 : PySem.W.recIn K f53503 "property" = some (.ref f3503 :: rest3503))
    (l1300 : K.lookup f1300 = some ⟨oc1300, od1300, .func (PySem.W.fnOf "__init__" "UnknownName.__init__" (defArgs s_UnknownName___init__) (defBody s_UnknownName___init__) (defScope s_UnknownName___init__) .none kV1300 dc1300 pm1300 an1300 cd1300 ct1300), sl1300⟩) (c1300 : PySem.W.codeIn K cd1300 "UnknownName.__init__" = true) (k1300 : PySem.W.keepIn K (.ref f1300) = true)
    (a7 : PySem.W.nsIn K mainGlobals "is_plain_int" = some (some (.ref f7))) (l7 : K.lookup f7 = some ⟨oc7, od7, .func (PySem.W.fnOf "is_plain_int" "is_plain_int" (defArgs s_is_plain_int) (defBody s_is_plain_int) (defScope s_is_plain_int) .none kV7 dc7 pm7 an7 cd7 ct7), sl7⟩) (c7 : PySem.W.codeIn K cd7 "is_plain_int" = true) (k7 : PySem.W.keepIn K (.ref f7) = true)
    (a8 : PySem.W.nsIn K mainGlobals "is_word" = some (some (.ref f8))) (l8 : K.lookup f8 = some ⟨oc8, od8, .func (PySem.W.fnOf "is_word" "is_word" (defArgs s_is_word) (defBody s_is_word) (defScope s_is_word) .none kV8 dc8 pm8 an8 cd8 ct8), sl8⟩) (c8 : PySem.W.codeIn K cd8 "is_word" = true) (k8 : PySem.W.keepIn K (.ref f8) = true)
    (a14 : PySem.W.nsIn K mainGlobals "_is_count" = some (some (.ref f14))) (l14 : K.lookup f14 = some ⟨oc14, od14, .func (PySem.W.fnOf "_is_count" "_is_count" (defArgs s__is_count) (defBody s__is_count) (defScope s__is_count) .none kV14 dc14 pm14 an14 cd14 ct14), sl14⟩) (c14 : PySem.W.codeIn K cd14 "_is_count" = true) (k14 : PySem.W.keepIn K (.ref f14) = true)
    (a15 : PySem.W.nsIn K mainGlobals "_is_name_in" = some (some (.ref f15))) (l15 : K.lookup f15 = some ⟨oc15, od15, .func (PySem.W.fnOf "_is_name_in" "_is_name_in" (defArgs s__is_name_in) (defBody s__is_name_in) (defScope s__is_name_in) .none kV15 dc15 pm15 an15 cd15 ct15), sl15⟩) (c15 : PySem.W.codeIn K cd15 "_is_name_in" = true) (k15 : PySem.W.keepIn K (.ref f15) = true)
    (a16 : PySem.W.nsIn K mainGlobals "_are_columns" = some (some (.ref f16))) (l16 : K.lookup f16 = some ⟨oc16, od16, .func (PySem.W.fnOf "_are_columns" "_are_columns" (defArgs s__are_columns) (defBody s__are_columns) (defScope s__are_columns) .none kV16 dc16 pm16 an16 cd16 ct16), sl16⟩) (c16 : PySem.W.codeIn K cd16 "_are_columns" = true) (k16 : PySem.W.keepIn K (.ref f16) = true)
    (a17 : PySem.W.nsIn K mainGlobals "_is_key" = some (some (.ref f17))) (l17 : K.lookup f17 = some ⟨oc17, od17, .func (PySem.W.fnOf "_is_key" "_is_key" (defArgs s__is_key) (defBody s__is_key) (defScope s__is_key) .none kV17 dc17 pm17 an17 cd17 ct17), sl17⟩) (c17 : PySem.W.codeIn K cd17 "_is_key" = true) (k17 : PySem.W.keepIn K (.ref f17) = true)
    (a18 : PySem.W.nsIn K mainGlobals "_is_service" = some (some (.ref f18))) (l18 : K.lookup f18 = some ⟨oc18, od18, .func (PySem.W.fnOf "_is_service" "_is_service" (defArgs s__is_service) (defBody s__is_service) (defScope s__is_service) .none kV18 dc18 pm18 an18 cd18 ct18), sl18⟩) (c18 : PySem.W.codeIn K cd18 "_is_service" = true) (k18 : PySem.W.keepIn K (.ref f18) = true)
    (a19 : PySem.W.nsIn K mainGlobals "_is_whole_service" = some (some (.ref f19))) (l19 : K.lookup f19 = some ⟨oc19, od19, .func (PySem.W.fnOf "_is_whole_service" "_is_whole_service" (defArgs s__is_whole_service) (defBody s__is_whole_service) (defScope s__is_whole_service) .none kV19 dc19 pm19 an19 cd19 ct19), sl19⟩) (c19 : PySem.W.codeIn K cd19 "_is_whole_service" = true) (k19 : PySem.W.keepIn K (.ref f19) = true)
    (a20 : PySem.W.nsIn K mainGlobals "_check_tables" = some (some (.ref f20))) (l20 : K.lookup f20 = some ⟨oc20, od20, .func (PySem.W.fnOf "_check_tables" "_check_tables" (defArgs s__check_tables) (defBody s__check_tables) (defScope s__check_tables) .none kV20 dc20 pm20 an20 cd20 ct20), sl20⟩) (c20 : PySem.W.codeIn K cd20 "_check_tables" = true) (k20 : PySem.W.keepIn K (.ref f20) = true)
    (a21 : PySem.W.nsIn K mainGlobals "_check_keys" = some (some (.ref f21))) (l21 : K.lookup f21 = some ⟨oc21, od21, .func (PySem.W.fnOf "_check_keys" "_check_keys" (defArgs s__check_keys) (defBody s__check_keys) (defScope s__check_keys) .none kV21 dc21 pm21 an21 cd21 ct21), sl21⟩) (c21 : PySem.W.codeIn K cd21 "_check_keys" = true) (k21 : PySem.W.keepIn K (.ref f21) = true)
    (a22 : PySem.W.nsIn K mainGlobals "_check_services" = some (some (.ref f22))) (l22 : K.lookup f22 = some ⟨oc22, od22, .func (PySem.W.fnOf "_check_services" "_check_services" (defArgs s__check_services) (defBody s__check_services) (defScope s__check_services) .none kV22 dc22 pm22 an22 cd22 ct22), sl22⟩) (c22 : PySem.W.codeIn K cd22 "_check_services" = true) (k22 : PySem.W.keepIn K (.ref f22) = true)
    (a23 : PySem.W.nsIn K mainGlobals "_check_capped" = some (some (.ref f23))) (l23 : K.lookup f23 = some ⟨oc23, od23, .func (PySem.W.fnOf "_check_capped" "_check_capped" (defArgs s__check_capped) (defBody s__check_capped) (defScope s__check_capped) .none kV23 dc23 pm23 an23 cd23 ct23), sl23⟩) (c23 : PySem.W.codeIn K cd23 "_check_capped" = true) (k23 : PySem.W.keepIn K (.ref f23) = true)
    (a24 : PySem.W.nsIn K mainGlobals "_copied" = some (some (.ref f24))) (l24 : K.lookup f24 = some ⟨oc24, od24, .func (PySem.W.fnOf "_copied" "_copied" (defArgs s__copied) (defBody s__copied) (defScope s__copied) .none kV24 dc24 pm24 an24 cd24 ct24), sl24⟩) (c24 : PySem.W.codeIn K cd24 "_copied" = true) (k24 : PySem.W.keepIn K (.ref f24) = true)
    (l3500 : K.lookup f3500 = some ⟨oc3500, od3500, .func (PySem.W.fnOf "__init__" "Schema.__init__" (defArgs s_Schema___init__) (defBody s_Schema___init__) (defScope s_Schema___init__) .none kV3500 dc3500 pm3500 an3500 cd3500 ct3500), sl3500⟩) (c3500 : PySem.W.codeIn K cd3500 "Schema.__init__" = true) (k3500 : PySem.W.keepIn K (.ref f3500) = true)
    (l3501 : K.lookup f3501 = some ⟨oc3501, od3501, .func (PySem.W.fnOf "tables" "Schema.tables" (defArgs s_Schema_tables) (defBody s_Schema_tables) (defScope s_Schema_tables) .none kV3501 dc3501 pm3501 an3501 cd3501 ct3501), sl3501⟩) (c3501 : PySem.W.codeIn K cd3501 "Schema.tables" = true) (k3501 : PySem.W.keepIn K (.ref f3501) = true)
    (l3502 : K.lookup f3502 = some ⟨oc3502, od3502, .func (PySem.W.fnOf "key_columns" "Schema.key_columns" (defArgs s_Schema_key_columns) (defBody s_Schema_key_columns) (defScope s_Schema_key_columns) .none kV3502 dc3502 pm3502 an3502 cd3502 ct3502), sl3502⟩) (c3502 : PySem.W.codeIn K cd3502 "Schema.key_columns" = true) (k3502 : PySem.W.keepIn K (.ref f3502) = true)
    (l3503 : K.lookup f3503 = some ⟨oc3503, od3503, .func (PySem.W.fnOf "services" "Schema.services" (defArgs s_Schema_services) (defBody s_Schema_services) (defScope s_Schema_services) .none kV3503 dc3503 pm3503 an3503 cd3503 ct3503), sl3503⟩) (c3503 : PySem.W.codeIn K cd3503 "Schema.services" = true) (k3503 : PySem.W.keepIn K (.ref f3503) = true)
    (l3504 : K.lookup f3504 = some ⟨oc3504, od3504, .func (PySem.W.fnOf "__eq__" "Schema.__eq__" (defArgs s_Schema___eq__) (defBody s_Schema___eq__) (defScope s_Schema___eq__) .none kV3504 dc3504 pm3504 an3504 cd3504 ct3504), sl3504⟩) (c3504 : PySem.W.codeIn K cd3504 "Schema.__eq__" = true) (k3504 : PySem.W.keepIn K (.ref f3504) = true)
    (l3506 : K.lookup f3506 = some ⟨oc3506, od3506, .func (PySem.W.fnOf "service_names" "Schema.service_names" (defArgs s_Schema_service_names) (defBody s_Schema_service_names) (defScope s_Schema_service_names) .none kV3506 dc3506 pm3506 an3506 cd3506 ct3506), sl3506⟩) (c3506 : PySem.W.codeIn K cd3506 "Schema.service_names" = true) (k3506 : PySem.W.keepIn K (.ref f3506) = true)
    (l3507 : K.lookup f3507 = some ⟨oc3507, od3507, .func (PySem.W.fnOf "capped_names" "Schema.capped_names" (defArgs s_Schema_capped_names) (defBody s_Schema_capped_names) (defScope s_Schema_capped_names) .none kV3507 dc3507 pm3507 an3507 cd3507 ct3507), sl3507⟩) (c3507 : PySem.W.codeIn K cd3507 "Schema.capped_names" = true) (k3507 : PySem.W.keepIn K (.ref f3507) = true)
    (l3510 : K.lookup f3510 = some ⟨oc3510, od3510, .func (PySem.W.fnOf "service_of" "Schema.service_of" (defArgs s_Schema_service_of) (defBody s_Schema_service_of) (defScope s_Schema_service_of) .none kV3510 dc3510 pm3510 an3510 cd3510 ct3510), sl3510⟩) (c3510 : PySem.W.codeIn K cd3510 "Schema.service_of" = true) (k3510 : PySem.W.keepIn K (.ref f3510) = true)
    (l3511 : K.lookup f3511 = some ⟨oc3511, od3511, .func (PySem.W.fnOf "is_whole" "Schema.is_whole" (defArgs s_Schema_is_whole) (defBody s_Schema_is_whole) (defScope s_Schema_is_whole) .none kV3511 dc3511 pm3511 an3511 cd3511 ct3511), sl3511⟩) (c3511 : PySem.W.codeIn K cd3511 "Schema.is_whole" = true) (k3511 : PySem.W.keepIn K (.ref f3511) = true)
    (l3512 : K.lookup f3512 = some ⟨oc3512, od3512, .func (PySem.W.fnOf "uncapped" "Schema.uncapped" (defArgs s_Schema_uncapped) (defBody s_Schema_uncapped) (defScope s_Schema_uncapped) .none kV3512 dc3512 pm3512 an3512 cd3512 ct3512), sl3512⟩) (c3512 : PySem.W.codeIn K cd3512 "Schema.uncapped" = true) (k3512 : PySem.W.keepIn K (.ref f3512) = true)
    (a27 : PySem.W.nsIn K mainGlobals "_law_pool" = some (some (.ref f27))) (l27 : K.lookup f27 = some ⟨oc27, od27, .func (PySem.W.fnOf "_law_pool" "_law_pool" (defArgs s__law_pool) (defBody s__law_pool) (defScope s__law_pool) .none kV27 dc27 pm27 an27 cd27 ct27), sl27⟩) (c27 : PySem.W.codeIn K cd27 "_law_pool" = true) (k27 : PySem.W.keepIn K (.ref f27) = true)
    (a28 : PySem.W.nsIn K mainGlobals "_law_mixed" = some (some (.ref f28))) (l28 : K.lookup f28 = some ⟨oc28, od28, .func (PySem.W.fnOf "_law_mixed" "_law_mixed" (defArgs s__law_mixed) (defBody s__law_mixed) (defScope s__law_mixed) .none kV28 dc28 pm28 an28 cd28 ct28), sl28⟩) (c28 : PySem.W.codeIn K cd28 "_law_mixed" = true) (k28 : PySem.W.keepIn K (.ref f28) = true)
    (a29 : PySem.W.nsIn K mainGlobals "_law_draw" = some (some (.ref f29))) (l29 : K.lookup f29 = some ⟨oc29, od29, .func (PySem.W.fnOf "_law_draw" "_law_draw" (defArgs s__law_draw) (defBody s__law_draw) (defScope s__law_draw) .none kV29 dc29 pm29 an29 cd29 ct29), sl29⟩) (c29 : PySem.W.codeIn K cd29 "_law_draw" = true) (k29 : PySem.W.keepIn K (.ref f29) = true)
    (a30 : PySem.W.nsIn K mainGlobals "_law_word" = some (some (.ref f30))) (l30 : K.lookup f30 = some ⟨oc30, od30, .func (PySem.W.fnOf "_law_word" "_law_word" (defArgs s__law_word) (defBody s__law_word) (defScope s__law_word) .none kV30 dc30 pm30 an30 cd30 ct30), sl30⟩) (c30 : PySem.W.codeIn K cd30 "_law_word" = true) (k30 : PySem.W.keepIn K (.ref f30) = true)
    (a31 : PySem.W.nsIn K mainGlobals "_law_names" = some (some (.ref f31))) (l31 : K.lookup f31 = some ⟨oc31, od31, .func (PySem.W.fnOf "_law_names" "_law_names" (defArgs s__law_names) (defBody s__law_names) (defScope s__law_names) .none kV31 dc31 pm31 an31 cd31 ct31), sl31⟩) (c31 : PySem.W.codeIn K cd31 "_law_names" = true) (k31 : PySem.W.keepIn K (.ref f31) = true)
    (a32 : PySem.W.nsIn K mainGlobals "_law_columns" = some (some (.ref f32))) (l32 : K.lookup f32 = some ⟨oc32, od32, .func (PySem.W.fnOf "_law_columns" "_law_columns" (defArgs s__law_columns) (defBody s__law_columns) (defScope s__law_columns) .none kV32 dc32 pm32 an32 cd32 ct32), sl32⟩) (c32 : PySem.W.codeIn K cd32 "_law_columns" = true) (k32 : PySem.W.keepIn K (.ref f32) = true)
    (a33 : PySem.W.nsIn K mainGlobals "_law_tables" = some (some (.ref f33))) (l33 : K.lookup f33 = some ⟨oc33, od33, .func (PySem.W.fnOf "_law_tables" "_law_tables" (defArgs s__law_tables) (defBody s__law_tables) (defScope s__law_tables) .none kV33 dc33 pm33 an33 cd33 ct33), sl33⟩) (c33 : PySem.W.codeIn K cd33 "_law_tables" = true) (k33 : PySem.W.keepIn K (.ref f33) = true)
    (a34 : PySem.W.nsIn K mainGlobals "_law_keys" = some (some (.ref f34))) (l34 : K.lookup f34 = some ⟨oc34, od34, .func (PySem.W.fnOf "_law_keys" "_law_keys" (defArgs s__law_keys) (defBody s__law_keys) (defScope s__law_keys) .none kV34 dc34 pm34 an34 cd34 ct34), sl34⟩) (c34 : PySem.W.codeIn K cd34 "_law_keys" = true) (k34 : PySem.W.keepIn K (.ref f34) = true)
    (a35 : PySem.W.nsIn K mainGlobals "_law_is_whole" = some (some (.ref f35))) (l35 : K.lookup f35 = some ⟨oc35, od35, .func (PySem.W.fnOf "_law_is_whole" "_law_is_whole" (defArgs s__law_is_whole) (defBody s__law_is_whole) (defScope s__law_is_whole) .none kV35 dc35 pm35 an35 cd35 ct35), sl35⟩) (c35 : PySem.W.codeIn K cd35 "_law_is_whole" = true) (k35 : PySem.W.keepIn K (.ref f35) = true)
    (a36 : PySem.W.nsIn K mainGlobals "_law_services" = some (some (.ref f36))) (l36 : K.lookup f36 = some ⟨oc36, od36, .func (PySem.W.fnOf "_law_services" "_law_services" (defArgs s__law_services) (defBody s__law_services) (defScope s__law_services) .none kV36 dc36 pm36 an36 cd36 ct36), sl36⟩) (c36 : PySem.W.codeIn K cd36 "_law_services" = true) (k36 : PySem.W.keepIn K (.ref f36) = true)
    (a37 : PySem.W.nsIn K mainGlobals "_law_schema_parts" = some (some (.ref f37))) (l37 : K.lookup f37 = some ⟨oc37, od37, .func (PySem.W.fnOf "_law_schema_parts" "_law_schema_parts" (defArgs s__law_schema_parts) (defBody s__law_schema_parts) (defScope s__law_schema_parts) .none kV37 dc37 pm37 an37 cd37 ct37), sl37⟩) (c37 : PySem.W.codeIn K cd37 "_law_schema_parts" = true) (k37 : PySem.W.keepIn K (.ref f37) = true)
    (a38 : PySem.W.nsIn K mainGlobals "_law_pick" = some (some (.ref f38))) (l38 : K.lookup f38 = some ⟨oc38, od38, .func (PySem.W.fnOf "_law_pick" "_law_pick" (defArgs s__law_pick) (defBody s__law_pick) (defScope s__law_pick) .none kV38 dc38 pm38 an38 cd38 ct38), sl38⟩) (c38 : PySem.W.codeIn K cd38 "_law_pick" = true) (k38 : PySem.W.keepIn K (.ref f38) = true)
    (a39 : PySem.W.nsIn K mainGlobals "_law_turned" = some (some (.ref f39))) (l39 : K.lookup f39 = some ⟨oc39, od39, .func (PySem.W.fnOf "_law_turned" "_law_turned" (defArgs s__law_turned) (defBody s__law_turned) (defScope s__law_turned) .none kV39 dc39 pm39 an39 cd39 ct39), sl39⟩) (c39 : PySem.W.codeIn K cd39 "_law_turned" = true) (k39 : PySem.W.keepIn K (.ref f39) = true)
    (a40 : PySem.W.nsIn K mainGlobals "_law_changed" = some (some (.ref f40))) (l40 : K.lookup f40 = some ⟨oc40, od40, .func (PySem.W.fnOf "_law_changed" "_law_changed" (defArgs s__law_changed) (defBody s__law_changed) (defScope s__law_changed) .none kV40 dc40 pm40 an40 cd40 ct40), sl40⟩) (c40 : PySem.W.codeIn K cd40 "_law_changed" = true) (k40 : PySem.W.keepIn K (.ref f40) = true)
    (a41 : PySem.W.nsIn K mainGlobals "_law_fits" = some (some (.ref f41))) (l41 : K.lookup f41 = some ⟨oc41, od41, .func (PySem.W.fnOf "_law_fits" "_law_fits" (defArgs s__law_fits) (defBody s__law_fits) (defScope s__law_fits) .none kV41 dc41 pm41 an41 cd41 ct41), sl41⟩) (c41 : PySem.W.codeIn K cd41 "_law_fits" = true) (k41 : PySem.W.keepIn K (.ref f41) = true)
    (a42 : PySem.W.nsIn K mainGlobals "_law_uncapped_due" = some (some (.ref f42))) (l42 : K.lookup f42 = some ⟨oc42, od42, .func (PySem.W.fnOf "_law_uncapped_due" "_law_uncapped_due" (defArgs s__law_uncapped_due) (defBody s__law_uncapped_due) (defScope s__law_uncapped_due) .none kV42 dc42 pm42 an42 cd42 ct42), sl42⟩) (c42 : PySem.W.codeIn K cd42 "_law_uncapped_due" = true) (k42 : PySem.W.keepIn K (.ref f42) = true)
    (a43 : PySem.W.nsIn K mainGlobals "_law_uncapped_holds" = some (some (.ref f43))) (l43 : K.lookup f43 = some ⟨oc43, od43, .func (PySem.W.fnOf "_law_uncapped_holds" "_law_uncapped_holds" (defArgs s__law_uncapped_holds) (defBody s__law_uncapped_holds) (defScope s__law_uncapped_holds) .none kV43 dc43 pm43 an43 cd43 ct43), sl43⟩) (c43 : PySem.W.codeIn K cd43 "_law_uncapped_holds" = true) (k43 : PySem.W.keepIn K (.ref f43) = true)
    (a44 : PySem.W.nsIn K mainGlobals "law" = some (some (.ref f44))) (l44 : K.lookup f44 = some ⟨oc44, od44, .func (PySem.W.fnOf "law" "law" (defArgs s_law) (defBody s_law) (defScope s_law) .none kV44 dc44 pm44 an44 cd44 ct44), sl44⟩) (c44 : PySem.W.codeIn K cd44 "law" = true) (k44 : PySem.W.keepIn K (.ref f44) = true)
    (xl_2 : K.lookup f2 = some (excClassObj nm_2 qn_2 f2 N_2 bs_2 [.type "ValueError", .type "Exception", .type "BaseException", .type "object"] true sn_2 sub_2 ab_2 col_2 dd_2 m0_2 m1_2 m2_2 m3_2 m5_2 "ValueError.__new__"))
    (xs_2 : PySem.W.findIn K (.ref f2) "__setattr__" = some (some (.builtin "object.__setattr__")))
    (xe_2 : PySem.W.subIn K (.ref f2) (.type "BaseException") = some true)
    (xt_2 : PySem.W.typeIn K (.ref f2) = some (.type "type"))
    (xk_2 : PySem.W.keepIn K (.ref f2) = true)
    (ya_2 : PySem.W.findIn K (.ref f2) "__getattribute__" = some (some (.builtin "BaseException.__getattribute__")))
    (yg_2 : PySem.W.findIn K (.ref f2) "__getattr__" = some none)
    (yh_2 : PySem.W.hasDictIn K f2 = true)
    (za_2 : PySem.W.findIn K (.ref f2) "__class__" = some (some (.builtin "object.__class__")))
    (zn_2 : PySem.W.specialIn K (.builtin "object.__class__") "__get__" = some (some (.builtin "getset_descriptor.__get__")))
    (zt_2 : PySem.W.takesIn K (.builtin "object.__class__") = some true)
    (zm_2 : PySem.W.mroIn K f2 (.type "object") = some true)
    (xl_3 : K.lookup f3 = some (excClassObj nm_3 qn_3 f3 N_3 bs_3 [.ref f2, .type "ValueError", .type "Exception", .type "BaseException", .type "object"] true sn_3 sub_3 ab_3 col_3 dd_3 m0_3 m1_3 m2_3 m3_3 m5_3 "ValueError.__new__"))
    (xs_3 : PySem.W.findIn K (.ref f3) "__setattr__" = some (some (.builtin "object.__setattr__")))
    (xe_3 : PySem.W.subIn K (.ref f3) (.type "BaseException") = some true)
    (xt_3 : PySem.W.typeIn K (.ref f3) = some (.type "type"))
    (xk_3 : PySem.W.keepIn K (.ref f3) = true)
    (ya_3 : PySem.W.findIn K (.ref f3) "__getattribute__" = some (some (.builtin "BaseException.__getattribute__")))
    (yg_3 : PySem.W.findIn K (.ref f3) "__getattr__" = some none)
    (yh_3 : PySem.W.hasDictIn K f3 = true)
    (za_3 : PySem.W.findIn K (.ref f3) "__class__" = some (some (.builtin "object.__class__")))
    (zn_3 : PySem.W.specialIn K (.builtin "object.__class__") "__get__" = some (some (.builtin "getset_descriptor.__get__")))
    (zt_3 : PySem.W.takesIn K (.builtin "object.__class__") = some true)
    (zm_3 : PySem.W.mroIn K f3 (.type "object") = some true)
    (ty_3 : PySem.W.typeIn K (.ref f1300) = some (.type "function"))
    (na_3_name : PySem.W.findIn K (.ref f3) "name" = some none)
    (pg_25 : PySem.W.plainGet K f25 Str.empty = true)
    (hd_25 : PySem.W.hasDictIn K f25 = true)
    (po_25 : PySem.W.plainOver K f25 = true)
    (sa_25 : PySem.W.findIn K (.ref f25) "__setattr__" = some (some (.builtin "object.__setattr__")))
    (mk_25 : PySem.W.makesIn K f25 = true)
    (is_3500 : PySem.W.isFn K (.ref f3500) = true)
    (kc_25 : PySem.W.keepIn K (.ref f25) = true)
    (na_25__tables : PySem.W.findIn K (.ref f25) "_tables" = some none)
    (na_25__keys : PySem.W.findIn K (.ref f25) "_keys" = some none)
    (na_25__services : PySem.W.findIn K (.ref f25) "_services" = some none)
    (oa_25 : PySem.W.findIn K (.ref f25) "__class__" = some (some (.builtin "object.__class__")))
    (on_25 : PySem.W.specialIn K (.builtin "object.__class__") "__get__" = some (some (.builtin "getset_descriptor.__get__")))
    (ot_25 : PySem.W.takesIn K (.builtin "object.__class__") = some true)
    (om_25 : PySem.W.mroIn K f25 (.type "object") = some true)
    (es_3_2 : PySem.W.subIn K (.ref f3) (.ref f2) = some true)
    (es_3_3 : PySem.W.subIn K (.ref f3) (.ref f3) = some true)
    (pb_3501 : PySem.W.specialIn K (.ref f53501) "__get__" = some (some (.builtin "property.__get__")))
    (pc_3501 : PySem.W.takesIn K (.ref f53501) = some true)
    (pb_3502 : PySem.W.specialIn K (.ref f53502) "__get__" = some (some (.builtin "property.__get__")))
    (pc_3502 : PySem.W.takesIn K (.ref f53502) = some true)
    (pb_3503 : PySem.W.specialIn K (.ref f53503) "__get__" = some (some (.builtin "property.__get__")))
    (pc_3503 : PySem.W.takesIn K (.ref f53503) = some true)
    (mi_3504 : PySem.W.isFn K (.ref f3504) = true)
    (mi_3506 : PySem.W.isFn K (.ref f3506) = true)
    (mi_3507 : PySem.W.isFn K (.ref f3507) = true)
    (mi_3510 : PySem.W.isFn K (.ref f3510) = true)
    (mi_3511 : PySem.W.isFn K (.ref f3511) = true)
    (mi_3512 : PySem.W.isFn K (.ref f3512) = true)
    (z_abs : PySem.W.nsIn K mainGlobals "abs" = some none)
    (z_all : PySem.W.nsIn K mainGlobals "all" = some none)
    (z_bool : PySem.W.nsIn K mainGlobals "bool" = some none)
    (z_dict : PySem.W.nsIn K mainGlobals "dict" = some none)
    (z_int : PySem.W.nsIn K mainGlobals "int" = some none)
    (z_isinstance : PySem.W.nsIn K mainGlobals "isinstance" = some none)
    (z_len : PySem.W.nsIn K mainGlobals "len" = some none)
    (z_list : PySem.W.nsIn K mainGlobals "list" = some none)
    (z_range : PySem.W.nsIn K mainGlobals "range" = some none)
    (z_reversed : PySem.W.nsIn K mainGlobals "reversed" = some none)
    (z_sorted : PySem.W.nsIn K mainGlobals "sorted" = some none)
    (z_str : PySem.W.nsIn K mainGlobals "str" = some none)
    (z_tuple : PySem.W.nsIn K mainGlobals "tuple" = some none)
    {t_LONGEST_WORD : Tok} (v_LONGEST_WORD : PySem.W.nsIn K mainGlobals "LONGEST_WORD" = some (some (.int (8) t_LONGEST_WORD)))
    {t_MOST_TABLES : Tok} (v_MOST_TABLES : PySem.W.nsIn K mainGlobals "MOST_TABLES" = some (some (.int (5) t_MOST_TABLES)))
    {t_MOST_WIDTH : Tok} (v_MOST_WIDTH : PySem.W.nsIn K mainGlobals "MOST_WIDTH" = some (some (.int (4) t_MOST_WIDTH)))
    {t_MOST_SERVICES : Tok} (v_MOST_SERVICES : PySem.W.nsIn K mainGlobals "MOST_SERVICES" = some (some (.int (8) t_MOST_SERVICES)))
    {t_MOST_CAP : Tok} (v_MOST_CAP : PySem.W.nsIn K mainGlobals "MOST_CAP" = some (some (.int (4) t_MOST_CAP)))
    : ∃ fd : FuncData, (∀ (s : Shared) (v : Value), BindsTo s fd ⟨[v], []⟩ [("_law_script", v)]) ∧ ∀ base : Heap, K.In base → base.Ns mainGlobals mg → FnOk P w K mg base CX0 9 fa fd ["_law_script"] (spLaw K) := by
  have e := hfa.symm.trans (PySem.W.mg_of X G a44)
  cases e
  have F1300 := fun_mk (st := s_UnknownName___init__) l1300 c1300 k1300
  have b1300 := F1300.binds (ps := ["self", "name"]) fun _ _ _ _ _ _ us hl => match us, hl with | [_, _], _ => rfl
  have F7 := fun_mk (st := s_is_plain_int) l7 c7 k7
  have b7 := F7.binds (ps := ["thing"]) fun _ _ _ _ _ _ us hl => match us, hl with | [_], _ => rfl
  have F8 := fun_mk (st := s_is_word) l8 c8 k8
  have b8 := F8.binds (ps := ["thing"]) fun _ _ _ _ _ _ us hl => match us, hl with | [_], _ => rfl
  have F14 := fun_mk (st := s__is_count) l14 c14 k14
  have b14 := F14.binds (ps := ["thing", "most"]) fun _ _ _ _ _ _ us hl => match us, hl with | [_, _], _ => rfl
  have F15 := fun_mk (st := s__is_name_in) l15 c15 k15
  have b15 := F15.binds (ps := ["thing", "names"]) fun _ _ _ _ _ _ us hl => match us, hl with | [_, _], _ => rfl
  have F16 := fun_mk (st := s__are_columns) l16 c16 k16
  have b16 := F16.binds (ps := ["thing", "width"]) fun _ _ _ _ _ _ us hl => match us, hl with | [_, _], _ => rfl
  have F17 := fun_mk (st := s__is_key) l17 c17 k17
  have b17 := F17.binds (ps := ["thing", "width"]) fun _ _ _ _ _ _ us hl => match us, hl with | [_, _], _ => rfl
  have F18 := fun_mk (st := s__is_service) l18 c18 k18
  have b18 := F18.binds (ps := ["thing", "tables"]) fun _ _ _ _ _ _ us hl => match us, hl with | [_, _], _ => rfl
  have F19 := fun_mk (st := s__is_whole_service) l19 c19 k19
  have b19 := F19.binds (ps := ["service", "tables", "keys"]) fun _ _ _ _ _ _ us hl => match us, hl with | [_, _, _], _ => rfl
  have F20 := fun_mk (st := s__check_tables) l20 c20 k20
  have b20 := F20.binds (ps := ["tables"]) fun _ _ _ _ _ _ us hl => match us, hl with | [_], _ => rfl
  have F21 := fun_mk (st := s__check_keys) l21 c21 k21
  have b21 := F21.binds (ps := ["keys", "tables"]) fun _ _ _ _ _ _ us hl => match us, hl with | [_, _], _ => rfl
  have F22 := fun_mk (st := s__check_services) l22 c22 k22
  have b22 := F22.binds (ps := ["services", "tables"]) fun _ _ _ _ _ _ us hl => match us, hl with | [_, _], _ => rfl
  have F23 := fun_mk (st := s__check_capped) l23 c23 k23
  have b23 := F23.binds (ps := ["services", "tables", "keys"]) fun _ _ _ _ _ _ us hl => match us, hl with | [_, _, _], _ => rfl
  have F24 := fun_mk (st := s__copied) l24 c24 k24
  have b24 := F24.binds (ps := ["things"]) fun _ _ _ _ _ _ us hl => match us, hl with | [_], _ => rfl
  have F3500 := fun_mk (st := s_Schema___init__) l3500 c3500 k3500
  have b3500 := F3500.binds (ps := ["self", "tables", "keys", "services"]) fun _ _ _ _ _ _ us hl => match us, hl with | [_, _, _, _], _ => rfl
  have F3501 := fun_mk (st := s_Schema_tables) l3501 c3501 k3501
  have b3501 := F3501.binds (ps := ["self"]) fun _ _ _ _ _ _ us hl => match us, hl with | [_], _ => rfl
  have F3502 := fun_mk (st := s_Schema_key_columns) l3502 c3502 k3502
  have b3502 := F3502.binds (ps := ["self"]) fun _ _ _ _ _ _ us hl => match us, hl with | [_], _ => rfl
  have F3503 := fun_mk (st := s_Schema_services) l3503 c3503 k3503
  have b3503 := F3503.binds (ps := ["self"]) fun _ _ _ _ _ _ us hl => match us, hl with | [_], _ => rfl
  have F3504 := fun_mk (st := s_Schema___eq__) l3504 c3504 k3504
  have b3504 := F3504.binds (ps := ["self", "other"]) fun _ _ _ _ _ _ us hl => match us, hl with | [_, _], _ => rfl
  have F3506 := fun_mk (st := s_Schema_service_names) l3506 c3506 k3506
  have b3506 := F3506.binds (ps := ["self"]) fun _ _ _ _ _ _ us hl => match us, hl with | [_], _ => rfl
  have F3507 := fun_mk (st := s_Schema_capped_names) l3507 c3507 k3507
  have b3507 := F3507.binds (ps := ["self"]) fun _ _ _ _ _ _ us hl => match us, hl with | [_], _ => rfl
  have F3510 := fun_mk (st := s_Schema_service_of) l3510 c3510 k3510
  have b3510 := F3510.binds (ps := ["self", "name"]) fun _ _ _ _ _ _ us hl => match us, hl with | [_, _], _ => rfl
  have F3511 := fun_mk (st := s_Schema_is_whole) l3511 c3511 k3511
  have b3511 := F3511.binds (ps := ["self", "name"]) fun _ _ _ _ _ _ us hl => match us, hl with | [_, _], _ => rfl
  have F3512 := fun_mk (st := s_Schema_uncapped) l3512 c3512 k3512
  have b3512 := F3512.binds (ps := ["self", "names"]) fun _ _ _ _ _ _ us hl => match us, hl with | [_, _], _ => rfl
  have F27 := fun_mk (st := s__law_pool) l27 c27 k27
  have b27 := F27.binds (ps := ["_law_script"]) fun _ _ _ _ _ _ us hl => match us, hl with | [_], _ => rfl
  have F28 := fun_mk (st := s__law_mixed) l28 c28 k28
  have b28 := F28.binds (ps := ["_law_seed", "_law_count"]) fun _ _ _ _ _ _ us hl => match us, hl with | [_, _], _ => rfl
  have F29 := fun_mk (st := s__law_draw) l29 c29 k29
  have b29 := F29.binds (ps := ["_law_pool_here", "_law_many"]) fun _ _ _ _ _ _ us hl => match us, hl with | [_, _], _ => rfl
  have F30 := fun_mk (st := s__law_word) l30 c30 k30
  have b30 := F30.binds (ps := ["_law_pool_here", "_law_many"]) fun _ _ _ _ _ _ us hl => match us, hl with | [_, _], _ => rfl
  have F31 := fun_mk (st := s__law_names) l31 c31 k31
  have b31 := F31.binds (ps := ["_law_pool_here", "_law_many"]) fun _ _ _ _ _ _ us hl => match us, hl with | [_, _], _ => rfl
  have F32 := fun_mk (st := s__law_columns) l32 c32 k32
  have b32 := F32.binds (ps := ["_law_pool_here", "_law_width", "_law_low", "_law_high"]) fun _ _ _ _ _ _ us hl => match us, hl with | [_, _, _, _], _ => rfl
  have F33 := fun_mk (st := s__law_tables) l33 c33 k33
  have b33 := F33.binds (ps := ["_law_pool_here", "_law_many", "_law_widest"]) fun _ _ _ _ _ _ us hl => match us, hl with | [_, _, _], _ => rfl
  have F34 := fun_mk (st := s__law_keys) l34 c34 k34
  have b34 := F34.binds (ps := ["_law_pool_here", "_law_tables_here"]) fun _ _ _ _ _ _ us hl => match us, hl with | [_, _], _ => rfl
  have F35 := fun_mk (st := s__law_is_whole) l35 c35 k35
  have b35 := F35.binds (ps := ["_law_tables_here", "_law_keys_here", "_law_told"]) fun _ _ _ _ _ _ us hl => match us, hl with | [_, _, _], _ => rfl
  have F36 := fun_mk (st := s__law_services) l36 c36 k36
  have b36 := F36.binds (ps := ["_law_pool_here", "_law_tables_here", "_law_keys_here", "_law_caps", "_law_more"]) fun _ _ _ _ _ _ us hl => match us, hl with | [_, _, _, _, _], _ => rfl
  have F37 := fun_mk (st := s__law_schema_parts) l37 c37 k37
  have b37 := F37.binds (ps := ["_law_pool_here", "_law_many", "_law_widest", "_law_caps", "_law_more"]) fun _ _ _ _ _ _ us hl => match us, hl with | [_, _, _, _, _], _ => rfl
  have F38 := fun_mk (st := s__law_pick) l38 c38 k38
  have b38 := F38.binds (ps := ["_law_pool_here", "_law_row"]) fun _ _ _ _ _ _ us hl => match us, hl with | [_, _], _ => rfl
  have F39 := fun_mk (st := s__law_turned) l39 c39 k39
  have b39 := F39.binds (ps := ["_law_table"]) fun _ _ _ _ _ _ us hl => match us, hl with | [_], _ => rfl
  have F40 := fun_mk (st := s__law_changed) l40 c40 k40
  have b40 := F40.binds (ps := ["_law_pool_here", "_law_tables_here", "_law_keys_here", "_law_services_here"]) fun _ _ _ _ _ _ us hl => match us, hl with | [_, _, _, _], _ => rfl
  have F41 := fun_mk (st := s__law_fits) l41 c41 k41
  have b41 := F41.binds (ps := ["_law_tables_here", "_law_keys_here", "_law_services_here"]) fun _ _ _ _ _ _ us hl => match us, hl with | [_, _, _], _ => rfl
  have F42 := fun_mk (st := s__law_uncapped_due) l42 c42 k42
  have b42 := F42.binds (ps := ["_law_services_here", "_law_names_here"]) fun _ _ _ _ _ _ us hl => match us, hl with | [_, _], _ => rfl
  have F43 := fun_mk (st := s__law_uncapped_holds) l43 c43 k43
  have b43 := F43.binds (ps := ["_law_schema", "_law_tables_here", "_law_keys_here", "_law_services_here", "_law_names_here"]) fun _ _ _ _ _ _ us hl => match us, hl with | [_, _, _, _, _], _ => rfl
  have F44 := fun_mk (st := s_law) l44 c44 k44
  have b44 := F44.binds (ps := ["_law_script"]) fun _ _ _ _ _ _ us hl => match us, hl with | [_], _ => rfl
  let aa : Nat → Addr := fun i => match i with
    | 2 => f2
    | 3 => f3
    | 7 => f7
    | 8 => f8
    | 14 => f14
    | 15 => f15
    | 16 => f16
    | 17 => f17
    | 18 => f18
    | 19 => f19
    | 20 => f20
    | 21 => f21
    | 22 => f22
    | 23 => f23
    | 24 => f24
    | 25 => f25
    | 27 => f27
    | 28 => f28
    | 29 => f29
    | 30 => f30
    | 31 => f31
    | 32 => f32
    | 33 => f33
    | 34 => f34
    | 35 => f35
    | 36 => f36
    | 37 => f37
    | 38 => f38
    | 39 => f39
    | 40 => f40
    | 41 => f41
    | 42 => f42
    | 43 => f43
    | 44 => fa
    | 1300 => f1300
    | 3500 => f3500
    | 3501 => f3501
    | 3502 => f3502
    | 3503 => f3503
    | 3504 => f3504
    | 3506 => f3506
    | 3507 => f3507
    | 3510 => f3510
    | 3511 => f3511
    | 3512 => f3512
    | 53501 => f53501
    | 53502 => f53502
    | 53503 => f53503
    | _ => 0
  let dd : Nat → FuncData := fun i => match i with
    | 7 => PySem.W.fnOf "is_plain_int" "is_plain_int" (defArgs s_is_plain_int) (defBody s_is_plain_int) (defScope s_is_plain_int) .none kV7 dc7 pm7 an7 cd7 ct7
    | 8 => PySem.W.fnOf "is_word" "is_word" (defArgs s_is_word) (defBody s_is_word) (defScope s_is_word) .none kV8 dc8 pm8 an8 cd8 ct8
    | 14 => PySem.W.fnOf "_is_count" "_is_count" (defArgs s__is_count) (defBody s__is_count) (defScope s__is_count) .none kV14 dc14 pm14 an14 cd14 ct14
    | 15 => PySem.W.fnOf "_is_name_in" "_is_name_in" (defArgs s__is_name_in) (defBody s__is_name_in) (defScope s__is_name_in) .none kV15 dc15 pm15 an15 cd15 ct15
    | 16 => PySem.W.fnOf "_are_columns" "_are_columns" (defArgs s__are_columns) (defBody s__are_columns) (defScope s__are_columns) .none kV16 dc16 pm16 an16 cd16 ct16
    | 17 => PySem.W.fnOf "_is_key" "_is_key" (defArgs s__is_key) (defBody s__is_key) (defScope s__is_key) .none kV17 dc17 pm17 an17 cd17 ct17
    | 18 => PySem.W.fnOf "_is_service" "_is_service" (defArgs s__is_service) (defBody s__is_service) (defScope s__is_service) .none kV18 dc18 pm18 an18 cd18 ct18
    | 19 => PySem.W.fnOf "_is_whole_service" "_is_whole_service" (defArgs s__is_whole_service) (defBody s__is_whole_service) (defScope s__is_whole_service) .none kV19 dc19 pm19 an19 cd19 ct19
    | 20 => PySem.W.fnOf "_check_tables" "_check_tables" (defArgs s__check_tables) (defBody s__check_tables) (defScope s__check_tables) .none kV20 dc20 pm20 an20 cd20 ct20
    | 21 => PySem.W.fnOf "_check_keys" "_check_keys" (defArgs s__check_keys) (defBody s__check_keys) (defScope s__check_keys) .none kV21 dc21 pm21 an21 cd21 ct21
    | 22 => PySem.W.fnOf "_check_services" "_check_services" (defArgs s__check_services) (defBody s__check_services) (defScope s__check_services) .none kV22 dc22 pm22 an22 cd22 ct22
    | 23 => PySem.W.fnOf "_check_capped" "_check_capped" (defArgs s__check_capped) (defBody s__check_capped) (defScope s__check_capped) .none kV23 dc23 pm23 an23 cd23 ct23
    | 24 => PySem.W.fnOf "_copied" "_copied" (defArgs s__copied) (defBody s__copied) (defScope s__copied) .none kV24 dc24 pm24 an24 cd24 ct24
    | 27 => PySem.W.fnOf "_law_pool" "_law_pool" (defArgs s__law_pool) (defBody s__law_pool) (defScope s__law_pool) .none kV27 dc27 pm27 an27 cd27 ct27
    | 28 => PySem.W.fnOf "_law_mixed" "_law_mixed" (defArgs s__law_mixed) (defBody s__law_mixed) (defScope s__law_mixed) .none kV28 dc28 pm28 an28 cd28 ct28
    | 29 => PySem.W.fnOf "_law_draw" "_law_draw" (defArgs s__law_draw) (defBody s__law_draw) (defScope s__law_draw) .none kV29 dc29 pm29 an29 cd29 ct29
    | 30 => PySem.W.fnOf "_law_word" "_law_word" (defArgs s__law_word) (defBody s__law_word) (defScope s__law_word) .none kV30 dc30 pm30 an30 cd30 ct30
    | 31 => PySem.W.fnOf "_law_names" "_law_names" (defArgs s__law_names) (defBody s__law_names) (defScope s__law_names) .none kV31 dc31 pm31 an31 cd31 ct31
    | 32 => PySem.W.fnOf "_law_columns" "_law_columns" (defArgs s__law_columns) (defBody s__law_columns) (defScope s__law_columns) .none kV32 dc32 pm32 an32 cd32 ct32
    | 33 => PySem.W.fnOf "_law_tables" "_law_tables" (defArgs s__law_tables) (defBody s__law_tables) (defScope s__law_tables) .none kV33 dc33 pm33 an33 cd33 ct33
    | 34 => PySem.W.fnOf "_law_keys" "_law_keys" (defArgs s__law_keys) (defBody s__law_keys) (defScope s__law_keys) .none kV34 dc34 pm34 an34 cd34 ct34
    | 35 => PySem.W.fnOf "_law_is_whole" "_law_is_whole" (defArgs s__law_is_whole) (defBody s__law_is_whole) (defScope s__law_is_whole) .none kV35 dc35 pm35 an35 cd35 ct35
    | 36 => PySem.W.fnOf "_law_services" "_law_services" (defArgs s__law_services) (defBody s__law_services) (defScope s__law_services) .none kV36 dc36 pm36 an36 cd36 ct36
    | 37 => PySem.W.fnOf "_law_schema_parts" "_law_schema_parts" (defArgs s__law_schema_parts) (defBody s__law_schema_parts) (defScope s__law_schema_parts) .none kV37 dc37 pm37 an37 cd37 ct37
    | 38 => PySem.W.fnOf "_law_pick" "_law_pick" (defArgs s__law_pick) (defBody s__law_pick) (defScope s__law_pick) .none kV38 dc38 pm38 an38 cd38 ct38
    | 39 => PySem.W.fnOf "_law_turned" "_law_turned" (defArgs s__law_turned) (defBody s__law_turned) (defScope s__law_turned) .none kV39 dc39 pm39 an39 cd39 ct39
    | 40 => PySem.W.fnOf "_law_changed" "_law_changed" (defArgs s__law_changed) (defBody s__law_changed) (defScope s__law_changed) .none kV40 dc40 pm40 an40 cd40 ct40
    | 41 => PySem.W.fnOf "_law_fits" "_law_fits" (defArgs s__law_fits) (defBody s__law_fits) (defScope s__law_fits) .none kV41 dc41 pm41 an41 cd41 ct41
    | 42 => PySem.W.fnOf "_law_uncapped_due" "_law_uncapped_due" (defArgs s__law_uncapped_due) (defBody s__law_uncapped_due) (defScope s__law_uncapped_due) .none kV42 dc42 pm42 an42 cd42 ct42
    | 43 => PySem.W.fnOf "_law_uncapped_holds" "_law_uncapped_holds" (defArgs s__law_uncapped_holds) (defBody s__law_uncapped_holds) (defScope s__law_uncapped_holds) .none kV43 dc43 pm43 an43 cd43 ct43
    | 44 => PySem.W.fnOf "law" "law" (defArgs s_law) (defBody s_law) (defScope s_law) .none kV44 dc44 pm44 an44 cd44 ct44
    | 1300 => PySem.W.fnOf "__init__" "UnknownName.__init__" (defArgs s_UnknownName___init__) (defBody s_UnknownName___init__) (defScope s_UnknownName___init__) .none kV1300 dc1300 pm1300 an1300 cd1300 ct1300
    | 3500 => PySem.W.fnOf "__init__" "Schema.__init__" (defArgs s_Schema___init__) (defBody s_Schema___init__) (defScope s_Schema___init__) .none kV3500 dc3500 pm3500 an3500 cd3500 ct3500
    | 3501 => PySem.W.fnOf "tables" "Schema.tables" (defArgs s_Schema_tables) (defBody s_Schema_tables) (defScope s_Schema_tables) .none kV3501 dc3501 pm3501 an3501 cd3501 ct3501
    | 3502 => PySem.W.fnOf "key_columns" "Schema.key_columns" (defArgs s_Schema_key_columns) (defBody s_Schema_key_columns) (defScope s_Schema_key_columns) .none kV3502 dc3502 pm3502 an3502 cd3502 ct3502
    | 3503 => PySem.W.fnOf "services" "Schema.services" (defArgs s_Schema_services) (defBody s_Schema_services) (defScope s_Schema_services) .none kV3503 dc3503 pm3503 an3503 cd3503 ct3503
    | 3504 => PySem.W.fnOf "__eq__" "Schema.__eq__" (defArgs s_Schema___eq__) (defBody s_Schema___eq__) (defScope s_Schema___eq__) .none kV3504 dc3504 pm3504 an3504 cd3504 ct3504
    | 3506 => PySem.W.fnOf "service_names" "Schema.service_names" (defArgs s_Schema_service_names) (defBody s_Schema_service_names) (defScope s_Schema_service_names) .none kV3506 dc3506 pm3506 an3506 cd3506 ct3506
    | 3507 => PySem.W.fnOf "capped_names" "Schema.capped_names" (defArgs s_Schema_capped_names) (defBody s_Schema_capped_names) (defScope s_Schema_capped_names) .none kV3507 dc3507 pm3507 an3507 cd3507 ct3507
    | 3510 => PySem.W.fnOf "service_of" "Schema.service_of" (defArgs s_Schema_service_of) (defBody s_Schema_service_of) (defScope s_Schema_service_of) .none kV3510 dc3510 pm3510 an3510 cd3510 ct3510
    | 3511 => PySem.W.fnOf "is_whole" "Schema.is_whole" (defArgs s_Schema_is_whole) (defBody s_Schema_is_whole) (defScope s_Schema_is_whole) .none kV3511 dc3511 pm3511 an3511 cd3511 ct3511
    | 3512 => PySem.W.fnOf "uncapped" "Schema.uncapped" (defArgs s_Schema_uncapped) (defBody s_Schema_uncapped) (defScope s_Schema_uncapped) .none kV3512 dc3512 pm3512 an3512 cd3512 ct3512
    | _ => PySem.W.fnOf "law" "law" (defArgs s_law) (defBody s_law) (defScope s_law) .none kV44 dc44 pm44 an44 cd44 ct44
  have T : Txt K mg aa dd := { F1300 := F1300, b1300 := b1300, F7 := F7, b7 := b7, g7 := PySem.W.mg_of X G a7, F8 := F8, b8 := b8, g8 := PySem.W.mg_of X G a8, F14 := F14, b14 := b14, g14 := PySem.W.mg_of X G a14, F15 := F15, b15 := b15, g15 := PySem.W.mg_of X G a15, F16 := F16, b16 := b16, g16 := PySem.W.mg_of X G a16, F17 := F17, b17 := b17, g17 := PySem.W.mg_of X G a17, F18 := F18, b18 := b18, g18 := PySem.W.mg_of X G a18, F19 := F19, b19 := b19, g19 := PySem.W.mg_of X G a19, F20 := F20, b20 := b20, g20 := PySem.W.mg_of X G a20, F21 := F21, b21 := b21, g21 := PySem.W.mg_of X G a21, F22 := F22, b22 := b22, g22 := PySem.W.mg_of X G a22, F23 := F23, b23 := b23, g23 := PySem.W.mg_of X G a23, F24 := F24, b24 := b24, g24 := PySem.W.mg_of X G a24, F3500 := F3500, b3500 := b3500, F3501 := F3501, b3501 := b3501, F3502 := F3502, b3502 := b3502, F3503 := F3503, b3503 := b3503, F3504 := F3504, b3504 := b3504, F3506 := F3506, b3506 := b3506, F3507 := F3507, b3507 := b3507, F3510 := F3510, b3510 := b3510, F3511 := F3511, b3511 := b3511, F3512 := F3512, b3512 := b3512, F27 := F27, b27 := b27, g27 := PySem.W.mg_of X G a27, F28 := F28, b28 := b28, g28 := PySem.W.mg_of X G a28, F29 := F29, b29 := b29, g29 := PySem.W.mg_of X G a29, F30 := F30, b30 := b30, g30 := PySem.W.mg_of X G a30, F31 := F31, b31 := b31, g31 := PySem.W.mg_of X G a31, F32 := F32, b32 := b32, g32 := PySem.W.mg_of X G a32, F33 := F33, b33 := b33, g33 := PySem.W.mg_of X G a33, F34 := F34, b34 := b34, g34 := PySem.W.mg_of X G a34, F35 := F35, b35 := b35, g35 := PySem.W.mg_of X G a35, F36 := F36, b36 := b36, g36 := PySem.W.mg_of X G a36, F37 := F37, b37 := b37, g37 := PySem.W.mg_of X G a37, F38 := F38, b38 := b38, g38 := PySem.W.mg_of X G a38, F39 := F39, b39 := b39, g39 := PySem.W.mg_of X G a39, F40 := F40, b40 := b40, g40 := PySem.W.mg_of X G a40, F41 := F41, b41 := b41, g41 := PySem.W.mg_of X G a41, F42 := F42, b42 := b42, g42 := PySem.W.mg_of X G a42, F43 := F43, b43 := b43, g43 := PySem.W.mg_of X G a43, F44 := F44, b44 := b44, g44 := PySem.W.mg_of X G a44, cg_2 := PySem.W.mg_of X G ac_2, x_2 := ⟨⟨_, _, _, _, _, _, _, _, _, _, _, _, _, _, _, xl_2, rfl⟩, xs_2, xe_2, xt_2, xk_2⟩, xf_2 := ⟨ya_2, yg_2, xe_2, yh_2⟩, xi_2 := ⟨ya_2, yg_2, xe_2, yh_2, za_2, zn_2, zt_2, zm_2⟩, cg_3 := PySem.W.mg_of X G ac_3, x_3 := ⟨⟨_, _, _, _, _, _, _, _, _, _, _, _, _, _, _, xl_3, rfl⟩, xs_3, xe_3, xt_3, xk_3⟩, xf_3 := ⟨ya_3, yg_3, xe_3, yh_3⟩, xi_3 := ⟨ya_3, yg_3, xe_3, yh_3, za_3, zn_3, zt_3, zm_3⟩, in_3 := fi_3, ti_3 := ty_3, no_3_name := na_3_name, cg_25 := PySem.W.mg_of X G ac_25, cl_25 := ⟨pg_25, hd_25, po_25, sa_25⟩, M_25 := ⟨mk_25, fi_25, is_3500, kc_25⟩, no_25__tables := na_25__tables, no_25__keys := na_25__keys, no_25__services := na_25__services, ic_25 := ⟨⟨pg_25, hd_25, po_25, sa_25⟩, oa_25, on_25, ot_25, om_25, kit_self _⟩, kit_3_2 := kit_ref yh_2 xt_2 es_3_2, exm_3_3 := PySem.W.exm_ref xe_3 yh_3 xt_3 es_3_3, p_3501 := ⟨pa_3501, pb_3501, pc_3501, ⟨_, pd_3501⟩⟩, p_3502 := ⟨pa_3502, pb_3502, pc_3502, ⟨_, pd_3502⟩⟩, p_3503 := ⟨pa_3503, pb_3503, pc_3503, ⟨_, pd_3503⟩⟩, m_3504 := ⟨ma_3504, mi_3504, k3504⟩, m_3506 := ⟨ma_3506, mi_3506, k3506⟩, m_3507 := ⟨ma_3507, mi_3507, k3507⟩, m_3510 := ⟨ma_3510, mi_3510, k3510⟩, m_3511 := ⟨ma_3511, mi_3511, k3511⟩, m_3512 := ⟨ma_3512, mi_3512, k3512⟩, z_abs := PySem.W.mg_none_of X G z_abs, z_all := PySem.W.mg_none_of X G z_all, z_bool := PySem.W.mg_none_of X G z_bool, z_dict := PySem.W.mg_none_of X G z_dict, z_int := PySem.W.mg_none_of X G z_int, z_isinstance := PySem.W.mg_none_of X G z_isinstance, z_len := PySem.W.mg_none_of X G z_len, z_list := PySem.W.mg_none_of X G z_list, z_range := PySem.W.mg_none_of X G z_range, z_reversed := PySem.W.mg_none_of X G z_reversed, z_sorted := PySem.W.mg_none_of X G z_sorted, z_str := PySem.W.mg_none_of X G z_str, z_tuple := PySem.W.mg_none_of X G z_tuple, c_LONGEST_WORD := ⟨_, PySem.W.mg_of X G v_LONGEST_WORD⟩, c_MOST_TABLES := ⟨_, PySem.W.mg_of X G v_MOST_TABLES⟩, c_MOST_WIDTH := ⟨_, PySem.W.mg_of X G v_MOST_WIDTH⟩, c_MOST_SERVICES := ⟨_, PySem.W.mg_of X G v_MOST_SERVICES⟩, c_MOST_CAP := ⟨_, PySem.W.mg_of X G v_MOST_CAP⟩ }
  exact ⟨_, fun s v => .of_eq rfl, fun base _ _ => ok_law T⟩
end My
open PySem PySem.W PyProof.Rows
set_option maxRecDepth 100000 in
set_option maxHeartbeats 0 in
theorem PySem.Challenge.cw_cappedcalls_k05_schema_equal_and_uncappe_holds : PySem.Challenge.rw_cappedcalls_k05_schema_equal_and_uncappe.Holds := by
  w_on; o_law; k_head; (case hw => w_witness2)
  k_fill
  refine L2.walk_of (l := PySem.Challenge.rw_cappedcalls_k05_schema_equal_and_uncappe) (n := 63) (k := 9) (x := "_law_script") (CX := fun _ => L2.CX0) (sp := fun w => My.spLaw _) rfl (by decide) rfl ⟨rfl, by decide, by decide⟩ (fun w h Y => PySem.W.kIn_of Y) ?F (fun _ _ a ns hl _ hS => ⟨a, ns, rfl, hS, hl, fun _ => rfl⟩) (fun _ _ _ _ _ h => h)
  case F =>
    intro w mg fa h KX G hmg
    refine' My.all_mk KX G hmg ?ac_2 ?ac_3 ?ac_25 ?fi_3 ?fi_25 ?ma_3504 ?ma_3506 ?ma_3507 ?ma_3510 ?ma_3511 ?ma_3512 ?pa_3501 ?pa_3502 ?pa_3503 ?pd_3501 ?pd_3502 ?pd_3503 ?l1300 ?c1300 ?k1300 ?a7 ?l7 ?c7 ?k7 ?a8 ?l8 ?c8 ?k8 ?a14 ?l14 ?c14 ?k14 ?a15 ?l15 ?c15 ?k15 ?a16 ?l16 ?c16 ?k16 ?a17 ?l17 ?c17 ?k17 ?a18 ?l18 ?c18 ?k18 ?a19 ?l19 ?c19 ?k19 ?a20 ?l20 ?c20 ?k20 ?a21 ?l21 ?c21 ?k21 ?a22 ?l22 ?c22 ?k22 ?a23 ?l23 ?c23 ?k23 ?a24 ?l24 ?c24 ?k24 ?l3500 ?c3500 ?k3500 ?l3501 ?c3501 ?k3501 ?l3502 ?c3502 ?k3502 ?l3503 ?c3503 ?k3503 ?l3504 ?c3504 ?k3504 ?l3506 ?c3506 ?k3506 ?l3507 ?c3507 ?k3507 ?l3510 ?c3510 ?k3510 ?l3511 ?c3511 ?k3511 ?l3512 ?c3512 ?k3512 ?a27 ?l27 ?c27 ?k27 ?a28 ?l28 ?c28 ?k28 ?a29 ?l29 ?c29 ?k29 ?a30 ?l30 ?c30 ?k30 ?a31 ?l31 ?c31 ?k31 ?a32 ?l32 ?c32 ?k32 ?a33 ?l33 ?c33 ?k33 ?a34 ?l34 ?c34 ?k34 ?a35 ?l35 ?c35 ?k35 ?a36 ?l36 ?c36 ?k36 ?a37 ?l37 ?c37 ?k37 ?a38 ?l38 ?c38 ?k38 ?a39 ?l39 ?c39 ?k39 ?a40 ?l40 ?c40 ?k40 ?a41 ?l41 ?c41 ?k41 ?a42 ?l42 ?c42 ?k42 ?a43 ?l43 ?c43 ?k43 ?a44 ?l44 ?c44 ?k44 ?xl_2 ?xs_2 ?xe_2 ?xt_2 ?xk_2 ?ya_2 ?yg_2 ?yh_2 ?za_2 ?zn_2 ?zt_2 ?zm_2 ?xl_3 ?xs_3 ?xe_3 ?xt_3 ?xk_3 ?ya_3 ?yg_3 ?yh_3 ?za_3 ?zn_3 ?zt_3 ?zm_3 ?ty_3 ?na_3_name ?pg_25 ?hd_25 ?po_25 ?sa_25 ?mk_25 ?is_3500 ?kc_25 ?na_25__tables ?na_25__keys ?na_25__services ?oa_25 ?on_25 ?ot_25 ?om_25 ?es_3_2 ?es_3_3 ?pb_3501 ?pc_3501 ?pb_3502 ?pc_3502 ?pb_3503 ?pc_3503 ?mi_3504 ?mi_3506 ?mi_3507 ?mi_3510 ?mi_3511 ?mi_3512 ?z_abs ?z_all ?z_bool ?z_dict ?z_int ?z_isinstance ?z_len ?z_list ?z_range ?z_reversed ?z_sorted ?z_str ?z_tuple ?v_LONGEST_WORD ?v_MOST_TABLES ?v_MOST_WIDTH ?v_MOST_SERVICES ?v_MOST_CAP
    (case ac_2 => k_is)
    (case ac_3 => k_is)
    (case ac_25 => k_is)
    (case fi_3 => k_is)
    (case fi_25 => k_is)
    (case ma_3504 => k_is)
    (case ma_3506 => k_is)
    (case ma_3507 => k_is)
    (case ma_3510 => k_is)
    (case ma_3511 => k_is)
    (case ma_3512 => k_is)
    (case pa_3501 => k_is)
    (case pa_3502 => k_is)
    (case pa_3503 => k_is)
    (case pd_3501 => k_is)
    (case pd_3502 => k_is)
    (case pd_3503 => k_is)
    (case l1300 => k_is)
    (case c1300 => k_is)
    (case k1300 => k_is)
    (case a7 => k_is)
    (case l7 => k_is)
    (case c7 => k_is)
    (case k7 => k_is)
    (case a8 => k_is)
    (case l8 => k_is)
    (case c8 => k_is)
    (case k8 => k_is)
    (case a14 => k_is)
    (case l14 => k_is)
    (case c14 => k_is)
    (case k14 => k_is)
    (case a15 => k_is)
    (case l15 => k_is)
    (case c15 => k_is)
    (case k15 => k_is)
    (case a16 => k_is)
    (case l16 => k_is)
    (case c16 => k_is)
    (case k16 => k_is)
    (case a17 => k_is)
    (case l17 => k_is)
    (case c17 => k_is)
    (case k17 => k_is)
    (case a18 => k_is)
    (case l18 => k_is)
    (case c18 => k_is)
    (case k18 => k_is)
    (case a19 => k_is)
    (case l19 => k_is)
    (case c19 => k_is)
    (case k19 => k_is)
    (case a20 => k_is)
    (case l20 => k_is)
    (case c20 => k_is)
    (case k20 => k_is)
    (case a21 => k_is)
    (case l21 => k_is)
    (case c21 => k_is)
    (case k21 => k_is)
    (case a22 => k_is)
    (case l22 => k_is)
    (case c22 => k_is)
    (case k22 => k_is)
    (case a23 => k_is)
    (case l23 => k_is)
    (case c23 => k_is)
    (case k23 => k_is)
    (case a24 => k_is)
    (case l24 => k_is)
    (case c24 => k_is)
    (case k24 => k_is)
    (case l3500 => k_is)
    (case c3500 => k_is)
    (case k3500 => k_is)
    (case l3501 => k_is)
    (case c3501 => k_is)
    (case k3501 => k_is)
    (case l3502 => k_is)
    (case c3502 => k_is)
    (case k3502 => k_is)
    (case l3503 => k_is)
    (case c3503 => k_is)
    (case k3503 => k_is)
    (case l3504 => k_is)
    (case c3504 => k_is)
    (case k3504 => k_is)
    (case l3506 => k_is)
    (case c3506 => k_is)
    (case k3506 => k_is)
    (case l3507 => k_is)
    (case c3507 => k_is)
    (case k3507 => k_is)
    (case l3510 => k_is)
    (case c3510 => k_is)
    (case k3510 => k_is)
    (case l3511 => k_is)
    (case c3511 => k_is)
    (case k3511 => k_is)
    (case l3512 => k_is)
    (case c3512 => k_is)
    (case k3512 => k_is)
    (case a27 => k_is)
    (case l27 => k_is)
    (case c27 => k_is)
    (case k27 => k_is)
    (case a28 => k_is)
    (case l28 => k_is)
    (case c28 => k_is)
    (case k28 => k_is)
    (case a29 => k_is)
    (case l29 => k_is)
    (case c29 => k_is)
    (case k29 => k_is)
    (case a30 => k_is)
    (case l30 => k_is)
    (case c30 => k_is)
    (case k30 => k_is)
    (case a31 => k_is)
    (case l31 => k_is)
    (case c31 => k_is)
    (case k31 => k_is)
    (case a32 => k_is)
    (case l32 => k_is)
    (case c32 => k_is)
    (case k32 => k_is)
    (case a33 => k_is)
    (case l33 => k_is)
    (case c33 => k_is)
    (case k33 => k_is)
    (case a34 => k_is)
    (case l34 => k_is)
    (case c34 => k_is)
    (case k34 => k_is)
    (case a35 => k_is)
    (case l35 => k_is)
    (case c35 => k_is)
    (case k35 => k_is)
    (case a36 => k_is)
    (case l36 => k_is)
    (case c36 => k_is)
    (case k36 => k_is)
    (case a37 => k_is)
    (case l37 => k_is)
    (case c37 => k_is)
    (case k37 => k_is)
    (case a38 => k_is)
    (case l38 => k_is)
    (case c38 => k_is)
    (case k38 => k_is)
    (case a39 => k_is)
    (case l39 => k_is)
    (case c39 => k_is)
    (case k39 => k_is)
    (case a40 => k_is)
    (case l40 => k_is)
    (case c40 => k_is)
    (case k40 => k_is)
    (case a41 => k_is)
    (case l41 => k_is)
    (case c41 => k_is)
    (case k41 => k_is)
    (case a42 => k_is)
    (case l42 => k_is)
    (case c42 => k_is)
    (case k42 => k_is)
    (case a43 => k_is)
    (case l43 => k_is)
    (case c43 => k_is)
    (case k43 => k_is)
    (case a44 => k_is)
    (case l44 => k_is)
    (case c44 => k_is)
    (case k44 => k_is)
    (case xl_2 => k_is)
    (case xs_2 => k_is)
    (case xe_2 => k_is)
    (case xt_2 => k_is)
    (case xk_2 => k_is)
    (case ya_2 => k_is)
    (case yg_2 => k_is)
    (case yh_2 => k_is)
    (case za_2 => k_is)
    (case zn_2 => k_is)
    (case zt_2 => k_is)
    (case zm_2 => k_is)
    (case xl_3 => k_is)
    (case xs_3 => k_is)
    (case xe_3 => k_is)
    (case xt_3 => k_is)
    (case xk_3 => k_is)
    (case ya_3 => k_is)
    (case yg_3 => k_is)
    (case yh_3 => k_is)
    (case za_3 => k_is)
    (case zn_3 => k_is)
    (case zt_3 => k_is)
    (case zm_3 => k_is)
    (case ty_3 => k_is)
    (case na_3_name => k_is)
    (case pg_25 => k_is)
    (case hd_25 => k_is)
    (case po_25 => k_is)
    (case sa_25 => k_is)
    (case mk_25 => k_is)
    (case is_3500 => k_is)
    (case kc_25 => k_is)
    (case na_25__tables => k_is)
    (case na_25__keys => k_is)
    (case na_25__services => k_is)
    (case oa_25 => k_is)
    (case on_25 => k_is)
    (case ot_25 => k_is)
    (case om_25 => k_is)
    (case es_3_2 => first | rfl | k_is)
    (case es_3_3 => first | rfl | k_is)
    (case pb_3501 => k_is)
    (case pc_3501 => k_is)
    (case pb_3502 => k_is)
    (case pc_3502 => k_is)
    (case pb_3503 => k_is)
    (case pc_3503 => k_is)
    (case mi_3504 => k_is)
    (case mi_3506 => k_is)
    (case mi_3507 => k_is)
    (case mi_3510 => k_is)
    (case mi_3511 => k_is)
    (case mi_3512 => k_is)
    (case z_abs => k_is)
    (case z_all => k_is)
    (case z_bool => k_is)
    (case z_dict => k_is)
    (case z_int => k_is)
    (case z_isinstance => k_is)
    (case z_len => k_is)
    (case z_list => k_is)
    (case z_range => k_is)
    (case z_reversed => k_is)
    (case z_sorted => k_is)
    (case z_str => k_is)
    (case z_tuple => k_is)
    (case v_LONGEST_WORD => k_is)
    (case v_MOST_TABLES => k_is)
    (case v_MOST_WIDTH => k_is)
    (case v_MOST_SERVICES => k_is)
    (case v_MOST_CAP => k_is)

