import PyProof.Rows.All
import Wide.All
import OpenK.AllK
import Wide.FinOn
import HandS.ForMost
import HandS.IsInst
import HandS.Wide
import HandS.Evl
import HandS.DictComp
import HandS.Conv
import HandS.More
import HandS.Deep
import HandS.ForExc
import HandS.ExcInit
import HandS.ExcField
import HandS.ExcIs
import HandS.Property
import KE.KExcIs
import HandS.NoneIn
import HandS.DeepEq
import HandS.Finally
import PySem.Challenge.RW_cappedcalls_k04_schema_refusals
set_option Elab.async false
set_option linter.all false
set_option maxRecDepth 100000
set_option maxHeartbeats 4000000
namespace My
open PySem PySem.Spec PyProof.Rows L2
def topS (i : Nat) : Stmt := PySem.Challenge.pw_cappedcalls_k04_schema_refusals.main.body.getD i (.Pass ⟨0, 0, 0, 0⟩)
abbrev s_InvalidSchema___init__ : Stmt := inClass (topS 3) 0
theorem sc_InvalidSchema___init__ : FnScope ["self", "part", "name"] ["self", "part", "name"] (defScope s_InvalidSchema___init__) := ⟨rfl, rfl, rfl, by decide +kernel, rfl, by decide +kernel, by decide +kernel⟩
abbrev s_is_plain_int : Stmt := topS 7
theorem sc_is_plain_int : FnScope ["thing"] ["thing"] (defScope s_is_plain_int) := ⟨rfl, rfl, rfl, by decide +kernel, rfl, by decide +kernel, by decide +kernel⟩
abbrev s_is_word : Stmt := topS 8
theorem sc_is_word : FnScope ["thing", "letter"] ["thing"] (defScope s_is_word) := ⟨rfl, rfl, rfl, by decide +kernel, rfl, by decide +kernel, by decide +kernel⟩
abbrev s__is_count : Stmt := topS 14
theorem sc__is_count : FnScope ["thing", "most"] ["thing", "most"] (defScope s__is_count) := ⟨rfl, rfl, rfl, by decide +kernel, rfl, by decide +kernel, by decide +kernel⟩
abbrev s__is_name_in : Stmt := topS 15
theorem sc__is_name_in : FnScope ["thing", "names"] ["thing", "names"] (defScope s__is_name_in) := ⟨rfl, rfl, rfl, by decide +kernel, rfl, by decide +kernel, by decide +kernel⟩
abbrev s__are_columns : Stmt := topS 16
theorem sc__are_columns : FnScope ["thing", "width", "least", "column"] ["thing", "width"] (defScope s__are_columns) := ⟨rfl, rfl, rfl, by decide +kernel, rfl, by decide +kernel, by decide +kernel⟩
abbrev s__is_key : Stmt := topS 17
theorem sc__is_key : FnScope ["thing", "width"] ["thing", "width"] (defScope s__is_key) := ⟨rfl, rfl, rfl, by decide +kernel, rfl, by decide +kernel, by decide +kernel⟩
abbrev s__is_service : Stmt := topS 18
theorem sc__is_service : FnScope ["thing", "tables", "table", "given", "cap"] ["thing", "tables"] (defScope s__is_service) := ⟨rfl, rfl, rfl, by decide +kernel, rfl, by decide +kernel, by decide +kernel⟩
abbrev s__is_whole_service : Stmt := topS 19
theorem sc__is_whole_service : FnScope ["service", "tables", "keys", "table", "given", "cap", "column"] ["service", "tables", "keys"] (defScope s__is_whole_service) := ⟨rfl, rfl, rfl, by decide +kernel, rfl, by decide +kernel, by decide +kernel⟩
abbrev s__check_tables : Stmt := topS 20
theorem sc__check_tables : FnScope ["tables", "name"] ["tables"] (defScope s__check_tables) := ⟨rfl, rfl, rfl, by decide +kernel, rfl, by decide +kernel, by decide +kernel⟩
abbrev s__check_keys : Stmt := topS 21
theorem sc__check_keys : FnScope ["keys", "tables", "name"] ["keys", "tables"] (defScope s__check_keys) := ⟨rfl, rfl, rfl, by decide +kernel, rfl, by decide +kernel, by decide +kernel⟩
abbrev s__check_services : Stmt := topS 22
theorem sc__check_services : FnScope ["services", "tables", "name"] ["services", "tables"] (defScope s__check_services) := ⟨rfl, rfl, rfl, by decide +kernel, rfl, by decide +kernel, by decide +kernel⟩
abbrev s__check_capped : Stmt := topS 23
theorem sc__check_capped : FnScope ["services", "tables", "keys", "capped_tables", "name", "service"] ["services", "tables", "keys"] (defScope s__check_capped) := ⟨rfl, rfl, rfl, by decide +kernel, rfl, by decide +kernel, by decide +kernel⟩
abbrev s__copied : Stmt := topS 24
theorem sc__copied : FnScope ["things", "name"] ["things"] (defScope s__copied) := ⟨rfl, rfl, rfl, by decide +kernel, rfl, by decide +kernel, by decide +kernel⟩
abbrev s_Schema___init__ : Stmt := inClass (topS 25) 0
theorem sc_Schema___init__ : FnScope ["self", "tables", "keys", "services"] ["self", "tables", "keys", "services"] (defScope s_Schema___init__) := ⟨rfl, rfl, rfl, by decide +kernel, rfl, by decide +kernel, by decide +kernel⟩
abbrev s_Schema_tables : Stmt := inClass (topS 25) 1
theorem sc_Schema_tables : FnScope ["self"] ["self"] (defScope s_Schema_tables) := ⟨rfl, rfl, rfl, by decide +kernel, rfl, by decide +kernel, by decide +kernel⟩
abbrev s_Schema_key_columns : Stmt := inClass (topS 25) 2
theorem sc_Schema_key_columns : FnScope ["self"] ["self"] (defScope s_Schema_key_columns) := ⟨rfl, rfl, rfl, by decide +kernel, rfl, by decide +kernel, by decide +kernel⟩
abbrev s_Schema_services : Stmt := inClass (topS 25) 3
theorem sc_Schema_services : FnScope ["self"] ["self"] (defScope s_Schema_services) := ⟨rfl, rfl, rfl, by decide +kernel, rfl, by decide +kernel, by decide +kernel⟩
abbrev s__law_pool : Stmt := topS 27
theorem sc__law_pool : FnScope ["_law_script", "_law_cell"] ["_law_script"] (defScope s__law_pool) := ⟨rfl, rfl, rfl, by decide +kernel, rfl, by decide +kernel, by decide +kernel⟩
abbrev s__law_mixed : Stmt := topS 28
theorem sc__law_mixed : FnScope ["_law_seed", "_law_count", "_law_number"] ["_law_seed", "_law_count"] (defScope s__law_mixed) := ⟨rfl, rfl, rfl, by decide +kernel, rfl, by decide +kernel, by decide +kernel⟩
abbrev s__law_draw : Stmt := topS 29
theorem sc__law_draw : FnScope ["_law_pool_here", "_law_many", "_law_cell", "_law_found"] ["_law_pool_here", "_law_many"] (defScope s__law_draw) := ⟨rfl, rfl, rfl, by decide +kernel, rfl, by decide +kernel, by decide +kernel⟩
abbrev s__law_word : Stmt := topS 30
theorem sc__law_word : FnScope ["_law_pool_here", "_law_many", "_law_letters", "_law_word_here", "_law_k"] ["_law_pool_here", "_law_many"] (defScope s__law_word) := ⟨rfl, rfl, rfl, by decide +kernel, rfl, by decide +kernel, by decide +kernel⟩
abbrev s__law_names : Stmt := topS 31
theorem sc__law_names : FnScope ["_law_pool_here", "_law_many", "_law_letters", "_law_stem", "_law_first", "_law_step", "_law_front", "_law_found", "_law_k", "_law_sign"] ["_law_pool_here", "_law_many"] (defScope s__law_names) := ⟨rfl, rfl, rfl, by decide +kernel, rfl, by decide +kernel, by decide +kernel⟩
abbrev s__law_columns : Stmt := topS 32
theorem sc__law_columns : FnScope ["_law_pool_here", "_law_width_here", "_law_low", "_law_high", "_law_chosen", "_law_column"] ["_law_pool_here", "_law_width_here", "_law_low", "_law_high"] (defScope s__law_columns) := ⟨rfl, rfl, rfl, by decide +kernel, rfl, by decide +kernel, by decide +kernel⟩
abbrev s__law_tables : Stmt := topS 33
theorem sc__law_tables : FnScope ["_law_pool_here", "_law_many", "_law_widest", "_law_names_here", "_law_tables_here", "_law_name"] ["_law_pool_here", "_law_many", "_law_widest"] (defScope s__law_tables) := ⟨rfl, rfl, rfl, by decide +kernel, rfl, by decide +kernel, by decide +kernel⟩
abbrev s__law_keys : Stmt := topS 34
theorem sc__law_keys : FnScope ["_law_pool_here", "_law_tables_here", "_law_keys_here", "_law_name"] ["_law_pool_here", "_law_tables_here"] (defScope s__law_keys) := ⟨rfl, rfl, rfl, by decide +kernel, rfl, by decide +kernel, by decide +kernel⟩
abbrev s__law_is_whole : Stmt := topS 35
theorem sc__law_is_whole : FnScope ["_law_tables_here", "_law_keys_here", "_law_told", "_law_table", "_law_given", "_law_cap", "_law_column"] ["_law_tables_here", "_law_keys_here", "_law_told"] (defScope s__law_is_whole) := ⟨rfl, rfl, rfl, by decide +kernel, rfl, by decide +kernel, by decide +kernel⟩
abbrev s__law_services : Stmt := topS 36
theorem sc__law_services : FnScope ["_law_pool_here", "_law_tables_here", "_law_keys_here", "_law_caps", "_law_more", "_law_order", "_law_names_here", "_law_services_here", "_law_filled", "_law_k", "_law_table", "_law_cap", "_law_told"] ["_law_pool_here", "_law_tables_here", "_law_keys_here", "_law_caps", "_law_more"] (defScope s__law_services) := ⟨rfl, rfl, rfl, by decide +kernel, rfl, by decide +kernel, by decide +kernel⟩
abbrev s__law_schema_parts : Stmt := topS 37
theorem sc__law_schema_parts : FnScope ["_law_pool_here", "_law_many", "_law_widest", "_law_caps", "_law_more", "_law_tables_here", "_law_keys_here"] ["_law_pool_here", "_law_many", "_law_widest", "_law_caps", "_law_more"] (defScope s__law_schema_parts) := ⟨rfl, rfl, rfl, by decide +kernel, rfl, by decide +kernel, by decide +kernel⟩
abbrev s__law_pick : Stmt := topS 38
theorem sc__law_pick : FnScope ["_law_pool_here", "_law_row"] ["_law_pool_here", "_law_row"] (defScope s__law_pick) := ⟨rfl, rfl, rfl, by decide +kernel, rfl, by decide +kernel, by decide +kernel⟩
abbrev s__law_bad_columns : Stmt := topS 39
theorem sc__law_bad_columns : FnScope ["_law_pool_here", "_law_width_here"] ["_law_pool_here", "_law_width_here"] (defScope s__law_bad_columns) := ⟨rfl, rfl, rfl, by decide +kernel, rfl, by decide +kernel, by decide +kernel⟩
abbrev s__law_spoil_tables : Stmt := topS 40
theorem sc__law_spoil_tables : FnScope ["_law_pool_here", "_law_kind", "_law_tables_here", "_law_name", "_law_other"] ["_law_pool_here", "_law_kind", "_law_tables_here"] (defScope s__law_spoil_tables) := ⟨rfl, rfl, rfl, by decide +kernel, rfl, by decide +kernel, by decide +kernel⟩
abbrev s__law_width : Stmt := topS 41
theorem sc__law_width : FnScope ["_law_tables_here", "_law_name", "_law_width_here"] ["_law_tables_here", "_law_name"] (defScope s__law_width) := ⟨rfl, rfl, rfl, by decide +kernel, rfl, by decide +kernel, by decide +kernel⟩
abbrev s__law_spoil_keys : Stmt := topS 42
theorem sc__law_spoil_keys : FnScope ["_law_pool_here", "_law_kind", "_law_tables_here", "_law_keys_here", "_law_name", "_law_width_here"] ["_law_pool_here", "_law_kind", "_law_tables_here", "_law_keys_here"] (defScope s__law_spoil_keys) := ⟨rfl, rfl, rfl, by decide +kernel, rfl, by decide +kernel, by decide +kernel⟩
abbrev s__law_spoil_services : Stmt := topS 43
theorem sc__law_spoil_services : FnScope ["_law_pool_here", "_law_kind", "_law_tables_here", "_law_services_here", "_law_name", "_law_table", "_law_width_here", "_law_wrong", "_law_other"] ["_law_pool_here", "_law_kind", "_law_tables_here", "_law_services_here"] (defScope s__law_spoil_services) := ⟨rfl, rfl, rfl, by decide +kernel, rfl, by decide +kernel, by decide +kernel⟩
abbrev s__law_is_integer : Stmt := topS 44
theorem sc__law_is_integer : FnScope ["_law_thing"] ["_law_thing"] (defScope s__law_is_integer) := ⟨rfl, rfl, rfl, by decide +kernel, rfl, by decide +kernel, by decide +kernel⟩
abbrev s__law_is_word : Stmt := topS 45
theorem sc__law_is_word : FnScope ["_law_thing", "_law_sign"] ["_law_thing"] (defScope s__law_is_word) := ⟨rfl, rfl, rfl, by decide +kernel, rfl, by decide +kernel, by decide +kernel⟩
abbrev s__law_good_columns : Stmt := topS 46
theorem sc__law_good_columns : FnScope ["_law_thing", "_law_width_here", "_law_at"] ["_law_thing", "_law_width_here"] (defScope s__law_good_columns) := ⟨rfl, rfl, rfl, by decide +kernel, rfl, by decide +kernel, by decide +kernel⟩
abbrev s__law_good_service : Stmt := topS 47
theorem sc__law_good_service : FnScope ["_law_tables_here", "_law_told"] ["_law_tables_here", "_law_told"] (defScope s__law_good_service) := ⟨rfl, rfl, rfl, by decide +kernel, rfl, by decide +kernel, by decide +kernel⟩
abbrev s__law_fault : Stmt := topS 48
theorem sc__law_fault : FnScope ["_law_tables_here", "_law_keys_here", "_law_services_here", "_law_name", "_law_filled"] ["_law_tables_here", "_law_keys_here", "_law_services_here"] (defScope s__law_fault) := ⟨rfl, rfl, rfl, by decide +kernel, rfl, by decide +kernel, by decide +kernel⟩
abbrev s_law : Stmt := topS 49
theorem sc_law : FnScope ["_law_script", "_law_pool_here", "_law_spoils", "_law_tables_here", "_law_keys_here", "_law_services_here", "_law_kind", "_law_due", "_law_told", "_law_plain", "_law_schema", "e", "_law_k"] ["_law_script"] (defScope s_law) := ⟨rfl, rfl, rfl, by decide +kernel, rfl, by decide +kernel, by decide +kernel⟩
/-- what the top has written, as the walks ask for it -/
structure Txt (K : PySem.W.Frag) (mg : Str → Option Value) (a : Nat → Addr) (d : Nat → FuncData) : Prop where
  F1300 : Fun K "__init__" "InvalidSchema.__init__" s_InvalidSchema___init__ (a 1300) (d 1300)
  b1300 : Binds K (d 1300) ["self", "part", "name"] []
  F7 : Fun K "is_plain_int" "is_plain_int" s_is_plain_int (a 7) (d 7)
  b7 : Binds K (d 7) ["thing"] []
  g7 : mg "is_plain_int" = some (.ref (a 7))
  F8 : Fun K "is_word" "is_word" s_is_word (a 8) (d 8)
  b8 : Binds K (d 8) ["thing"] []
  g8 : mg "is_word" = some (.ref (a 8))
  F14 : Fun K "_is_count" "_is_count" s__is_count (a 14) (d 14)
  b14 : Binds K (d 14) ["thing", "most"] []
  g14 : mg "_is_count" = some (.ref (a 14))
  F15 : Fun K "_is_name_in" "_is_name_in" s__is_name_in (a 15) (d 15)
  b15 : Binds K (d 15) ["thing", "names"] []
  g15 : mg "_is_name_in" = some (.ref (a 15))
  F16 : Fun K "_are_columns" "_are_columns" s__are_columns (a 16) (d 16)
  b16 : Binds K (d 16) ["thing", "width"] []
  g16 : mg "_are_columns" = some (.ref (a 16))
  F17 : Fun K "_is_key" "_is_key" s__is_key (a 17) (d 17)
  b17 : Binds K (d 17) ["thing", "width"] []
  g17 : mg "_is_key" = some (.ref (a 17))
  F18 : Fun K "_is_service" "_is_service" s__is_service (a 18) (d 18)
  b18 : Binds K (d 18) ["thing", "tables"] []
  g18 : mg "_is_service" = some (.ref (a 18))
  F19 : Fun K "_is_whole_service" "_is_whole_service" s__is_whole_service (a 19) (d 19)
  b19 : Binds K (d 19) ["service", "tables", "keys"] []
  g19 : mg "_is_whole_service" = some (.ref (a 19))
  F20 : Fun K "_check_tables" "_check_tables" s__check_tables (a 20) (d 20)
  b20 : Binds K (d 20) ["tables"] []
  g20 : mg "_check_tables" = some (.ref (a 20))
  F21 : Fun K "_check_keys" "_check_keys" s__check_keys (a 21) (d 21)
  b21 : Binds K (d 21) ["keys", "tables"] []
  g21 : mg "_check_keys" = some (.ref (a 21))
  F22 : Fun K "_check_services" "_check_services" s__check_services (a 22) (d 22)
  b22 : Binds K (d 22) ["services", "tables"] []
  g22 : mg "_check_services" = some (.ref (a 22))
  F23 : Fun K "_check_capped" "_check_capped" s__check_capped (a 23) (d 23)
  b23 : Binds K (d 23) ["services", "tables", "keys"] []
  g23 : mg "_check_capped" = some (.ref (a 23))
  F24 : Fun K "_copied" "_copied" s__copied (a 24) (d 24)
  b24 : Binds K (d 24) ["things"] []
  g24 : mg "_copied" = some (.ref (a 24))
  F3500 : Fun K "__init__" "Schema.__init__" s_Schema___init__ (a 3500) (d 3500)
  b3500 : Binds K (d 3500) ["self", "tables", "keys", "services"] []
  F3501 : Fun K "tables" "Schema.tables" s_Schema_tables (a 3501) (d 3501)
  b3501 : Binds K (d 3501) ["self"] []
  F3502 : Fun K "key_columns" "Schema.key_columns" s_Schema_key_columns (a 3502) (d 3502)
  b3502 : Binds K (d 3502) ["self"] []
  F3503 : Fun K "services" "Schema.services" s_Schema_services (a 3503) (d 3503)
  b3503 : Binds K (d 3503) ["self"] []
  F27 : Fun K "_law_pool" "_law_pool" s__law_pool (a 27) (d 27)
  b27 : Binds K (d 27) ["_law_script"] []
  g27 : mg "_law_pool" = some (.ref (a 27))
  F28 : Fun K "_law_mixed" "_law_mixed" s__law_mixed (a 28) (d 28)
  b28 : Binds K (d 28) ["_law_seed", "_law_count"] []
  g28 : mg "_law_mixed" = some (.ref (a 28))
  F29 : Fun K "_law_draw" "_law_draw" s__law_draw (a 29) (d 29)
  b29 : Binds K (d 29) ["_law_pool_here", "_law_many"] []
  g29 : mg "_law_draw" = some (.ref (a 29))
  F30 : Fun K "_law_word" "_law_word" s__law_word (a 30) (d 30)
  b30 : Binds K (d 30) ["_law_pool_here", "_law_many"] []
  g30 : mg "_law_word" = some (.ref (a 30))
  F31 : Fun K "_law_names" "_law_names" s__law_names (a 31) (d 31)
  b31 : Binds K (d 31) ["_law_pool_here", "_law_many"] []
  g31 : mg "_law_names" = some (.ref (a 31))
  F32 : Fun K "_law_columns" "_law_columns" s__law_columns (a 32) (d 32)
  b32 : Binds K (d 32) ["_law_pool_here", "_law_width_here", "_law_low", "_law_high"] []
  g32 : mg "_law_columns" = some (.ref (a 32))
  F33 : Fun K "_law_tables" "_law_tables" s__law_tables (a 33) (d 33)
  b33 : Binds K (d 33) ["_law_pool_here", "_law_many", "_law_widest"] []
  g33 : mg "_law_tables" = some (.ref (a 33))
  F34 : Fun K "_law_keys" "_law_keys" s__law_keys (a 34) (d 34)
  b34 : Binds K (d 34) ["_law_pool_here", "_law_tables_here"] []
  g34 : mg "_law_keys" = some (.ref (a 34))
  F35 : Fun K "_law_is_whole" "_law_is_whole" s__law_is_whole (a 35) (d 35)
  b35 : Binds K (d 35) ["_law_tables_here", "_law_keys_here", "_law_told"] []
  g35 : mg "_law_is_whole" = some (.ref (a 35))
  F36 : Fun K "_law_services" "_law_services" s__law_services (a 36) (d 36)
  b36 : Binds K (d 36) ["_law_pool_here", "_law_tables_here", "_law_keys_here", "_law_caps", "_law_more"] []
  g36 : mg "_law_services" = some (.ref (a 36))
  F37 : Fun K "_law_schema_parts" "_law_schema_parts" s__law_schema_parts (a 37) (d 37)
  b37 : Binds K (d 37) ["_law_pool_here", "_law_many", "_law_widest", "_law_caps", "_law_more"] []
  g37 : mg "_law_schema_parts" = some (.ref (a 37))
  F38 : Fun K "_law_pick" "_law_pick" s__law_pick (a 38) (d 38)
  b38 : Binds K (d 38) ["_law_pool_here", "_law_row"] []
  g38 : mg "_law_pick" = some (.ref (a 38))
  F39 : Fun K "_law_bad_columns" "_law_bad_columns" s__law_bad_columns (a 39) (d 39)
  b39 : Binds K (d 39) ["_law_pool_here", "_law_width_here"] []
  g39 : mg "_law_bad_columns" = some (.ref (a 39))
  F40 : Fun K "_law_spoil_tables" "_law_spoil_tables" s__law_spoil_tables (a 40) (d 40)
  b40 : Binds K (d 40) ["_law_pool_here", "_law_kind", "_law_tables_here"] []
  g40 : mg "_law_spoil_tables" = some (.ref (a 40))
  F41 : Fun K "_law_width" "_law_width" s__law_width (a 41) (d 41)
  b41 : Binds K (d 41) ["_law_tables_here", "_law_name"] []
  g41 : mg "_law_width" = some (.ref (a 41))
  F42 : Fun K "_law_spoil_keys" "_law_spoil_keys" s__law_spoil_keys (a 42) (d 42)
  b42 : Binds K (d 42) ["_law_pool_here", "_law_kind", "_law_tables_here", "_law_keys_here"] []
  g42 : mg "_law_spoil_keys" = some (.ref (a 42))
  F43 : Fun K "_law_spoil_services" "_law_spoil_services" s__law_spoil_services (a 43) (d 43)
  b43 : Binds K (d 43) ["_law_pool_here", "_law_kind", "_law_tables_here", "_law_services_here"] []
  g43 : mg "_law_spoil_services" = some (.ref (a 43))
  F44 : Fun K "_law_is_integer" "_law_is_integer" s__law_is_integer (a 44) (d 44)
  b44 : Binds K (d 44) ["_law_thing"] []
  g44 : mg "_law_is_integer" = some (.ref (a 44))
  F45 : Fun K "_law_is_word" "_law_is_word" s__law_is_word (a 45) (d 45)
  b45 : Binds K (d 45) ["_law_thing"] []
  g45 : mg "_law_is_word" = some (.ref (a 45))
  F46 : Fun K "_law_good_columns" "_law_good_columns" s__law_good_columns (a 46) (d 46)
  b46 : Binds K (d 46) ["_law_thing", "_law_width_here"] []
  g46 : mg "_law_good_columns" = some (.ref (a 46))
  F47 : Fun K "_law_good_service" "_law_good_service" s__law_good_service (a 47) (d 47)
  b47 : Binds K (d 47) ["_law_tables_here", "_law_told"] []
  g47 : mg "_law_good_service" = some (.ref (a 47))
  F48 : Fun K "_law_fault" "_law_fault" s__law_fault (a 48) (d 48)
  b48 : Binds K (d 48) ["_law_tables_here", "_law_keys_here", "_law_services_here"] []
  g48 : mg "_law_fault" = some (.ref (a 48))
  F49 : Fun K "law" "law" s_law (a 49) (d 49)
  b49 : Binds K (d 49) ["_law_script"] []
  g49 : mg "law" = some (.ref (a 49))
  cg_2 : mg "CappedError" = some (.ref (a 2))
  x_2 : OexC K (a 2)
  xf_2 : XfC K (a 2)
  xi_2 : ExcC K (a 2)
  cg_3 : mg "InvalidSchema" = some (.ref (a 3))
  x_3 : OexC K (a 3)
  xf_3 : XfC K (a 3)
  xi_3 : ExcC K (a 3)
  in_3 : PySem.W.findIn K (.ref (a 3)) "__init__" = some (some (.ref (a 1300)))
  ti_3 : PySem.W.typeIn K (.ref (a 1300)) = some (.type "function")
  no_3_part : PySem.W.findIn K (.ref (a 3)) "part" = some none
  no_3_name : PySem.W.findIn K (.ref (a 3)) "name" = some none
  cg_4 : mg "InvalidStore" = some (.ref (a 4))
  x_4 : OexC K (a 4)
  xf_4 : XfC K (a 4)
  xi_4 : ExcC K (a 4)
  cg_25 : mg "Schema" = some (.ref (a 25))
  cl_25 : Cls K (a 25)
  M_25 : Mk K (a 25) (a 3500)
  no_25__tables : NoAttr K (a 25) "_tables"
  no_25__keys : NoAttr K (a 25) "_keys"
  no_25__services : NoAttr K (a 25) "_services"
  kit_3_2 : PySem.W.kitOne K (.ref (a 3)) (.ref (a 2)) = some true
  kif_3_4 : PySem.W.kitOne K (.ref (a 3)) (.ref (a 4)) = some false
  kit_3_ValueError : PySem.W.kitOne K (.ref (a 3)) (.type "ValueError") = some true
  exm_3_3 : PySem.W.exmOne K (.ref (a 3)) (.ref (a 3)) = some true
  p_3501 : PropOf K (a 25) "tables" (a 53501) (a 3501)
  p_3502 : PropOf K (a 25) "key_columns" (a 53502) (a 3502)
  p_3503 : PropOf K (a 25) "services" (a 53503) (a 3503)
  z_ValueError : mg "ValueError" = none
  z_abs : mg "abs" = none
  z_all : mg "all" = none
  z_bool : mg "bool" = none
  z_dict : mg "dict" = none
  z_int : mg "int" = none
  z_isinstance : mg "isinstance" = none
  z_len : mg "len" = none
  z_list : mg "list" = none
  z_range : mg "range" = none
  z_sorted : mg "sorted" = none
  z_str : mg "str" = none
  z_tuple : mg "tuple" = none
  c_LONGEST_WORD : ∃ t, mg "LONGEST_WORD" = some (.int (8) t)
  c_MOST_TABLES : ∃ t, mg "MOST_TABLES" = some (.int (5) t)
  c_MOST_WIDTH : ∃ t, mg "MOST_WIDTH" = some (.int (4) t)
  c_MOST_SERVICES : ∃ t, mg "MOST_SERVICES" = some (.int (8) t)
  c_MOST_CAP : ∃ t, mg "MOST_CAP" = some (.int (4) t)
end My
namespace L2
open PySem PySem.Spec PyProof.Rows
/-- a callee that may raise, called where it doesn't -/
theorem passN {X : Cx} {C : CXT} (h : C = L2.CX X.prog X.w) : Passes C X (fun _ _ _ => False) := by
  subst h
  exact passes_call (W := fun _ _ _ _ => False) takes0 (fun _ _ _ _ h => h)
section
variable {X : Cx} {CX : CXT} {k : Nat} {f C : Addr} {fd : FuncData} {ps : List Str} {sp : Sp} {E : St → XK} {x m : Str} {p pos apos : Pos} {e o : Expr} {es : List Expr} {ta : TE} {t : TA}
/-- o.m(e, ..), what it may raise told at the slots -/
def tMethX (C : Addr) (m : Str) (sp : Sp) (E : St → XK) (ta : TE) (t : TA) : TE := fun σ H Q => ta σ H fun x H1 => ∃ a dx fs, x = .ref a ∧ H1 a = some (.ins C dx fs) ∧ fs.lookup m = none ∧ t σ H1 fun vs H2 => sp (.ref a :: vs) H2 Q (E σ)
theorem pe_methX {pl : Sem Bool} (he : PE X o ta) (c : Cls X.K C) (hm : Meth X.K C m f) (F : FnOk X.prog X.w X.K X.mg X.base CX k f fd ps sp) (hr : Room k X.A) (hb : Binds X.K fd ps []) (hx : ∀ σ, PassesAt CX X σ (E σ)) (ha : PA X (e :: es) t)
    (hst : starEach (e :: es) X.env = (false, eval e X.env) :: starEach es X.env := by rfl) (hpl : (backTo pos (starEach es X.env)).any (·.1) = false := by rfl)
    (ht : eval (.Call (.Attribute o m apos) (e :: es) [] pos) X.env = (do
      let ov ← eval o X.env
      standAt apos.atName
      let (f, first) ← holding [ov] (getMethod ov m pl)
      callWith pos f first (backTo pos (starEach (e :: es) X.env)) (backToKw pos (keywordEach [] X.env))) := by rfl) :
    PE X (.Call (.Attribute o m apos) (e :: es) [] pos) (tMethX C m sp E ta t) := by
  refine ⟨fun pins s σ H Q I h => ?_⟩
  refine PySem.W.methodCall_KW (pl := pl) (thn (he.run pins s σ H _ I h) fun u s1 ⟨x, H1, I1, rx, a, dx, fs, ex, ea, l, q⟩ => ?_) ht
  subst ex
  obtain rfl : u = Value.ref a := rx
  refine getmeth_ok I1 ea c hm l ?_
  refine PySem.W.callWith_K (first := [.ref a]) (h₀ := X.base) I.ok.mod.kin hm.kp (thn (ha.run pos pins s1 σ H1 _ I1 q) fun us s2 ⟨vs, H2, I2, r, q2⟩ => ⟨I2.kIn, ?_⟩) hst hpl
  exact run_fnS (us := .ref a :: us) (vs := .ref a :: vs) F hr hb (hx σ) I2 (.cons rfl r) q2
theorem pe_methX0 {pl : Sem Bool} (he : PE X o ta) (c : Cls X.K C) (hm : Meth X.K C m f) (F : FnOk X.prog X.w X.K X.mg X.base CX k f fd ps sp) (hr : Room k X.A) (hb : Binds X.K fd ps []) (hx : ∀ σ, PassesAt CX X σ (E σ))
    (ht : eval (.Call (.Attribute o m apos) [] [] pos) X.env = (do
      let ov ← eval o X.env
      standAt apos.atName
      let (f, first) ← holding [ov] (getMethod ov m pl)
      callWith pos f first (backTo pos (starEach [] X.env)) (backToKw pos (keywordEach [] X.env))) := by rfl) :
    PE X (.Call (.Attribute o m apos) [] [] pos) (tMethX C m sp E ta tNil) := by
  refine ⟨fun pins s σ H Q I h => ?_⟩
  refine PySem.W.methodCall_KW (pl := pl) (thn (he.run pins s σ H _ I h) fun u s1 ⟨x, H1, I1, rx, a, dx, fs, ex, ea, l, q⟩ => ?_) ht
  subst ex
  obtain rfl : u = Value.ref a := rx
  refine getmeth_ok I1 ea c hm l ?_
  exact PySem.W.callWith_K0 (first := [.ref a]) I1.kIn hm.kp (run_fnS (us := [.ref a]) (vs := [.ref a]) F hr hb (hx σ) I1 (.cons rfl .nil) q)
/-- C(e, ..), what its __init__ may raise told at the slots -/
def tMakeX (C : Addr) (sp : Sp) (E : St → XK) (t : TA) : TE := fun σ H Q => t σ H fun vs H1 => ∀ x dx, H1 x = none → H1 dx = none → dx ≠ x →
  sp (.ref x :: vs) (upd (upd H1 dx (.own x)) x (.ins C dx [])) (fun v H2 => v = .non ∧ Q (.ref x) H2) (E σ)
theorem pe_makeX (M : Mk X.K C f) (F : FnOk X.prog X.w X.K X.mg X.base CX k f fd ps sp) (hr : Room (k + 1) X.A) (hg : Gl X x) (hm : X.mg x = some (.ref C)) (hb : Binds X.K fd ps []) (hx : ∀ σ, PassesAt CX X σ (E σ))
    (ha : PA X (e :: es) t) (hdb : (x == ("__debug__" : Str)) = false := by decide) (he : starEach (e :: es) X.env = (false, eval e X.env) :: starEach es X.env := by rfl) (hpl : (backTo pos (starEach es X.env)).any (·.1) = false := by rfl) :
    PE X (.Call (.Name x p) (e :: es) [] pos) (tMakeX C sp E t) := by
  refine ⟨fun pins s σ H Q I h => ?_⟩
  refine wpAny_Call_Name_kw (ld_glob I hg hm ?_ hdb)
  refine PySem.W.callWith_K (h₀ := X.base) I.ok.mod.kin M.kp (thn (ha.run pos pins s σ H _ I h) fun us s1 ⟨vs, H1, I1, r, q⟩ => ⟨I1.kIn, ?_⟩) he hpl
  have hq := q (s1.heap.objs.size + 1) s1.heap.objs.size (I1.hok.fresh (Nat.le_succ _)) (I1.hok.fresh (Nat.le_refl _)) (Nat.ne_of_lt (Nat.lt_succ_self _))
  have I2 := Inv.made (C := C) I1
  have r2 : Vals (V.ref (s1.heap.objs.size + 1) :: vs) (Value.ref (s1.heap.objs.size + 1) :: us) := .cons rfl r
  have hl : (Value.ref (s1.heap.objs.size + 1) :: us).length = ps.length := by
    have e := r2.length
    rw [F.len _ _ _ _ hq] at e
    exact e.symm
  have b := hb _ (Value.ref (s1.heap.objs.size + 1) :: us) I2.kIn (by rw [List.append_nil]; exact hl)
  rw [List.append_nil] at b
  refine wpAny_call (make_map (f := f) I1.kIn M.makes M.init (beq_iff_eq.mp M.fn) (codeAny_mono (F.run _ X.stack _ _ ⟨Value.ref (s1.heap.objs.size + 1) :: us, []⟩ (Value.ref (s1.heap.objs.size + 1) :: us) _ _ (E σ) (hr.make C us [])
    (I2.env0.make C us []) b r2 hq) fun r s' hq' => ?_))
  cases r with
  | error e => exact hx σ pins _ _ e s' I2 hq'
  | ok fl =>
    cases fl with
    | ret u =>
      obtain ⟨v, H', I3, rv, ev, q3⟩ := I2.after hq'
      subst ev
      exact ⟨rv, ⟨V.ref (s1.heap.objs.size + 1), H', I3, rfl, q3⟩⟩
    | next => exact False.elim hq'
    | brk => exact False.elim hq'
    | cont => exact False.elim hq'
end
/-- isinstance(e, c), e the exception that the suite holds, with a dict of its own -/
theorem call_isX {X : Cx} {a D : Addr} {cls : Value} {oe : Obj} {d : Option Addr} {pn : List (Addr × Obj)} (C : ExcC X.K D) (hz : Zc cls d oe) (hf : ∃ vs, oe.data = .fields vs) :
    CallR (X.suite a ((a, oe) :: pn)) (.builtin "isinstance") (fun xs H Q => ∃ (dd : Addr) (fs : List (Str × V)) (c : V) (cv : Value) (b : Bool), cls = .ref D ∧ d = some dd ∧ H dd = some (.xd fs) ∧ xs = [.ref a, c] ∧ (∀ u, RelV c u → u = cv) ∧ PySem.W.kitOne X.K (.ref D) cv = some b ∧ Q (.bl b) H) := by
  intro pins s σ H xs us Q I r h
  obtain ⟨dd, fs, c, cv, b, rfl, rfl, ed, rfl, hcv, e, q⟩ := h
  cases r with
  | cons rx rr =>
    cases rr with
    | cons rt rr =>
      cases rr
      cases rx
      have ec := hcv _ rt
      subst ec
      obtain ⟨hget, _⟩ := I.pin (a, oe) (List.mem_append.mpr (.inl List.mem_cons_self))
      obtain ⟨vs, hv⟩ := hf
      have hx : ObjOk X.prog X.w H s.heap dd (.xd fs) := I.hok dd _ ed
      obtain ⟨mA, hns, hr⟩ := hx
      obtain ⟨od, ho, hl⟩ := lookIn_ns hns
      have J : PySem.W.InstAt s.heap a oe D (some od) := ⟨hget, hz.1, by unfold PySem.W.notCls; rw [hv] <;> rfl, by rw [hz.2]; exact ho⟩
      have hcl : (PySem.W.clsIn X.K D).isSome = true := by
        obtain ⟨cdD, hcD, _⟩ := PySem.W.any_some C.hd
        rw [hcD]
        rfl
      exact PySem.W.kia_one (PySem.W.kitx_exc hcl C.hg C.hk C.hs C.ha C.hn C.ht C.hm) I.kIn J e (fun z => nomatch z) fun tk => ⟨.bl b, H, I.kept (t' := tk) fun _ _ z => z, rfl, q⟩
/-! ### two dicts that hold the same, things at addresses too -/
def sameB : V → Bool
  | .ref _ => true
  | v => flatB v
theorem eqAt_sameB {A : Around} {s : Shared} {v : V} {u u' : Value} (r : RelV v u) (r' : RelV v u') (f : sameB v = true) : SeqAt.EqAt A s u u' true := by
  cases v with
  | ref a =>
    cases (show u = Value.ref a from r)
    cases (show u' = Value.ref a from r')
    exact SeqAt.EqAt.same _
  | non => exact eqAt_same r r' f
  | bl b => exact eqAt_same r r' f
  | int i => exact eqAt_same r r' f
  | str x => exact eqAt_same r r' f
  | byt b => exact eqAt_same r r' f
  | flt x => exact eqAt_same r r' f
  | ty n => exact eqAt_same r r' f
theorem hits_allS {κ : Type} [DecidableEq κ] {A : Around} {s : Shared} {kvs : List (κ × V)} {vb : List (κ × Value)} (rb : KV kvs vb) {ks : List (κ × V)} {va : List (κ × Value)} (ra : KV ks va) :
    (∀ p ∈ ks, valV kvs p.1 = some p.2 ∧ sameB p.2 = true) → PySem.W.KeqHits A s vb va true := by
  unfold KV at ra
  induction ra with
  | nil => intro _; exact .nil
  | @cons p q ps qs h t ih =>
    intro hp
    obtain ⟨h1, h2⟩ := h
    obtain ⟨e, f⟩ := hp p List.mem_cons_self
    have rr : RelO (some p.2) (valueAt vb p.1) := by rw [← e]; exact rb.val p.1
    obtain ⟨y, hy, ry⟩ := rr.some_of
    obtain ⟨k, v⟩ := q
    have h1' : p.1 = k := h1
    rw [h1'] at hy
    show PySem.W.KeqHits A s vb ((k, v) :: qs) (true && true)
    exact .hit hy (eqAt_sameB h2 ry f) (ih fun p' hm => hp p' (List.mem_cons_of_mem _ hm))
def rNeS : R2 := fun x y H Q => ∃ a b ks ls, x = .ref a ∧ y = .ref b ∧ H a = some (.dK ks) ∧ H b = some (.dK ls) ∧ ks.length = ls.length ∧ (∀ p ∈ ks, valV ls p.1 = some p.2 ∧ sameB p.2 = true) ∧ Q (.bl false) H
theorem op_neS {X : Cx} (hu : X.A.units + 1 < cLine) : OpR X (compareOp .NotEq) rNeS := by
  intro pins s σ H x y v u Q I rx ry h
  obtain ⟨a, b, ks, ls, rfl, rfl, ea, eb, hlen, hp, q⟩ := h
  obtain rfl : v = Value.ref a := rx
  obtain rfl : u = Value.ref b := ry
  obtain ⟨_, ya, va, ra, da⟩ := (show ObjOk X.prog X.w H s.heap a (.dK ks) from I.hok a _ ea)
  obtain ⟨_, yb, vb, rb, db⟩ := (show ObjOk X.prog X.w H s.heap b (.dK ls) from I.hok b _ eb)
  have hl : va.length = vb.length := by rw [← ra.length, ← rb.length]; exact hlen
  exact PySem.W.keq_ne (knd := mixKind X.prog X.w) (r := true) ya yb da db (by omega) (fun _ => hits_allS rb ra hp) (fin_bl I q (by simp [hl]))
def rEqS : R2 := fun x y H Q => ∃ a b ks ls, x = .ref a ∧ y = .ref b ∧ H a = some (.dK ks) ∧ H b = some (.dK ls) ∧ ks.length = ls.length ∧ (∀ p ∈ ks, valV ls p.1 = some p.2 ∧ sameB p.2 = true) ∧ Q (.bl true) H
theorem op_eqSX {X : Cx} (hu : X.A.units + 1 < cLine) : OpR X (compareOp .Eq) rEqS := by
  intro pins s σ H x y v u Q I rx ry h
  obtain ⟨a, b, ks, ls, rfl, rfl, ea, eb, hlen, hp, q⟩ := h
  obtain rfl : v = Value.ref a := rx
  obtain rfl : u = Value.ref b := ry
  obtain ⟨_, ya, va, ra, da⟩ := (show ObjOk X.prog X.w H s.heap a (.dK ks) from I.hok a _ ea)
  obtain ⟨_, yb, vb, rb, db⟩ := (show ObjOk X.prog X.w H s.heap b (.dK ls) from I.hok b _ eb)
  have hl : va.length = vb.length := by rw [← ra.length, ← rb.length]; exact hlen
  exact PySem.W.keq_eq (knd := mixKind X.prog X.w) (r := true) ya yb da db (by omega) (fun _ => hits_allS rb ra hp) (fin_bl I q (by simp [hl]))
theorem kit_self {K : PySem.W.Frag} (x : Addr) : PySem.W.kitOne K (.ref x) (.ref x) = some true := by
  show (if (Value.ref x == Value.ref x) = true then some true else _) = some true
  rw [if_pos (by simp)]
theorem kit_ref {K : PySem.W.Frag} {x y : Addr} (hdct : PySem.W.hasDictIn K y = true) (ht : PySem.W.typeIn K (.ref y) = some (.type "type")) (h4 : PySem.W.subIn K (.ref x) (.ref y) = some true) : PySem.W.kitOne K (.ref x) (.ref y) = some true := by
  obtain ⟨cd, hc, _⟩ := PySem.W.any_some hdct
  have e2 : ((PySem.W.clsIn K y).isSome && PySem.W.typeIn K (.ref y) == some (.type "type")) = true := by rw [hc, ht] <;> rfl
  show (if (Value.ref x == Value.ref y) = true then some true else if ((PySem.W.clsIn K y).isSome && PySem.W.typeIn K (.ref y) == some (.type "type")) = true then PySem.W.subIn K (.ref x) (.ref y) else none) = some true
  rw [if_pos e2, h4]
  split <;> rfl
/-! ### two dicts compared whose values are data: True or False -/
def eqT (D : V → PyData) (ks ls : List (Key × V)) : Bool := (ks.length == ls.length) && ks.all fun p => match valV ls p.1 with
  | none => false
  | some v => PyData.eqv (D p.2) (D v)
theorem hits_data {X : Cx} {pins : List (Addr × Obj)} {σ : St} {H : Hp} {s : Shared} {A : Around} (I : Inv X pins σ H s) (hu : A.units + 65 < cLine) (D : V → PyData) {ls : List (Key × V)} {vb : List (Key × Value)} (rb : KV ls vb) (hb : ∀ p ∈ ls, Dp X.K H p.2 (D p.2) ∧ SeqAt.shaped (D p.2) = true) {ks : List (Key × V)} {va : List (Key × Value)} (ra : KV ks va) :
    (∀ p ∈ ks, Dp X.K H p.2 (D p.2) ∧ SeqAt.shaped (D p.2) = true) → PySem.W.KeqHits A.in1 s vb va (ks.all fun p => match valV ls p.1 with
      | none => false
      | some v => PyData.eqv (D p.2) (D v)) := by
  unfold KV at ra
  induction ra with
  | nil => intro _; exact .nil
  | @cons p q ps qs h t ih =>
    intro hp
    obtain ⟨h1, h2⟩ := h
    obtain ⟨k, v⟩ := q
    have h1' : p.1 = k := h1
    have rr := rb.val p.1
    have ih' := ih fun p' hm => hp p' (List.mem_cons_of_mem _ hm)
    rw [List.all_cons]
    cases e : valV ls p.1 with
    | none =>
      rw [e] at rr
      have hn : valueAt vb p.1 = none := by
        cases e2 : valueAt vb p.1 with
        | none => rfl
        | some _ => rw [e2] at rr; exact (show False from rr).elim
      rw [h1'] at hn
      exact .miss hn
    | some y =>
      rw [e] at rr
      obtain ⟨u, hy, ry⟩ := rr.some_of
      rw [h1'] at hy
      have hy2 : ∃ q ∈ ls, q.2 = y := by
        unfold valV at e
        cases e3 : ls.find? fun kv => decide (kv.1 = p.1) with
        | none => rw [e3] at e; cases e
        | some q => rw [e3] at e; exact ⟨q, List.mem_of_find?_eq_some e3, Option.some.inj e⟩
      obtain ⟨q, hq, rfl⟩ := hy2
      obtain ⟨as, r1⟩ := Dp.reads I _ _ _ (hp p List.mem_cons_self).1 h2
      obtain ⟨bs, r2⟩ := Dp.reads I _ _ _ (hb q hq).1 ry
      exact .hit hy (PySem.W.keq_at r1 r2 (hp p List.mem_cons_self).2 (hb q hq).2 (by show A.units + 1 + 64 < cLine; omega)) ih'
def rEqT (K : PySem.W.Frag) (neg : Bool) : R2 := fun x y H Q => ∃ (a b : Addr) (ks ls : List (Key × V)) (D : V → PyData), x = .ref a ∧ y = .ref b ∧ H a = some (.dK ks) ∧ H b = some (.dK ls) ∧ (∀ p ∈ ks, Dp K H p.2 (D p.2) ∧ SeqAt.shaped (D p.2) = true) ∧ (∀ p ∈ ls, Dp K H p.2 (D p.2) ∧ SeqAt.shaped (D p.2) = true) ∧ Q (.bl (if neg then !eqT D ks ls else eqT D ks ls)) H
theorem op_eqT {X : Cx} (hu : X.A.units + 65 < cLine) : OpR X (compareOp .Eq) (rEqT X.K false) := by
  intro pins s σ H x y v u Q I rx ry h
  obtain ⟨a, b, ks, ls, D, rfl, rfl, ea, eb, ha, hb, q⟩ := h
  obtain rfl : v = Value.ref a := rx
  obtain rfl : u = Value.ref b := ry
  obtain ⟨_, ya, va, ra, da⟩ := (show ObjOk X.prog X.w H s.heap a (.dK ks) from I.hok a _ ea)
  obtain ⟨_, yb, vb, rb, db⟩ := (show ObjOk X.prog X.w H s.heap b (.dK ls) from I.hok b _ eb)
  refine PySem.W.keq_eq (knd := mixKind X.prog X.w) ya yb da db (by omega) (fun _ => hits_data I hu D rb hb ra ha) (fin_bl I q ?_)
  unfold eqT
  rw [ra.length, rb.length]
  rfl
theorem op_neT {X : Cx} (hu : X.A.units + 65 < cLine) : OpR X (compareOp .NotEq) (rEqT X.K true) := by
  intro pins s σ H x y v u Q I rx ry h
  obtain ⟨a, b, ks, ls, D, rfl, rfl, ea, eb, ha, hb, q⟩ := h
  obtain rfl : v = Value.ref a := rx
  obtain rfl : u = Value.ref b := ry
  obtain ⟨_, ya, va, ra, da⟩ := (show ObjOk X.prog X.w H s.heap a (.dK ks) from I.hok a _ ea)
  obtain ⟨_, yb, vb, rb, db⟩ := (show ObjOk X.prog X.w H s.heap b (.dK ls) from I.hok b _ eb)
  refine PySem.W.keq_ne (knd := mixKind X.prog X.w) ya yb da db (by omega) (fun _ => hits_data I hu D rb hb ra ha) (fin_bl I q ?_)
  unfold eqT
  rw [ra.length, rb.length]
  rfl
/-! ### == of two objects of an own class by the class's own def, whatever it tells -/
def rEqO (C : Addr) (sp : Sp) (E : XK) : R2 := fun x y H Q => ∃ (a b dx dy : Addr) (fs gs : List (Str × V)), x = .ref a ∧ y = .ref b ∧ H a = some (.ins C dx fs) ∧ H b = some (.ins C dy gs) ∧ sp [.ref a, .ref b] H (fun v H' => ∃ c, v = .bl c ∧ Q (.bl c) H') E
theorem op_eqO {X : Cx} {CX : CXT} {n : Nat} {C f : Addr} {fd : FuncData} {ps : List Str} {sp : Sp} {E : XK} (F : FnOk X.prog X.w X.K X.mg X.base CX n f fd ps sp) (hrm : Room n X.A)
    (hs : PySem.W.findIn X.K (.ref C) "__eq__" = some (some (.ref f))) (hf : PySem.W.isFn X.K (.ref f) = true) (hb : Binds X.K fd ps []) (hx : Passes CX X E) : OpR X (compareOp .Eq) (rEqO C sp E) := by
  intro pins s σ H x y v u Q I rx ry h
  obtain ⟨a, b, dx, dy, fs, gs, rfl, rfl, ha, hb', hsp⟩ := h
  cases (show v = Value.ref a from rx)
  cases (show u = Value.ref b from ry)
  obtain ⟨mA, J, _⟩ := ins_get I.hok ha
  obtain ⟨mB, J', _⟩ := ins_get I.hok hb'
  obtain ⟨od, J, _⟩ := J.look
  obtain ⟨od', J', _⟩ := J'.look
  obtain ⟨m, hF⟩ := I.fr
  refine PySem.W.cmp_K (op := .Eq) (tb := .ref C) hrm.units0 hF I.ok.mod.kin J J'.type (by simp [PySem.W.notFirst]) hs hf ?_
  refine wpAny_mono (run_fn (us := [.ref a, .ref b]) (vs := [.ref a, .ref b]) (dvs := []) (ds := []) F hrm hb .nil hx I (.cons rfl (.cons rfl .nil)) hsp) (fun r s' q => ?_) fun _ _ z => z
  obtain ⟨w, H', I', rw', c, ew, q⟩ := q
  subst ew
  cases rw'
  exact ⟨.bl c, H', I', rfl, q⟩
end L2
namespace My
open PySem PySem.Spec PyProof.Rows L2
local macro_rules | `(tactic| walk_at "g") => `(tactic| first
  | refine ⟨_, rfl, ?_⟩
  | refine ⟨_, _, rfl, rfl, .inl ⟨by decide, by decide⟩, ?_⟩
  | refine ⟨_, _, rfl, rfl, .inr ⟨by decide, by decide⟩, ?_⟩
  | refine ⟨_, _, rfl, rfl, .inl ⟨by omega, by omega⟩, ?_⟩
  | refine ⟨_, _, rfl, rfl, ⟨by decide, by decide +kernel⟩, ?_⟩
  | refine ⟨_, _, rfl, rfl, ⟨by decide, by decide, by decide⟩, ?_⟩
  | refine ⟨_, _, rfl, rfl, (by show (0 : Int) < _; decide), ?_⟩
  | refine ⟨_, _, rfl, rfl, ?_⟩
  | refine .inl ⟨_, rfl, ?_⟩
  | refine ⟨rfl, _, rfl, ?_⟩)
local macro_rules | `(tactic| walk_at "gg") => `(tactic| repeat walk_at "g")
/-! ### the pool of draws: a list of ints at an address that every draw changes -/
def PoolAt (H : Hp) (a : Addr) : Prop := ∃ (p0 p1 p2 p3 : Int) (r : List Int), H a = some (.lst (.int p0 :: .int p1 :: .int p2 :: .int p3 :: r.map V.int)) ∧ 0 ≤ p0 ∧ 0 ≤ p1 ∧ 0 ≤ p2 ∧ p2 < 2147483647 ∧ 0 ≤ p3 ∧ r.length ≤ 63
/-- the pool at a may have changed; all else that was tracked stands -/
def Chg (a : Addr) (H H' : Hp) : Prop := PoolAt H' a ∧ ∀ b o, b ≠ a → H b = some o → H' b = some o
theorem Chg.refl {a : Addr} {H : Hp} (h : PoolAt H a) : Chg a H H := ⟨h, fun _ _ _ e => e⟩
theorem Chg.trans {a : Addr} {H H1 H2 : Hp} (x : Chg a H H1) (y : Chg a H1 H2) : Chg a H H2 := ⟨y.1, fun b o n e => y.2 b o n (x.2 b o n e)⟩
theorem Chg.new {a p : Addr} {o : HO} {H H1 : Hp} (x : Chg a H H1) (h : H1 p = none) : Chg a H (upd H1 p o) := by
  obtain ⟨⟨p0, p1, p2, p3, r, e, c⟩, k⟩ := x
  have n : a ≠ p := ne_of_none e h
  exact ⟨⟨p0, p1, p2, p3, r, by rw [upd_ne n]; exact e, c⟩, fun b u nb q => by
    have q' := k b u nb q
    rw [upd_ne (ne_of_none q' h)]
    exact q'⟩
theorem Chg.mut {a p : Addr} {o : HO} {H H1 : Hp} (x : Chg a H H1) (h : H p = none) (n : p ≠ a) : Chg a H (upd H1 p o) := by
  obtain ⟨⟨p0, p1, p2, p3, r, e, c⟩, k⟩ := x
  exact ⟨⟨p0, p1, p2, p3, r, by rw [upd_ne n.symm]; exact e, c⟩, fun b u nb q => by
    rw [upd_ne (ne_of_none q h)]
    exact k b u nb q⟩
theorem Chg.ne {a p : Addr} {H : Hp} (x : PoolAt H a) (h : H p = none) : p ≠ a := by
  obtain ⟨p0, p1, p2, p3, r, e, c⟩ := x
  exact (ne_of_none e h).symm
theorem PoolAt.same {a : Addr} {H H' : Hp} (x : PoolAt H a) (s : Same H H') : PoolAt H' a := by
  obtain ⟨p0, p1, p2, p3, r, e, c⟩ := x
  exact ⟨p0, p1, p2, p3, r, s _ _ e, c⟩
theorem same_upd {H : Hp} {p : Addr} {o : HO} (h : H p = none) : Same H (upd H p o) := fun b x e => by
  rw [upd_ne (ne_of_none e h)]
  exact e
theorem Same.on {H H' : Hp} {b : Addr} {o : HO} (s : Same H H') (e : H b = some o) : H' b = some o := s _ _ e
theorem upd_old {H : Hp} {p b : Addr} {o u : HO} (h : H p = none) (e : H b = some u) : upd H p o b = some u := by
  rw [upd_ne (ne_of_none e h)]
  exact e
theorem upd_oldN {H : Hp} {p b : Addr} {o u : HO} (n : b ≠ p) (e : H b = some u) : upd H p o b = some u := by
  rw [upd_ne n]
  exact e
theorem free_of {a p : Addr} {H H1 : Hp} (x : Chg a H H1) (h0 : PoolAt H a) (h : H1 p = none) : H p = none := by
  cases e : H p with
  | none => rfl
  | some o =>
    by_cases n : p = a
    · subst n
      obtain ⟨⟨p0, p1, p2, p3, r, e, c⟩, _⟩ := x
      rw [e] at h
      cases h
    · rw [x.2 p o n e] at h
      cases h
theorem ixN_at {n j : Nat} (h : j < n) : ixN n (j : Int) = some j := by
  unfold ixN
  rw [if_pos (by omega), if_pos (by omega)]
  simp
theorem ite_d {p A B : Prop} [Decidable p] (h1 : p → A) (h2 : ¬ p → B) : if decide p = true then A else B := by
  by_cases h : p
  · rw [if_pos (decide_eq_true h)]
    exact h1 h
  · rw [if_neg (by rw [decide_eq_false h]; decide)]
    exact h2 h
theorem ite_nd {p A B : Prop} [Decidable p] (h1 : ¬ p → A) (h2 : p → B) : if (!decide p) = true then A else B := by
  by_cases h : p
  · rw [if_neg (by rw [decide_eq_true h]; decide)]
    exact h2 h
  · rw [if_pos (by rw [decide_eq_false h]; decide)]
    exact h1 h
theorem ite_eqI {i j : Int} {A B : Prop} (h1 : i = j → A) (h2 : i ≠ j → B) : if decide (V.int i = V.int j) = true then A else B := ite_d (fun h => h1 (V.int.inj h)) (fun h => h2 fun e => h (congrArg V.int e))
theorem int_at {q0 q1 q2 q3 : Int} {r : List Int} {i : Nat} (h : i < (V.int q0 :: .int q1 :: .int q2 :: .int q3 :: r.map V.int).length) : ∃ c, (V.int q0 :: .int q1 :: .int q2 :: .int q3 :: r.map V.int)[i]? = some (.int c) := by
  have e : (V.int q0 :: .int q1 :: .int q2 :: .int q3 :: r.map V.int) = (q0 :: q1 :: q2 :: q3 :: r).map V.int := rfl
  rw [e] at h ⊢
  rw [List.length_map] at h
  exact ⟨_, by rw [List.getElem?_map, List.getElem?_eq_getElem h]; rfl⟩
theorem map_at {α β : Type} {f : α → β} {xs : List α} {i : Nat} {y : β} (h : (xs.map f)[i]? = some y) : ∃ x, xs[i]? = some x ∧ f x = y := by
  rw [List.getElem?_map] at h
  cases e : xs[i]? with
  | none =>
    rw [e] at h
    cases h
  | some x =>
    rw [e] at h
    exact ⟨x, rfl, Option.some.inj h⟩
theorem map_take {α β : Type} {f : α → β} {xs : List α} {i : Nat} {x : α} (h : xs[i]? = some x) : (xs.take (i + 1)).map f = (xs.take i).map f ++ [f x] := by
  rw [List.take_add_one, h, List.map_append]
  rfl
theorem small1000' {n : Nat} (h : n ≤ 1000) : n ≤ sizeLine := Nat.le_of_lt (small1000 h)
theorem hu_of64 {A : Around} {k : Nat} (hr : Room k A) : A.units + 64 < cLine := Nat.lt_of_le_of_lt (Nat.add_le_add_left (by omega : 64 ≤ 16 * k + 200) _) (by have := hr.un; omega)
theorem hu_of65 {A : Around} {k : Nat} (hr : Room k A) : A.units + 65 < cLine := Nat.lt_of_le_of_lt (Nat.add_le_add_left (by omega : 65 ≤ 16 * k + 200) _) (by have := hr.un; omega)
theorem at_g {α : Type} {xs : List α} {z : Int} {j : Nat} {v : α} (e : z = (j : Int)) (h : xs[j]? = some v) : atI xs z = some v := by
  rw [e]
  exact atI_nat h
theorem at_some {α : Type} {xs : List α} {z : Int} (h0 : 0 ≤ z) (h1 : z < xs.length) : ∃ v, atI xs z = some v := by
  have h2 : z.toNat < xs.length := by omega
  exact ⟨_, at_g (show z = ((z.toNat : Nat) : Int) by omega) (List.getElem?_eq_getElem h2)⟩
theorem atI_mem {α : Type} {xs : List α} {z : Int} {v : α} (h : atI xs z = some v) : v ∈ xs := by
  unfold atI at h
  cases e : ixN xs.length z with
  | none =>
    rw [e] at h
    cases h
  | some j =>
    rw [e] at h
    exact List.mem_of_getElem? h
theorem cutS_mem {z : Str} {lo hi : Option Int} {c : Nat} (h : c ∈ (cutS z lo hi).cps.toList) : c ∈ z.cps.toList := by
  unfold cutS at h
  exact List.mem_of_mem_drop (List.mem_of_mem_take h)
theorem letter_at : ∀ j : Nat, j < 26 → ("abcdefghijklmnopqrstuvwxyz" : Str).cps.toList[j]? = some (97 + j) := by decide +kernel
section
variable {P : Program} {w : World} {K : PySem.W.Frag} {mg : Str → Option Value} {base : Heap} {a : Nat → Addr} {d : Nat → FuncData}
/-! ### _law_mixed: some int -/
def spMixed : Sp := fun vs H Q _ => ∃ (s c : Int), vs = [.int s, .int c] ∧ ∀ r : Int, Q (.int r) H
theorem ok_mixed (T : Txt K mg a d) : FnOk P w K mg base CX0 1 (a 28) (d 28) ["_law_seed", "_law_count"] spMixed := by
  refine T.F28.ok sc__law_mixed (fun vs H Q E h => ?_) (fun cdv A outer s H vs Q E hr h => ?_)
  · obtain ⟨s, c, rfl, _⟩ := h
    rfl
  · obtain ⟨s, c, rfl, q⟩ := h
    refine ⟨_, (pss_cons (ps_set (i := 2) sc__law_mixed.nd rfl (.inl rfl) (pe_op op_mod (pe_callTy (T := "int")  call_int1 (by rfl) T.z_int (by decide +kernel) (pa_cons (pe_op op_mul (pe_op op_add (pe_op op_add (pv 0) (pe_op op_mul pe_int (pv 1))) pe_int) pe_int) pa_nil)) pe_int))
  (pss_cons (ps_set (i := 2) sc__law_mixed.nd rfl (.inl rfl) (pe_op op_mod (pe_callTy (T := "int")  call_int1 (by rfl) T.z_int (by decide +kernel) (pa_cons (pe_op op_mul (pv 2) (pe_op op_add (pe_op op_fdivW (pv 2) pe_int) pe_int)) pa_nil)) pe_int))
  (pss_one (ps_ret (pe_op op_mod (pe_callTy (T := "int")  call_int1 (by rfl) T.z_int (by decide +kernel) (pa_cons (pe_op op_mul (pv 2) (pe_op op_add (pe_op op_fdivW (pv 2) pe_int) pe_int)) pa_nil)) pe_int))))), ?_⟩
    walk_at "gg"
    exact q _
/-! ### _law_draw: an int from 0 below many -/
def spDraw : Sp := fun vs H Q _ => ∃ (p : Addr) (m : Int), vs = [.ref p, .int m] ∧ PoolAt H p ∧ 0 < m ∧ m.natAbs < 2 ^ 200 ∧ ∀ (r : Int) (H' : Hp), 0 ≤ r → r < m → Chg p H H' → Q (.int r) H'
def Oth (a : Addr) (H H' : Hp) : Prop := ∀ b o, b ≠ a → H b = some o → H' b = some o
theorem Oth.refl (a : Addr) (H : Hp) : Oth a H H := fun _ _ _ e => e
theorem Oth.upd {a : Addr} {H H' : Hp} {o : HO} (x : Oth a H H') : Oth a H (upd H' a o) := fun b u n e => by
  rw [upd_ne n]
  exact x b u n e
theorem chg_of {p : Addr} {H H' : Hp} {p0 p1 p2 p3 : Int} {r : List Int} (e : H' p = some (.lst (.int p0 :: .int p1 :: .int p2 :: .int p3 :: r.map V.int))) (o : Oth p H H')
    (h0 : 0 ≤ p0) (h1 : 0 ≤ p1) (h2 : 0 ≤ p2) (h3 : p2 < 2147483647) (h4 : 0 ≤ p3) (h5 : r.length ≤ 63) : Chg p H H' := ⟨⟨p0, p1, p2, p3, r, e, h0, h1, h2, h3, h4, h5⟩, o⟩
theorem ok_draw (T : Txt K mg a d) : FnOk P w K mg base CX0 2 (a 29) (d 29) ["_law_pool_here", "_law_many"] spDraw := by
  have G28 : FnOk P w K mg base CX0 1 (a 28) (d 28) ["_law_seed", "_law_count"] spMixed := ok_mixed T
  refine T.F29.ok sc__law_draw (fun vs H Q E h => ?_) (fun cdv A outer s H vs Q E hr h => ?_)
  · obtain ⟨p, m, rfl, _⟩ := h
    rfl
  · obtain ⟨p, m, rfl, ⟨p0, p1, p2, p3, r, e, c0, c1, c2, c3, c4, c5⟩, hm, hm2, q⟩ := h
    refine ⟨_, (pss_cons (ps_asg (pe_op op_add (pe_ix ix_list (pv 0) pe_int (fun _ _ => rfl)) pe_int) (pg_sub (pv 0) pe_int set_list))
  (Evl.pss_cut (ps_if (PW.pt (pw_and (pt_cmpR op_eq (pe_ix ix_list (pv 0) pe_int (fun _ _ => rfl)) pe_int (nomark _)) (pw_and1 (pt_cmpR op_lt (pe_ix ix_list (pv 0) pe_int (fun _ _ => rfl)) (pe_callB (id := "len")  call_len_seq (by rfl) T.z_len (by decide +kernel) (pa_cons (pv 0) pa_nil)) (nomark _)))))
    (pss_cons (ps_set (i := 2) sc__law_draw.nd rfl (.inl rfl) (pe_callB (id := "abs")  call_abs (by rfl) T.z_abs (by decide +kernel) (pa_cons (pe_ix ix_list (pv 0) (pe_ix ix_list (pv 0) pe_int (fun _ _ => rfl)) (fun _ _ => rfl)) pa_nil)))
      (pss_cons (ps_asg (pe_op op_add (pe_ix ix_list (pv 0) pe_int (fun _ _ => rfl)) pe_int) (pg_sub (pv 0) pe_int set_list))
      (pss_one (ps_if (pt_cmpR op_lt (pv 2) (pe_op op_pow pe_int pe_int) (nomark _))
        (pss_one (ps_asg (pe_op op_mod (pe_callTy (T := "int")  call_int1 (by rfl) T.z_int (by decide +kernel) (pa_cons (pe_op op_add (pe_op op_add (pe_op op_mul (pe_ix ix_list (pv 0) pe_int (fun _ _ => rfl)) pe_int) (pv 2)) pe_int) pa_nil)) pe_int) (pg_sub (pv 0) pe_int set_list)))
        (pss_one (ps_asg (pv 2) (pg_sub (pv 0) pe_int set_list)))))))
    pss_nil)
  (pss_cons (ps_if (pt_cmpR op_gt (pe_ix ix_list (pv 0) pe_int (fun _ _ => rfl)) pe_int (nomark _))
    (pss_cons (ps_set (i := 3) sc__law_draw.nd rfl (.inl rfl) (pe_op op_mod (pe_callTy (T := "int")  call_int1 (by rfl) T.z_int (by decide +kernel) (pa_cons (pe_ix ix_list (pv 0) pe_int (fun _ _ => rfl)) pa_nil)) (pv 1)))
      (pss_cons (ps_asg (pe_op op_fdivW (pe_ix ix_list (pv 0) pe_int (fun _ _ => rfl)) (pv 1)) (pg_sub (pv 0) pe_int set_list))
      (pss_one (ps_ret (pv 3)))))
    pss_nil)
  (pss_one (ps_ret (pe_op op_mod (pe_callTy (T := "int")  call_int1 (by rfl) T.z_int (by decide +kernel) (pa_cons (pe_call G28 (hr.mono (by decide)) (by rfl) T.g28 T.F28.kp T.b28 .nil pass0 (pa_cons (pe_ix ix_list (pv 0) pe_int (fun _ _ => rfl)) (pa_cons (pe_ix ix_list (pv 0) pe_int (fun _ _ => rfl)) pa_nil))) pa_nil)) (pv 1))))))), ?_⟩
    -- pool[3] = pool[3] + 1
    refine ⟨_, rfl, _, _, _, _, rfl, rfl, .of e, atI_nat (j := 3) rfl, _, _, rfl, rfl, _, rfl, _, _, _, 3, rfl, rfl, e, ixN_at (j := 3) (by simp only [List.length_cons]; omega), ?_⟩
    generalize hH : upd H p (HO.lst (List.set _ _ _)) = H1
    have e1 : H1 p = some (.lst (.int p0 :: .int p1 :: .int p2 :: .int (p3 + 1) :: r.map V.int)) := by
      rw [← hH]
      exact upd_same
    have o1 : Oth p H H1 := by
      rw [← hH]
      exact (Oth.refl p H).upd
    -- if pool[0] == 0 and pool[1] < len(pool): ..
    refine ⟨fun σ H2 => ∃ (q0 q1 q2 : Int) (y : Option V), σ = [some (.ref p), some (.int m), y, none] ∧ H2 p = some (.lst (.int q0 :: .int q1 :: .int q2 :: .int (p3 + 1) :: r.map V.int)) ∧ Oth p H H2 ∧ 0 ≤ q0 ∧ 0 ≤ q1 ∧ 0 ≤ q2 ∧ q2 < 2147483647, ?_, ?_⟩
    · refine ⟨_, rfl, _, _, _, _, rfl, rfl, .of e1, atI_nat (j := 0) rfl, rfl, _, rfl, ite_eqI (fun h0 => ?_) (fun h0 => iteF ⟨p0, p1, p2, none, rfl, e1, o1, c0, c1, c2, c3⟩)⟩
      refine ⟨_, rfl, _, _, _, _, rfl, rfl, .of e1, atI_nat (j := 1) rfl, _, rfl, _, _, rfl, .inl (.of e1), _, _, rfl, rfl, _, rfl, ite_d (fun h1 => ?_) (fun h1 => ⟨p0, p1, p2, none, rfl, e1, o1, c0, c1, c2, c3⟩)⟩
      -- cell = abs(pool[pool[1]]); pool[1] = pool[1] + 1
      obtain ⟨c, hc⟩ := int_at (q0 := p0) (q1 := p1) (q2 := p2) (q3 := p3 + 1) (r := r) (i := p1.toNat) (by omega)
      refine ⟨_, rfl, _, rfl, _, _, _, _, rfl, rfl, .of e1, atI_nat (j := 1) rfl, _, _, _, _, rfl, rfl, .of e1, at_of (j := p1.toNat) (by omega) hc, _, rfl, ?_⟩
      refine ⟨_, rfl, _, _, _, _, rfl, rfl, .of e1, atI_nat (j := 1) rfl, _, _, rfl, rfl, _, rfl, _, _, _, 1, rfl, rfl, e1, ixN_at (j := 1) (by simp only [List.length_cons]; omega), ?_⟩
      generalize hH2 : upd H1 p (HO.lst (List.set _ _ _)) = H2
      have e2 : H2 p = some (.lst (.int p0 :: .int (p1 + 1) :: .int p2 :: .int (p3 + 1) :: r.map V.int)) := by
        rw [← hH2]
        exact upd_same
      have o2 : Oth p H H2 := by
        rw [← hH2]
        exact o1.upd
      refine ⟨_, rfl, _, _, rfl, rfl, ⟨by decide, by decide, by decide⟩, _, _, rfl, rfl, _, rfl, ite_d (fun h2 => ?_) (fun h2 => ?_)⟩
      · refine ⟨_, rfl, _, _, _, _, rfl, rfl, .of e2, atI_nat (j := 2) rfl, _, _, rfl, rfl, .inr ⟨by decide, by decide⟩, _, rfl, _, _, rfl, rfl, _, _, rfl, rfl, .inl ⟨_, rfl, _, _, rfl, rfl, (by show (0 : Int) < _; decide), _, rfl, _, _, _, 2, rfl, rfl, e2, ixN_at (j := 2) (by simp only [List.length_cons]; omega), ?_⟩⟩
        exact ⟨p0, p1 + 1, _, _, rfl, upd_same, o2.upd, c0, by omega, Int.emod_nonneg _ (by decide), Int.emod_lt_of_pos _ (by decide)⟩
      · refine ⟨_, rfl, _, rfl, _, _, _, 0, rfl, rfl, e2, ixN_at (j := 0) (by simp only [List.length_cons]; omega), ?_⟩
        exact ⟨_, p1 + 1, p2, _, rfl, upd_same, o2.upd, by split <;> omega, by omega, c2, c3⟩
    · rintro σ H2 ⟨q0, q1, q2, y, rfl, e2, o2, d0, d1, d2, d3⟩
      refine ⟨_, rfl, _, _, _, _, rfl, rfl, .of e2, atI_nat (j := 0) rfl, _, _, rfl, rfl, _, rfl, ite_d (fun h0 => ?_) (fun h0 => ?_)⟩
      · refine ⟨_, rfl, _, _, _, _, rfl, rfl, .of e2, atI_nat (j := 0) rfl, .inl ⟨_, rfl, _, rfl, _, _, rfl, rfl, hm, ?_⟩⟩
        refine ⟨_, rfl, _, _, _, _, rfl, rfl, .of e2, atI_nat (j := 0) rfl, _, rfl, _, _, rfl, rfl, wide_div hm hm2 (by decide) (by decide), _, rfl, _, _, _, 0, rfl, rfl, e2, ixN_at (j := 0) (by simp only [List.length_cons]; omega), ?_⟩
        exact ⟨_, rfl, q _ _ (Int.emod_nonneg _ (by omega)) (Int.emod_lt_of_pos _ hm) (chg_of upd_same o2.upd (Int.ediv_nonneg d0 (by omega)) d1 d2 d3 (by omega) c5)⟩
      · refine ⟨_, rfl, _, _, _, _, rfl, rfl, .of e2, atI_nat (j := 2) rfl, _, rfl, _, _, _, _, rfl, rfl, .of e2, atI_nat (j := 3) rfl, _, _, rfl, fun x => .inl ⟨_, rfl, _, rfl, _, _, rfl, rfl, hm, ?_⟩⟩
        exact q _ _ (Int.emod_nonneg _ (by omega)) (Int.emod_lt_of_pos _ hm) (chg_of e2 o2 d0 d1 d2 d3 (by omega) c5)
/-! ### _law_pool: a pool made of the script -/
def spPool (K : PySem.W.Frag) : Sp := fun vs H Q _ => ∃ (p : Addr) (ns : List Int), vs = [.ref p] ∧ SqL K H p (ns.map V.int) ∧ ns.length ≤ 63 ∧ ∀ q H', H q = none → PoolAt H' q → Same H H' → Q (.ref q) H'
theorem ok_pool (T : Txt K mg a d) : FnOk P w K mg base CX0 1 (a 27) (d 27) ["_law_script"] (spPool K) := by
  refine T.F27.ok sc__law_pool (fun vs H Q E h => ?_) (fun cdv A outer s H vs Q E hr h => ?_)
  · obtain ⟨p, ns, rfl, _⟩ := h
    rfl
  · obtain ⟨p, ns, rfl, hS, hl, q⟩ := h
    refine ⟨_, (pss_one (ps_ret (pe_op op_cat (pe_lst (pa_cons pe_int (pa_cons pe_int (pa_cons pe_int (pa_cons pe_int pa_nil))))) (pe_lc (own := [("_law_cell", 1)]) rfl sc__law_pool.nd (pi_list (pv 0)) (blkOk_by (N := ["_law_script", "_law_cell"]) (sc := defScope s__law_pool) (by decide +kernel)) (fun _ _ _ _ _ => pg_name (i := 1) sc__law_pool.nd rfl (.inl rfl)) (fun _ _ _ _ _ => pts_nil) (fun _ _ _ _ _ => (pe_callTy (T := "int")  call_int1 (by rfl) T.z_int (by decide +kernel) (pa_cons (pv 1) pa_nil))))))), ?_⟩
    refine ⟨by show 4 ≤ sizeLine; decide, fun l nl => ?_⟩
    have s1 : Same H (upd H l (.lst [.int 0, .int 4, .int 5, .int 0])) := same_upd nl
    refine ⟨_, rfl, p, rfl, ⟨_, s1.seq hS⟩, fun D hD => ?_⟩
    refine lc_list (K := K) (a := p) (xs := ns.map V.int) (fun i H' => H' D = some (.lst ((ns.take i).map V.int)) ∧ Same (upd H l (.lst [.int 0, .int 4, .int 5, .int 0])) H') ⟨upd_same, same_upd hD⟩ (fun i H' _ hp => (s1.trans hp.2).seq hS) (fun i x H' hx hp => ?_) (fun H' hp => ?_)
    · obtain ⟨z, hz, rfl⟩ := map_at hx
      have hi : i < ns.length := (List.getElem?_eq_some_iff.mp hz).1
      refine ⟨rfl, ?_⟩
      refine ⟨_, rfl, .inl ⟨_, rfl, _, hp.1, ?_, ?_, ?_⟩⟩
      · rw [List.length_map, List.length_take]
        exact small1000 (by omega)
      · rw [map_take hz]
        exact upd_same
      · exact fun b o e => by
          rw [upd_ne (ne_of_none e hD)]
          exact hp.2 b o e
    · obtain ⟨h1, h2⟩ := hp
      rw [List.length_map, List.take_length] at h1
      refine ⟨l, D, _, _, rfl, rfl, h2 _ _ upd_same, h1, ?_, fun r hr => ?_⟩
      · show 4 + (ns.map V.int).length ≤ sizeLine
        rw [List.length_map]
        exact Nat.le_trans (by omega : 4 + ns.length ≤ 67) (by decide)
      · exact q r _ (s1.free (h2.free hr)) ⟨0, 4, 5, 0, ns, upd_same, by decide, by decide, by decide, by decide, by decide, hl⟩ ((s1.trans h2).trans (same_upd hr))
/-! ### _law_word: a word of so many letters -/
def IsWd (s : Str) (m : Nat) : Prop := s.length = m ∧ ∀ c ∈ s.cps.toList, 97 ≤ c ∧ c ≤ 122
def spWord : Sp := fun vs H Q _ => ∃ (p : Addr) (m : Nat), vs = [.ref p, .int (m : Int)] ∧ PoolAt H p ∧ m ≤ 100 ∧ ∀ (s : Str) (H' : Hp), IsWd s m → Chg p H H' → Q (.str s) H'
theorem ok_word (T : Txt K mg a d) : FnOk P w K mg base CX0 3 (a 30) (d 30) ["_law_pool_here", "_law_many"] spWord := by
  have G29 : FnOk P w K mg base CX0 2 (a 29) (d 29) ["_law_pool_here", "_law_many"] spDraw := ok_draw T
  refine T.F30.ok sc__law_word (fun vs H Q E h => ?_) (fun cdv A outer s H vs Q E hr h => ?_)
  · obtain ⟨p, m, rfl, _⟩ := h
    rfl
  · obtain ⟨p, m, rfl, hP, hm, q⟩ := h
    refine ⟨_, (pss_cons (ps_set (i := 2) sc__law_word.nd rfl (.inl rfl) pe_str)
  (pss_cons (ps_set (i := 3) sc__law_word.nd rfl (.inl rfl) pe_str)
  (pss_cons (ps_for PassesOwn.never rfl (pi_range1 (by rfl) T.z_range (pa_cons (pv 1) pa_nil)) (pg_name (i := 4) sc__law_word.nd rfl (.inl rfl))
    (pss_one (ps_set (i := 3) sc__law_word.nd rfl (.inl rfl) (pe_op op_add_str (pv 3) (pe_ix ix_str (pv 2) (pe_call G29 (hr.mono (by decide)) (by rfl) T.g29 T.F29.kp T.b29 .nil pass0 (pa_cons (pv 0) (pa_cons pe_int pa_nil))) (fun _ _ => rfl))))))
  (pss_one (ps_ret (pv 3)))))), ?_⟩
    refine ⟨_, rfl, _, rfl, by omega, by omega, ?_⟩
    refine for_range (lo := 0) (n := (m : Int).toNat) (fun i σ H' => ∃ (s : Str) (y : Option V), σ = [some (.ref p), some (.int m), some (.str "abcdefghijklmnopqrstuvwxyz"), some (.str s), y] ∧ IsWd s i ∧ Chg p H H') ⟨"", none, rfl, ⟨rfl, fun c hc => by cases hc⟩, Chg.refl hP⟩ (fun i σ H' hi hp => ?_) (fun σ H' hp => ?_)
    · obtain ⟨s, y, rfl, hs, hc⟩ := hp
      refine ⟨_, rfl, _, rfl, _, rfl, p, 26, rfl, hc.1, by decide, by decide, fun r H'' h0 h1 hC => ?_⟩
      refine ⟨_, r, 97 + r.toNat, rfl, rfl, by decide +kernel, at_g (show r = ((r.toNat : Nat) : Int) by omega) (letter_at r.toNat (by omega)), _, _, rfl, rfl, ?_, ?_⟩
      · show s.length + 1 ≤ sizeLine
        rw [hs.1]
        exact small1000 (by omega)
      · refine ⟨_, _, rfl, ⟨?_, fun c hcc => ?_⟩, hc.trans hC⟩
        · show (s.cps ++ #[97 + r.toNat]).size = i + 1
          rw [Array.size_append]
          have := hs.1
          show s.cps.size + 1 = i + 1
          exact congrArg (· + 1) this
        · have e : (s ++ (⟨#[97 + r.toNat]⟩ : Str)).cps.toList = s.cps.toList ++ [97 + r.toNat] := by
            show (s.cps ++ #[97 + r.toNat]).toList = _
            rw [Array.toList_append]
          rw [e] at hcc
          rcases List.mem_append.mp hcc with h | h
          · exact hs.2 c h
          · have := List.mem_singleton.mp h
            omega
    · obtain ⟨s, y, rfl, hs, hc⟩ := hp
      exact ⟨_, rfl, q s H' (by rw [Int.toNat_natCast] at hs; exact hs) hc⟩
end
local macro_rules | `(tactic| walk_at "kp") => `(tactic| solve_by_elim (maxDepth := 30) [Same.on, upd_same, upd_old, upd_oldN])
/-! ### words, names -/
def Wd (s : Str) : Prop := 1 ≤ s.length ∧ s.length ≤ 8 ∧ ∀ c ∈ s.cps.toList, 97 ≤ c ∧ c ≤ 122
def sgn (c : Nat) : Str := ⟨#[c]⟩
theorem cps_app (s t : Str) : (s ++ t).cps.toList = s.cps.toList ++ t.cps.toList := by
  show (s.cps ++ t.cps).toList = _
  rw [Array.toList_append]
theorem len_cps (s : Str) : s.length = s.cps.toList.length := by
  show s.cps.size = _
  rw [Array.length_toList]
theorem len_app (s t : Str) : (s ++ t).length = s.length + t.length := by
  rw [len_cps, cps_app, List.length_append, ← len_cps, ← len_cps]
def nmOf (fr : Bool) (stem : Str) (c : Nat) : Str := if fr = true then sgn c ++ stem else stem ++ sgn c
theorem nmOf_inj {fr : Bool} {stem : Str} {c e : Nat} (h : nmOf fr stem c = nmOf fr stem e) : c = e := by
  have h' := congrArg (fun s : Str => s.cps.toList) h
  cases fr with
  | true =>
    have h2 : (sgn c ++ stem).cps.toList = (sgn e ++ stem).cps.toList := h'
    rw [cps_app, cps_app] at h2
    exact (List.cons.inj h2).1
  | false =>
    have h2 : (stem ++ sgn c).cps.toList = (stem ++ sgn e).cps.toList := h'
    rw [cps_app, cps_app] at h2
    exact (List.cons.inj (List.append_cancel_left h2)).1
theorem nmOf_wd {fr : Bool} {stem : Str} {n c : Nat} (h : IsWd stem n) (hn : n ≤ 7) (h1 : 97 ≤ c) (h2 : c ≤ 122) : Wd (nmOf fr stem c) := by
  have l1 : (sgn c).length = 1 := rfl
  have hl := h.1
  have hs : ∀ x ∈ (sgn c).cps.toList, 97 ≤ x ∧ x ≤ 122 := fun x hx => by
    rw [List.mem_singleton.mp hx]
    exact ⟨h1, h2⟩
  cases fr with
  | true =>
    refine ⟨?_, ?_, fun x hx => ?_⟩
    · show 1 ≤ (sgn c ++ stem).length
      rw [len_app]
      omega
    · show (sgn c ++ stem).length ≤ 8
      rw [len_app]
      omega
    · have hx' : x ∈ (sgn c ++ stem).cps.toList := hx
      rw [cps_app] at hx'
      exact (List.mem_append.mp hx').elim (hs x) (h.2 x)
  | false =>
    refine ⟨?_, ?_, fun x hx => ?_⟩
    · show 1 ≤ (stem ++ sgn c).length
      rw [len_app]
      omega
    · show (stem ++ sgn c).length ≤ 8
      rw [len_app]
      omega
    · have hx' : x ∈ (stem ++ sgn c).cps.toList := hx
      rw [cps_app] at hx'
      exact (List.mem_append.mp hx').elim (h.2 x) (hs x)
/-- names of m things: words, no two alike -/
structure Nms (ns : List Str) (m : Nat) : Prop where
  len : ns.length = m
  nd : ns.Nodup
  wd : ∀ s ∈ ns, Wd s
def signAt (f s : Int) (k : Nat) : Nat := 97 + ((f + s * (k : Int)) % 26).toNat
theorem signAt_le (f s : Int) (k : Nat) : 97 ≤ signAt f s k ∧ signAt f s k ≤ 122 := by
  unfold signAt
  have h1 := Int.emod_nonneg (f + s * (k : Int)) (by decide : (26 : Int) ≠ 0)
  have h2 := Int.emod_lt_of_pos (f + s * (k : Int)) (by decide : (0 : Int) < 26)
  omega
theorem signAt_inj {f s : Int} (hs : s ∈ ([1, 3, 5, 7, 9, 11] : List Int)) {i j : Nat} (hi : i < 26) (hj : j < 26) (h : signAt f s i = signAt f s j) : i = j := by
  unfold signAt at h
  have h1 := Int.emod_nonneg (f + s * (i : Int)) (by decide : (26 : Int) ≠ 0)
  have h2 := Int.emod_nonneg (f + s * (j : Int)) (by decide : (26 : Int) ≠ 0)
  have e : (f + s * (i : Int)) % 26 = (f + s * (j : Int)) % 26 := by omega
  simp only [List.mem_cons, List.not_mem_nil, or_false] at hs
  rcases hs with rfl | rfl | rfl | rfl | rfl | rfl <;> omega
def namesOf (fr : Bool) (stem : Str) (f s : Int) (m : Nat) : List Str := (List.range m).map fun k => nmOf fr stem (signAt f s k)
theorem namesOf_succ (fr : Bool) (stem : Str) (f s : Int) (m : Nat) : namesOf fr stem f s (m + 1) = namesOf fr stem f s m ++ [nmOf fr stem (signAt f s m)] := by
  unfold namesOf
  rw [List.range_succ, List.map_append]
  rfl
theorem nodup_map {α β : Type} {f : α → β} : ∀ {xs : List α}, xs.Nodup → (∀ x ∈ xs, ∀ y ∈ xs, f x = f y → x = y) → (xs.map f).Nodup
  | [], _, _ => List.nodup_nil
  | x :: xs, hd, hi => by
    have hd' := List.nodup_cons.mp hd
    rw [List.map_cons]
    refine List.nodup_cons.mpr ⟨fun hm => ?_, nodup_map hd'.2 fun y hy z hz => hi y (List.mem_cons_of_mem _ hy) z (List.mem_cons_of_mem _ hz)⟩
    obtain ⟨y, hy, e⟩ := List.mem_map.mp hm
    have := hi y (List.mem_cons_of_mem _ hy) x (List.mem_cons_self ..) e
    rw [this] at hy
    exact hd'.1 hy
theorem namesOf_ok {fr : Bool} {stem : Str} {n : Nat} {f s : Int} {m : Nat} (h : IsWd stem n) (hn : n ≤ 7) (hs : s ∈ ([1, 3, 5, 7, 9, 11] : List Int)) (hm : m ≤ 26) : Nms (namesOf fr stem f s m) m := by
  refine ⟨by unfold namesOf; rw [List.length_map, List.length_range], nodup_map List.nodup_range fun x hx y hy e => ?_, fun z hz => ?_⟩
  · exact signAt_inj hs (Nat.lt_of_lt_of_le (List.mem_range.mp hx) hm) (Nat.lt_of_lt_of_le (List.mem_range.mp hy) hm) (nmOf_inj e)
  · obtain ⟨k, hk, rfl⟩ := List.mem_map.mp hz
    exact nmOf_wd h hn (signAt_le f s k).1 (signAt_le f s k).2
section
variable {P : Program} {w : World} {K : PySem.W.Frag} {mg : Str → Option Value} {base : Heap} {a : Nat → Addr} {d : Nat → FuncData}
/-! ### _law_names -/
def spNames : Sp := fun vs H Q _ => ∃ (p : Addr) (m : Nat), vs = [.ref p, .int (m : Int)] ∧ PoolAt H p ∧ m ≤ 26 ∧
  ∀ (l : Addr) (ns : List Str) (H' : Hp), H l = none → H' l = some (.lst (ns.map V.str)) → Nms ns m → Chg p H H' → Q (.ref l) H'
theorem ok_names (T : Txt K mg a d) : FnOk P w K mg base CX0 4 (a 31) (d 31) ["_law_pool_here", "_law_many"] spNames := by
  have G29 : FnOk P w K mg base CX0 2 (a 29) (d 29) ["_law_pool_here", "_law_many"] spDraw := ok_draw T
  have G30 : FnOk P w K mg base CX0 3 (a 30) (d 30) ["_law_pool_here", "_law_many"] spWord := ok_word T
  refine T.F31.ok sc__law_names (fun vs H Q E h => ?_) (fun cdv A outer s H vs Q E hr h => ?_)
  · obtain ⟨p, m, rfl, _⟩ := h
    rfl
  · obtain ⟨p, m, rfl, hP, hm, q⟩ := h
    refine ⟨_, (pss_cons (ps_set (i := 2) sc__law_names.nd rfl (.inl rfl) pe_str)
  (pss_cons (ps_set (i := 3) sc__law_names.nd rfl (.inl rfl) (pe_call G30 (hr.mono (by decide)) (by rfl) T.g30 T.F30.kp T.b30 .nil pass0 (pa_cons (pv 0) (pa_cons (pe_call G29 (hr.mono (by decide)) (by rfl) T.g29 T.F29.kp T.b29 .nil pass0 (pa_cons (pv 0) (pa_cons pe_int pa_nil))) pa_nil))))
  (pss_cons (ps_set (i := 4) sc__law_names.nd rfl (.inl rfl) (pe_call G29 (hr.mono (by decide)) (by rfl) T.g29 T.F29.kp T.b29 .nil pass0 (pa_cons (pv 0) (pa_cons pe_int pa_nil))))
  (pss_cons (ps_set (i := 5) sc__law_names.nd rfl (.inl rfl) (pe_ix ix_list (pe_lst (pa_cons pe_int (pa_cons pe_int (pa_cons pe_int (pa_cons pe_int (pa_cons pe_int (pa_cons pe_int pa_nil))))))) (pe_call G29 (hr.mono (by decide)) (by rfl) T.g29 T.F29.kp T.b29 .nil pass0 (pa_cons (pv 0) (pa_cons pe_int pa_nil))) (fun _ _ => rfl)))
  (pss_cons (ps_set (i := 6) sc__law_names.nd rfl (.inl rfl) (pe_call G29 (hr.mono (by decide)) (by rfl) T.g29 T.F29.kp T.b29 .nil pass0 (pa_cons (pv 0) (pa_cons pe_int pa_nil))))
  (pss_cons (ps_set (i := 7) sc__law_names.nd rfl (.inl rfl) (pe_lst pa_nil))
  (pss_cons (ps_for PassesOwn.never rfl (pi_range1 (by rfl) T.z_range (pa_cons (pv 1) pa_nil)) (pg_name (i := 8) sc__law_names.nd rfl (.inl rfl))
    (pss_cons (ps_set (i := 9) sc__law_names.nd rfl (.inl rfl) (pe_ix ix_str (pv 2) (pe_op op_mod (pe_callTy (T := "int")  call_int1 (by rfl) T.z_int (by decide +kernel) (pa_cons (pe_op op_add (pv 4) (pe_op op_mul (pv 5) (pv 8))) pa_nil)) pe_int) (fun _ _ => rfl)))
      (pss_one (ps_if (pt_cmpR op_eq (pv 6) pe_int (nomark _))
        (pss_one (ps_expr (pe_bm PySem.F.plainAttrs_list PySem.F.slot_list_append PySem.F.type_list_append mt_append (pv 7) (pa_cons (pe_op op_add_str (pv 9) (pv 3)) pa_nil))))
        (pss_one (ps_expr (pe_bm PySem.F.plainAttrs_list PySem.F.slot_list_append PySem.F.type_list_append mt_append (pv 7) (pa_cons (pe_op op_add_str (pv 3) (pv 9)) pa_nil))))))))
  (pss_one (ps_ret (pv 7)))))))))), ?_⟩
    -- the stem
    refine ⟨_, rfl, _, rfl, p, 8, rfl, hP, by decide, by decide, fun n H1 a0 a1 C1 => ?_⟩
    refine ⟨p, n.toNat, (by rw [Int.toNat_of_nonneg a0]; rfl), C1.1, by omega, fun stem H2 hst C2 => ?_⟩
    have C02 := C1.trans C2
    -- first, step, front
    refine ⟨_, rfl, p, 26, rfl, C2.1, by decide, by decide, fun f H3 f0 f1 C3 => ?_⟩
    have C03 := C02.trans C3
    refine ⟨by show 6 ≤ sizeLine; decide, fun l1 nl1 => ?_⟩
    have C04 : Chg p H (upd H3 l1 (.lst [.int 1, .int 3, .int 5, .int 7, .int 9, .int 11])) := C03.new nl1
    have n1 : l1 ≠ p := Chg.ne C3.1 nl1
    refine ⟨_, rfl, p, 6, rfl, C04.1, by decide, by decide, fun x H5 x0 x1 C5 => ?_⟩
    have C05 := C04.trans C5
    obtain ⟨v, hv⟩ := at_some (xs := ([.int 1, .int 3, .int 5, .int 7, .int 9, .int 11] : List V)) x0 x1
    obtain ⟨st, hst2, rfl⟩ : ∃ s : Int, s ∈ ([1, 3, 5, 7, 9, 11] : List Int) ∧ V.int s = v := List.mem_map.mp (show v ∈ ([1, 3, 5, 7, 9, 11] : List Int).map V.int from atI_mem hv)
    have hsb : 0 ≤ st ∧ st ≤ 11 := by
      simp only [List.mem_cons, List.not_mem_nil, or_false] at hst2
      omega
    refine ⟨_, _, _, _, rfl, rfl, .of (C5.2 l1 _ n1 upd_same), hv, ?_⟩
    refine ⟨_, rfl, p, 2, rfl, C5.1, by decide, by decide, fun fr H6 r0 r1 C6 => ?_⟩
    have C06 := C05.trans C6
    -- found
    refine ⟨Nat.zero_le _, fun l nl => ?_⟩
    have nlp : l ≠ p := Chg.ne C6.1 nl
    have l0 : H l = none := free_of C06 hP nl
    refine ⟨_, rfl, _, rfl, by omega, by omega, ?_⟩
    refine for_range (lo := 0) (n := (m : Int).toNat) (fun i σ H' => ∃ y8 y9, σ = [some (.ref p), some (.int m), some (.str "abcdefghijklmnopqrstuvwxyz"), some (.str stem), some (.int f), some (.int st), some (.int fr), some (.ref l), y8, y9] ∧ H' l = some (.lst ((namesOf (decide (fr = 1)) stem f st i).map V.str)) ∧ Chg p H H') ⟨none, none, rfl, upd_same, C06.new nl⟩ (fun i σ H' hi hp => ?_) (fun σ H' hp => ?_)
    · obtain ⟨y8, y9, rfl, hl, hc⟩ := hp
      have hin : i < m := by omega
      have hs1 := signAt_le f st i
      have hlen : ((namesOf (decide (fr = 1)) stem f st i).map V.str).length < sizeLine := by
        rw [List.length_map]
        unfold namesOf
        rw [List.length_map, List.length_range]
        exact Nat.lt_of_le_of_lt (by omega : i ≤ 26) (by decide)
      have b1 := Int.emod_nonneg (f + st * (i : Int)) (by decide : (26 : Int) ≠ 0)
      have b2 := Int.emod_lt_of_pos (f + st * (i : Int)) (by decide : (0 : Int) < 26)
      refine ⟨_, rfl, _, rfl, _, rfl, _, rfl, _, _, rfl, rfl, .inl ⟨by omega, by omega⟩, _, _, rfl, rfl, .inl ⟨_, rfl, _, _, rfl, rfl, (by show (0 : Int) < 26; decide), ?_⟩⟩
      refine ⟨_, _, signAt f st i, rfl, rfl, by decide +kernel, at_g (j := ((f + st * (i : Int)) % 26).toNat) (by rw [Int.zero_add]; omega) (letter_at _ (by omega)), ?_⟩
      refine ⟨_, rfl, rfl, _, rfl, ite_eqI (fun h => ?_) (fun h => ?_)⟩
      · refine ⟨_, rfl, .inl ⟨rfl, _, .of hl⟩, _, rfl, _, rfl, _, _, rfl, rfl, ?_, l, _, _, rfl, rfl, hl, hlen, _, _, rfl, ?_, hc.mut l0 nlp⟩
        · show 1 + stem.length ≤ sizeLine
          rw [hst.1]
          exact small1000' (by omega)
        · rw [namesOf_succ, List.map_append, decide_eq_true h]
          exact upd_same
      · refine ⟨_, rfl, .inl ⟨rfl, _, .of hl⟩, _, rfl, _, rfl, _, _, rfl, rfl, ?_, l, _, _, rfl, rfl, hl, hlen, _, _, rfl, ?_, hc.mut l0 nlp⟩
        · show stem.length + 1 ≤ sizeLine
          rw [hst.1]
          exact small1000' (by omega)
        · rw [namesOf_succ, List.map_append, decide_eq_false h]
          exact upd_same
    · obtain ⟨y8, y9, rfl, hl, hc⟩ := hp
      rw [Int.toNat_natCast] at hl
      exact ⟨_, rfl, q l _ H' l0 hl (namesOf_ok hst (by omega) hst2 hm) hc⟩
/-! ### _law_columns -/
def Cols (cs : List Int) (w : Int) : Prop := cs.Pairwise (· < ·) ∧ ∀ c ∈ cs, 0 ≤ c ∧ c < w
theorem Cols.take {cs : List Int} {w : Int} (h : Cols cs w) (n : Nat) : Cols (cs.take n) w := ⟨h.1.sublist (List.take_sublist n cs), fun c hc => h.2 c (List.mem_of_mem_take hc)⟩
theorem Cols.snoc {cs : List Int} {i : Nat} (h : Cols cs (i : Int)) : Cols (cs ++ [(i : Int)]) ((i + 1 : Nat) : Int) := by
  refine ⟨List.pairwise_append.mpr ⟨h.1, List.pairwise_singleton _ _, fun x hx y hy => ?_⟩, fun c hc => ?_⟩
  · rw [List.mem_singleton.mp hy]
    exact (h.2 x hx).2
  · rcases List.mem_append.mp hc with h' | h'
    · have := h.2 c h'
      omega
    · rw [List.mem_singleton.mp h']
      omega
theorem Cols.up {cs : List Int} {v w : Int} (h : Cols cs v) (hw : v ≤ w) : Cols cs w := ⟨h.1, fun c hc => ⟨(h.2 c hc).1, Int.lt_of_lt_of_le (h.2 c hc).2 hw⟩⟩
theorem cut_take (xs : List V) (n : Nat) : cutV xs none (some (n : Int)) = xs.take n := by
  unfold cutV
  show (xs.drop 0).take (HT.sIx xs.length xs.length (some (n : Int)) - 0) = _
  rw [List.drop_zero, Nat.sub_zero]
  rw [HT.sIx_nat]
  by_cases h : n ≤ xs.length
  · rw [Nat.min_eq_left h]
  · rw [Nat.min_eq_right (by omega), List.take_length, List.take_of_length_le (by omega)]
def spCols : Sp := fun vs H Q _ => ∃ (p : Addr) (w lo : Int) (hi : Nat), vs = [.ref p, .int w, .int lo, .int (hi : Int)] ∧ PoolAt H p ∧ 1 ≤ w ∧ w ≤ 100 ∧ lo ≤ 1 ∧
  ∀ (t : Addr) (cs : List Int) (H' : Hp), H t = none → H' t = some (.tup (cs.map V.int)) → Cols cs w → cs.length ≤ hi → (lo = 1 → 1 ≤ hi → 1 ≤ cs.length) → Chg p H H' → Q (.ref t) H'
theorem ok_columns (T : Txt K mg a d) : FnOk P w K mg base CX0 3 (a 32) (d 32) ["_law_pool_here", "_law_width_here", "_law_low", "_law_high"] spCols := by
  have G29 : FnOk P w K mg base CX0 2 (a 29) (d 29) ["_law_pool_here", "_law_many"] spDraw := ok_draw T
  refine T.F32.ok sc__law_columns (fun vs H Q E h => ?_) (fun cdv A outer s H vs Q E hr h => ?_)
  · obtain ⟨p, w, lo, hi, rfl, _⟩ := h
    rfl
  · obtain ⟨p, wd, lo, hi, rfl, hP, hw1, hw2, hlo, q⟩ := h
    refine ⟨_, (pss_cons (ps_setLc (i := 4) (own := [("_law_column", 5)]) rfl sc__law_columns.nd rfl rfl (sw_true rfl rfl rfl (by decide +kernel)) (pi_range1 (by rfl) T.z_range (pa_cons (pv 1) pa_nil)) (blkOk_by (N := ["_law_pool_here", "_law_width_here", "_law_low", "_law_high", "_law_chosen", "_law_column"]) (sc := defScope s__law_columns) (by decide +kernel)) (fun _ _ _ _ _ => pg_name (i := 5) sc__law_columns.nd rfl (.inl rfl)) (fun _ _ _ _ _ => (pts_one (pt_cmpR op_eq (pe_call G29 (hr.mono (by decide)) (by rfl) T.g29 T.F29.kp T.b29 .nil pass0 (pa_cons (pv 0) (pa_cons pe_int pa_nil))) pe_int (nomark _)))) (fun _ _ _ _ _ => (pv 5)))
  (Evl.pss_cut (ps_if (pt_cmpR op_lt (pe_callB (id := "len")  call_len_seq (by rfl) T.z_len (by decide +kernel) (pa_cons (pv 4) pa_nil)) (pv 2) (nomark _))
    (pss_one (ps_set (i := 4) sc__law_columns.nd rfl (.inl rfl) (pe_lst (pa_cons (pe_call G29 (hr.mono (by decide)) (by rfl) T.g29 T.F29.kp T.b29 .nil pass0 (pa_cons (pv 0) (pa_cons (pv 1) pa_nil))) pa_nil))))
    pss_nil)
  (pss_one (ps_ret (pe_callTy (T := "tuple")  call_tuple_of (by rfl) T.z_tuple (by decide +kernel) (pa_cons (pe_slice sl_list (pv 4) po_none (po_some (pv 3))) pa_nil)))))), ?_⟩
    refine ⟨_, rfl, _, rfl, by omega, by omega, fun D hD => ?_⟩
    have nD : D ≠ p := Chg.ne hP hD
    refine lc_range (lo := 0) (n := wd.toNat) (fun i H' => ∃ cs : List Int, H' D = some (.lst (cs.map V.int)) ∧ cs.length ≤ i ∧ Cols cs (i : Int) ∧ Chg p H H') ⟨[], upd_same, Nat.le_refl _, ⟨.nil, fun c hc => by cases hc⟩, (Chg.refl hP).new hD⟩ (fun i H' hi' hp => ?_) (fun H' hp => ?_)
    · obtain ⟨cs, c1, c2, c3, c4⟩ := hp
      refine ⟨rfl, ?_⟩
      refine ⟨_, rfl, p, 2, rfl, c4.1, by decide, by decide, fun r H'' r0 r1 C => ⟨rfl, _, rfl, ite_eqI (fun h => ?_) (fun h => ?_)⟩⟩
      · refine ⟨_, rfl, _, C.2 D _ nD c1, ?_, cs ++ [(i : Int)], ?_, ?_, c3.snoc, (c4.trans C).mut hD nD⟩
        · rw [List.length_map]
          exact small1000 (by omega)
        · rw [List.map_append, Int.zero_add]
          exact upd_same
        · rw [List.length_append]
          exact Nat.succ_le_succ c2
      · exact ⟨cs, C.2 D _ nD c1, Nat.le_succ_of_le c2, c3.up (by omega), c4.trans C⟩
    obtain ⟨cs, c1, c2, c3, c4⟩ := hp
    rw [Int.toNat_of_nonneg (by omega)] at c3
    -- at low so many
    refine ⟨fun σ H2 => ∃ l cs y5, σ = [some (.ref p), some (.int wd), some (.int lo), some (.int hi), some (.ref l), y5] ∧ H2 l = some (.lst (cs.map V.int)) ∧ cs.length ≤ 100 ∧ Cols cs wd ∧ (lo = 1 → 1 ≤ cs.length) ∧ Chg p H H2, ?_, ?_⟩
    · refine ⟨_, rfl, _, _, rfl, .inl (.of c1), _, rfl, _, _, rfl, rfl, _, rfl, ite_d (fun h1 => ?_) (fun h1 => ⟨D, cs, _, rfl, c1, by omega, c3, fun e => ?_, c4⟩)⟩
      · refine ⟨_, rfl, _, rfl, p, wd, rfl, c4.1, by omega, Nat.lt_of_le_of_lt (by omega : _ ≤ 100) (by decide), fun r H3 r0 r1 C3 => ⟨by show 1 ≤ sizeLine; decide, fun l2 nl2 => ⟨l2, [r], _, rfl, upd_same, by show 1 ≤ 100; decide, ⟨List.pairwise_singleton _ _, fun c hc => ?_⟩, fun _ => Nat.le_refl _, (c4.trans C3).new nl2⟩⟩⟩
        rw [List.mem_singleton.mp hc]
        exact ⟨r0, r1⟩
      · rw [List.length_map] at h1
        omega
    · rintro σ H2 ⟨l, cs, y5, rfl, e1, e2, e3, e4, e5⟩
      refine ⟨_, rfl, _, rfl, _, rfl, _, _, rfl, .of e1, fun m hm => ?_⟩
      refine ⟨m, _, rfl, .inl ⟨.of upd_same, fun t ht => ?_⟩⟩
      rw [cut_take, ← List.map_take] at ht ⊢
      have C := (e5.new (o := .lst ((cs.take hi).map V.int)) hm).new (o := .tup ((cs.take hi).map V.int)) ht
      refine q t (cs.take hi) _ (free_of (e5.new (o := .lst ((cs.take hi).map V.int)) hm) hP ht) upd_same (e3.take hi) ?_ (fun h1 h2 => ?_) C
      · rw [List.length_take]
        omega
      · have := e4 h1
        rw [List.length_take]
        omega
/-! ### _law_tables -/
def tabK (ts : List (Str × Int)) : List (Key × V) := ts.map fun p => (Sum.inr p.1, V.int p.2)
structure Tabs (ts : List (Str × Int)) (m : Nat) (wm : Int) : Prop where
  nm : Nms (ts.map (·.1)) m
  wd : ∀ p ∈ ts, 1 ≤ p.2 ∧ p.2 ≤ wm
theorem Tabs.len {ts : List (Str × Int)} {m : Nat} {wm : Int} (h : Tabs ts m wm) : ts.length = m := by
  rw [← h.nm.len, List.length_map]
theorem valV_no {κ : Type} [DecidableEq κ] {k : κ} : ∀ {kvs : List (κ × V)}, k ∉ kvs.map (·.1) → valV kvs k = none
  | [], _ => rfl
  | p :: r, h => by
    rw [List.map_cons] at h
    rw [valV_neg (fun e => h (by rw [e]; exact List.mem_cons_self ..))]
    exact valV_no fun hm => h (List.mem_cons_of_mem _ hm)
theorem nd_take {α : Type} {xs : List α} {i : Nat} {x : α} (h : xs.Nodup) (hx : xs[i]? = some x) : x ∉ xs.take i := fun hm => by
  have e : (xs.take (i + 1)).Nodup := h.sublist (List.take_sublist _ _)
  rw [List.take_add_one, hx] at e
  exact (List.nodup_append.mp e).2.2 x hm x (by simp) rfl
theorem keys_tab (ts : List (Str × Int)) : (tabK ts).map (·.1) = (ts.map (·.1)).map Sum.inr := by
  unfold tabK
  rw [List.map_map, List.map_map]
  rfl
theorem inr_nd {ns : List Str} (h : ns.Nodup) : (ns.map (Sum.inr : Str → Key)).Nodup := nodup_map h fun _ _ _ _ e => Sum.inr.inj e
theorem inr_no {ns : List Str} {n : Str} (h : n ∉ ns) : (Sum.inr n : Key) ∉ ns.map Sum.inr := fun hm => by
  obtain ⟨x, hx, e⟩ := List.mem_map.mp hm
  rw [← Sum.inr.inj e] at h
  exact h hx
theorem tab_at {H : Hp} {t : Addr} {ts : List (Str × Int)} {n : Str} {w : Int} (e : H t = some (.dK (tabK ts))) (nd : (ts.map (·.1)).Nodup) (h : (n, w) ∈ ts) : DGet H t (.str n) (some (.int w)) := by
  have g := DGet.k (k := Sum.inr n) e
  have v : valV (tabK ts) (Sum.inr n) = some (.int w) := val_nodup (kvs := tabK ts) (by rw [keys_tab]; exact inr_nd nd) (Sum.inr n, V.int w) (List.mem_map.mpr ⟨(n, w), h, rfl⟩)
  rw [v] at g
  exact g
theorem snoc_map {α β : Type} (f : α → β) (xs : List α) (x : α) : (xs ++ [x]).map f = xs.map f ++ [f x] := by
  rw [List.map_append]
  rfl
theorem Chg.at {p b : Addr} {H H' : Hp} {o : HO} (c : Chg p H H') (n : b ≠ p) (e : H b = some o) : H' b = some o := c.2 b o n e
theorem pool_ne {H : Hp} {p b : Addr} {o : HO} (h : PoolAt H p) (e : H b = some o) (x : ∀ xs, o ≠ .lst xs) : b ≠ p := by
  obtain ⟨p0, p1, p2, p3, r, e', c⟩ := h
  exact ne_of e e' (x _)
def spTables : Sp := fun vs H Q _ => ∃ (p : Addr) (m : Nat) (wm : Int), vs = [.ref p, .int (m : Int), .int wm] ∧ PoolAt H p ∧ m ≤ 26 ∧ 1 ≤ wm ∧ wm ≤ 100 ∧
  ∀ (t : Addr) (ts : List (Str × Int)) (H' : Hp), H t = none → H' t = some (.dK (tabK ts)) → Tabs ts m wm → Chg p H H' → Q (.ref t) H'
theorem ok_tables (T : Txt K mg a d) : FnOk P w K mg base CX0 5 (a 33) (d 33) ["_law_pool_here", "_law_many", "_law_widest"] spTables := by
  have G29 : FnOk P w K mg base CX0 2 (a 29) (d 29) ["_law_pool_here", "_law_many"] spDraw := ok_draw T
  have G31 : FnOk P w K mg base CX0 4 (a 31) (d 31) ["_law_pool_here", "_law_many"] spNames := ok_names T
  refine T.F33.ok sc__law_tables (fun vs H Q E h => ?_) (fun cdv A outer s H vs Q E hr h => ?_)
  · obtain ⟨p, m, wm, rfl, _⟩ := h
    rfl
  · obtain ⟨p, m, wm, rfl, hP, hm, hw1, hw2, q⟩ := h
    have hu := hu_of hr
    refine ⟨_, (pss_cons (ps_set (i := 3) sc__law_tables.nd rfl (.inl rfl) (pe_call G31 (hr.mono (by decide)) (by rfl) T.g31 T.F31.kp T.b31 .nil pass0 (pa_cons (pv 0) (pa_cons (pv 1) pa_nil))))
  (pss_cons (ps_set (i := 4) sc__law_tables.nd rfl (.inl rfl) pe_dnewK)
  (pss_cons (ps_for PassesOwn.never rfl (pi_list (pv 3)) (pg_name (i := 5) sc__law_tables.nd rfl (.inl rfl))
    (pss_one (ps_dput (hu_of hr) (pv 4) (pv 5) (pe_op op_add pe_int (pe_call G29 (hr.mono (by decide)) (by rfl) T.g29 T.F29.kp T.b29 .nil pass0 (pa_cons (pv 0) (pa_cons (pv 2) pa_nil)))) rfl)))
  (pss_one (ps_ret (pv 4)))))), ?_⟩
    refine ⟨_, rfl, _, rfl, p, m, rfl, hP, hm, fun l ns H1 l0 hl hn C1 => ?_⟩
    have nl : l ≠ p := fun e => by
      obtain ⟨p0, p1, p2, p3, r, e', c⟩ := hP
      rw [e, e'] at l0
      cases l0
    intro t ht
    have nt : t ≠ p := Chg.ne C1.1 ht
    have nlt : l ≠ t := ne_of_none hl ht
    have t0 : H t = none := free_of C1 hP ht
    have lens : (ns.map V.str).length = m := by rw [List.length_map, hn.len]
    refine ⟨_, rfl, l, rfl, ⟨_, .of (by rw [upd_ne nlt]; exact hl)⟩, for_list (K := K) (a := l) (xs := ns.map V.str) (fun i σ H' => ∃ (ts : List (Str × Int)) (y5 : Option V), σ = [some (.ref p), some (.int m), some (.int wm), some (.ref l), some (.ref t), y5] ∧ H' t = some (.dK (tabK ts)) ∧ H' l = some (.lst (ns.map V.str)) ∧ ts.map (·.1) = ns.take i ∧ (∀ b ∈ ts, 1 ≤ b.2 ∧ b.2 ≤ wm) ∧ Chg p H H')
      ⟨[], none, rfl, upd_same, by rw [upd_ne nlt]; exact hl, rfl, (fun b hb => by cases hb), C1.new ht⟩ (fun i σ H' _ hp => ?_) (fun i y σ H' hy hp => ?_) (fun σ H' hp => ?_)⟩
    · obtain ⟨ts, y5, rfl, _, hl', _⟩ := hp
      exact .of hl'
    · obtain ⟨ts, y5, rfl, ht', hl', hk, hw, hc⟩ := hp
      obtain ⟨n, hn', rfl⟩ := map_at hy
      have hlen : ts.length ≤ 26 := by
        have e := congrArg List.length hk
        rw [List.length_map, List.length_take] at e
        have := hn.len
        omega
      refine ⟨_, rfl, _, rfl, p, wm, rfl, hc.1, by omega, Nat.lt_of_le_of_lt (by omega : _ ≤ 100) (by decide), fun r H'' r0 r1 C => ⟨_, _, rfl, rfl, _, rfl, _, rfl, t, _, rfl, DPut.k (k := Sum.inr n) (C.at nt ht') ?_, ts ++ [(n, 1 + r)], _, rfl, ?_, ?_, ?_, fun b hb => ?_, (hc.trans C).mut t0 nt⟩⟩
      · unfold tabK
        rw [List.length_map]
        exact Nat.lt_of_le_of_lt hlen (by decide)
      · unfold tabK
        rw [snoc_map]
        refine Eq.trans upd_same (congrArg (fun x => some (HO.dK x)) (putK_new _ (valV_no ?_)))
        have e := keys_tab ts
        unfold tabK at e
        rw [e, hk]
        exact inr_no (nd_take hn.nd hn')
      · rw [upd_ne nlt]
        exact C.at nl hl'
      · rw [snoc_map, hk, List.take_add_one, hn']
        rfl
      · rcases List.mem_append.mp hb with h | h
        · exact hw b h
        · rw [List.mem_singleton.mp h]
          exact ⟨by show 1 ≤ 1 + r; omega, by show 1 + r ≤ wm; omega⟩
    · obtain ⟨ts, y5, rfl, ht', hl', hk, hw, hc⟩ := hp
      rw [List.length_map, List.take_length] at hk
      exact ⟨_, rfl, q t ts H' t0 ht' ⟨by rw [hk]; exact hn, hw⟩ hc⟩
/-! ### _law_keys -/
abbrev KeyE := Str × Addr × List Int
def keyK (ks : List KeyE) : List (Key × V) := ks.map fun b => (Sum.inr b.1, V.ref b.2.1)
theorem keys_key (ks : List KeyE) : (keyK ks).map (·.1) = (ks.map (·.1)).map Sum.inr := by
  unfold keyK
  rw [List.map_map, List.map_map]
  rfl
structure Keys (H : Hp) (ts : List (Str × Int)) (ks : List KeyE) : Prop where
  nd : (ks.map (·.1)).Nodup
  le : ks.length ≤ ts.length
  at_ : ∀ b ∈ ks, H b.2.1 = some (.tup (b.2.2.map V.int))
  ok : ∀ b ∈ ks, ∃ w, (b.1, w) ∈ ts ∧ Cols b.2.2 w ∧ 1 ≤ b.2.2.length ∧ (b.2.2.length : Int) < w
theorem Keys.mono {H H' : Hp} {ts : List (Str × Int)} {ks : List KeyE} (h : Keys H ts ks) (m : ∀ b xs, H b = some (.tup xs) → H' b = some (.tup xs)) : Keys H' ts ks := ⟨h.nd, h.le, fun b hb => m _ _ (h.at_ b hb), h.ok⟩
theorem chg_tup {p : Addr} {H H' : Hp} (h : PoolAt H p) (c : Chg p H H') : ∀ b xs, H b = some (.tup xs) → H' b = some (.tup xs) := fun b xs e => c.at (pool_ne h e (by intro _ z; cases z)) e
theorem upd_tup {H : Hp} {t : Addr} {o u : HO} (h : H t = some u) (n : ∀ xs, u ≠ .tup xs) : ∀ b xs, H b = some (.tup xs) → upd H t o b = some (.tup xs) := fun b xs e => by
  rw [upd_ne (ne_of e h (fun z => n xs z.symm))]
  exact e
def spKeys : Sp := fun vs H Q _ => ∃ (p t : Addr) (m : Nat) (ts : List (Str × Int)), vs = [.ref p, .ref t] ∧ PoolAt H p ∧ H t = some (.dK (tabK ts)) ∧ Tabs ts m 100 ∧ m ≤ 26 ∧
  ∀ (k : Addr) (ks : List KeyE) (H' : Hp), H k = none → H' k = some (.dK (keyK ks)) → Keys H' ts ks → Chg p H H' → Q (.ref k) H'
theorem ok_keys (T : Txt K mg a d) : FnOk P w K mg base CX0 4 (a 34) (d 34) ["_law_pool_here", "_law_tables_here"] spKeys := by
  have G29 : FnOk P w K mg base CX0 2 (a 29) (d 29) ["_law_pool_here", "_law_many"] spDraw := ok_draw T
  have G32 : FnOk P w K mg base CX0 3 (a 32) (d 32) ["_law_pool_here", "_law_width_here", "_law_low", "_law_high"] spCols := ok_columns T
  refine T.F34.ok sc__law_keys (fun vs H Q E h => ?_) (fun cdv A outer s H vs Q E hr h => ?_)
  · obtain ⟨p, t, m, ts, rfl, _⟩ := h
    rfl
  · obtain ⟨p, t, m, ts, rfl, hP, ht, hT, hm, q⟩ := h
    have hu := hu_of hr
    refine ⟨_, (pss_cons (ps_set (i := 2) sc__law_keys.nd rfl (.inl rfl) pe_dnewK)
  (pss_cons (ps_for PassesOwn.never rfl (pi_list (pe_callTy (T := "list")  (call_listD rfl) (by rfl) T.z_list (by decide +kernel) (pa_cons (pv 1) pa_nil))) (pg_name (i := 3) sc__law_keys.nd rfl (.inl rfl))
    (pss_one (ps_if (PW.pt (pw_and (pt_cmpR op_gt (pe_dget (hu_of hr) (pv 1) (pv 3) (fun _ _ => rfl)) pe_int (nomark _)) (pw_and1 (pt_cmpR op_eq (pe_call G29 (hr.mono (by decide)) (by rfl) T.g29 T.F29.kp T.b29 .nil pass0 (pa_cons (pv 0) (pa_cons pe_int pa_nil))) pe_int (nomark _)))))
        (pss_one (ps_dput (hu_of hr) (pv 2) (pv 3) (pe_call G32 (hr.mono (by decide)) (by rfl) T.g32 T.F32.kp T.b32 .nil pass0 (pa_cons (pv 0) (pa_cons (pe_dget (hu_of hr) (pv 1) (pv 3) (fun _ _ => rfl)) (pa_cons pe_int (pa_cons (pe_op op_sub (pe_dget (hu_of hr) (pv 1) (pv 3) (fun _ _ => rfl)) pe_int) pa_nil))))) rfl))
        pss_nil)))
  (pss_one (ps_ret (pv 2))))), ?_⟩
    intro k hk
    have nt : t ≠ p := pool_ne hP ht (by intro _ z; cases z)
    have nk : k ≠ p := Chg.ne hP hk
    have ntk : t ≠ k := ne_of_none ht hk
    have C0 : Chg p H (upd H k (.dK [])) := (Chg.refl hP).new hk
    have e0 : (tabK ts).map (fun kv => kV kv.1) = (ts.map (·.1)).map V.str := by
      unfold tabK
      rw [List.map_map, List.map_map]
      rfl
    refine ⟨_, rfl, t, tabK ts, rfl, .inl (C0.at nt ht), fun l hl => ⟨l, rfl, ?_⟩⟩
    rw [e0]
    have nl : l ≠ p := Chg.ne C0.1 hl
    have nkl : k ≠ l := ne_of_none upd_same hl
    have C1 := C0.new (o := .lst ((ts.map (·.1)).map V.str)) hl
    refine ⟨⟨_, .of upd_same⟩, for_list (K := K) (a := l) (xs := (ts.map (·.1)).map V.str) (fun i σ H' => ∃ (ks : List KeyE) (y3 : Option V), σ = [some (.ref p), some (.ref t), some (.ref k), y3] ∧ H' k = some (.dK (keyK ks)) ∧ H' l = some (.lst ((ts.map (·.1)).map V.str)) ∧ (ks.map (·.1)).Sublist ((ts.map (·.1)).take i) ∧ (∀ b ∈ ks, H' b.2.1 = some (.tup (b.2.2.map V.int))) ∧
        (∀ b ∈ ks, ∃ w, (b.1, w) ∈ ts ∧ Cols b.2.2 w ∧ 1 ≤ b.2.2.length ∧ (b.2.2.length : Int) < w) ∧ Chg p H H')
      ⟨[], none, rfl, ?_, upd_same, List.nil_sublist _, (fun b hb => by cases hb), (fun b hb => by cases hb), C1⟩ (fun i σ H' _ hp => ?_) (fun i y σ H' hy hp => ?_) (fun σ H' hp => ?_)⟩
    · rw [upd_ne nkl]
      exact upd_same
    · obtain ⟨ks, y3, rfl, _, hl', _⟩ := hp
      exact .of hl'
    · obtain ⟨ks, y3, rfl, hk', hl', hsub, hat, hok, hc⟩ := hp
      obtain ⟨n, hn, rfl⟩ := map_at hy
      obtain ⟨b, hb, rfl⟩ := map_at hn
      obtain ⟨n, w⟩ := b
      have hmem : (n, w) ∈ ts := List.mem_of_getElem? hb
      have hw := hT.wd _ hmem
      have tk : (ts.map (·.1)).take (i + 1) = (ts.map (·.1)).take i ++ [n] := by
        rw [List.take_add_one, hn]
        rfl
      have hsub' : (ks.map (·.1)).Sublist ((ts.map (·.1)).take (i + 1)) := by
        rw [tk]
        exact hsub.trans (List.sublist_append_left _ _)
      have hlen : ks.length ≤ 26 := by
        have e1 := hsub.length_le
        rw [List.length_map, List.length_take] at e1
        have e2 := hT.nm.len
        omega
      have g : ∀ H2 : Hp, H2 t = some (.dK (tabK ts)) → DGet H2 t (.str n) (some (.int w)) := fun H2 e => tab_at e hT.nm.nd hmem
      have ht' := hc.at nt ht
      refine ⟨_, rfl, _, rfl, t, _, rfl, g _ ht', _, _, rfl, rfl, _, rfl, ite_d (fun h1 => ?_) (fun h1 => ⟨ks, _, rfl, hk', hl', hsub', hat, hok, hc⟩)⟩
      refine ⟨_, rfl, p, 3, rfl, hc.1, by decide, by decide, fun r H2 r0 r1 C2 => ⟨rfl, _, rfl, ite_eqI (fun h2 => ?_) (fun h2 => ?_)⟩⟩
      · refine ⟨_, rfl, _, rfl, _, rfl, t, _, rfl, g _ (C2.at nt ht'), _, rfl, _, rfl, t, _, rfl, g _ (C2.at nt ht'), _, _, rfl, rfl, p, w, 1, (w - 1).toNat, ?_, C2.1, by omega, by omega, by decide, fun c cs H3 c0 c1 c2 c3 c4 C3 => ?_⟩
        · rw [Int.toNat_of_nonneg (by omega)]
          rfl
        have C23 := C2.trans C3
        have hk3 := C23.at nk hk'
        have nc : ∀ o, H3 k = some o → c ≠ k := fun o e => ne_of c1 hk3 (by intro z; cases z)
        refine ⟨_, rfl, _, rfl, k, _, rfl, DPut.k (k := Sum.inr n) hk3 ?_, ks ++ [(n, c, cs)], _, rfl, ?_, ?_, ?_, fun b hb => ?_, fun b hb => ?_, (hc.trans C23).mut hk nk⟩
        · unfold keyK
          rw [List.length_map]
          exact Nat.lt_of_le_of_lt hlen (by decide)
        · unfold keyK
          rw [snoc_map]
          refine Eq.trans upd_same (congrArg (fun x => some (HO.dK x)) (putK_new _ (valV_no ?_)))
          have e := keys_key ks
          unfold keyK at e
          rw [e]
          exact inr_no fun hm => nd_take hT.nm.nd hn (hsub.subset hm)
        · rw [upd_ne nkl.symm]
          exact C23.at nl hl'
        · rw [snoc_map, tk]
          exact hsub.append (List.Sublist.refl _)
        · rcases List.mem_append.mp hb with h | h
          · exact upd_tup hk3 (by intro _ z; cases z) _ _ (chg_tup hc.1 C23 _ _ (hat b h))
          · rw [List.mem_singleton.mp h]
            exact upd_tup hk3 (by intro _ z; cases z) _ _ c1
        · rcases List.mem_append.mp hb with h | h
          · exact hok b h
          · rw [List.mem_singleton.mp h]
            have h5 := c4 rfl (by omega)
            exact ⟨w, hmem, c2, h5, by show (cs.length : Int) < w; omega⟩
      · exact ⟨ks, _, rfl, C2.at nk hk', C2.at nl hl', hsub', fun b hb => chg_tup hc.1 C2 _ _ (hat b hb), hok, hc.trans C2⟩
    · obtain ⟨ks, y3, rfl, hk', hl', hsub, hat, hok, hc⟩ := hp
      rw [List.length_map, List.take_length] at hsub
      exact ⟨_, rfl, q k ks H' hk hk' ⟨hT.nm.nd.sublist hsub, by have := hsub.length_le; rw [List.length_map, List.length_map] at this; exact this, hat, hok⟩ hc⟩
/-! ### _law_is_whole -/
theorem valV_mem {κ : Type} [DecidableEq κ] {k : κ} {v : V} : ∀ {kvs : List (κ × V)}, valV kvs k = some v → (k, v) ∈ kvs
  | [], h => by cases h
  | p :: r, h => by
    by_cases e : p.1 = k
    · rw [valV_pos e] at h
      have : p = (k, v) := by rw [← e, ← Option.some.inj h]
      rw [this]
      exact List.mem_cons_self ..
    · rw [valV_neg e] at h
      exact List.mem_cons_of_mem _ (valV_mem h)
theorem perm_nd {κ : Type} {a b : List (κ × V)} (p : a.Perm b) (nd : (b.map (·.1)).Nodup) : (a.map (·.1)).Nodup := (p.map (·.1)).nodup_iff.mpr nd
theorem valV_perm {κ : Type} [DecidableEq κ] {a b : List (κ × V)} (p : a.Perm b) (nd : (b.map (·.1)).Nodup) (k : κ) : valV a k = valV b k := by
  cases h : valV b k with
  | some v => exact val_nodup (perm_nd p nd) (k, v) (p.mem_iff.mpr (valV_mem h))
  | none =>
    cases h' : valV a k with
    | none => rfl
    | some v =>
      rw [val_nodup nd (k, v) (p.mem_iff.mp (valV_mem h'))] at h
      cases h
/-- a dict at t with these pairs, in any order -/
def DctAt (H : Hp) (t : Addr) (kvs : List (Key × V)) : Prop := ∃ ks, H t = some (.dK ks) ∧ ks.Perm kvs
theorem DctAt.of {H : Hp} {t : Addr} {kvs : List (Key × V)} (h : H t = some (.dK kvs)) : DctAt H t kvs := ⟨kvs, h, .refl _⟩
theorem DctAt.same {H H' : Hp} {t : Addr} {kvs : List (Key × V)} (h : DctAt H t kvs) (s : Same H H') : DctAt H' t kvs := by
  obtain ⟨ks, e, p⟩ := h
  exact ⟨ks, s _ _ e, p⟩
theorem DctAt.get {H : Hp} {t : Addr} {kvs : List (Key × V)} (h : DctAt H t kvs) (nd : (kvs.map (·.1)).Nodup) (k : Key) : DGet H t (kV k) (valV kvs k) := by
  obtain ⟨ks, e, p⟩ := h
  have g := DGet.k (k := k) e
  rw [valV_perm p nd] at g
  exact g
theorem tab_nd {ts : List (Str × Int)} {m : Nat} {wm : Int} (h : Tabs ts m wm) : ((tabK ts).map (·.1)).Nodup := by
  rw [keys_tab]
  exact inr_nd h.nm.nd
theorem tab_val {ts : List (Str × Int)} {m : Nat} {wm : Int} {n : Str} {w : Int} (h : Tabs ts m wm) (hm : (n, w) ∈ ts) : valV (tabK ts) (Sum.inr n) = some (.int w) :=
  val_nodup (kvs := tabK ts) (tab_nd h) (Sum.inr n, V.int w) (List.mem_map.mpr ⟨(n, w), hm, rfl⟩)
theorem key_nd {H : Hp} {ts : List (Str × Int)} {ks : List KeyE} {m : Nat} {wm : Int} (hT : Tabs ts m wm) (h : Keys H ts ks) : ((keyK ks).map (·.1)).Nodup := by
  rw [keys_key]
  exact inr_nd h.nd
theorem DctAt.at_ {H : Hp} {t : Addr} {kvs : List (Key × V)} {n : Str} {v : V} (h : DctAt H t kvs) (nd : (kvs.map (·.1)).Nodup) (e : valV kvs (Sum.inr n) = some v) : DGet H t (.str n) (some v) := by
  have g := h.get nd (Sum.inr n)
  rw [e] at g
  exact g
def capV : Option Int → V
  | none => .non
  | some i => .int i
theorem capV_none (c : Option Int) : decide (capV c = .non) = c.isNone := by
  cases c <;> rfl
def keyAt (ks : List KeyE) (n : Str) : Option KeyE := ks.find? fun b => decide (b.1 = n)
theorem keyAt_val (n : Str) : ∀ ks : List KeyE, valV (keyK ks) (Sum.inr n) = (keyAt ks n).map fun b => V.ref b.2.1
  | [] => rfl
  | b :: ks => by
    have ih := keyAt_val n ks
    unfold keyAt keyK at ih ⊢
    rw [List.map_cons]
    by_cases e : b.1 = n
    · rw [valV_pos (by rw [e])]
      simp [e]
    · rw [valV_neg (fun z => e (Sum.inr.inj z)), ih]
      simp [e]
theorem keyAt_mem {ks : List KeyE} {n : Str} {b : KeyE} (h : keyAt ks n = some b) : b ∈ ks ∧ b.1 = n := by
  unfold keyAt at h
  exact ⟨List.mem_of_find?_eq_some h, by simpa using List.find?_some h⟩
def isWh (w : Int) (ks : List KeyE) (n : Str) (cols : List Int) (cap : Option Int) : Bool :=
  cap.isNone || (decide ((cols.length : Int) = w) || match keyAt ks n with
    | none => false
    | some b => b.2.2.all fun x => decide (x ∈ cols))
theorem inV_ints (c : Int) (xs : List Int) : inV (.int c) (xs.map V.int) = decide (c ∈ xs) := by
  unfold inV
  rw [List.any_map]
  apply Bool.eq_iff_iff.mpr
  rw [List.any_eq_true, decide_eq_true_iff]
  constructor
  · rintro ⟨x, hx, e⟩
    have e' : decide (x = c) = true := e
    rw [← of_decide_eq_true e']
    exact hx
  · intro h
    exact ⟨c, h, decide_eq_true rfl⟩
theorem flat_ints (xs : List Int) : (xs.map V.int).all flatV = true := by
  rw [List.all_map, List.all_eq_true]
  intro _ _
  rfl
theorem dp_ints {K : PySem.W.Frag} {H : Hp} : ∀ ns : List Int, DpAll K H (ns.map V.int) (ns.map PyData.int)
  | [] => .nil
  | n :: ns => .cons (.int n) (dp_ints ns)
theorem lay_ints : ∀ ns : List Int, PyData.canLayAll0 (ns.map PyData.int) = true ∧ PyData.depthAll (ns.map PyData.int) = 0
  | [] => by simp [PyData.canLayAll0, PyData.depthAll]
  | n :: ns => by
    obtain ⟨h1, h2⟩ := lay_ints ns
    simp only [List.map_cons, PyData.canLayAll0, PyData.depthAll, PyData.canLay0, PyData.depth, h1, h2, Bool.and_self, true_and]
    rfl
theorem ints_shaped (ns : List Int) : SeqAt.shaped (.list (ns.map PyData.int)) = true := by
  obtain ⟨h1, h2⟩ := lay_ints ns
  show ((PyData.list (ns.map PyData.int)).canLay0 && decide ((PyData.list (ns.map PyData.int)).depth ≤ 64)) = true
  simp only [PyData.canLay0, PyData.depth, h1, h2]
  decide
theorem eqv_nilL (ds : List PyData) : PyData.eqv (.list ds) (.list []) = ds.isEmpty := by
  cases ds <;> simp [PyData.eqv, PyData.eqvAll]
theorem filter_empty (cs xs : List Int) : ((cs.filter fun c => !decide (c ∈ xs)).map PyData.int).isEmpty = cs.all fun c => decide (c ∈ xs) := by
  induction cs with
  | nil => rfl
  | cons c cs ih =>
    by_cases h : c ∈ xs
    · rw [List.filter_cons_of_neg (by simp [h]), ih, List.all_cons, decide_eq_true h, Bool.true_and]
    · rw [List.filter_cons_of_pos (by simp [h]), List.all_cons, decide_eq_false h, Bool.false_and]
      rfl
structure Told (H : Hp) (v : Addr) (n : Str) (ga : Addr) (cols : List Int) (cap : Option Int) : Prop where
  tup : H v = some (.tup [.str n, .ref ga, capV cap])
  cols : H ga = some (.tup (cols.map V.int))
theorem Told.mono {H H' : Hp} {v : Addr} {n : Str} {ga : Addr} {cols : List Int} {cap : Option Int} (h : Told H v n ga cols cap) (m : ∀ b xs, H b = some (.tup xs) → H' b = some (.tup xs)) : Told H' v n ga cols cap := ⟨m _ _ h.tup, m _ _ h.cols⟩
def spWhole : Sp := fun vs H Q _ => ∃ (t k v ga : Addr) (m : Nat) (ts : List (Str × Int)) (ks : List KeyE) (n : Str) (w : Int) (cols : List Int) (cap : Option Int), vs = [.ref t, .ref k, .ref v] ∧ DctAt H t (tabK ts) ∧ DctAt H k (keyK ks) ∧ Tabs ts m 100 ∧ Keys H ts ks ∧
  Told H v n ga cols cap ∧ (n, w) ∈ ts ∧ cols.length ≤ 100 ∧ ∀ H', Same H H' → Q (.bl (isWh w ks n cols cap)) H'
theorem ok_is_whole (T : Txt K mg a d) : FnOk P w K mg base CX0 3 (a 35) (d 35) ["_law_tables_here", "_law_keys_here", "_law_told"] spWhole := by
  refine T.F35.ok sc__law_is_whole (fun vs H Q E h => ?_) (fun cdv A outer s H vs Q E hr h => ?_)
  · obtain ⟨t, k, v, ga, m, ts, ks, n, w, cols, cap, rfl, _⟩ := h
    rfl
  · obtain ⟨t, k, v, ga, m, ts, ks, n, w, cols, cap, rfl, ht, hk, hT, hK, hv, hm, hc, q⟩ := h
    refine ⟨_, (pss_cons (ps_asg (pv 2) (pg_tup rfl (pgs_cons (pg_name (i := 3) sc__law_is_whole.nd rfl (.inl rfl)) (pgs_cons (pg_name (i := 4) sc__law_is_whole.nd rfl (.inr rfl)) (pgs_cons (pg_name (i := 5) sc__law_is_whole.nd rfl (.inl rfl)) pgs_nil)))))
  (pss_cons (ps_if (PW.pt (pw_or (pt_cmpR op_isN (pv 5) pe_non (nomark _)) (pw_or1 (pt_cmpR op_eq (pe_callB (id := "len")  call_len_seq (by rfl) T.z_len (by decide +kernel) (pa_cons (pv 4) pa_nil)) (pe_dget (hu_of hr) (pv 0) (pv 3) (fun _ _ => rfl)) (nomark _)))))
    (pss_one (ps_ret pe_bl))
    pss_nil)
  (pss_cons (ps_if (pt_cmp (pc_dnotin (hu_of hr) (pv 3) (pv 1)))
    (pss_one (ps_ret pe_bl))
    pss_nil)
  (pss_one (ps_ret (pe_cmpR (op_eqD (hu_of64 hr)) (pe_lc (own := [("_law_column", 6)]) rfl sc__law_is_whole.nd (pi_tup (pe_dget (hu_of hr) (pv 1) (pv 3) (fun _ _ => rfl))) (blkOk_by (N := ["_law_tables_here", "_law_keys_here", "_law_told", "_law_table", "_law_given", "_law_cap", "_law_column"]) (sc := defScope s__law_is_whole) (by decide +kernel)) (fun _ _ _ _ _ => pg_name (i := 6) sc__law_is_whole.nd rfl (.inl rfl)) (fun _ _ _ _ _ => (pts_one (pt_cmpR (r := rIn K true) op_notIn_seq (pv 6) (pv 4) (by rfl)))) (fun _ _ _ _ _ => (pv 6))) (pe_lst pa_nil) (nomark _))))))), ?_⟩
    refine ⟨_, rfl, v, _, rfl, .of hv.tup, rfl, _, _, rfl, _, _, rfl, _, _, rfl, rfl, ?_⟩
    have fin : ∀ b : Bool, b = isWh w ks n cols cap → ∀ H', Same H H' → Q (.bl b) H' := fun b e H' s => by
      rw [e]
      exact q H' s
    refine ⟨_, rfl, rfl, _, rfl, ?_⟩
    rw [capV_none]
    cases e1 : cap.isNone with
    | true => exact fin true (by unfold isWh; rw [e1]; rfl) H (fun _ _ e => e)
    | false =>
      refine ⟨_, rfl, _, _, rfl, .inr (.of hv.cols), _, rfl, _, rfl, t, _, rfl, ht.at_ (tab_nd hT) (tab_val hT hm), rfl, _, rfl, ?_⟩
      rw [List.length_map]
      refine ite_eqI (fun e2 => ?_) (fun e2 => ?_)
      · exact fin true (by unfold isWh; rw [e1, decide_eq_true e2]; rfl) H (fun _ _ e => e)
      · refine ⟨_, rfl, _, rfl, k, _, rfl, hk.get (key_nd hT hK) (Sum.inr n), _, rfl, ?_⟩
        rw [keyAt_val]
        cases e3 : keyAt ks n with
        | none => exact fin false (by unfold isWh; rw [e1, decide_eq_false e2, e3]; rfl) H (fun _ _ e => e)
        | some b =>
          obtain ⟨bm, bn⟩ := keyAt_mem e3
          have hb := hK.at_ b bm
          obtain ⟨w', hw', hcols', hl1, hl2⟩ := hK.ok b bm
          have hw2 := (hT.wd _ hw').2
          have dg := hk.get (key_nd hT hK) (Sum.inr n)
          rw [keyAt_val, e3] at dg
          refine ⟨_, rfl, _, rfl, k, _, rfl, dg, b.2.1, rfl, ⟨_, .of hb⟩, fun D hD => ?_⟩
          refine lc_tup (K := K) (a := b.2.1) (xs := b.2.2.map V.int) (fun i H' => H' D = some (.lst (((b.2.2.take i).filter fun c => !decide (c ∈ cols)).map V.int)) ∧ Same H H') ⟨upd_same, same_upd hD⟩ (fun i H' _ hp => .of (hp.2 _ _ hb)) (fun i x H' hx hp => ?_) (fun H' hp => ?_)
          · obtain ⟨h1, h2⟩ := hp
            obtain ⟨c, hcx, rfl⟩ := map_at hx
            have hi : i < b.2.2.length := (List.getElem?_eq_some_iff.mp hcx).1
            refine ⟨rfl, _, rfl, _, rfl, ga, _, rfl, .inr (.of (h2 _ _ hv.cols)), rfl, flat_ints _, _, rfl, ?_⟩
            show if (!inV (.int c) (cols.map V.int)) = true then _ else _
            rw [inV_ints]
            have tk : (b.2.2.take (i + 1)).filter (fun c => !decide (c ∈ cols)) = (b.2.2.take i).filter (fun c => !decide (c ∈ cols)) ++ ([c].filter fun c => !decide (c ∈ cols)) := by
              rw [List.take_add_one, hcx, List.filter_append]
              rfl
            refine ite_nd (fun e => ?_) (fun e => ?_)
            · refine ⟨_, rfl, _, h1, ?_, ?_, ?_⟩
              · rw [List.length_map]
                have l1 := List.length_filter_le (fun c => !decide (c ∈ cols)) (b.2.2.take i)
                rw [List.length_take] at l1
                exact Nat.lt_of_le_of_lt (by omega : _ ≤ 100) (by decide)
              · rw [tk, List.map_append, List.filter_cons_of_pos (by simp [e])]
                exact upd_same
              · intro x o ex
                rw [upd_ne (ne_of_none ex hD)]
                exact h2 x o ex
            · refine ⟨?_, h2⟩
              rw [tk, List.filter_cons_of_neg (by simp [e])]
              simpa using h1
          · obtain ⟨h1, h2⟩ := hp
            rw [List.length_map, List.take_length] at h1
            refine ⟨Nat.zero_le _, fun p hp => ⟨_, .list [], .lst (.of (same_upd hp _ _ h1)) (dp_ints _), .lst (.of upd_same) .nil, ints_shaped _, by decide, ?_⟩⟩
            rw [eqv_nilL, filter_empty]
            exact fin _ (by unfold isWh; rw [e1, decide_eq_false e2, e3]; rfl) _ (h2.trans (same_upd hp))
/-! ### _law_services -/
structure SvE where
  name : Str
  at_ : Addr
  tab : Str
  ga : Addr
  cols : List Int
  cap : Option Int
def svK (ss : List SvE) : List (Key × V) := ss.map fun b => (Sum.inr b.name, V.ref b.at_)
theorem keys_sv (ss : List SvE) : (svK ss).map (·.1) = (ss.map (·.name)).map Sum.inr := by
  unfold svK
  rw [List.map_map, List.map_map]
  rfl
def widthAt (ts : List (Str × Int)) (n : Str) : Int := ((ts.find? fun b => decide (b.1 = n)).map (·.2)).getD 0
theorem widthAt_mem {n : Str} {w : Int} : ∀ {ts : List (Str × Int)}, (ts.map (·.1)).Nodup → (n, w) ∈ ts → widthAt ts n = w
  | b :: ts, nd, h => by
    rw [List.map_cons] at nd
    have nd' := List.nodup_cons.mp nd
    unfold widthAt
    by_cases e : b.1 = n
    · rcases List.mem_cons.mp h with h' | h'
      · rw [← h']
        simp
      · exact absurd (by rw [e]; exact List.mem_map.mpr ⟨_, h', rfl⟩) nd'.1
    · rcases List.mem_cons.mp h with h' | h'
      · exact absurd (by rw [← h']) e
      · have ih := widthAt_mem nd'.2 h'
        unfold widthAt at ih
        simpa [e] using ih
/-- is the service whole -/
def whE (ts : List (Str × Int)) (ks : List KeyE) (b : SvE) : Bool := isWh (widthAt ts b.tab) ks b.tab b.cols b.cap
def fillE (ts : List (Str × Int)) (ks : List KeyE) (ss : List SvE) : List Str := (ss.filter fun b => !whE ts ks b).map (·.tab)
theorem fillE_snoc (ts : List (Str × Int)) (ks : List KeyE) (ss : List SvE) (b : SvE) : fillE ts ks (ss ++ [b]) = fillE ts ks ss ++ (if whE ts ks b = true then [] else [b.tab]) := by
  unfold fillE
  rw [List.filter_append, List.map_append]
  cases e : whE ts ks b <;> simp [e]
structure SvOk (H : Hp) (ts : List (Str × Int)) (b : SvE) : Prop where
  told : Told H b.at_ b.tab b.ga b.cols b.cap
  ok : ∃ w, (b.tab, w) ∈ ts ∧ Cols b.cols w ∧ b.cols.length ≤ 4
  cap : ∀ c, b.cap = some c → 1 ≤ c ∧ c ≤ 4
theorem SvOk.mono {H H' : Hp} {ts : List (Str × Int)} {b : SvE} (h : SvOk H ts b) (m : ∀ b xs, H b = some (.tup xs) → H' b = some (.tup xs)) : SvOk H' ts b := ⟨h.told.mono m, h.ok, h.cap⟩
structure Svcs (H : Hp) (ts : List (Str × Int)) (ks : List KeyE) (ss : List SvE) (n : Nat) : Prop where
  nm : Nms (ss.map (·.name)) n
  ok : ∀ b ∈ ss, SvOk H ts b
  one : (fillE ts ks ss).Nodup
theorem Svcs.mono {H H' : Hp} {ts : List (Str × Int)} {ks : List KeyE} {ss : List SvE} {n : Nat} (h : Svcs H ts ks ss n) (m : ∀ b xs, H b = some (.tup xs) → H' b = some (.tup xs)) : Svcs H' ts ks ss n := ⟨h.nm, fun b hb => (h.ok b hb).mono m, h.one⟩
theorem inV_strs (n : Str) (xs : List Str) : inV (.str n) (xs.map V.str) = decide (n ∈ xs) := by
  unfold inV
  rw [List.any_map]
  apply Bool.eq_iff_iff.mpr
  rw [List.any_eq_true, decide_eq_true_iff]
  constructor
  · rintro ⟨x, hx, e⟩
    have e' : decide (x = n) = true := e
    rw [← of_decide_eq_true e']
    exact hx
  · intro h
    exact ⟨n, h, decide_eq_true rfl⟩
theorem flat_strs (xs : List Str) : (xs.map V.str).all flatV = true := by
  rw [List.all_map, List.all_eq_true]
  intro _ _
  rfl
/-- while the services are made -/
structure SvMade (p t k ca l1 l2 s f : Addr) (ts : List (Str × Int)) (ks : List KeyE) (cps : List (Option Int)) (ns : List Str) (H0 H : Hp) (ss : List SvE) (fl : List Str) : Prop where
  chg : Chg p H0 H
  sv : H s = some (.dK (svK ss))
  fil : H f = some (.lst (fl.map V.str))
  ord : H l1 = some (.lst ((ts.map (·.1)).map V.str))
  nam : H l2 = some (.lst (ns.map V.str))
  tabs : H t = some (.dK (tabK ts))
  keys : H k = some (.dK (keyK ks))
  caps : H ca = some (.lst (cps.map capV))
  kok : Keys H ts ks
  ok : ∀ b ∈ ss, SvOk H ts b
structure SvNe (p t k ca l1 l2 s f : Addr) (H0 : Hp) : Prop where
  s0 : H0 s = none
  f0 : H0 f = none
  sp : s ≠ p
  fp : f ≠ p
  cp : ca ≠ p
  p1 : l1 ≠ p
  p2 : l2 ≠ p
  f1 : l1 ≠ f
  f2 : l2 ≠ f
  fc : ca ≠ f
theorem SvMade.go {p t k ca l1 l2 s f : Addr} {ts : List (Str × Int)} {ks : List KeyE} {cps : List (Option Int)} {ns : List Str} {H0 H H' : Hp} {ss : List SvE} {fl : List Str} (h : SvMade p t k ca l1 l2 s f ts ks cps ns H0 H ss fl) (n : SvNe p t k ca l1 l2 s f H0) (c : Chg p H H') : SvMade p t k ca l1 l2 s f ts ks cps ns H0 H' ss fl := by
  have m := chg_tup h.chg.1 c
  have d : ∀ {b : Addr} {kvs : List (Key × V)}, H b = some (.dK kvs) → H' b = some (.dK kvs) := fun e => c.at (pool_ne h.chg.1 e (by intro _ z; cases z)) e
  exact ⟨h.chg.trans c, d h.sv, c.at n.fp h.fil, c.at n.p1 h.ord, c.at n.p2 h.nam, d h.tabs, d h.keys, c.at n.cp h.caps, h.kok.mono m, fun b hb => (h.ok b hb).mono m⟩
theorem SvMade.same {p t k ca l1 l2 s f : Addr} {ts : List (Str × Int)} {ks : List KeyE} {cps : List (Option Int)} {ns : List Str} {H0 H H' : Hp} {ss : List SvE} {fl : List Str} (h : SvMade p t k ca l1 l2 s f ts ks cps ns H0 H ss fl) (n : SvNe p t k ca l1 l2 s f H0) (c : Same H H') : SvMade p t k ca l1 l2 s f ts ks cps ns H0 H' ss fl :=
  h.go n ⟨h.chg.1.same c, fun b o _ e => c b o e⟩
theorem SvMade.fill {p t k ca l1 l2 s f : Addr} {ts : List (Str × Int)} {ks : List KeyE} {cps : List (Option Int)} {ns : List Str} {H0 H : Hp} {ss : List SvE} {fl gl : List Str} (h : SvMade p t k ca l1 l2 s f ts ks cps ns H0 H ss fl) (n : SvNe p t k ca l1 l2 s f H0) : SvMade p t k ca l1 l2 s f ts ks cps ns H0 (upd H f (.lst (gl.map V.str))) ss gl := by
  have m : ∀ b xs, H b = some (.tup xs) → upd H f (.lst (gl.map V.str)) b = some (.tup xs) := upd_tup h.fil (by intro _ z; cases z)
  have d : ∀ {b : Addr} {kvs : List (Key × V)}, H b = some (.dK kvs) → upd H f (.lst (gl.map V.str)) b = some (.dK kvs) := fun e => by
    rw [upd_ne (ne_of e h.fil (by intro z; cases z))]
    exact e
  exact ⟨h.chg.mut n.f0 n.fp, d h.sv, upd_same, by rw [upd_ne n.f1]; exact h.ord, by rw [upd_ne n.f2]; exact h.nam, d h.tabs, d h.keys, by rw [upd_ne n.fc]; exact h.caps, h.kok.mono m, fun b hb => (h.ok b hb).mono m⟩
theorem SvMade.put {p t k ca l1 l2 s f : Addr} {ts : List (Str × Int)} {ks : List KeyE} {cps : List (Option Int)} {ns : List Str} {H0 H : Hp} {ss : List SvE} {fl : List Str} {b : SvE} (h : SvMade p t k ca l1 l2 s f ts ks cps ns H0 H ss fl) (n : SvNe p t k ca l1 l2 s f H0) (ht : H0 t ≠ none) (hk : H0 k ≠ none) (hb : SvOk H ts b) :
    SvMade p t k ca l1 l2 s f ts ks cps ns H0 (upd H s (.dK (svK (ss ++ [b])))) (ss ++ [b]) fl := by
  have m : ∀ c xs, H c = some (.tup xs) → upd H s (.dK (svK (ss ++ [b]))) c = some (.tup xs) := upd_tup h.sv (by intro _ z; cases z)
  have l : ∀ {c : Addr} {xs : List V}, H c = some (.lst xs) → upd H s (.dK (svK (ss ++ [b]))) c = some (.lst xs) := fun e => by
    rw [upd_ne (ne_of e h.sv (by intro z; cases z))]
    exact e
  have nts : t ≠ s := fun e => ht (by rw [e]; exact n.s0)
  have nks : k ≠ s := fun e => hk (by rw [e]; exact n.s0)
  refine ⟨h.chg.mut n.s0 n.sp, upd_same, l h.fil, l h.ord, l h.nam, by rw [upd_ne nts]; exact h.tabs, by rw [upd_ne nks]; exact h.keys, l h.caps, h.kok.mono m, fun c hc => ?_⟩
  rcases List.mem_append.mp hc with e | e
  · exact (h.ok c e).mono m
  · rw [List.mem_singleton.mp e]
    exact hb.mono m
def spServices : Sp := fun vs H Q _ => ∃ (p t k ca : Addr) (m more : Nat) (ts : List (Str × Int)) (ks : List KeyE) (cps : List (Option Int)), vs = [.ref p, .ref t, .ref k, .ref ca, .int (more : Int)] ∧ PoolAt H p ∧ H t = some (.dK (tabK ts)) ∧ H k = some (.dK (keyK ks)) ∧ Tabs ts m 100 ∧ 1 ≤ m ∧ m + more ≤ 26 ∧ Keys H ts ks ∧
  H ca = some (.lst (cps.map capV)) ∧ ca ≠ p ∧ 1 ≤ cps.length ∧ cps.length ≤ 100 ∧ (∀ c, some c ∈ cps → 1 ≤ c ∧ c ≤ 4) ∧
  ∀ (s : Addr) (ss : List SvE) (H' : Hp), H s = none → H' s = some (.dK (svK ss)) → Svcs H' ts ks ss (m + more) → Chg p H H' → Q (.ref s) H'
theorem ok_services (T : Txt K mg a d) : FnOk P w K mg base CX0 5 (a 36) (d 36) ["_law_pool_here", "_law_tables_here", "_law_keys_here", "_law_caps", "_law_more"] spServices := by
  have G29 : FnOk P w K mg base CX0 2 (a 29) (d 29) ["_law_pool_here", "_law_many"] spDraw := ok_draw T
  have G31 : FnOk P w K mg base CX0 4 (a 31) (d 31) ["_law_pool_here", "_law_many"] spNames := ok_names T
  have G32 : FnOk P w K mg base CX0 3 (a 32) (d 32) ["_law_pool_here", "_law_width_here", "_law_low", "_law_high"] spCols := ok_columns T
  have G35 : FnOk P w K mg base CX0 3 (a 35) (d 35) ["_law_tables_here", "_law_keys_here", "_law_told"] spWhole := ok_is_whole T
  refine T.F36.ok sc__law_services (fun vs H Q E h => ?_) (fun cdv A outer s H vs Q E hr h => ?_)
  · obtain ⟨p, t, k, ca, m, more, ts, ks, cps, rfl, _⟩ := h
    rfl
  · obtain ⟨p, t, k, ca, m, more, ts, ks, cps, rfl, hP, ht, hk, hT, hm1, hm2, hK, hca, ncp, hc1, hc2, hcap, q⟩ := h
    refine ⟨_, (pss_cons (ps_set (i := 5) sc__law_services.nd rfl (.inl rfl) (pe_callTy (T := "list")  (call_listD rfl) (by rfl) T.z_list (by decide +kernel) (pa_cons (pv 1) pa_nil)))
  (pss_cons (ps_set (i := 6) sc__law_services.nd rfl (.inl rfl) (pe_call G31 (hr.mono (by decide)) (by rfl) T.g31 T.F31.kp T.b31 .nil pass0 (pa_cons (pv 0) (pa_cons (pe_op op_add (pe_callB (id := "len")  call_len_seq (by rfl) T.z_len (by decide +kernel) (pa_cons (pv 5) pa_nil)) (pv 4)) pa_nil))))
  (pss_cons (ps_set (i := 7) sc__law_services.nd rfl (.inl rfl) pe_dnewK)
  (pss_cons (ps_set (i := 8) sc__law_services.nd rfl (.inl rfl) (pe_lst pa_nil))
  (pss_cons (ps_for PassesOwn.never rfl (pi_range1 (by rfl) T.z_range (pa_cons (pe_callB (id := "len")  call_len_seq (by rfl) T.z_len (by decide +kernel) (pa_cons (pv 6) pa_nil)) pa_nil)) (pg_name (i := 9) sc__law_services.nd rfl (.inl rfl))
    (pss_cons (ps_set (i := 10) sc__law_services.nd rfl (.inl rfl) (pe_ix ix_list (pv 5) (pe_op op_mod (pv 9) (pe_callB (id := "len")  call_len_seq (by rfl) T.z_len (by decide +kernel) (pa_cons (pv 5) pa_nil))) (fun _ _ => rfl)))
      (pss_cons (ps_set (i := 11) sc__law_services.nd rfl (.inl rfl) (pe_ix ix_list (pv 3) (pe_call G29 (hr.mono (by decide)) (by rfl) T.g29 T.F29.kp T.b29 .nil pass0 (pa_cons (pv 0) (pa_cons (pe_callB (id := "len")  call_len_seq (by rfl) T.z_len (by decide +kernel) (pa_cons (pv 3) pa_nil)) pa_nil))) (fun _ _ => rfl)))
      (pss_cons (ps_set (i := 12) sc__law_services.nd rfl (.inl rfl) (pe_tup (pa_cons (pv 10) (pa_cons (pe_call G32 (hr.mono (by decide)) (by rfl) T.g32 T.F32.kp T.b32 .nil pass0 (pa_cons (pv 0) (pa_cons (pe_dget (hu_of hr) (pv 1) (pv 10) (fun _ _ => rfl)) (pa_cons pe_int (pa_cons pe_int pa_nil))))) (pa_cons (pv 11) pa_nil)))))
      (Evl.pss_cut (ps_if (pt_not (pt_val (pe_call G35 (hr.mono (by decide)) (by rfl) T.g35 T.F35.kp T.b35 .nil pass0 (pa_cons (pv 1) (pa_cons (pv 2) (pa_cons (pv 12) pa_nil))))))
        (pss_one (ps_if (pt_cmpR op_in_seq (pv 10) (pv 8) (by rfl))
            (pss_one (ps_set (i := 12) sc__law_services.nd rfl (.inl rfl) (pe_tup (pa_cons (pv 10) (pa_cons (pe_ix ix_tup (pv 12) pe_int (fun _ _ => rfl)) (pa_cons pe_non pa_nil))))))
            (pss_one (ps_expr (pe_bm PySem.F.plainAttrs_list PySem.F.slot_list_append PySem.F.type_list_append mt_append (pv 8) (pa_cons (pv 10) pa_nil))))))
        pss_nil)
      (pss_one (ps_dput (hu_of hr) (pv 7) (pe_ix ix_list (pv 6) (pv 9) (fun _ _ => rfl)) (pv 12) rfl)))))))
  (pss_one (ps_ret (pv 7)))))))), ?_⟩
    have e0 : (tabK ts).map (fun kv => kV kv.1) = (ts.map (·.1)).map V.str := by
      unfold tabK
      rw [List.map_map, List.map_map]
      rfl
    have lts : ((ts.map (·.1)).map V.str).length = m := by rw [List.length_map, hT.nm.len]
    refine ⟨_, rfl, t, tabK ts, rfl, .inl ht, fun l1 hl1 => ?_⟩
    rw [e0]
    have n1 : l1 ≠ p := Chg.ne hP hl1
    have C1 : Chg p H (upd H l1 (.lst ((ts.map (·.1)).map V.str))) := (Chg.refl hP).new hl1
    -- the names
    refine ⟨_, rfl, _, rfl, _, _, rfl, .inl (.of upd_same), _, rfl, _, _, rfl, rfl, p, m + more, ?_, C1.1, hm2, fun l2 ns H2 hl2 h2 hn C2 => ?_⟩
    · rw [lts]
      rfl
    have C02 := C1.trans C2
    have h1 := C2.at n1 upd_same
    have n2 : l2 ≠ p := fun e => by
      obtain ⟨p0, p1, p2, p3, r, e', c⟩ := C1.1
      rw [e, e'] at hl2
      cases hl2
    have nca : ca ≠ l1 := ne_of_none hca hl1
    have hca1 : upd H l1 (.lst ((ts.map (·.1)).map V.str)) ca = some (.lst (cps.map capV)) := C1.at ncp hca
    intro sv hsv
    have nsv : sv ≠ p := Chg.ne C2.1 hsv
    have C3 := C02.new (o := .dK []) hsv
    refine ⟨Nat.zero_le _, fun f hf => ?_⟩
    have nf : f ≠ p := Chg.ne C3.1 hf
    have C4 := C3.new (o := .lst []) hf
    have h14 : ∀ {b : Addr} {o : HO}, H2 b = some o → upd (upd H2 sv (.dK [])) f (.lst []) b = some o := fun e => (same_upd hf) _ _ ((same_upd hsv) _ _ e)
    have d4 : ∀ {b : Addr} {kvs : List (Key × V)}, H b = some (.dK kvs) → upd (upd H2 sv (.dK [])) f (.lst []) b = some (.dK kvs) := fun e => C4.at (pool_ne hP e (by intro _ z; cases z)) e
    have N : SvNe p t k ca l1 l2 sv f H := ⟨free_of C02 hP hsv, free_of C3 hP hf, nsv, nf, ncp, n1, n2, ne_of_none ((same_upd hsv) _ _ h1) hf, ne_of_none ((same_upd hsv) _ _ h2) hf, ne_of_none (C3.at ncp hca) hf⟩
    have M0 : SvMade p t k ca l1 l2 sv f ts ks cps ns H (upd (upd H2 sv (.dK [])) f (.lst [])) [] [] :=
      ⟨C4, (by rw [upd_ne (ne_of_none upd_same hf)]; exact upd_same), upd_same, h14 h1, h14 h2, d4 ht, d4 hk, C4.at ncp hca, hK.mono (chg_tup hP C4), fun b hb => by cases hb⟩
    have lns : ((ns.map V.str).length : Int) = ((m + more : Nat) : Int) := by rw [List.length_map, hn.len]
    refine ⟨_, rfl, _, _, rfl, .inl (.of M0.nam), _, rfl, by omega, by omega, ?_⟩
    rw [lns, Int.toNat_natCast]
    refine for_range (lo := 0) (n := m + more) (fun i σ H' => ∃ (ss : List SvE) (y9 y10 y11 y12 : Option V), σ = [some (.ref p), some (.ref t), some (.ref k), some (.ref ca), some (.int more), some (.ref l1), some (.ref l2), some (.ref sv), some (.ref f), y9, y10, y11, y12] ∧ SvMade p t k ca l1 l2 sv f ts ks cps ns H H' ss (fillE ts ks ss) ∧ ss.map (·.name) = ns.take i ∧ (fillE ts ks ss).Nodup)
      ⟨[], none, none, none, none, rfl, M0, rfl, List.nodup_nil⟩ (fun i σ H' hi hp => ?_) (fun σ H' hp => ?_)
    · obtain ⟨ss, y9, y10, y11, y12, rfl, M, hnm, hone⟩ := hp
      have hss : ss.length ≤ 26 := by
        have e := congrArg List.length hnm
        rw [List.length_map, List.length_take] at e
        have := hn.len
        omega
      have hfl : (fillE ts ks ss).length ≤ 26 := by
        unfold fillE
        rw [List.length_map]
        exact Nat.le_trans (List.length_filter_le _ _) hss
      -- table
      have hj : i % m < ts.length := by
        rw [hT.len]
        exact Nat.mod_lt _ (by omega)
      have hat : (ts.map (·.1))[i % m]? = some ts[i % m].1 := by rw [List.getElem?_map, List.getElem?_eq_getElem hj]; rfl
      generalize hb : ts[i % m] = b at hat
      obtain ⟨n, w⟩ := b
      have hmem : (n, w) ∈ ts := by
        rw [← hb]
        exact List.getElem_mem hj
      have hw := hT.wd _ hmem
      have hwa := widthAt_mem hT.nm.nd hmem
      refine ⟨_, rfl, _, rfl, _, rfl, _, _, rfl, .inl (.of M.ord), _, _, rfl, rfl, ?_, _, _, _, .str n, rfl, rfl, .of M.ord, at_g (j := i % m) ?_ (by rw [List.getElem?_map, hat]; rfl), ?_⟩
      · rw [lts]
        omega
      · rw [lts, Int.zero_add]
        exact (Int.natCast_emod i m).symm
      -- cap
      refine ⟨_, rfl, _, rfl, _, rfl, _, _, rfl, .inl (.of M.caps), p, _, rfl, M.chg.1, ?_, ?_, fun r H5 r0 r1 C5 => ?_⟩
      · rw [List.length_map]
        omega
      · rw [List.length_map]
        exact Nat.lt_of_le_of_lt (by omega : _ ≤ 100) (by decide)
      have M5 := M.go N C5
      obtain ⟨v, hv⟩ := at_some (xs := cps.map capV) r0 r1
      obtain ⟨cap, hcp, rfl⟩ := List.mem_map.mp (atI_mem hv)
      refine ⟨_, _, r, _, rfl, rfl, .of M5.caps, hv, ?_⟩
      -- told
      refine ⟨_, rfl, _, rfl, _, rfl, _, rfl, t, _, rfl, tab_at M5.tabs hT.nm.nd hmem, p, w, 0, 4, rfl, M5.chg.1, hw.1, hw.2, by decide, fun c cs H6 c0 c1 c2 c3 c4 C6 => ⟨_, rfl, by show 3 ≤ sizeLine; decide, fun v hv => ?_⟩⟩
      have M6 := (M5.go N C6).same N (same_upd (o := .tup [.str n, .ref c, capV cap]) hv)
      have told : Told (upd H6 v (.tup [.str n, .ref c, capV cap])) v n c cs cap := ⟨upd_same, same_upd hv _ _ c1⟩
      have hcapok : ∀ z, cap = some z → 1 ≤ z ∧ z ≤ 4 := fun z e => hcap z (e ▸ hcp)
      refine ⟨fun σ H' => ∃ (v : Addr) (cap capY : Option Int) (fl : List Str), σ = [some (.ref p), some (.ref t), some (.ref k), some (.ref ca), some (.int more), some (.ref l1), some (.ref l2), some (.ref sv), some (.ref f), some (.int ((0 : Int) + (i : Int))), some (.str n), some (capV capY), some (.ref v)] ∧ SvMade p t k ca l1 l2 sv f ts ks cps ns H H' ss fl ∧ Told H' v n c cs cap ∧ (∀ z, cap = some z → 1 ≤ z ∧ z ≤ 4) ∧ fl = fillE ts ks ss ++ (if isWh w ks n cs cap = true then [] else [n]) ∧ fl.Nodup, ?_, ?_⟩
      · refine ⟨_, rfl, _, rfl, _, rfl, t, k, v, c, m, ts, ks, n, w, cs, cap, rfl, .of M6.tabs, .of M6.keys, hT, M6.kok, told, hmem, by omega, fun H7 s7 => ⟨_, rfl, ?_⟩⟩
        have M7 := M6.same N s7
        have told7 := told.mono fun _ _ e => s7 _ _ e
        cases e : isWh w ks n cs cap with
        | true => exact ⟨v, cap, _, _, rfl, M7, told7, hcapok, by rw [e, if_pos rfl, List.append_nil], hone⟩
        | false =>
          refine ⟨_, rfl, _, rfl, f, _, rfl, .inl (.of M7.fil), rfl, flat_strs _, _, rfl, ?_⟩
          show if inV (.str n) ((fillE ts ks ss).map V.str) = true then _ else _
          rw [inV_strs]
          refine ite_d (fun h => ?_) (fun h => ?_)
          · refine ⟨_, rfl, _, rfl, _, _, _, _, rfl, rfl, .of told7.tup, atI_nat (j := 1) rfl, by show 3 ≤ sizeLine; decide, fun v2 hv2 => ?_⟩
            have s8 := same_upd (o := .tup [.str n, .ref c, .non]) hv2
            exact ⟨v2, none, _, _, rfl, M7.same N s8, ⟨upd_same, s8 _ _ told7.cols⟩, (fun z e => by cases e), by rw [show isWh w ks n cs none = true from rfl, if_pos rfl, List.append_nil], hone⟩
          · refine ⟨_, rfl, .inl ⟨rfl, _, .of M7.fil⟩, _, rfl, f, _, _, rfl, rfl, M7.fil, ?_, ?_⟩
            · rw [List.length_map]
              exact Nat.lt_of_le_of_lt hfl (by decide)
            · have M8 := M7.fill N (gl := fillE ts ks ss ++ [n])
              rw [List.map_append] at M8
              exact ⟨v, cap, _, _, rfl, M8, told7.mono (upd_tup M7.fil (by intro _ z; cases z)), hcapok, by rw [e, if_neg (by decide)], List.nodup_append.mpr ⟨hone, List.nodup_cons.mpr ⟨(fun z => by cases z), List.nodup_nil⟩, fun x hx y hy => fun z => h (by rw [← List.mem_singleton.mp hy, ← z]; exact hx)⟩⟩
      · rintro σ H8 ⟨v, cap, capY, fl, rfl, M8, told, hcapok, hfe, hnd⟩
        have hin : i < ns.length := by rw [hn.len]; exact hi
        refine ⟨_, rfl, _, rfl, _, rfl, _, rfl, _, _, _, .str ns[i], rfl, rfl, .of M8.nam, at_g (j := i) (by omega) (by rw [List.getElem?_map, List.getElem?_eq_getElem hin]; rfl), sv, _, rfl, DPut.k (k := Sum.inr ns[i]) M8.sv ?_, ss ++ [⟨ns[i], v, n, c, cs, cap⟩], _, _, _, _, rfl, ?_, ?_, ?_⟩
        · unfold svK
          rw [List.length_map]
          exact Nat.lt_of_le_of_lt hss (by decide)
        · have e : putK (svK ss) (Sum.inr ns[i]) (V.ref v) = svK (ss ++ [⟨ns[i], v, n, c, cs, cap⟩]) := by
            rw [putK_new _ (valV_no ?_)]
            · unfold svK
              rw [snoc_map]
            · rw [keys_sv, hnm]
              exact inr_no (nd_take hn.nd (List.getElem?_eq_getElem hin))
          rw [e]
          have hf2 : fillE ts ks (ss ++ [⟨ns[i], v, n, c, cs, cap⟩]) = fl := by
            rw [fillE_snoc, hfe]
            unfold whE
            rw [hwa]
          rw [hf2]
          exact M8.put N (by rw [ht]; intro z; cases z) (by rw [hk]; intro z; cases z) ⟨told, ⟨w, hmem, c2, c3⟩, hcapok⟩
        · rw [snoc_map, hnm, List.take_add_one, List.getElem?_eq_getElem hin]
          rfl
        · have hf2 : fillE ts ks (ss ++ [⟨ns[i], v, n, c, cs, cap⟩]) = fl := by
            rw [fillE_snoc, hfe]
            unfold whE
            rw [hwa]
          rw [hf2]
          exact hnd
    · obtain ⟨ss, y9, y10, y11, y12, rfl, M, hnm, hone⟩ := hp
      rw [← hn.len, List.take_length] at hnm
      exact ⟨_, rfl, q sv ss H' N.s0 M.sv ⟨by rw [hnm]; exact hn, M.ok, hone⟩ M.chg⟩
end
theorem lc_str {x : Str} {g : TG} {tt : TT} {te : TE} {vs : List Nat} {σ : L2.St} {H1 : Hp} {D : Addr} {Qd : Hp → Prop} (Pv : Nat → Hp → Prop) (h0 : Pv 0 (upd H1 D (.lst [])))
    (hs : ∀ i c H, x.cps[i]? = some c → Pv i H → g (.str ⟨#[c]⟩) (wipe σ vs) H fun σ2 H2 => wipe σ2 vs = wipe σ vs ∧ tt σ2 H2 fun b H3 =>
      if b = true then te σ2 H3 fun y H4 => ∃ acc, H4 D = some (.lst acc) ∧ acc.length < sizeLine ∧ Pv (i + 1) (upd H4 D (.lst (acc ++ [y]))) else Pv (i + 1) H3) (hd : ∀ H, Pv x.cps.size H → Qd H) :
    ∃ W : Nat → Nat → Hp → Prop, (∃ m, W 0 m (upd H1 D (.lst []))) ∧ ∀ i m H, W i m H →
      ((Its x).stop i H ∧ Qd H) ∨ ((Its x).go i H ∧ ∃ Nx : Hp → Prop, (∀ H', Nx H' → ∃ m', m' < m ∧ W (i + 1) m' H') ∧ ∀ v H', (Its x).yld i H v H' → g v (wipe σ vs) H' fun σ2 H2 => wipe σ2 vs = wipe σ vs ∧ tt σ2 H2 fun b H3 =>
        if b = true then te σ2 H3 fun y H4 => ∃ acc, H4 D = some (.lst acc) ∧ acc.length < sizeLine ∧ Nx (upd H4 D (.lst (acc ++ [y]))) else Nx H3) := by
  refine ⟨fun i m H => m = x.cps.size - i ∧ i ≤ x.cps.size ∧ Pv i H, ⟨x.cps.size, by simp, Nat.zero_le _, h0⟩, ?_⟩
  rintro i m H ⟨rfl, hi, p⟩
  by_cases hlt : i < x.cps.size
  · refine .inr ⟨hlt, Pv (i + 1), fun H' p' => ⟨x.cps.size - (i + 1), by omega, rfl, hlt, p'⟩, fun v H' y => ?_⟩
    obtain ⟨e, c, hc, ev⟩ := y
    subst e
    subst ev
    exact hs i c _ hc p
  · have e : i = x.cps.size := by omega
    subst e
    exact .inl ⟨Nat.le_refl _, hd H p⟩
/-! ### words and values -/
def okC (c : Nat) : Bool := decide (97 ≤ c ∧ c ≤ 122)
def wordB (s : Str) : Bool := decide (1 ≤ s.length ∧ s.length ≤ 8) && s.cps.toList.all okC
def wordV : V → Bool
  | .str s => wordB s
  | _ => false
def valV' : V → Bool
  | .int i => decide (-999999999999999999999999999999 ≤ i ∧ i ≤ 999999999999999999999999999999)
  | .str s => wordB s
  | _ => false
inductive Thg (H : Hp) : V → Prop
  | int (i : Int) : Thg H (.int i)
  | bl (b : Bool) : Thg H (.bl b)
  | non : Thg H .non
  | str (s : Str) (h : s.length ≤ 1000) (hc : ∀ c ∈ s.cps.toList, c < 128) : Thg H (.str s)
  | lst {a : Addr} {xs : List V} (e : H a = some (.lst xs)) : Thg H (.ref a)
  | tup {a : Addr} {xs : List V} (e : H a = some (.tup xs)) : Thg H (.ref a)
theorem Thg.same {H H' : Hp} {v : V} (h : Thg H v) (s : Same H H') : Thg H' v := by
  cases h with
  | int i => exact .int i
  | bl b => exact .bl b
  | non => exact .non
  | str s h hc => exact .str s h hc
  | lst e => exact .lst (s _ _ e)
  | tup e => exact .tup (s _ _ e)
def tyInt : V → Bool
  | .int _ => true
  | .bl _ => true
  | _ => false
def tyBool : V → Bool
  | .bl _ => true
  | _ => false
def plainV (v : V) : Bool := tyInt v && !tyBool v
def tyStr : V → Bool
  | .str _ => true
  | _ => false
section
variable {K : PySem.W.Frag} {H : Hp} {v : V} {Q : VK}
theorem Thg.ty (h : Thg H v) : ∃ n, TyX K H v (.type n) ∧ kitB n "int" = some (tyInt v) ∧ kitB n "bool" = some (tyBool v) ∧ kitB n "str" = some (tyStr v) := by
  cases h with
  | int i => exact ⟨_, .base (.int _), show kitB "int" "int" = some true by decide +kernel, show kitB "int" "bool" = some false by decide +kernel, show kitB "int" "str" = some false by decide +kernel⟩
  | bl b => exact ⟨_, .base (.bl _), show kitB "bool" "int" = some true by decide +kernel, show kitB "bool" "bool" = some true by decide +kernel, show kitB "bool" "str" = some false by decide +kernel⟩
  | non => exact ⟨_, .base .non, show kitB "NoneType" "int" = some false by decide +kernel, show kitB "NoneType" "bool" = some false by decide +kernel, show kitB "NoneType" "str" = some false by decide +kernel⟩
  | str s => exact ⟨_, .base (.str _), show kitB "str" "int" = some false by decide +kernel, show kitB "str" "bool" = some false by decide +kernel, show kitB "str" "str" = some true by decide +kernel⟩
  | lst e => exact ⟨_, .base (.lst e), show kitB "list" "int" = some false by decide +kernel, show kitB "list" "bool" = some false by decide +kernel, show kitB "list" "str" = some false by decide +kernel⟩
  | tup e => exact ⟨_, .base (.tup e), show kitB "tuple" "int" = some false by decide +kernel, show kitB "tuple" "bool" = some false by decide +kernel, show kitB "tuple" "str" = some false by decide +kernel⟩
end
def spB (f : V → Bool) : Sp := fun vs H Q _ => ∃ v : V, vs = [v] ∧ Thg H v ∧ ∀ H', Same H H' → Q (.bl (f v)) H'
theorem sgn_le {c : Nat} : ((!decide (([c] : List Nat) < [97])) && (!decide (([122] : List Nat) < [c]))) = okC c := by
  have h1 : (([c] : List Nat) < [97]) ↔ c < 97 := by rw [List.cons_lt_cons_iff]; simp
  have h2 : (([122] : List Nat) < [c]) ↔ 122 < c := by rw [List.cons_lt_cons_iff]; simp
  unfold okC
  simp only [h1, h2]
  by_cases a : c < 97 <;> by_cases b : 122 < c <;> simp [a, b] <;> omega
theorem sgn_in : ∀ {c : Nat}, decide (c ∈ ("abcdefghijklmnopqrstuvwxyz" : Str).cps.toList) = okC c := by
  intro c
  by_cases h : c < 128
  · exact (show ∀ c : Nat, c < 128 → decide (c ∈ ("abcdefghijklmnopqrstuvwxyz" : Str).cps.toList) = okC c by decide +kernel) c h
  · have e1 : okC c = false := by
      unfold okC
      exact decide_eq_false (by omega)
    rw [e1]
    refine decide_eq_false fun hm => ?_
    have := (show ∀ c ∈ ("abcdefghijklmnopqrstuvwxyz" : Str).cps.toList, c < 128 by decide +kernel) c hm
    omega
section
variable {P : Program} {w : World} {K : PySem.W.Frag} {mg : Str → Option Value} {base : Heap} {a : Nat → Addr} {d : Nat → FuncData}
theorem ok_plain (T : Txt K mg a d) : FnOk P w K mg base CX0 1 (a 7) (d 7) ["thing"] (spB plainV) := by
  refine T.F7.ok sc_is_plain_int (fun vs H Q E h => ?_) (fun cdv A outer s H vs Q E hr h => ?_)
  · obtain ⟨v, rfl, _⟩ := h
    rfl
  · obtain ⟨v, rfl, hv, q⟩ := h
    refine ⟨_, (pss_one (ps_ret (pe_and (pe_callB (id := "isinstance")  call_isi (by rfl) T.z_isinstance (by decide +kernel) (pa_cons (pv 0) (pa_cons (pe_bltn (v := .ty "int") (by rfl) T.z_int (by decide +kernel) rfl) pa_nil))) (pe_one (pe_not (pe_callB (id := "isinstance")  call_isi (by rfl) T.z_isinstance (by decide +kernel) (pa_cons (pv 0) (pa_cons (pe_bltn (v := .ty "bool") (by rfl) T.z_bool (by decide +kernel) rfl) pa_nil)))))))), ?_⟩
    obtain ⟨n, ht, k1, k2, k3⟩ := hv.ty (K := K)
    refine ⟨_, rfl, _, _, _, _, _, rfl, .ty _, ht, kit_ty k1, _, rfl, ?_⟩
    have q : Q (.bl (tyInt v && !tyBool v)) H := q H (Same.refl H)
    refine ite2 (fun e => ?_) (fun e => ?_)
    · rw [e] at q
      exact ⟨_, rfl, _, _, _, _, _, rfl, .ty _, ht, kit_ty k2, _, rfl, q⟩
    · rw [Bool.eq_false_iff.mpr e] at q
      exact q
theorem ok_is_word (T : Txt K mg a d) : FnOk P w K mg base CX0 1 (a 8) (d 8) ["thing"] (spB wordV) := by
  refine T.F8.ok sc_is_word (fun vs H Q E h => ?_) (fun cdv A outer s H vs Q E hr h => ?_)
  · obtain ⟨v, rfl, _⟩ := h
    rfl
  · obtain ⟨v, rfl, hv, q⟩ := h
    obtain ⟨t8, h_LONGEST_WORD⟩ := T.c_LONGEST_WORD
    refine ⟨_, (pss_cons (ps_if (PW.pt (pw_or (pt_not (pt_val (pe_callB (id := "isinstance")  call_isi (by rfl) T.z_isinstance (by decide +kernel) (pa_cons (pv 0) (pa_cons (pe_bltn (v := .ty "str") (by rfl) T.z_str (by decide +kernel) rfl) pa_nil))))) (pw_or1 (pt_not (pt_chain op_le op_le pe_int (pe_callB (id := "len")  call_len_str (by rfl) T.z_len (by decide +kernel) (pa_cons (pv 0) pa_nil)) (pe_glob (v := .int (8)) rfl h_LONGEST_WORD ⟨_, rfl⟩))))))
    (pss_one (ps_ret pe_bl))
    pss_nil)
  (pss_one (ps_ret (pe_callB (id := "all")  (cr_all rfl) (by rfl) T.z_all (by decide +kernel) (pa_cons (pe_lc (own := [("letter", 1)]) rfl sc_is_word.nd (pi_str (pv 0)) (blkOk_by (N := ["thing", "letter"]) (sc := defScope s_is_word) (by decide +kernel)) (fun _ _ _ _ _ => pg_name (i := 1) sc_is_word.nd rfl (.inl rfl)) (fun _ _ _ _ _ => pts_nil) (fun _ _ _ _ _ => (pe_chain op_le_str op_le_str pe_str (pv 1) pe_str))) pa_nil))))), ?_⟩
    obtain ⟨n, ht, k1, k2, k3⟩ := hv.ty (K := K)
    refine ⟨_, rfl, _, _, _, _, _, rfl, .ty _, ht, kit_ty k3, _, rfl, ?_⟩
    cases hv with
    | int i => exact q H (Same.refl H)
    | bl i => exact q H (Same.refl H)
    | non => exact q H (Same.refl H)
    | lst e => exact q H (Same.refl H)
    | tup e => exact q H (Same.refl H)
    | str s hl hc =>
      have q : ∀ H', Same H H' → Q (.bl (decide (1 ≤ s.length ∧ s.length ≤ 8) && s.cps.toList.all okC)) H' := q
      refine ⟨_, rfl, _, rfl, small1000' hl, _, _, rfl, rfl, _, rfl, ?_⟩
      refine ite_d (fun h1 => ?_) (fun h1 => ?_)
      · refine ⟨_, _, rfl, rfl, _, rfl, ?_⟩
        refine ite_nd (fun h2 => ?_) (fun h2 => ?_)
        · have e : decide (1 ≤ s.length ∧ s.length ≤ 8) = false := decide_eq_false (by omega)
          rw [e] at q
          exact q H (Same.refl H)
        · have e : decide (1 ≤ s.length ∧ s.length ≤ 8) = true := decide_eq_true (by omega)
          rw [e] at q
          refine ⟨_, rfl, _, rfl, fun D hD => ?_⟩
          refine lc_str (fun i H' => H' D = some (.lst (((s.cps.toList.take i).map okC).map V.bl)) ∧ Same H H') ⟨upd_same, same_upd hD⟩ (fun i c H' hx hp => ?_) (fun H' hp => ?_)
          · have hx' : s.cps.toList[i]? = some c := by rw [Array.getElem?_toList]; exact hx
            have hsz : (((s.cps.toList.take i).map okC).map V.bl).length < sizeLine := by
              rw [List.length_map, List.length_map, List.length_take]
              have : s.cps.toList.length = s.length := Array.length_toList
              exact small1000 (by omega)
            have step : ∀ b, b = okC c → ∀ H3, H3 = H' → (upd H3 D (.lst (((s.cps.toList.take i).map okC).map V.bl ++ [.bl b]))) D = some (.lst (((s.cps.toList.take (i + 1)).map okC).map V.bl)) ∧ Same H (upd H3 D (.lst (((s.cps.toList.take i).map okC).map V.bl ++ [.bl b]))) := fun b eb H3 e3 => by
              subst e3
              refine ⟨?_, fun x o ex => ?_⟩
              · rw [map_take hx', List.map_append, ← eb]
                exact upd_same
              · rw [upd_ne (ne_of_none ex hD)]
                exact hp.2 x o ex
            have e0 : ("a" : Str).cps.toList = [97] := by decide +kernel
            have e9 : ("z" : Str).cps.toList = [122] := by decide +kernel
            have eo := sgn_le (c := c)
            refine ⟨rfl, ?_⟩
            refine ⟨_, rfl, _, _, rfl, rfl, _, rfl, ?_⟩
            refine ite_nd (fun h3 => ?_) (fun h3 => ?_)
            · rw [e0] at h3
              have h3' : ¬ ([c] : List Nat) < [97] := h3
              rw [decide_eq_false h3'] at eo
              refine ⟨_, _, rfl, rfl, _, hp.1, hsz, step _ ?_ _ rfl⟩
              rw [e9]
              exact eo
            · rw [e0] at h3
              have h3' : ([c] : List Nat) < [97] := h3
              rw [decide_eq_true h3'] at eo
              exact ⟨_, hp.1, hsz, step _ eo _ rfl⟩
          · obtain ⟨h3, h4⟩ := hp
            have et : s.cps.toList.take s.cps.size = s.cps.toList := List.take_of_length_le (Nat.le_of_eq Array.length_toList)
            rw [et] at h3
            refine ⟨D, _, rfl, .of h3, ?_⟩
            have ea : ((s.cps.toList.map okC).all id) = s.cps.toList.all okC := by rw [List.all_map]; rfl
            rw [ea]
            exact q H' h4
      · have e : decide (1 ≤ s.length ∧ s.length ≤ 8) = false := decide_eq_false (by omega)
        rw [e] at q
        exact ⟨_, rfl, q H (Same.refl H)⟩
end
theorem nd_sub {α : Type} [DecidableEq α] : ∀ {xs ys : List α}, xs.Nodup → (∀ x ∈ xs, x ∈ ys) → xs.length ≤ ys.length ∧ (ys.length ≤ xs.length → ∀ y ∈ ys, y ∈ xs)
  | [], ys, _, _ => ⟨Nat.zero_le _, fun h y hy => by
    have : ys = [] := List.length_eq_zero_iff.mp (Nat.le_zero.mp h)
    rw [this] at hy
    exact hy⟩
  | x :: xs, ys, nd, sub => by
    obtain ⟨n1, n2⟩ := List.nodup_cons.mp nd
    have hx := sub x List.mem_cons_self
    have hl := List.length_erase_of_mem hx
    have hpos : 0 < ys.length := List.length_pos_of_mem hx
    have ih := nd_sub (ys := ys.erase x) n2 fun z hz => (List.mem_erase_of_ne (fun e => n1 (by rw [← e]; exact hz))).mpr (sub z (List.mem_cons_of_mem _ hz))
    refine ⟨by rw [List.length_cons]; omega, fun h y hy => ?_⟩
    rw [List.length_cons] at h
    by_cases e : y = x
    · rw [e]
      exact List.mem_cons_self
    · exact List.mem_cons_of_mem _ (ih.2 (by omega) y ((List.mem_erase_of_ne e).mpr hy))
theorem same_mut {H H1 : Hp} {D : Addr} {o : HO} (s : Same H H1) (h : H D = none) : Same H (upd H1 D o) := fun b u e => by
  rw [upd_ne (ne_of_none e h)]
  exact s b u e
theorem sv_nd {H : Hp} {ts : List (Str × Int)} {ks : List KeyE} {ss : List SvE} {n : Nat} (h : Svcs H ts ks ss n) : ((svK ss).map (·.1)).Nodup := by
  rw [keys_sv]
  exact inr_nd h.nm.nd
theorem Tabs.up {ts : List (Str × Int)} {m : Nat} {w v : Int} (h : Tabs ts m w) (hv : w ≤ v) : Tabs ts m v := ⟨h.nm, fun p hp => ⟨(h.wd p hp).1, Int.le_trans (h.wd p hp).2 hv⟩⟩
theorem wd_b {s : Str} (h : Wd s) : wordB s = true := by
  unfold wordB
  rw [decide_eq_true (show 1 ≤ s.length ∧ s.length ≤ 8 from ⟨h.1, h.2.1⟩), Bool.true_and, List.all_eq_true]
  intro c hc
  unfold okC
  exact decide_eq_true (h.2.2 c hc)
theorem wd_thg {H : Hp} {s : Str} (h : Wd s) : Thg H (.str s) := .str s (by have := h.2.1; omega) fun c hc => by have := (h.2.2 c hc).2; omega
theorem capV_none' {cap : Option Int} (h : cap.isNone = true) : capV cap = .non := by
  cases cap with
  | none => rfl
  | some c => cases h
theorem all_bls (bs : List Bool) : (bs.all id) = bs.all fun b => b := rfl
def spIsWh : Sp := fun vs H Q _ => ∃ (v t k ga : Addr) (n : Str) (cs : List Int) (cap : Option Int) (w : Int) (ts : List (Str × Int)) (ks : List KeyE) (m : Nat), vs = [.ref v, .ref t, .ref k] ∧ Told H v n ga cs cap ∧ DctAt H t (tabK ts) ∧ DctAt H k (keyK ks) ∧ Tabs ts m 4 ∧ Keys H ts ks ∧ (n, w) ∈ ts ∧ cs.length ≤ 100 ∧
  ∀ H', Same H H' → Q (.bl (isWh w ks n cs cap)) H'
section
variable {P : Program} {w : World} {K : PySem.W.Frag} {mg : Str → Option Value} {base : Heap} {a : Nat → Addr} {d : Nat → FuncData}
theorem ok_is_wh (T : Txt K mg a d) : FnOk P w K mg base CX0 1 (a 19) (d 19) ["service", "tables", "keys"] spIsWh := by
  refine T.F19.ok sc__is_whole_service (fun vs H Q E h => ?_) (fun cdv A outer s H vs Q E hr h => ?_)
  · obtain ⟨v, t, k, ga, n, cs, cap, w, ts, ks, m, rfl, _⟩ := h
    rfl
  · obtain ⟨v, t, k, ga, n, cs, cap, w, ts, ks, m, rfl, hv, ht, hk, hT, hK, hm, hl, q⟩ := h
    have fin : ∀ b : Bool, b = isWh w ks n cs cap → ∀ H', Same H H' → Q (.bl b) H' := fun b e H' s => by
      rw [e]
      exact q H' s
    have g := ht.get (tab_nd hT) (Sum.inr n)
    rw [tab_val hT hm] at g
    have gk := fun (H' : Hp) (s : Same H H') => (hk.same s).get (key_nd hT hK) (Sum.inr n)
    rw [keyAt_val] at gk
    refine ⟨_, (pss_cons (ps_asg (pv 0) (pg_tup rfl (pgs_cons (pg_name (i := 3) sc__is_whole_service.nd rfl (.inl rfl)) (pgs_cons (pg_name (i := 4) sc__is_whole_service.nd rfl (.inr rfl)) (pgs_cons (pg_name (i := 5) sc__is_whole_service.nd rfl (.inl rfl)) pgs_nil)))))
  (pss_cons (ps_if (PW.pt (pw_or (pt_cmpR op_isN (pv 5) pe_non (nomark _)) (pw_or1 (pt_cmpR op_eq (pe_callB (id := "len")  call_len_seq (by rfl) T.z_len (by decide +kernel) (pa_cons (pv 4) pa_nil)) (pe_dget (hu_of hr) (pv 1) (pv 3) (fun _ _ => rfl)) (nomark _)))))
    (pss_one (ps_ret pe_bl))
    pss_nil)
  (pss_one (ps_ret (pe_and (pe_cmp (pc_din (hu_of hr) (pv 3) (pv 2)) rfl) (pe_one (pe_callB (id := "all")  (cr_all rfl) (by rfl) T.z_all (by decide +kernel) (pa_cons (pe_lc (own := [("column", 6)]) rfl sc__is_whole_service.nd (pi_tup (pe_dget (hu_of hr) (pv 2) (pv 3) (fun _ _ => rfl))) (blkOk_by (N := ["service", "tables", "keys", "table", "given", "cap", "column"]) (sc := defScope s__is_whole_service) (by decide +kernel)) (fun _ _ _ _ _ => pg_name (i := 6) sc__is_whole_service.nd rfl (.inl rfl)) (fun _ _ _ _ _ => pts_nil) (fun _ _ _ _ _ => (pe_cmpR (r := rIn K false) op_in_seq (pv 6) (pv 4) (by rfl)))) pa_nil)))))))), ?_⟩
    refine ⟨_, rfl, v, _, rfl, .of hv.tup, rfl, _, _, rfl, _, _, rfl, _, _, rfl, rfl, ?_⟩
    refine ⟨_, rfl, rfl, _, rfl, ?_⟩
    rw [capV_none]
    cases e1 : cap.isNone with
    | true => exact fin true (by unfold isWh; rw [e1]; rfl) H (fun _ _ e => e)
    | false =>
      refine ⟨_, rfl, _, _, rfl, .inr (.of hv.cols), _, rfl, _, rfl, t, _, rfl, g, rfl, _, rfl, ?_⟩
      rw [List.length_map]
      refine ite_eqI (fun e2 => ?_) (fun e2 => ?_)
      · exact fin true (by unfold isWh; rw [e1, decide_eq_true e2]; rfl) H (fun _ _ e => e)
      · refine ⟨_, rfl, _, rfl, k, _, rfl, gk H (Same.refl H), _, rfl, ?_⟩
        cases e3 : keyAt ks n with
        | none => exact fin false (by unfold isWh; rw [e1, decide_eq_false e2, e3]; rfl) H (fun _ _ e => e)
        | some b =>
          rw [e3] at gk
          obtain ⟨bm, bn⟩ := keyAt_mem e3
          have hb := hK.at_ b bm
          obtain ⟨w', hw', hcols', hl1, hl2⟩ := hK.ok b bm
          have hw2 := (hT.wd _ hw').2
          refine ⟨_, rfl, _, rfl, k, _, rfl, gk H (Same.refl H), b.2.1, rfl, ⟨_, .of hb⟩, fun D hD => ?_⟩
          refine lc_tup (K := K) (a := b.2.1) (xs := b.2.2.map V.int) (fun i H' => H' D = some (.lst (((b.2.2.take i).map fun c => decide (c ∈ cs)).map V.bl)) ∧ Same H H') ⟨upd_same, same_upd hD⟩ (fun i H' _ hp => .of (hp.2 _ _ hb)) (fun i x H' hx hp => ?_) (fun H' hp => ?_)
          · obtain ⟨h1, h2⟩ := hp
            obtain ⟨c, hcx, rfl⟩ := map_at hx
            have hi : i < b.2.2.length := (List.getElem?_eq_some_iff.mp hcx).1
            refine ⟨rfl, ?_⟩
            refine ⟨_, rfl, _, rfl, ga, _, rfl, .inr (.of (h2 _ _ hv.cols)), rfl, flat_ints _, _, h1, ?_, ?_, ?_⟩
            · rw [List.length_map, List.length_map, List.length_take]
              exact Nat.lt_of_le_of_lt (by omega : _ ≤ 100) (by decide)
            · rw [map_take hcx, List.map_append]
              refine Eq.trans upd_same ?_
              show some (HO.lst (_ ++ [V.bl (inV (.int c) (cs.map V.int))])) = _
              rw [inV_ints]
              rfl
            · intro x o ex
              rw [upd_ne (ne_of_none ex hD)]
              exact h2 x o ex
          · obtain ⟨h1, h2⟩ := hp
            rw [List.length_map, List.take_length] at h1
            refine ⟨D, _, rfl, .of h1, ?_⟩
            refine fin _ ?_ _ h2
            unfold isWh
            rw [e1, decide_eq_false e2, e3, List.all_map]
            rfl
end
theorem perm_map_ex {α β : Type} {f : α → β} {ys zs : List β} (h : ys.Perm zs) : ∀ xs : List α, zs = xs.map f → ∃ L : List α, L.Perm xs ∧ L.map f = ys := by
  induction h with
  | nil =>
    intro xs e
    cases xs with
    | nil => exact ⟨[], .refl _, rfl⟩
    | cons x xs => cases e
  | cons y p ih =>
    intro xs e
    cases xs with
    | nil => cases e
    | cons x xs =>
      rw [List.map_cons] at e
      injection e with e1 e2
      obtain ⟨L, h1, h2⟩ := ih xs e2
      exact ⟨x :: L, h1.cons x, by rw [List.map_cons, h2, e1]⟩
  | swap y z l =>
    intro xs e
    cases xs with
    | nil => cases e
    | cons x xs =>
      cases xs with
      | nil => cases e
      | cons x' xs =>
        rw [List.map_cons, List.map_cons] at e
        injection e with e1 e2
        injection e2 with e2 e3
        exact ⟨x' :: x :: xs, .swap _ _ _, by rw [List.map_cons, List.map_cons, e1, e2, e3]⟩
  | trans p q ih1 ih2 =>
    intro xs e
    obtain ⟨L, h1, h2⟩ := ih2 xs e
    obtain ⟨M, h3, h4⟩ := ih1 L h2.symm
    exact ⟨M, h3.trans h1, h4⟩
/-- what sorted(d) is asked and gives -/
theorem DctAt.names {α : Type} {H : Hp} {t : Addr} {xs : List α} {g : α → Key × V} {f : α → Str} (h : DctAt H t (xs.map g)) (hg : ∀ x, (g x).1 = Sum.inr (f x)) (hl : xs.length < 64) :
    ∃ ks zs, H t = some (.dK ks) ∧ ks.length = xs.length ∧ ks.map (·.1) = zs.map Sum.inr ∧ zs.length < 64 ∧ zs.Perm (xs.map f) ∧ ∀ ys : List Str, ys.Perm zs → ∃ L : List α, L.Perm xs ∧ L.map f = ys := by
  obtain ⟨ks, e, p⟩ := h
  obtain ⟨L, h1, h2⟩ := perm_map_ex p xs rfl
  refine ⟨ks, L.map f, e, ?_, ?_, ?_, h1.map f, fun ys hy => ?_⟩
  · rw [← h2, List.length_map, h1.length_eq]
  · rw [← h2, List.map_map, List.map_map]
    exact List.map_congr_left fun x _ => hg x
  · rw [List.length_map, h1.length_eq]
    exact hl
  · obtain ⟨M, h3, h4⟩ := perm_map_ex hy L rfl
    exact ⟨M, h3.trans h1, h4⟩
theorem key_val {H : Hp} {ts : List (Str × Int)} {ks : List KeyE} {m : Nat} {wm : Int} (hT : Tabs ts m wm) (h : Keys H ts ks) {b : KeyE} (hb : b ∈ ks) : valV (keyK ks) (Sum.inr b.1) = some (.ref b.2.1) :=
  val_nodup (kvs := keyK ks) (key_nd hT h) (Sum.inr b.1, V.ref b.2.1) (List.mem_map.mpr ⟨b, hb, rfl⟩)
theorem sv_val {H : Hp} {ts : List (Str × Int)} {ks : List KeyE} {ss : List SvE} {n : Nat} (h : Svcs H ts ks ss n) {b : SvE} (hb : b ∈ ss) : valV (svK ss) (Sum.inr b.name) = some (.ref b.at_) :=
  val_nodup (kvs := svK ss) (sv_nd h) (Sum.inr b.name, V.ref b.at_) (List.mem_map.mpr ⟨b, hb, rfl⟩)
theorem fillE_perm {ts : List (Str × Int)} {ks : List KeyE} {a b : List SvE} (p : a.Perm b) : (fillE ts ks a).Perm (fillE ts ks b) := (p.filter _).map _
theorem fillE_take {ts : List (Str × Int)} {ks : List KeyE} (L : List SvE) (i : Nat) : (fillE ts ks (L.take i)).Sublist (fillE ts ks L) := ((List.take_sublist i L).filter _).map _
theorem rising_pw : ∀ (l : List Str) (p : Str), PyProof.Rows.risingS p l = true → (p :: l).Pairwise fun a b => a.cps.toList ≤ b.cps.toList
  | [], p, _ => List.pairwise_singleton _ _
  | x :: r, p, h => by
    have h' : (!PySem.Spec.ltCps x.cps.toList p.cps.toList && PyProof.Rows.risingS x r) = true := h
    rw [Bool.and_eq_true] at h'
    obtain ⟨h1, h2⟩ := h'
    have ih := rising_pw r x h2
    have hpx : p.cps.toList ≤ x.cps.toList := by
      rw [PyProof.Rows.ltCps_eq] at h1
      have h3 : ¬ x.cps.toList < p.cps.toList := by simpa using h1
      exact h3
    refine List.pairwise_cons.mpr ⟨fun y hy => ?_, ih⟩
    rcases List.mem_cons.mp hy with rfl | hy
    · exact hpx
    · exact List.le_trans hpx ((List.pairwise_cons.mp ih).1 y hy)
theorem sorted_pw {l : List Str} (h : PyProof.Rows.sortedS l = true) : l.Pairwise fun a b => a.cps.toList ≤ b.cps.toList := by
  cases l with
  | nil => exact .nil
  | cons x r => exact rising_pw r x h
theorem sorted_uniq {a b : List Str} (p : a.Perm b) (ha : PyProof.Rows.sortedS a = true) (hb : PyProof.Rows.sortedS b = true) : a = b := by
  refine List.Perm.eq_of_pairwise (le := fun a b : Str => a.cps.toList ≤ b.cps.toList) (fun x y _ _ h1 h2 => ?_) (sorted_pw ha) (sorted_pw hb) p
  have e := List.le_antisymm h1 h2
  cases x
  cases y
  congr
  exact Array.toList_inj.mp e
theorem dc_list {K : PySem.W.Frag} {a : Addr} {xs : List V} {g : TG} {tt : TT} {tk tv : TE} {vs : List Nat} {σ : L2.St} {H1 : Hp} {D : Addr} {Qd : Hp → Prop} (Pv : Nat → Hp → Prop) (h0 : Pv 0 (upd H1 D (.dK []))) (hl : ∀ i H, i ≤ xs.length → Pv i H → SqL K H a xs)
    (hs : ∀ i x H, xs[i]? = some x → Pv i H → g x (wipe σ vs) H fun σ2 H2 => wipe σ2 vs = wipe σ vs ∧ tt σ2 H2 fun b H3 =>
      if b = true then tk σ2 H3 fun y H4 => tv σ2 H4 fun z H5 => ∃ kvs k, y = kV k ∧ H5 D = some (.dK kvs) ∧ kvs.length < sizeLine ∧ Pv (i + 1) (upd H5 D (.dK (putK kvs k z))) else Pv (i + 1) H3) (hd : ∀ H, Pv xs.length H → Qd H) :
    ∃ W : Nat → Nat → Hp → Prop, (∃ m, W 0 m (upd H1 D (.dK []))) ∧ ∀ i m H, W i m H →
      ((Itl K a).stop i H ∧ Qd H) ∨ ((Itl K a).go i H ∧ ∃ Nx : Hp → Prop, (∀ H', Nx H' → ∃ m', m' < m ∧ W (i + 1) m' H') ∧ ∀ x H', (Itl K a).yld i H x H' → g x (wipe σ vs) H' fun σ2 H2 => wipe σ2 vs = wipe σ vs ∧ tt σ2 H2 fun b H3 =>
        if b = true then tk σ2 H3 fun y H4 => tv σ2 H4 fun z H5 => ∃ kvs k, y = kV k ∧ H5 D = some (.dK kvs) ∧ kvs.length < sizeLine ∧ Nx (upd H5 D (.dK (putK kvs k z))) else Nx H3) := by
  refine ⟨fun i m H => m = xs.length - i ∧ i ≤ xs.length ∧ Pv i H, ⟨xs.length, by simp, Nat.zero_le _, h0⟩, ?_⟩
  rintro i m H ⟨rfl, hi, p⟩
  have q := hl i H hi p
  rcases Nat.lt_or_ge i xs.length with lt | ge
  · refine .inr ⟨⟨xs, xs[i], q, by simp [lt]⟩, Pv (i + 1), fun H' p' => ⟨xs.length - (i + 1), by omega, rfl, lt, p'⟩, fun x H' y => ?_⟩
    obtain ⟨e, y⟩ := y
    subst e
    exact hs i x _ (y xs q) p
  · obtain rfl : i = xs.length := by omega
    exact .inl ⟨⟨xs, q, Nat.le_refl _⟩, hd H p⟩
def spCopied : Sp := fun vs H Q _ => ∃ (t : Addr) (kvs : List (Key × V)) (names : List Str), vs = [.ref t] ∧ DctAt H t kvs ∧ kvs.map (·.1) = names.map Sum.inr ∧ names.Nodup ∧ names.length < 64 ∧ ∀ D H', H D = none → DctAt H' D kvs → Same H H' → Q (.ref D) H'
section
variable {P : Program} {w : World} {K : PySem.W.Frag} {mg : Str → Option Value} {base : Heap} {a : Nat → Addr} {d : Nat → FuncData}
theorem ok_copied (T : Txt K mg a d) : FnOk P w K mg base CX0 1 (a 24) (d 24) ["things"] spCopied := by
  refine T.F24.ok sc__copied (fun vs H Q E h => ?_) (fun cdv A outer s H vs Q E hr h => ?_)
  · obtain ⟨t, kvs, names, rfl, _⟩ := h
    rfl
  · obtain ⟨t, kvs, names, rfl, ht, hk, hnd, h64, q⟩ := h
    have nd : (kvs.map (·.1)).Nodup := by
      rw [hk]
      exact inr_nd hnd
    obtain ⟨kd, e, pk⟩ := id ht
    have pk' := pk.map (·.1)
    rw [hk] at pk'
    obtain ⟨zs, z1, z2⟩ := perm_map_ex pk' names rfl
    refine ⟨_, (pss_one (ps_ret (pe_dc (own := [("name", 1)]) rfl sc__copied.nd (pi_list (pe_callB (id := "sorted")  (call_sortedD rfl) (by rfl) T.z_sorted (by decide +kernel) (pa_cons (pv 0) pa_nil))) (blkOk_by (N := ["things", "name"]) (sc := defScope s__copied) (by decide +kernel)) (fun _ _ _ _ _ => pg_name (i := 1) sc__copied.nd rfl (.inl rfl)) (fun _ _ _ _ _ => pts_nil) (fun _ _ _ _ _ => (pv 1)) (fun _ _ _ _ _ => (pe_dget (hu_of hr) (pv 0) (pv 1) (fun _ _ => rfl)))))), ?_⟩
    refine ⟨_, rfl, t, kd, zs, rfl, .inl e, z2.symm, by rw [z1.length_eq]; exact h64, fun ys p yp _ hp => ⟨p, rfl, ?_⟩⟩
    have s0 := same_upd (o := .lst (ys.map V.str)) hp
    have yn : ys.Perm names := yp.trans z1
    have ynd : ys.Nodup := yn.nodup_iff.mpr hnd
    have yl : ys.length < 64 := by rw [yn.length_eq]; exact h64
    refine ⟨⟨_, .of upd_same⟩, fun D hD => ?_⟩
    have hD0 : H D = none := s0.free hD
    have npD : p ≠ D := ne_of_none upd_same hD
    have pairs : ∀ zs : List Str, zs.Perm names → (zs.map fun n => ((Sum.inr n : Key), (valV kvs (Sum.inr n)).getD .non)).Perm kvs := fun zs hz => by
      refine (hz.map _).trans (List.Perm.of_eq ?_)
      have e1 : (names.map fun n => ((Sum.inr n : Key), (valV kvs (Sum.inr n)).getD .non)) = (kvs.map (·.1)).map fun k => (k, (valV kvs k).getD .non) := by
        rw [hk, List.map_map]
        rfl
      rw [e1, List.map_map]
      refine Eq.trans (List.map_congr_left (g := id) fun x hx => ?_) (List.map_id _)
      show (x.1, (valV kvs x.1).getD .non) = x
      rw [val_nodup nd x hx]
      rfl
    refine dc_list (K := K) (a := p) (xs := ys.map V.str) (fun i H' => H' D = some (.dK ((ys.take i).map fun n => ((Sum.inr n : Key), (valV kvs (Sum.inr n)).getD .non))) ∧ Same (upd H p (.lst (ys.map V.str))) H') ⟨upd_same, same_upd hD⟩ (fun i H' _ hp => .of (hp.2 _ _ upd_same)) (fun i x H' hx hp => ?_) (fun H' hp => ?_)
    · obtain ⟨h1, h2⟩ := hp
      obtain ⟨n, hn, rfl⟩ := map_at hx
      have hmem : n ∈ names := yn.mem_iff.mp (List.mem_of_getElem? hn)
      have hv : ∃ v, valV kvs (Sum.inr n) = some v := by
        have : (Sum.inr n : Key) ∈ kvs.map (·.1) := by
          rw [hk]
          exact List.mem_map.mpr ⟨n, hmem, rfl⟩
        obtain ⟨x, hx, e⟩ := List.mem_map.mp this
        exact ⟨x.2, by rw [← e]; exact val_nodup nd x hx⟩
      obtain ⟨v, hv⟩ := hv
      refine ⟨rfl, _, rfl, _, rfl, _, rfl, t, v, rfl, (ht.same (s0.trans h2)).at_ nd hv, _, Sum.inr n, rfl, h1, ?_, ?_, ?_⟩
      · rw [List.length_map, List.length_take]
        exact small1000 (by omega)
      · rw [map_take hn, hv]
        refine Eq.trans upd_same (congrArg (fun x => some (HO.dK x)) ?_)
        rw [putK_new _ (valV_no ?_)]
        · rfl
        · rw [List.map_map]
          exact inr_no (nd_take ynd hn)
      · intro x o ex
        rw [upd_ne (ne_of_none ex hD)]
        exact h2 x o ex
    · obtain ⟨h1, h2⟩ := hp
      rw [List.length_map, List.take_length] at h1
      exact q D H' hD0 ⟨_, h1, pairs ys yn⟩ (s0.trans h2)
end
def fldsS (d1 d2 d3 : Addr) : List (Str × V) := putF "_services" (.ref d3) (putF "_keys" (.ref d2) (putF "_tables" (.ref d1) []))
theorem flds_t (d1 d2 d3 : Addr) : (fldsS d1 d2 d3).lookup ("_tables" : Str) = some (V.ref d1) := by
  unfold fldsS
  rw [lookup_putF, if_neg (by decide +kernel), lookup_putF, if_neg (by decide +kernel), lookup_putF, if_pos rfl]
theorem flds_k (d1 d2 d3 : Addr) : (fldsS d1 d2 d3).lookup ("_keys" : Str) = some (V.ref d2) := by
  unfold fldsS
  rw [lookup_putF, if_neg (by decide +kernel), lookup_putF, if_pos rfl]
theorem flds_s (d1 d2 d3 : Addr) : (fldsS d1 d2 d3).lookup ("_services" : Str) = some (V.ref d3) := by
  unfold fldsS
  rw [lookup_putF, if_pos rfl]
theorem flds_no (d1 d2 d3 : Addr) {m : Str} (h1 : ¬ m = "_services") (h2 : ¬ m = "_keys") (h3 : ¬ m = "_tables") : (fldsS d1 d2 d3).lookup m = none := by
  unfold fldsS
  rw [lookup_putF, if_neg h1, lookup_putF, if_neg h2, lookup_putF, if_neg h3]
  rfl
theorem DctAt.but {H H' : Hp} {t p : Addr} {kvs : List (Key × V)} {C dx : Addr} {fs : List (Str × V)} (h : DctAt H t kvs) (hp : H p = some (.ins C dx fs)) (s : ∀ b o, b ≠ p → H b = some o → H' b = some o) : DctAt H' t kvs := by
  obtain ⟨ks, e, q⟩ := h
  exact ⟨ks, s _ _ (ne_of e hp (by intro z; cases z)) e, q⟩
def Low (s : Str) : Prop := ∀ c ∈ s.cps.toList, c < 128
theorem low_ok {s : Str} (h : Low s) : PyData.strOk s = true := by
  unfold PyData.strOk
  rw [Array.all_eq_true']
  intro c hc
  have := h c (by simpa using hc)
  exact decide_eq_true (by omega)
theorem dp_strs {K : PySem.W.Frag} {H : Hp} : ∀ ns : List Str, DpAll K H (ns.map V.str) (ns.map PyData.str)
  | [] => .nil
  | n :: ns => .cons (.str n) (dp_strs ns)
theorem lay_strs : ∀ ns : List Str, (∀ s ∈ ns, Low s) → PyData.canLayAll0 (ns.map PyData.str) = true ∧ PyData.depthAll (ns.map PyData.str) = 0
  | [], _ => by simp [PyData.canLayAll0, PyData.depthAll]
  | n :: ns, h => by
    obtain ⟨h1, h2⟩ := lay_strs ns fun x hx => h x (List.mem_cons_of_mem _ hx)
    simp only [List.map_cons, PyData.canLayAll0, PyData.depthAll, PyData.canLay0, PyData.depth, low_ok (h n List.mem_cons_self), h1, h2, Bool.and_self, true_and]
    rfl
theorem strs_data {K : PySem.W.Frag} {H : Hp} {ns : List Str} (h : ∀ s ∈ ns, Low s) : ∃ dd, (∀ r, H r = some (.lst (ns.map V.str)) → Dp K H (.ref r) dd) ∧ SeqAt.shaped dd = true ∧ PyData.eqv dd dd = true := by
  obtain ⟨h1, h2⟩ := lay_strs ns h
  have hc : (PyData.list (ns.map PyData.str)).canLay0 = true := by simp only [PyData.canLay0, h1]
  refine ⟨.list (ns.map PyData.str), fun r hr => .lst (.of hr) (dp_strs ns), ?_, PySem.SeqAt.eqv_refl _ hc⟩
  unfold SeqAt.shaped
  rw [hc, Bool.true_and]
  exact decide_eq_true (by simp only [PyData.depth, h2]; omega)
theorem wd_low {s : Str} (h : Wd s) : Low s := fun c hc => by
  have := (h.2.2 c hc).2
  omega
theorem str_shaped {x : Str} (h : Low x) : SeqAt.shaped (.str x) = true := by
  unfold SeqAt.shaped
  simp only [PyData.canLay0, PyData.depth, low_ok h]
  rfl
theorem strs_shapedL {ns : List Str} (h : ∀ s ∈ ns, Low s) : SeqAt.shaped (.list (ns.map PyData.str)) = true := by
  obtain ⟨h1, h2⟩ := lay_strs ns h
  unfold SeqAt.shaped
  simp only [PyData.canLay0, PyData.depth, h1, h2]
  decide
/-! ### things of any kind -/
def tupOf (H : Hp) : V → Option (List V)
  | .ref a => match H a with
    | some (.tup xs) => some xs
    | _ => none
  | _ => none
theorem tupOf_tup {H : Hp} {a : Addr} {xs : List V} (e : H a = some (.tup xs)) : tupOf H (.ref a) = some xs := by
  show (match H a with | some (.tup xs) => some xs | _ => none) = _
  rw [e]
theorem tupOf_lst {H : Hp} {a : Addr} {xs : List V} (e : H a = some (.lst xs)) : tupOf H (.ref a) = none := by
  show (match H a with | some (.tup xs) => some xs | _ => none) = _
  rw [e]
def goCols (w : Int) : Int → List V → Bool
  | _, [] => true
  | l, .int i :: xs => decide (l ≤ i ∧ i < w) && goCols w (i + 1) xs
  | _, _ :: _ => false
def colsB (H : Hp) (v : V) (w : Int) : Bool := match tupOf H v with
  | some xs => goCols w 0 xs
  | none => false
def countB (m : Int) : V → Bool
  | .int i => decide (1 ≤ i ∧ i ≤ m)
  | _ => false
def keyB (H : Hp) (v : V) (w : Int) : Bool := match tupOf H v with
  | some xs => goCols w 0 xs && decide (0 < (xs.length : Int) ∧ (xs.length : Int) < w)
  | none => false
def widthOf (kvs : List (Key × V)) (n : Str) : Option Int := match valV kvs (Sum.inr n) with
  | some (.int w) => some w
  | _ => none
def svcL (H : Hp) (kvs : List (Key × V)) : List V → Bool
  | [x, g, c] => (match x with
    | .str n => (match widthOf kvs n with
      | some w => colsB H g w
      | none => false)
    | _ => false) && (decide (c = .non) || countB 4 c)
  | _ => false
def svcB (H : Hp) (kvs : List (Key × V)) (v : V) : Bool := match tupOf H v with
  | some xs => svcL H kvs xs
  | none => false
theorem svcL_len {H : Hp} {kvs : List (Key × V)} : ∀ {xs : List V}, xs.length ≠ 3 → svcL H kvs xs = false
  | [], _ => rfl
  | [_], _ => rfl
  | [_, _], _ => rfl
  | [_, _, _], h => absurd rfl h
  | _ :: _ :: _ :: _ :: _, _ => rfl
/-- what was a tuple or a list is one still -/
structure Kp (H H' : Hp) : Prop where
  tup : ∀ a xs, H a = some (.tup xs) → H' a = some (.tup xs)
  lst : ∀ a xs, H a = some (.lst xs) → ∃ ys, H' a = some (.lst ys)
theorem Kp.refl (H : Hp) : Kp H H := ⟨fun _ _ e => e, fun _ xs e => ⟨xs, e⟩⟩
theorem Kp.trans {H H1 H2 : Hp} (a : Kp H H1) (b : Kp H1 H2) : Kp H H2 := ⟨fun x xs e => b.tup _ _ (a.tup x xs e), fun x xs e => by
  obtain ⟨ys, e1⟩ := a.lst x xs e
  exact b.lst x ys e1⟩
theorem Kp.same {H H' : Hp} (s : Same H H') : Kp H H' := ⟨fun _ _ e => s _ _ e, fun _ xs e => ⟨xs, s _ _ e⟩⟩
theorem Kp.chg {H H' : Hp} {p : Addr} (hP : PoolAt H p) (c : Chg p H H') : Kp H H' := ⟨chg_tup hP c, fun a xs e => by
  by_cases n : a = p
  · subst n
    obtain ⟨p0, p1, p2, p3, r, e', _⟩ := c.1
    exact ⟨_, e'⟩
  · exact ⟨xs, c.at n e⟩⟩
theorem Kp.dict {H : Hp} {t : Addr} {kvs : List (Key × V)} {o : HO} (e : H t = some (.dK kvs)) : Kp H (upd H t o) := ⟨upd_tup e (by intro _ z; cases z), fun a xs e' => ⟨xs, by
  rw [upd_ne (ne_of e' e (by intro z; cases z))]
  exact e'⟩⟩
theorem Thg.kp {H H' : Hp} {v : V} (h : Thg H v) (k : Kp H H') : Thg H' v := by
  cases h with
  | int i => exact .int i
  | bl b => exact .bl b
  | non => exact .non
  | str s h hc => exact .str s h hc
  | lst e =>
    obtain ⟨ys, e'⟩ := k.lst _ _ e
    exact .lst e'
  | tup e => exact .tup (k.tup _ _ e)
theorem tupOf_kp {H H' : Hp} {v : V} (h : Thg H v) (k : Kp H H') : tupOf H' v = tupOf H v := by
  cases h with
  | int i => rfl
  | bl b => rfl
  | non => rfl
  | str s h hc => rfl
  | lst e =>
    obtain ⟨ys, e'⟩ := k.lst _ _ e
    rw [tupOf_lst e, tupOf_lst e']
  | tup e => rw [tupOf_tup e, tupOf_tup (k.tup _ _ e)]
/-- a thing; if it is a tuple, its parts are things -/
structure Th1 (H : Hp) (v : V) : Prop where
  th : Thg H v
  it : ∀ xs, tupOf H v = some xs → xs.length ≤ 100 ∧ ∀ x ∈ xs, Thg H x
structure Th2 (H : Hp) (v : V) : Prop where
  th : Thg H v
  it : ∀ xs, tupOf H v = some xs → xs.length ≤ 100 ∧ ∀ x ∈ xs, Th1 H x
theorem Th1.kp {H H' : Hp} {v : V} (h : Th1 H v) (k : Kp H H') : Th1 H' v := ⟨h.th.kp k, fun xs e => by
  rw [tupOf_kp h.th k] at e
  exact ⟨(h.it xs e).1, fun x hx => ((h.it xs e).2 x hx).kp k⟩⟩
theorem Th2.kp {H H' : Hp} {v : V} (h : Th2 H v) (k : Kp H H') : Th2 H' v := ⟨h.th.kp k, fun xs e => by
  rw [tupOf_kp h.th k] at e
  exact ⟨(h.it xs e).1, fun x hx => ((h.it xs e).2 x hx).kp k⟩⟩
theorem Th1.flat {H : Hp} {v : V} (h : Thg H v) (n : tupOf H v = none) : Th1 H v := ⟨h, fun xs e => by rw [n] at e; cases e⟩
theorem Th2.flat {H : Hp} {v : V} (h : Thg H v) (n : tupOf H v = none) : Th2 H v := ⟨h, fun xs e => by rw [n] at e; cases e⟩
theorem Th1.tup {H : Hp} {a : Addr} {xs : List V} (e : H a = some (.tup xs)) (l : xs.length ≤ 100) (h : ∀ x ∈ xs, Thg H x) : Th1 H (.ref a) := ⟨.tup e, fun ys e' => by
  rw [tupOf_tup e] at e'
  cases e'
  exact ⟨l, h⟩⟩
theorem Th2.tup {H : Hp} {a : Addr} {xs : List V} (e : H a = some (.tup xs)) (l : xs.length ≤ 100) (h : ∀ x ∈ xs, Th1 H x) : Th2 H (.ref a) := ⟨.tup e, fun ys e' => by
  rw [tupOf_tup e] at e'
  cases e'
  exact ⟨l, h⟩⟩
theorem Th1.up {H : Hp} {v : V} (h : Th1 H v) (hx : ∀ xs, tupOf H v = some xs → ∀ x ∈ xs, tupOf H x = none) : Th2 H v := ⟨h.th, fun xs e => ⟨(h.it xs e).1, fun x hm => .flat ((h.it xs e).2 x hm) (hx xs e x hm)⟩⟩
theorem colsB_kp {H H' : Hp} {v : V} {w : Int} (h : Thg H v) (k : Kp H H') : colsB H' v w = colsB H v w := by
  unfold colsB
  rw [tupOf_kp h k]
theorem keyB_kp {H H' : Hp} {v : V} {w : Int} (h : Thg H v) (k : Kp H H') : keyB H' v w = keyB H v w := by
  unfold keyB
  rw [tupOf_kp h k]
/-! ### a dict of names -/
def kvK (kv : List (Str × V)) : List (Key × V) := kv.map fun p => (Sum.inr p.1, p.2)
theorem keys_kv (kv : List (Str × V)) : (kvK kv).map (·.1) = (kv.map (·.1)).map Sum.inr := by
  unfold kvK
  rw [List.map_map, List.map_map]
  rfl
theorem kv_nd {kv : List (Str × V)} (h : (kv.map (·.1)).Nodup) : ((kvK kv).map (·.1)).Nodup := by
  rw [keys_kv]
  exact inr_nd h
def valN (kv : List (Str × V)) (n : Str) : V := (valV (kvK kv) (Sum.inr n)).getD .non
theorem valN_mem {kv : List (Str × V)} {n : Str} (h : n ∈ kv.map (·.1)) (nd : (kv.map (·.1)).Nodup) : valV (kvK kv) (Sum.inr n) = some (valN kv n) ∧ (n, valN kv n) ∈ kv := by
  obtain ⟨p, hp, rfl⟩ := List.mem_map.mp h
  have e : valV (kvK kv) (Sum.inr p.1) = some p.2 := val_nodup (kvs := kvK kv) (kv_nd nd) (Sum.inr p.1, p.2) (List.mem_map.mpr ⟨p, hp, rfl⟩)
  have e2 : valN kv p.1 = p.2 := by
    unfold valN
    rw [e]
    rfl
  rw [e2]
  exact ⟨e, hp⟩
/-- names that are texts of small signs -/
def NmOk (s : Str) : Prop := s.length ≤ 100 ∧ Low s
theorem NmOk.thg {H : Hp} {s : Str} (h : NmOk s) : Thg H (.str s) := .str s (by have := h.1; omega) fun c hc => h.2 c hc
structure Dn (H : Hp) (t : Addr) (kv : List (Str × V)) : Prop where
  at_ : H t = some (.dK (kvK kv))
  nd : (kv.map (·.1)).Nodup
  nm : ∀ p ∈ kv, NmOk p.1
  len : kv.length < 64
theorem Dn.get {H : Hp} {t : Addr} {kv : List (Str × V)} (h : Dn H t kv) {n : Str} (hn : n ∈ kv.map (·.1)) : DGet H t (.str n) (some (valN kv n)) := by
  have g := DGet.k (k := Sum.inr n) h.at_
  rw [(valN_mem hn h.nd).1] at g
  exact g
noncomputable def sortN (ns : List Str) : List Str := Classical.epsilon fun ys => ys.Perm ns ∧ PyProof.Rows.sortedS ys = true
theorem sortN_eq {ns ys : List Str} (p : ys.Perm ns) (s : PyProof.Rows.sortedS ys = true) : sortN ns = ys := by
  have h := Classical.epsilon_spec (p := fun ys : List Str => ys.Perm ns ∧ PyProof.Rows.sortedS ys = true) ⟨ys, p, s⟩
  exact sorted_uniq (h.1.trans p.symm) h.2 s
theorem find_at {α : Type} {p : α → Bool} {x : α} : ∀ {ys : List α} {i : Nat}, (∀ y ∈ ys.take i, p y = false) → ys[i]? = some x → p x = true → ys.find? p = some x
  | [], _, _, h, _ => by simp at h
  | y :: ys, 0, _, h, e => by
    cases h
    exact List.find?_cons_of_pos e
  | y :: ys, i + 1, h, hx, e => by
    rw [List.find?_cons_of_neg (by rw [h y (by simp)]; decide)]
    exact find_at (i := i) (fun z hz => h z (by simp [hz])) (by simpa using hx) e
theorem find_no {α : Type} {p : α → Bool} {ys : List α} (h : ∀ y ∈ ys, p y = false) : ys.find? p = none := List.find?_eq_none.mpr fun y hy => by rw [h y hy]; decide
theorem take_snoc {α : Type} {ys : List α} {i : Nat} {x : α} (h : ys[i]? = some x) : ys.take (i + 1) = ys.take i ++ [x] := by
  rw [List.take_add_one, h]
  rfl
/-- how an error of two fields goes out -/
def Er2 (C : Addr) (f g : Str) (u v : V) (H : Hp) (E : XK) : Prop := ∀ dx H', H dx = none → H' dx = some (.xd [(g, v), (f, u)]) → Same H H' → E (.ref C) (some dx) H'
def spI2 (C : Addr) (f g : Str) : Sp := fun vs H Q _ => ∃ (x : Addr) (u v : V), vs = [.ref x, u, v] ∧ H x = some (exo x C none) ∧ ∀ dx H', H dx = none → dx ≠ x → H' x = some (exo x C (some dx)) → H' dx = some (exd dx [(g, v), (f, u)]) → (∀ b o, b ≠ x → b ≠ dx → H b = some o → H' b = some o) → Q .non H'
theorem er2_raise {C : Addr} {f g : Str} {u v : V} {H : Hp} {E : XK} (k : Er2 C f g u v H E) : ([u, v] : List V).length ≤ 1000 ∧ ∀ x, H x = none → spI2 C f g (.ref x :: ([u, v] ++ [])) (upd H x (exo x C none))
    (fun z H2 => z = .non ∧ ∃ (dd : Addr) (fs : List (Str × V)), H2 x = some (exo x C (some dd)) ∧ H2 dd = some (exd dd fs) ∧ H dd = none ∧ E (.ref C) (some dd) (upd (del H2 x) dd (.xd fs))) (fun _ _ _ => False) := by
  refine ⟨by show 2 ≤ 1000; decide, fun x hx => ⟨x, u, v, rfl, upd_same, fun dx H' hdx ne e1 e2 keep => ⟨rfl, dx, _, e1, e2, ?_, ?_⟩⟩⟩
  · rw [upd_ne ne] at hdx
    exact hdx
  · rw [upd_ne ne] at hdx
    refine k dx _ hdx upd_same fun b o e => ?_
    have nb : b ≠ x := ne_of_none e hx
    have nd : b ≠ dx := ne_of_none e hdx
    rw [upd_ne nd, del_ne nb]
    exact keep b o nb nd (by rw [upd_ne nb]; exact e)
section
variable {P : Program} {w : World} {K : PySem.W.Frag} {mg : Str → Option Value} {base : Heap} {a : Nat → Addr} {d : Nat → FuncData}
theorem ok_i2 (T : Txt K mg a d) : FnOk P w K mg base CX0 1 (a 1300) (d 1300) ["self", "part", "name"] (spI2 (a 3) "part" "name") := by
  refine T.F1300.ok sc_InvalidSchema___init__ (fun vs H Q E h => ?_) (fun cdv A outer s H vs Q E hr h => ?_)
  · obtain ⟨x, u, v, rfl, _⟩ := h
    rfl
  · obtain ⟨x, u, v, rfl, hx, q⟩ := h
    refine ⟨_, (pss_cons (ps_ost (pv 0) (pv 1))
  (pss_one (ps_ost (pv 0) (pv 2)))), _, rfl, _, rfl, x, _, rfl, T.x_3, T.no_3_part, .inl ⟨hx, fun dx hdx ne => ?_⟩⟩
    have e1 : upd (upd H dx (exd dx [(("part" : Str), u)])) x (exo x (a 3) (some dx)) dx = some (exd dx [(("part" : Str), u)]) := by rw [upd_ne ne]; exact upd_same
    refine ⟨_, rfl, _, rfl, x, _, rfl, T.x_3, T.no_3_name, .inr ⟨dx, _, upd_same, e1, by show 1 ≤ 900; decide, q dx _ hdx ne ?_ upd_same fun b o nb nd e => ?_⟩⟩
    · rw [upd_ne ne.symm]
      exact upd_same
    · rw [upd_ne nd, upd_ne nb, upd_ne nd]
      exact e
def spCountX : Sp := fun vs H Q _ => ∃ (v : V) (m : Int), vs = [v, .int m] ∧ Thg H v ∧ ∀ H', Same H H' → Q (.bl (countB m v)) H'
theorem plain_int {v : V} (h : plainV v = true) : ∃ i, v = .int i := by
  cases v <;> first | exact ⟨_, rfl⟩ | cases h
theorem countB_no {v : V} {m : Int} (h : plainV v = false) : countB m v = false := by
  cases v <;> first | rfl | cases h
theorem ok_countX (T : Txt K mg a d) : FnOk P w K mg base CX0 2 (a 14) (d 14) ["thing", "most"] spCountX := by
  have G7 : FnOk P w K mg base CX0 1 (a 7) (d 7) ["thing"] (spB plainV) := ok_plain T
  refine T.F14.ok sc__is_count (fun vs H Q E h => ?_) (fun cdv A outer s H vs Q E hr h => ?_)
  · obtain ⟨v, m, rfl, _⟩ := h
    rfl
  · obtain ⟨v, m, rfl, hv, q⟩ := h
    refine ⟨_, (pss_one (ps_ret (pe_and (pe_call G7 (hr.mono (by decide)) (by rfl) T.g7 T.F7.kp T.b7 .nil pass0 (pa_cons (pv 0) pa_nil)) (pe_one (pe_chain op_le op_le pe_int (pv 0) (pv 1)))))), ?_⟩
    refine ⟨_, rfl, v, rfl, hv, fun H1 s1 => ⟨_, rfl, ?_⟩⟩
    cases e : plainV v with
    | false =>
      have := q H1 s1
      rw [countB_no e] at this
      exact this
    | true =>
      obtain ⟨i, rfl⟩ := plain_int e
      refine ⟨_, rfl, _, _, rfl, rfl, _, rfl, ite_d (fun h1 => ?_) (fun h1 => ?_)⟩
      · refine ⟨_, rfl, _, _, rfl, rfl, ?_⟩
        have := q H1 s1
        show Q (.bl (decide (i ≤ m))) H1
        have e2 : countB m (.int i) = decide (i ≤ m) := by
          show decide (1 ≤ i ∧ i ≤ m) = decide (i ≤ m)
          by_cases h2 : i ≤ m <;> simp [h1, h2]
        rw [e2] at this
        exact this
      · have := q H1 s1
        have e2 : countB m (.int i) = false := decide_eq_false (fun z : 1 ≤ i ∧ i ≤ m => h1 z.1)
        rw [e2] at this
        exact this
def nameInB (kvs : List (Key × V)) : V → Bool
  | .str n => (valV kvs (Sum.inr n)).isSome
  | _ => false
def spNameInX : Sp := fun vs H Q _ => ∃ (v : V) (t : Addr) (kvs : List (Key × V)), vs = [v, .ref t] ∧ Thg H v ∧ H t = some (.dK kvs) ∧ Q (.bl (nameInB kvs v)) H
theorem ok_name_inX (T : Txt K mg a d) : FnOk P w K mg base CX0 1 (a 15) (d 15) ["thing", "names"] spNameInX := by
  refine T.F15.ok sc__is_name_in (fun vs H Q E h => ?_) (fun cdv A outer s H vs Q E hr h => ?_)
  · obtain ⟨v, t, kvs, rfl, _⟩ := h
    rfl
  · obtain ⟨v, t, kvs, rfl, hv, ht, q⟩ := h
    obtain ⟨n, hty, k1, k2, k3⟩ := hv.ty (K := K)
    refine ⟨_, (pss_one (ps_ret (pe_and (pe_callB (id := "isinstance")  call_isi (by rfl) T.z_isinstance (by decide +kernel) (pa_cons (pv 0) (pa_cons (pe_bltn (v := .ty "str") (by rfl) T.z_str (by decide +kernel) rfl) pa_nil))) (pe_one (pe_cmp (pc_din (hu_of hr) (pv 0) (pv 1)) rfl))))), ?_⟩
    refine ⟨_, rfl, _, _, _, _, _, rfl, .ty _, hty, kit_ty k3, _, rfl, ?_⟩
    cases hv with
    | str s hl hc => exact ⟨_, rfl, _, rfl, t, _, rfl, DGet.k (k := Sum.inr s) ht, q⟩
    | int i => exact q
    | bl i => exact q
    | non => exact q
    | lst e => exact q
    | tup e => exact q
theorem Thg.tyT {H : Hp} {v : V} (h : Thg H v) : ∃ n, TyX K H v (.type n) ∧ kitB n "tuple" = some (tupOf H v).isSome := by
  cases h with
  | int i => exact ⟨_, .base (.int _), show kitB "int" "tuple" = some false by decide +kernel⟩
  | bl b => exact ⟨_, .base (.bl _), show kitB "bool" "tuple" = some false by decide +kernel⟩
  | non => exact ⟨_, .base .non, show kitB "NoneType" "tuple" = some false by decide +kernel⟩
  | str s => exact ⟨_, .base (.str _), show kitB "str" "tuple" = some false by decide +kernel⟩
  | lst e => exact ⟨_, .base (.lst e), by rw [tupOf_lst e]; exact show kitB "list" "tuple" = some false by decide +kernel⟩
  | tup e => exact ⟨_, .base (.tup e), by rw [tupOf_tup e]; exact show kitB "tuple" "tuple" = some true by decide +kernel⟩
theorem tupOf_some {H : Hp} {v : V} {xs : List V} (h : tupOf H v = some xs) : ∃ a, v = .ref a ∧ H a = some (.tup xs) := by
  cases v with
  | ref a =>
    refine ⟨a, rfl, ?_⟩
    have h' : (match H a with | some (.tup xs) => some xs | _ => none) = some xs := h
    cases e : H a with
    | none => rw [e] at h'; cases h'
    | some o =>
      rw [e] at h'
      cases o <;> first | (cases h'; rfl) | cases h'
  | _ => cases h
def spAreColsX : Sp := fun vs H Q _ => ∃ (v : V) (w : Int), vs = [v, .int w] ∧ Th1 H v ∧ ∀ H', Same H H' → Q (.bl (colsB H v w)) H'
theorem goCols_drop {w l : Int} {xs : List V} {i : Nat} {x : V} (hx : xs[i]? = some x) : goCols w l (xs.drop i) = (match x with
    | .int j => decide (l ≤ j ∧ j < w) && goCols w (j + 1) (xs.drop (i + 1))
    | _ => false) := by
  have e : xs.drop i = x :: xs.drop (i + 1) := by
    have hi : i < xs.length := (List.getElem?_eq_some_iff.mp hx).1
    rw [← (List.getElem?_eq_some_iff.mp hx).2, List.getElem_cons_drop]
  rw [e]
  cases x <;> rfl
theorem ok_are_columnsX (T : Txt K mg a d) : FnOk P w K mg base CX0 2 (a 16) (d 16) ["thing", "width"] spAreColsX := by
  have G7 : FnOk P w K mg base CX0 1 (a 7) (d 7) ["thing"] (spB plainV) := ok_plain T
  refine T.F16.ok sc__are_columns (fun vs H Q E h => ?_) (fun cdv A outer s H vs Q E hr h => ?_)
  · obtain ⟨v, w, rfl, _⟩ := h
    rfl
  · obtain ⟨v, w, rfl, hv, q⟩ := h
    obtain ⟨n, hty, k1⟩ := hv.th.tyT (K := K)
    refine ⟨_, (pss_cons (ps_if (pt_not (pt_val (pe_callB (id := "isinstance")  call_isi (by rfl) T.z_isinstance (by decide +kernel) (pa_cons (pv 0) (pa_cons (pe_bltn (v := .ty "tuple") (by rfl) T.z_tuple (by decide +kernel) rfl) pa_nil)))))
    (pss_one (ps_ret pe_bl))
    pss_nil)
  (pss_cons (ps_set (i := 2) sc__are_columns.nd rfl (.inl rfl) pe_int)
  (pss_cons (ps_for PassesOwn.never rfl (pi_tup (pv 0)) (pg_name (i := 3) sc__are_columns.nd rfl (.inl rfl))
    (pss_cons (ps_if (PW.pt (pw_or (pt_not (pt_val (pe_call G7 (hr.mono (by decide)) (by rfl) T.g7 T.F7.kp T.b7 .nil pass0 (pa_cons (pv 3) pa_nil)))) (pw_or1 (pt_not (pt_chain op_le op_lt (pv 2) (pv 3) (pv 1))))))
        (pss_one (ps_ret pe_bl))
        pss_nil)
      (pss_one (ps_set (i := 2) sc__are_columns.nd rfl (.inl rfl) (pe_op op_add (pv 3) pe_int)))))
  (pss_one (ps_ret pe_bl))))), ?_⟩
    refine ⟨_, rfl, _, _, _, _, _, rfl, .ty _, hty, kit_ty k1, _, rfl, ?_⟩
    unfold colsB at q
    cases et : tupOf H v with
    | none =>
      rw [et] at q
      exact q H (Same.refl H)
    | some xs =>
      rw [et] at q
      have q : ∀ H', Same H H' → Q (.bl (goCols w 0 xs)) H' := q
      obtain ⟨c, rfl, hc⟩ := tupOf_some et
      have hit := (hv.it xs et).2
      refine ⟨_, rfl, c, rfl, ⟨_, .of hc⟩, for_tup (K := K) (a := c) (xs := xs) (fun i σ H' => ∃ (l : Int) (y3 : Option V), σ = [some (.ref c), some (.int w), some (.int l), y3] ∧ Same H H' ∧ goCols w l (xs.drop i) = goCols w 0 xs) ⟨0, none, rfl, Same.refl H, by rw [List.drop_zero]⟩ (fun i σ H' _ hp => ?_) (fun i y σ H' hy hp => ?_) (fun σ H' hp => ?_)⟩
      · obtain ⟨l, y3, rfl, s1, _⟩ := hp
        exact .of (s1 _ _ hc)
      · obtain ⟨l, y3, rfl, s1, hgo⟩ := hp
        rw [goCols_drop hy] at hgo
        refine ⟨_, rfl, y, rfl, (hit y (List.mem_of_getElem? hy)).same s1, fun H1 s2 => ⟨_, rfl, ?_⟩⟩
        have s12 := s1.trans s2
        cases ep : plainV y with
        | false =>
          have e0 : goCols w 0 xs = false := by
            rw [← hgo]
            cases y <;> first | rfl | cases ep
          rw [e0] at q
          exact q H1 s12
        | true =>
          obtain ⟨j, rfl⟩ := plain_int ep
          have hgo : (decide (l ≤ j ∧ j < w) && goCols w (j + 1) (xs.drop (i + 1))) = goCols w 0 xs := hgo
          refine ⟨_, rfl, _, rfl, _, _, rfl, rfl, _, rfl, ite_d (fun h1 => ?_) (fun h1 => ?_)⟩
          · refine ⟨_, rfl, _, _, rfl, rfl, _, rfl, ?_⟩
            by_cases h2 : j < w
            · rw [decide_eq_true h2]
              refine ⟨_, rfl, _, _, rfl, rfl, _, _, rfl, s12, ?_⟩
              rw [decide_eq_true (show l ≤ j ∧ j < w from ⟨h1, h2⟩), Bool.true_and] at hgo
              exact hgo
            · rw [decide_eq_false h2]
              rw [decide_eq_false (fun z : l ≤ j ∧ j < w => h2 z.2), Bool.false_and] at hgo
              rw [← hgo] at q
              exact q H1 s12
          · rw [decide_eq_false (fun z : l ≤ j ∧ j < w => h1 z.1), Bool.false_and] at hgo
            rw [← hgo] at q
            exact ⟨_, rfl, q H1 s12⟩
      · obtain ⟨l, y3, rfl, s1, hgo⟩ := hp
        rw [List.drop_length] at hgo
        have e0 : goCols w 0 xs = true := hgo.symm
        rw [e0] at q
        exact q H' s1
def spIsKeyX : Sp := fun vs H Q _ => ∃ (v : V) (w : Int), vs = [v, .int w] ∧ Th1 H v ∧ ∀ H', Same H H' → Q (.bl (keyB H v w)) H'
theorem ok_is_keyX (T : Txt K mg a d) : FnOk P w K mg base CX0 3 (a 17) (d 17) ["thing", "width"] spIsKeyX := by
  have G16 : FnOk P w K mg base CX0 2 (a 16) (d 16) ["thing", "width"] spAreColsX := ok_are_columnsX T
  refine T.F17.ok sc__is_key (fun vs H Q E h => ?_) (fun cdv A outer s H vs Q E hr h => ?_)
  · obtain ⟨v, w, rfl, _⟩ := h
    rfl
  · obtain ⟨v, w, rfl, hv, q⟩ := h
    refine ⟨_, (pss_one (ps_ret (pe_and (pe_call G16 (hr.mono (by decide)) (by rfl) T.g16 T.F16.kp T.b16 .nil pass0 (pa_cons (pv 0) (pa_cons (pv 1) pa_nil))) (pe_one (pe_chain op_lt op_lt pe_int (pe_callB (id := "len")  call_len_seq (by rfl) T.z_len (by decide +kernel) (pa_cons (pv 0) pa_nil)) (pv 1)))))), ?_⟩
    refine ⟨_, rfl, _, rfl, v, w, rfl, hv, fun H1 s1 => ⟨_, rfl, ?_⟩⟩
    have q1 : Q (.bl (keyB H v w)) H1 := q H1 s1
    clear q
    unfold keyB at q1
    unfold colsB
    cases et : tupOf H v with
    | none =>
      rw [et] at q1
      exact q1
    | some xs =>
      rw [et] at q1
      obtain ⟨c, rfl, hc⟩ := tupOf_some et
      have q : Q (.bl (goCols w 0 xs && decide (0 < (xs.length : Int) ∧ (xs.length : Int) < w))) H1 := q1
      show if goCols w 0 xs = true then _ else _
      cases eg : goCols w 0 xs with
      | false =>
        rw [eg] at q
        exact q
      | true =>
        rw [eg, Bool.true_and] at q
        refine ⟨_, rfl, _, _, rfl, .inr (.of (s1 _ _ hc)), _, _, rfl, rfl, _, rfl, ite_d (fun h1 => ?_) (fun h1 => ?_)⟩
        · refine ⟨_, rfl, _, _, rfl, rfl, ?_⟩
          show Q (.bl (decide ((xs.length : Int) < w))) H1
          have e2 : decide (0 < (xs.length : Int) ∧ (xs.length : Int) < w) = decide ((xs.length : Int) < w) := by
            by_cases h2 : (xs.length : Int) < w <;> simp [h1, h2]
            omega
          rw [e2] at q
          exact q
        · rw [decide_eq_false (fun z : 0 < (xs.length : Int) ∧ (xs.length : Int) < w => h1 z.1)] at q
          exact q
def spIsSvcX : Sp := fun vs H Q _ => ∃ (v : V) (t : Addr) (kvs : List (Key × V)), vs = [v, .ref t] ∧ Th2 H v ∧ H t = some (.dK kvs) ∧ (∀ n v, valV kvs (Sum.inr n) = some v → ∃ w, v = .int w) ∧ ∀ H', Same H H' → Q (.bl (svcB H kvs v)) H'
theorem ok_is_serviceX (T : Txt K mg a d) : FnOk P w K mg base CX0 3 (a 18) (d 18) ["thing", "tables"] spIsSvcX := by
  have G16 : FnOk P w K mg base CX0 2 (a 16) (d 16) ["thing", "width"] spAreColsX := ok_are_columnsX T
  have G15 : FnOk P w K mg base CX0 1 (a 15) (d 15) ["thing", "names"] spNameInX := ok_name_inX T
  have G14 : FnOk P w K mg base CX0 2 (a 14) (d 14) ["thing", "most"] spCountX := ok_countX T
  refine T.F18.ok sc__is_service (fun vs H Q E h => ?_) (fun cdv A outer s H vs Q E hr h => ?_)
  · obtain ⟨v, t, kvs, rfl, _⟩ := h
    rfl
  · obtain ⟨v, t, kvs, rfl, hv, ht, hint, q⟩ := h
    obtain ⟨t9, h_MOST_CAP⟩ := T.c_MOST_CAP
    obtain ⟨n, hty, k1⟩ := hv.th.tyT (K := K)
    refine ⟨_, (pss_cons (ps_if (PW.pt (pw_or (pt_not (pt_val (pe_callB (id := "isinstance")  call_isi (by rfl) T.z_isinstance (by decide +kernel) (pa_cons (pv 0) (pa_cons (pe_bltn (v := .ty "tuple") (by rfl) T.z_tuple (by decide +kernel) rfl) pa_nil))))) (pw_or1 (pt_cmpR op_ne (pe_callB (id := "len")  call_len_seq (by rfl) T.z_len (by decide +kernel) (pa_cons (pv 0) pa_nil)) pe_int (nomark _)))))
    (pss_one (ps_ret pe_bl))
    pss_nil)
  (pss_cons (ps_asg (pv 0) (pg_tup rfl (pgs_cons (pg_name (i := 2) sc__is_service.nd rfl (.inl rfl)) (pgs_cons (pg_name (i := 3) sc__is_service.nd rfl (.inl rfl)) (pgs_cons (pg_name (i := 4) sc__is_service.nd rfl (.inl rfl)) pgs_nil)))))
  (pss_cons (ps_if (PW.pt (pw_or (pt_not (pt_val (pe_call G15 (hr.mono (by decide)) (by rfl) T.g15 T.F15.kp T.b15 .nil pass0 (pa_cons (pv 2) (pa_cons (pv 1) pa_nil))))) (pw_or1 (pt_not (pt_val (pe_call G16 (hr.mono (by decide)) (by rfl) T.g16 T.F16.kp T.b16 .nil pass0 (pa_cons (pv 3) (pa_cons (pe_dget (hu_of hr) (pv 1) (pv 2) (fun _ _ => rfl)) pa_nil))))))))
    (pss_one (ps_ret pe_bl))
    pss_nil)
  (pss_one (ps_ret (pe_or (pe_cmpR op_isN (pv 4) pe_non (nomark _)) (pe_one (pe_call G14 (hr.mono (by decide)) (by rfl) T.g14 T.F14.kp T.b14 .nil pass0 (pa_cons (pv 4) (pa_cons (pe_glob (v := .int (4)) rfl h_MOST_CAP ⟨_, rfl⟩) pa_nil)))))))))), ?_⟩
    refine ⟨_, rfl, _, _, _, _, _, rfl, .ty _, hty, kit_ty k1, _, rfl, ?_⟩
    unfold svcB at q
    cases et : tupOf H v with
    | none =>
      rw [et] at q
      exact q H (Same.refl H)
    | some xs =>
      rw [et] at q
      obtain ⟨c, rfl, hc⟩ := tupOf_some et
      have hit := (hv.it xs et).2
      refine ⟨_, rfl, _, _, rfl, .inr (.of hc), rfl, _, rfl, ?_⟩
      by_cases h3 : xs.length = 3
      · match xs, h3 with
        | [x, g, cp], _ =>
          have hx := hit x (by simp)
          have hg := hit g (by simp)
          have hcp := hit cp (by simp)
          refine ⟨_, rfl, c, _, rfl, .of hc, rfl, _, _, rfl, _, _, rfl, _, _, rfl, rfl, ?_⟩
          refine ⟨_, rfl, _, rfl, x, t, kvs, rfl, hx.th, ht, _, rfl, ?_⟩
          have bad : nameInB kvs x = false → Q (.bl false) H := fun e => by
            have q := q H (Same.refl H)
            cases hx.th with
            | str s hl hc =>
              have e : (valV kvs (Sum.inr s)).isSome = false := e
              have ew : widthOf kvs s = none := by
                unfold widthOf
                cases e2 : valV kvs (Sum.inr s) with
                | none => rfl
                | some u => rw [e2] at e; cases e
              have q : Q (.bl ((match widthOf kvs s with | some w => colsB H g w | none => false) && (decide (cp = .non) || countB 4 cp))) H := q
              rw [ew] at q
              exact q
            | int i => exact q
            | bl i => exact q
            | non => exact q
            | lst e => exact q
            | tup e => exact q
          cases en : nameInB kvs x with
          | false => exact bad en
          | true =>
            cases hx.th with
            | int i => cases en
            | bl i => cases en
            | non => cases en
            | lst e => cases en
            | tup e => cases en
            | str s hl hcs =>
              have q : ∀ H', Same H H' → Q (.bl ((match widthOf kvs s with | some w => colsB H g w | none => false) && (decide (cp = .non) || countB 4 cp))) H' := q
              have en : (valV kvs (Sum.inr s)).isSome = true := en
              cases e2 : valV kvs (Sum.inr s) with
              | none => rw [e2] at en; cases en
              | some u =>
                obtain ⟨w, rfl⟩ := hint s u e2
                have ew : widthOf kvs s = some w := by
                  unfold widthOf
                  rw [e2]
                rw [ew] at q
                have q : ∀ H', Same H H' → Q (.bl (colsB H g w && (decide (cp = .non) || countB 4 cp))) H' := q
                have dg := DGet.k (k := Sum.inr s) ht
                rw [e2] at dg
                refine ⟨_, rfl, _, rfl, _, rfl, t, _, rfl, dg, g, w, rfl, hg, fun H1 s1 => ⟨_, rfl, ?_⟩⟩
                cases eg : colsB H g w with
                | false =>
                  rw [eg] at q
                  exact q H1 s1
                | true =>
                  rw [eg] at q
                  refine ⟨_, rfl, rfl, _, rfl, ?_⟩
                  by_cases en2 : cp = .non
                  · rw [decide_eq_true en2] at q ⊢
                    exact q H1 s1
                  · rw [decide_eq_false en2] at q ⊢
                    exact ⟨_, rfl, cp, 4, rfl, hcp.th.same s1, fun H2 s2 => q H2 (s1.trans s2)⟩
      · show if (!decide (V.int xs.length = V.int 3)) = true then _ else _
        rw [decide_eq_false (fun z => h3 (by have := V.int.inj z; omega))]
        have q : ∀ H', Same H H' → Q (.bl (svcL H kvs xs)) H' := q
        have e0 : svcL H kvs xs = false := svcL_len h3
        rw [e0] at q
        exact q H (Same.refl H)
end
section
variable {P : Program} {w : World} {K : PySem.W.Frag} {mg : Str → Option Value} {base : Heap} {a : Nat → Addr} {d : Nat → FuncData}
def okT (kv : List (Str × V)) (n : Str) : Bool := wordB n && countB 4 (valN kv n)
noncomputable def faultT (kv : List (Str × V)) : Option V := if 1 ≤ kv.length ∧ kv.length ≤ 5 then ((sortN (kv.map (·.1))).find? fun n => !okT kv n).map V.str else some .non
def spChkTX (C : Addr) : Sp := fun vs H Q E => ∃ (t : Addr) (kv : List (Str × V)), vs = [.ref t] ∧ Dn H t kv ∧ (∀ p ∈ kv, Thg H p.2) ∧ (faultT kv = none → ∀ H', Same H H' → Q .non H') ∧ (∀ u, faultT kv = some u → ∀ H', Same H H' → Er2 C "part" "name" (.str "tables") u H' E)
theorem kv_names {kv : List (Str × V)} : (kvK kv).map (·.1) = (kv.map (·.1)).map Sum.inr := keys_kv kv
theorem mem_names {kv : List (Str × V)} {ys : List Str} (yp : ys.Perm (kv.map (·.1))) {n : Str} {i : Nat} (h : ys[i]? = some n) : n ∈ kv.map (·.1) := yp.mem_iff.mp (List.mem_of_getElem? h)
theorem ok_check_tablesX (T : Txt K mg a d) : FnOk P w K mg base (L2.CX P w) 4 (a 20) (d 20) ["tables"] (spChkTX (a 3)) := by
  have G8 : FnOk P w K mg base CX0 1 (a 8) (d 8) ["thing"] (spB wordV) := ok_is_word T
  have G14 : FnOk P w K mg base CX0 2 (a 14) (d 14) ["thing", "most"] spCountX := ok_countX T
  have G1300 : FnOk P w K mg base CX0 1 (a 1300) (d 1300) ["self", "part", "name"] (spI2 (a 3) "part" "name") := ok_i2 T
  refine T.F20.okX sc__check_tables (fun vs H Q E h => ?_) (fun cdv A outer s H vs Q E hr h => ?_)
  · obtain ⟨t, kv, rfl, _⟩ := h
    rfl
  · obtain ⟨t, kv, rfl, D, hth, q1, q2⟩ := h
    obtain ⟨t8, h_MOST_TABLES⟩ := T.c_MOST_TABLES
    obtain ⟨t9, h_MOST_WIDTH⟩ := T.c_MOST_WIDTH
    have lk : (kvK kv).length = kv.length := List.length_map ..
    unfold faultT at q1 q2
    refine ⟨_, (pss_cons (ps_if (pt_not (pt_chain op_le op_le pe_int (pe_callB (id := "len")  call_lenD (by rfl) T.z_len (by decide +kernel) (pa_cons (pv 0) pa_nil)) (pe_glob (v := .int (5)) rfl h_MOST_TABLES ⟨_, rfl⟩)))
    (pss_one (ps_raise rfl (takes_of rfl rfl rfl rfl) (pmk_oex T.x_3 T.in_3 T.ti_3 G1300 (hr.mono (by decide)) T.b1300 .nil pass0 (by rfl) T.cg_3 (pa_cons pe_str (pa_cons pe_non pa_nil)))))
    pss_nil)
  (pss_one (ps_for (passes_of rfl) rfl (pi_list (pe_callB (id := "sorted")  (call_sortedD rfl) (by rfl) T.z_sorted (by decide +kernel) (pa_cons (pv 0) pa_nil))) (pg_name (i := 1) sc__check_tables.nd rfl (.inl rfl))
    (pss_one (ps_if (PW.pt (pw_or (pt_not (pt_val (pe_call G8 (hr.mono (by decide)) (by rfl) T.g8 T.F8.kp T.b8 .nil pass0 (pa_cons (pv 1) pa_nil)))) (pw_or1 (pt_not (pt_val (pe_call G14 (hr.mono (by decide)) (by rfl) T.g14 T.F14.kp T.b14 .nil pass0 (pa_cons (pe_dget (hu_of hr) (pv 0) (pv 1) (fun _ _ => rfl)) (pa_cons (pe_glob (v := .int (4)) rfl h_MOST_WIDTH ⟨_, rfl⟩) pa_nil))))))))
        (pss_one (ps_raise rfl (takes_of rfl rfl rfl rfl) (pmk_oex T.x_3 T.in_3 T.ti_3 G1300 (hr.mono (by decide)) T.b1300 .nil pass0 (by rfl) T.cg_3 (pa_cons pe_str (pa_cons (pv 1) pa_nil)))))
        pss_nil))))), ?_⟩
    refine ⟨_, rfl, t, kvK kv, rfl, D.at_, _, _, rfl, rfl, _, rfl, ite_d (fun h1 => ?_) (fun h1 => ?_)⟩
    · refine ⟨_, _, rfl, rfl, _, rfl, ite_nd (fun h2 => ?_) (fun h2 => ?_)⟩
      · rw [if_neg (by omega)] at q2
        exact er2_raise (q2 _ rfl H (Same.refl H))
      · rw [if_pos (by omega)] at q1 q2
        refine ⟨_, rfl, t, _, kv.map (·.1), rfl, .inl D.at_, keys_kv kv, by rw [List.length_map]; exact D.len, fun ys p yp so hp => ⟨p, rfl, ?_⟩⟩
        rw [sortN_eq yp so] at q1 q2
        have s0 := same_upd (o := .lst (ys.map V.str)) hp
        refine ⟨⟨_, .of upd_same⟩, for_list (K := K) (a := p) (xs := ys.map V.str) (fun i σ H' => ∃ y1 : Option V, σ = [some (.ref t), y1] ∧ Same (upd H p (.lst (ys.map V.str))) H' ∧ ∀ y ∈ ys.take i, (!okT kv y) = false) ⟨none, rfl, Same.refl _, fun y hy => by cases hy⟩ (fun i σ H' _ hp => ?_) (fun i y σ H' hy hp => ?_) (fun σ H' hp => ?_)⟩
        · obtain ⟨y1, rfl, s1, _⟩ := hp
          exact .of (s1 _ _ upd_same)
        · obtain ⟨y1, rfl, s1, hok⟩ := hp
          obtain ⟨n, hn, rfl⟩ := map_at hy
          have hm := mem_names yp hn
          have hmv := (valN_mem hm D.nd).2
          have s01 := s0.trans s1
          have bad : okT kv n = false → ∀ H', Same H H' → Er2 (a 3) "part" "name" (.str "tables") (.str n) H' E := fun e H' s' => q2 _ (by rw [find_at hok hn (by rw [e]; rfl)]; rfl) H' s'
          refine ⟨_, rfl, .str n, rfl, (D.nm _ hmv).thg, fun H1 s2 => ⟨_, rfl, ?_⟩⟩
          have s02 := s01.trans s2
          show if (!wordB n) = true then _ else _
          cases ew : wordB n with
          | false => exact ⟨_, rfl, er2_raise (bad (by unfold okT; rw [ew]; rfl) H1 s02)⟩
          | true =>
            refine ⟨_, rfl, _, rfl, t, _, rfl, Dn.get ⟨s02 _ _ D.at_, D.nd, D.nm, D.len⟩ hm, valN kv n, 4, rfl, (hth _ hmv).same s02, fun H2 s3 => ⟨_, rfl, ?_⟩⟩
            have s03 := s02.trans s3
            cases ec : countB 4 (valN kv n) with
            | false => exact ⟨_, rfl, er2_raise (bad (by unfold okT; rw [ew, ec]; rfl) H2 s03)⟩
            | true =>
              refine ⟨_, rfl, (s1.trans s2).trans s3, fun y hy => ?_⟩
              rw [take_snoc hn] at hy
              rcases List.mem_append.mp hy with h | h
              · exact hok y h
              · rw [List.mem_singleton.mp h]
                unfold okT
                rw [ew, ec]
                rfl
        · obtain ⟨y1, rfl, s1, hok⟩ := hp
          rw [List.length_map, List.take_length] at hok
          exact q1 (by rw [find_no hok]; rfl) H' (s0.trans s1)
    · rw [if_neg (by omega)] at q2
      exact ⟨_, rfl, er2_raise (q2 _ rfl H (Same.refl H))⟩
end
theorem rising_of : ∀ (l : List Str) (p : Str), (p :: l).Pairwise (fun a b => a.cps.toList ≤ b.cps.toList) → PyProof.Rows.risingS p l = true
  | [], _, _ => rfl
  | x :: r, p, h => by
    obtain ⟨h1, h2⟩ := List.pairwise_cons.mp h
    show (!PySem.Spec.ltCps x.cps.toList p.cps.toList && PyProof.Rows.risingS x r) = true
    rw [rising_of r x h2, Bool.and_true, PyProof.Rows.ltCps_eq]
    have := h1 x List.mem_cons_self
    have h3 : ¬ x.cps.toList < p.cps.toList := this
    simp [h3]
theorem sorted_of {l : List Str} (h : l.Pairwise fun a b => a.cps.toList ≤ b.cps.toList) : PyProof.Rows.sortedS l = true := by
  cases l with
  | nil => rfl
  | cons x r => exact rising_of r x h
theorem sorted_ex (l : List Str) : ∃ ys, ys.Perm l ∧ PyProof.Rows.sortedS ys = true := by
  refine ⟨l.mergeSort (fun a b => decide (a.cps.toList ≤ b.cps.toList)), List.mergeSort_perm _ _, sorted_of ?_⟩
  have := List.pairwise_mergeSort (le := fun a b : Str => decide (a.cps.toList ≤ b.cps.toList)) (fun a b c h1 h2 => decide_eq_true (List.le_trans (of_decide_eq_true h1) (of_decide_eq_true h2))) (fun a b => by
    rcases List.le_total a.cps.toList b.cps.toList with h | h <;> simp [h]) l
  exact this.imp fun h => of_decide_eq_true h
theorem sortN_perm (ns : List Str) : (sortN ns).Perm ns := by
  obtain ⟨ys, p, s⟩ := sorted_ex ns
  rw [sortN_eq p s]
  exact p
theorem sortN_find {p : Str → Bool} {ns : List Str} (h : (sortN ns).find? p = none) : ∀ n ∈ ns, p n = false := fun n hn => by
  have := List.find?_eq_none.mp h n ((sortN_perm ns).mem_iff.mpr hn)
  simpa using this
/-! ### what is known when nothing is wrong -/
theorem word_wd {s : Str} (h : wordB s = true) : Wd s := by
  unfold wordB at h
  rw [Bool.and_eq_true, List.all_eq_true] at h
  have h1 := of_decide_eq_true h.1
  exact ⟨h1.1, h1.2, fun c hc => of_decide_eq_true (h.2 c hc)⟩
theorem valN_of {kv : List (Str × V)} {p : Str × V} (h : p ∈ kv) (nd : (kv.map (·.1)).Nodup) : valN kv p.1 = p.2 := by
  unfold valN
  rw [val_nodup (kvs := kvK kv) (kv_nd nd) (Sum.inr p.1, p.2) (List.mem_map.mpr ⟨p, h, rfl⟩)]
  rfl
def intV : V → Int
  | .int i => i
  | _ => 0
def tsOf (kv : List (Str × V)) : List (Str × Int) := kv.map fun p => (p.1, intV p.2)
theorem ts_names (kv : List (Str × V)) : (tsOf kv).map (·.1) = kv.map (·.1) := by
  unfold tsOf
  rw [List.map_map]
  rfl
theorem conv_tabs {H : Hp} {t : Addr} {kv : List (Str × V)} (D : Dn H t kv) (h : faultT kv = none) : kvK kv = tabK (tsOf kv) ∧ Tabs (tsOf kv) kv.length 4 ∧ 1 ≤ kv.length ∧ kv.length ≤ 5 := by
  unfold faultT at h
  by_cases hl : 1 ≤ kv.length ∧ kv.length ≤ 5
  · rw [if_pos hl] at h
    have hf : (sortN (kv.map (·.1))).find? (fun n => !okT kv n) = none := by
      cases e : (sortN (kv.map (·.1))).find? (fun n => !okT kv n) with
      | none => rfl
      | some x => rw [e] at h; cases h
    have hok : ∀ p ∈ kv, wordB p.1 = true ∧ ∃ i, p.2 = .int i ∧ 1 ≤ i ∧ i ≤ 4 := fun p hp => by
      have := sortN_find hf p.1 (List.mem_map.mpr ⟨p, hp, rfl⟩)
      have h2 : okT kv p.1 = true := by simpa using this
      unfold okT at h2
      rw [Bool.and_eq_true, valN_of hp D.nd] at h2
      refine ⟨h2.1, ?_⟩
      cases e : p.2 with
      | int i =>
        rw [e] at h2
        exact ⟨i, rfl, of_decide_eq_true h2.2⟩
      | _ =>
        rw [e] at h2
        cases h2.2
    refine ⟨?_, ⟨⟨by rw [ts_names, List.length_map], by rw [ts_names]; exact D.nd, fun s hs => ?_⟩, fun b hb => ?_⟩, hl.1, hl.2⟩
    · unfold kvK tabK tsOf
      rw [List.map_map]
      refine List.map_congr_left fun p hp => ?_
      obtain ⟨_, i, e, _⟩ := hok p hp
      show (Sum.inr p.1, p.2) = (Sum.inr p.1, V.int (intV p.2))
      rw [e]
      rfl
    · rw [ts_names] at hs
      obtain ⟨p, hp, rfl⟩ := List.mem_map.mp hs
      exact word_wd (hok p hp).1
    · obtain ⟨p, hp, rfl⟩ := List.mem_map.mp hb
      obtain ⟨_, i, e, h1, h2⟩ := hok p hp
      show 1 ≤ intV p.2 ∧ intV p.2 ≤ 4
      rw [e]
      exact ⟨h1, h2⟩
  · rw [if_neg hl] at h
    cases h
/-! ### keys -/
def okK (H : Hp) (kv kk : List (Str × V)) (n : Str) : Bool := match widthOf (kvK kv) n with
  | some w => keyB H (valN kk n) w
  | none => false
noncomputable def faultK (H : Hp) (kv kk : List (Str × V)) : Option V := ((sortN (kk.map (·.1))).find? fun n => !okK H kv kk n).map V.str
theorem widthOf_val {kv : List (Str × V)} {n : Str} (hint : ∀ n v, valV (kvK kv) (Sum.inr n) = some v → ∃ w, v = .int w) : valV (kvK kv) (Sum.inr n) = (widthOf (kvK kv) n).map V.int := by
  unfold widthOf
  cases e : valV (kvK kv) (Sum.inr n) with
  | none => rfl
  | some v =>
    obtain ⟨w, rfl⟩ := hint n v e
    rfl
theorem tab_ints {H : Hp} {t : Addr} {kv : List (Str × V)} (D : Dn H t kv) (h : faultT kv = none) : ∀ n v, valV (kvK kv) (Sum.inr n) = some v → ∃ w, v = .int w := fun n v e => by
  rw [(conv_tabs D h).1] at e
  have := valV_mem e
  obtain ⟨b, _, eb⟩ := List.mem_map.mp this
  exact ⟨b.2, (congrArg Prod.snd eb).symm⟩
section
variable {P : Program} {w : World} {K : PySem.W.Frag} {mg : Str → Option Value} {base : Heap} {a : Nat → Addr} {d : Nat → FuncData}
theorem Dn.same {H H' : Hp} {t : Addr} {kv : List (Str × V)} (h : Dn H t kv) (s : Same H H') : Dn H' t kv := ⟨s _ _ h.at_, h.nd, h.nm, h.len⟩
def spChkKX (C : Addr) : Sp := fun vs H Q E => ∃ (k t : Addr) (kk kv : List (Str × V)), vs = [.ref k, .ref t] ∧ Dn H k kk ∧ Dn H t kv ∧ faultT kv = none ∧ (∀ p ∈ kk, Th1 H p.2) ∧ (faultK H kv kk = none → ∀ H', Same H H' → Q .non H') ∧ (∀ u, faultK H kv kk = some u → ∀ H', Same H H' → Er2 C "part" "name" (.str "keys") u H' E)
theorem ok_check_keysX (T : Txt K mg a d) : FnOk P w K mg base (L2.CX P w) 4 (a 21) (d 21) ["keys", "tables"] (spChkKX (a 3)) := by
  have G17 : FnOk P w K mg base CX0 3 (a 17) (d 17) ["thing", "width"] spIsKeyX := ok_is_keyX T
  have G1300 : FnOk P w K mg base CX0 1 (a 1300) (d 1300) ["self", "part", "name"] (spI2 (a 3) "part" "name") := ok_i2 T
  refine T.F21.okX sc__check_keys (fun vs H Q E h => ?_) (fun cdv A outer s H vs Q E hr h => ?_)
  · obtain ⟨k, t, kk, kv, rfl, _⟩ := h
    rfl
  · obtain ⟨k, t, kk, kv, rfl, Dk, Dt, hT, hth, q1, q2⟩ := h
    have hint := tab_ints Dt hT
    unfold faultK at q1 q2
    refine ⟨_, (pss_one (ps_for (passes_of rfl) rfl (pi_list (pe_callB (id := "sorted")  (call_sortedD rfl) (by rfl) T.z_sorted (by decide +kernel) (pa_cons (pv 0) pa_nil))) (pg_name (i := 2) sc__check_keys.nd rfl (.inl rfl))
    (pss_one (ps_if (PW.pt (pw_or (pt_cmp (pc_dnotin (hu_of hr) (pv 2) (pv 1))) (pw_or1 (pt_not (pt_val (pe_call G17 (hr.mono (by decide)) (by rfl) T.g17 T.F17.kp T.b17 .nil pass0 (pa_cons (pe_dget (hu_of hr) (pv 0) (pv 2) (fun _ _ => rfl)) (pa_cons (pe_dget (hu_of hr) (pv 1) (pv 2) (fun _ _ => rfl)) pa_nil))))))))
        (pss_one (ps_raise rfl (takes_of rfl rfl rfl rfl) (pmk_oex T.x_3 T.in_3 T.ti_3 G1300 (hr.mono (by decide)) T.b1300 .nil pass0 (by rfl) T.cg_3 (pa_cons pe_str (pa_cons (pv 2) pa_nil)))))
        pss_nil)))), ?_⟩
    refine ⟨_, rfl, k, _, kk.map (·.1), rfl, .inl Dk.at_, keys_kv kk, by rw [List.length_map]; exact Dk.len, fun ys p yp so hp => ⟨p, rfl, ?_⟩⟩
    rw [sortN_eq yp so] at q1 q2
    have s0 := same_upd (o := .lst (ys.map V.str)) hp
    refine ⟨⟨_, .of upd_same⟩, for_list (K := K) (a := p) (xs := ys.map V.str) (fun i σ H' => ∃ y1 : Option V, σ = [some (.ref k), some (.ref t), y1] ∧ Same (upd H p (.lst (ys.map V.str))) H' ∧ ∀ y ∈ ys.take i, (!okK H kv kk y) = false) ⟨none, rfl, Same.refl _, fun y hy => by cases hy⟩ (fun i σ H' _ hp => ?_) (fun i y σ H' hy hp => ?_) (fun σ H' hp => ?_)⟩
    · obtain ⟨y1, rfl, s1, _⟩ := hp
      exact .of (s1 _ _ upd_same)
    · obtain ⟨y1, rfl, s1, hok⟩ := hp
      obtain ⟨n, hn, rfl⟩ := map_at hy
      have hm := mem_names yp hn
      have hmv := (valN_mem hm Dk.nd).2
      have s01 := s0.trans s1
      have bad : okK H kv kk n = false → ∀ H', Same H H' → Er2 (a 3) "part" "name" (.str "keys") (.str n) H' E := fun e H' s' => q2 _ (by rw [find_at hok hn (by rw [e]; rfl)]; rfl) H' s'
      have good : okK H kv kk n = true → ∀ y ∈ ys.take (i + 1), (!okK H kv kk y) = false := fun e y hy => by
        rw [take_snoc hn] at hy
        rcases List.mem_append.mp hy with h | h
        · exact hok y h
        · rw [List.mem_singleton.mp h, e]
          rfl
      have dg := DGet.k (k := Sum.inr n) (Dt.same s01).at_
      rw [widthOf_val hint] at dg
      refine ⟨_, rfl, _, rfl, t, _, rfl, dg, _, rfl, ?_⟩
      cases ew : widthOf (kvK kv) n with
      | none => exact ⟨_, rfl, er2_raise (bad (by unfold okK; rw [ew]) H' s01)⟩
      | some w =>
        rw [ew] at dg
        refine ⟨_, rfl, _, rfl, k, _, rfl, (Dk.same s01).get hm, _, rfl, _, rfl, t, _, rfl, dg, valN kk n, w, rfl, (hth _ hmv).kp (.same s01), fun H2 s2 => ⟨_, rfl, ?_⟩⟩
        have e2 : keyB H' (valN kk n) w = okK H kv kk n := by
          unfold okK
          rw [ew]
          exact keyB_kp (hth _ hmv).th (.same s01)
        rw [e2]
        cases eo : okK H kv kk n with
        | false => exact ⟨_, rfl, er2_raise (bad eo H2 (s01.trans s2))⟩
        | true => exact ⟨_, rfl, s1.trans s2, good eo⟩
    · obtain ⟨y1, rfl, s1, hok⟩ := hp
      rw [List.length_map, List.take_length] at hok
      exact q1 (by rw [find_no hok]; rfl) H' (s0.trans s1)
/-! ### services -/
def okS (H : Hp) (kv sv : List (Str × V)) (n : Str) : Bool := wordB n && svcB H (kvK kv) (valN sv n)
noncomputable def faultS (H : Hp) (kv sv : List (Str × V)) : Option V := if 1 ≤ sv.length ∧ sv.length ≤ 8 then ((sortN (sv.map (·.1))).find? fun n => !okS H kv sv n).map V.str else some .non
theorem colsB_up {H H' : Hp} {v : V} {w : Int} (h : Thg H v) (k : Kp H H') : colsB H' v w = colsB H v w := colsB_kp h k
theorem svcB_kp {H H' : Hp} {kvs : List (Key × V)} {v : V} (h : Th2 H v) (k : Kp H H') : svcB H' kvs v = svcB H kvs v := by
  unfold svcB
  rw [tupOf_kp h.th k]
  cases e : tupOf H v with
  | none => rfl
  | some xs =>
    show svcL H' kvs xs = svcL H kvs xs
    have hit := (h.it xs e).2
    by_cases h3 : xs.length = 3
    · match xs, h3 with
      | [x, g, c], _ =>
        have hg : ∀ w, colsB H' g w = colsB H g w := fun w => colsB_kp (hit g (by simp)).th k
        simp only [svcL, hg]
    · rw [svcL_len h3, svcL_len h3]
def spChkSX (C : Addr) : Sp := fun vs H Q E => ∃ (v t : Addr) (sv kv : List (Str × V)), vs = [.ref v, .ref t] ∧ Dn H v sv ∧ Dn H t kv ∧ faultT kv = none ∧ (∀ p ∈ sv, Th2 H p.2) ∧ (faultS H kv sv = none → ∀ H', Same H H' → Q .non H') ∧ (∀ u, faultS H kv sv = some u → ∀ H', Same H H' → Er2 C "part" "name" (.str "services") u H' E)
theorem ok_check_servicesX (T : Txt K mg a d) : FnOk P w K mg base (L2.CX P w) 4 (a 22) (d 22) ["services", "tables"] (spChkSX (a 3)) := by
  have G8 : FnOk P w K mg base CX0 1 (a 8) (d 8) ["thing"] (spB wordV) := ok_is_word T
  have G18 : FnOk P w K mg base CX0 3 (a 18) (d 18) ["thing", "tables"] spIsSvcX := ok_is_serviceX T
  have G1300 : FnOk P w K mg base CX0 1 (a 1300) (d 1300) ["self", "part", "name"] (spI2 (a 3) "part" "name") := ok_i2 T
  refine T.F22.okX sc__check_services (fun vs H Q E h => ?_) (fun cdv A outer s H vs Q E hr h => ?_)
  · obtain ⟨v, t, sv, kv, rfl, _⟩ := h
    rfl
  · obtain ⟨v, t, sv, kv, rfl, Dv, Dt, hT, hth, q1, q2⟩ := h
    have hint := tab_ints Dt hT
    obtain ⟨t8, h_MOST_SERVICES⟩ := T.c_MOST_SERVICES
    have lk : (kvK sv).length = sv.length := List.length_map ..
    unfold faultS at q1 q2
    refine ⟨_, (pss_cons (ps_if (pt_not (pt_chain op_le op_le pe_int (pe_callB (id := "len")  call_lenD (by rfl) T.z_len (by decide +kernel) (pa_cons (pv 0) pa_nil)) (pe_glob (v := .int (8)) rfl h_MOST_SERVICES ⟨_, rfl⟩)))
    (pss_one (ps_raise rfl (takes_of rfl rfl rfl rfl) (pmk_oex T.x_3 T.in_3 T.ti_3 G1300 (hr.mono (by decide)) T.b1300 .nil pass0 (by rfl) T.cg_3 (pa_cons pe_str (pa_cons pe_non pa_nil)))))
    pss_nil)
  (pss_one (ps_for (passes_of rfl) rfl (pi_list (pe_callB (id := "sorted")  (call_sortedD rfl) (by rfl) T.z_sorted (by decide +kernel) (pa_cons (pv 0) pa_nil))) (pg_name (i := 2) sc__check_services.nd rfl (.inl rfl))
    (pss_one (ps_if (PW.pt (pw_or (pt_not (pt_val (pe_call G8 (hr.mono (by decide)) (by rfl) T.g8 T.F8.kp T.b8 .nil pass0 (pa_cons (pv 2) pa_nil)))) (pw_or1 (pt_not (pt_val (pe_call G18 (hr.mono (by decide)) (by rfl) T.g18 T.F18.kp T.b18 .nil pass0 (pa_cons (pe_dget (hu_of hr) (pv 0) (pv 2) (fun _ _ => rfl)) (pa_cons (pv 1) pa_nil))))))))
        (pss_one (ps_raise rfl (takes_of rfl rfl rfl rfl) (pmk_oex T.x_3 T.in_3 T.ti_3 G1300 (hr.mono (by decide)) T.b1300 .nil pass0 (by rfl) T.cg_3 (pa_cons pe_str (pa_cons (pv 2) pa_nil)))))
        pss_nil))))), ?_⟩
    refine ⟨_, rfl, v, kvK sv, rfl, Dv.at_, _, _, rfl, rfl, _, rfl, ite_d (fun h1 => ?_) (fun h1 => ?_)⟩
    · refine ⟨_, _, rfl, rfl, _, rfl, ite_nd (fun h2 => ?_) (fun h2 => ?_)⟩
      · rw [if_neg (by omega)] at q2
        exact er2_raise (q2 _ rfl H (Same.refl H))
      · rw [if_pos (by omega)] at q1 q2
        refine ⟨_, rfl, v, _, sv.map (·.1), rfl, .inl Dv.at_, keys_kv sv, by rw [List.length_map]; exact Dv.len, fun ys p yp so hp => ⟨p, rfl, ?_⟩⟩
        rw [sortN_eq yp so] at q1 q2
        have s0 := same_upd (o := .lst (ys.map V.str)) hp
        refine ⟨⟨_, .of upd_same⟩, for_list (K := K) (a := p) (xs := ys.map V.str) (fun i σ H' => ∃ y1 : Option V, σ = [some (.ref v), some (.ref t), y1] ∧ Same (upd H p (.lst (ys.map V.str))) H' ∧ ∀ y ∈ ys.take i, (!okS H kv sv y) = false) ⟨none, rfl, Same.refl _, fun y hy => by cases hy⟩ (fun i σ H' _ hp => ?_) (fun i y σ H' hy hp => ?_) (fun σ H' hp => ?_)⟩
        · obtain ⟨y1, rfl, s1, _⟩ := hp
          exact .of (s1 _ _ upd_same)
        · obtain ⟨y1, rfl, s1, hok⟩ := hp
          obtain ⟨n, hn, rfl⟩ := map_at hy
          have hm := mem_names yp hn
          have hmv := (valN_mem hm Dv.nd).2
          have s01 := s0.trans s1
          have bad : okS H kv sv n = false → ∀ H', Same H H' → Er2 (a 3) "part" "name" (.str "services") (.str n) H' E := fun e H' s' => q2 _ (by rw [find_at hok hn (by rw [e]; rfl)]; rfl) H' s'
          refine ⟨_, rfl, .str n, rfl, (Dv.nm _ hmv).thg, fun H1 s2 => ⟨_, rfl, ?_⟩⟩
          have s02 := s01.trans s2
          show if (!wordB n) = true then _ else _
          cases ew : wordB n with
          | false => exact ⟨_, rfl, er2_raise (bad (by unfold okS; rw [ew]; rfl) H1 s02)⟩
          | true =>
            refine ⟨_, rfl, _, rfl, v, _, rfl, (Dv.same s02).get hm, _, rfl, valN sv n, t, kvK kv, rfl, (hth _ hmv).kp (.same s02), s02 _ _ Dt.at_, hint, fun H2 s3 => ⟨_, rfl, ?_⟩⟩
            have s03 := s02.trans s3
            rw [svcB_kp (hth _ hmv) (.same s02)]
            cases ec : svcB H (kvK kv) (valN sv n) with
            | false => exact ⟨_, rfl, er2_raise (bad (by unfold okS; rw [ew, ec]; rfl) H2 s03)⟩
            | true =>
              refine ⟨_, rfl, (s1.trans s2).trans s3, fun y hy => ?_⟩
              rw [take_snoc hn] at hy
              rcases List.mem_append.mp hy with h | h
              · exact hok y h
              · rw [List.mem_singleton.mp h]
                unfold okS
                rw [ew, ec]
                rfl
        · obtain ⟨y1, rfl, s1, hok⟩ := hp
          rw [List.length_map, List.take_length] at hok
          exact q1 (by rw [find_no hok]; rfl) H' (s0.trans s1)
    · rw [if_neg (by omega)] at q2
      exact ⟨_, rfl, er2_raise (q2 _ rfl H (Same.refl H))⟩
end
/-! ### right keys and services, as data -/
def adrV : V → Addr
  | .ref a => a
  | _ => 0
def capOf : V → Option Int
  | .int i => some i
  | _ => none
def intsOf (H : Hp) (v : V) : List Int := ((tupOf H v).getD []).map intV
def ksOf (H : Hp) (kk : List (Str × V)) : List KeyE := kk.map fun p => (p.1, adrV p.2, intsOf H p.2)
def svOf (H : Hp) (n : Str) (v : V) : List V → SvE
  | [x, g, c] => ⟨n, adrV v, (match x with | .str s => s | _ => ""), adrV g, intsOf H g, capOf c⟩
  | _ => ⟨n, adrV v, "", 0, [], none⟩
def ssOf (H : Hp) (sv : List (Str × V)) : List SvE := sv.map fun p => svOf H p.1 p.2 ((tupOf H p.2).getD [])
theorem svOf_name (H : Hp) (n : Str) (v : V) (xs : List V) : (svOf H n v xs).name = n := by
  unfold svOf
  split <;> rfl
theorem ss_names (H : Hp) (sv : List (Str × V)) : (ssOf H sv).map (·.name) = sv.map (·.1) := by
  unfold ssOf
  rw [List.map_map]
  exact List.map_congr_left fun p _ => svOf_name _ _ _ _
theorem ks_names (H : Hp) (kk : List (Str × V)) : (ksOf H kk).map (·.1) = kk.map (·.1) := by
  unfold ksOf
  rw [List.map_map]
  rfl
theorem intsOf_kp {H H' : Hp} {v : V} (h : Thg H v) (k : Kp H H') : intsOf H' v = intsOf H v := by
  unfold intsOf
  rw [tupOf_kp h k]
theorem ksOf_kp {H H' : Hp} {kk : List (Str × V)} (h : ∀ p ∈ kk, Thg H p.2) (k : Kp H H') : ksOf H' kk = ksOf H kk := by
  unfold ksOf
  exact List.map_congr_left fun p hp => by rw [intsOf_kp (h p hp) k]
theorem ssOf_kp {H H' : Hp} {sv : List (Str × V)} (h : ∀ p ∈ sv, Th2 H p.2) (k : Kp H H') : ssOf H' sv = ssOf H sv := by
  unfold ssOf
  refine List.map_congr_left fun p hp => ?_
  rw [tupOf_kp (h p hp).th k]
  cases e : tupOf H p.2 with
  | none => rfl
  | some xs =>
    have hit := ((h p hp).it xs e).2
    show svOf H' p.1 p.2 xs = svOf H p.1 p.2 xs
    unfold svOf
    split
    · rename_i x g c
      rw [intsOf_kp (hit g (by simp)).th k]
    · rfl
theorem goCols_cols {w : Int} : ∀ {xs : List V} {l : Int}, 0 ≤ l → goCols w l xs = true → xs = (xs.map intV).map V.int ∧ (xs.map intV).Pairwise (· < ·) ∧ ∀ c ∈ xs.map intV, l ≤ c ∧ c < w
  | [], _, _, _ => ⟨rfl, .nil, fun c hc => by cases hc⟩
  | x :: xs, l, hl, h => by
    cases x with
    | int i =>
      have h' : (decide (l ≤ i ∧ i < w) && goCols w (i + 1) xs) = true := h
      rw [Bool.and_eq_true] at h'
      have h1 := of_decide_eq_true h'.1
      obtain ⟨a1, a2, a3⟩ := goCols_cols (xs := xs) (l := i + 1) (by omega) h'.2
      refine ⟨?_, ?_, fun c hc => ?_⟩
      · show V.int i :: xs = V.int i :: ((xs.map intV).map V.int)
        rw [← a1]
      · show (i :: xs.map intV).Pairwise (· < ·)
        exact List.pairwise_cons.mpr ⟨fun c hc => by have := (a3 c hc).1; omega, a2⟩
      · rcases List.mem_cons.mp (show c ∈ i :: xs.map intV from hc) with rfl | hc
        · exact h1
        · have := a3 c hc
          omega
    | _ => cases h
theorem colsB_ok {H : Hp} {v : V} {w : Int} (h : colsB H v w = true) : H (adrV v) = some (.tup ((intsOf H v).map V.int)) ∧ v = .ref (adrV v) ∧ Cols (intsOf H v) w := by
  unfold colsB at h
  cases e : tupOf H v with
  | none => rw [e] at h; cases h
  | some xs =>
    rw [e] at h
    obtain ⟨a, rfl, ha⟩ := tupOf_some e
    obtain ⟨a1, a2, a3⟩ := goCols_cols (Int.le_refl 0) h
    have ei : intsOf H (.ref a) = xs.map intV := by
      unfold intsOf
      rw [e]
      rfl
    rw [ei, ← a1]
    exact ⟨ha, rfl, a2, a3⟩
theorem cols_len {cs : List Int} {w : Int} (h : Cols cs w) (hw : w ≤ 4) : cs.length ≤ 4 := by
  have nd : cs.Nodup := h.1.imp fun h e => by rw [e] at h; exact absurd h (Int.lt_irrefl _)
  have := (nd_sub nd (ys := [0, 1, 2, 3]) fun x hx => by
    have := h.2 x hx
    have : x = 0 ∨ x = 1 ∨ x = 2 ∨ x = 3 := by omega
    rcases this with rfl | rfl | rfl | rfl <;> simp).1
  exact this
theorem find_none_map {f : Str → V} {o : Option Str} (h : o.map f = none) : o = none := by
  cases o with
  | none => rfl
  | some x => cases h
theorem conv_keys {H : Hp} {t k : Addr} {kv kk : List (Str × V)} (Dt : Dn H t kv) (Dk : Dn H k kk) (hT : faultT kv = none) (hK : faultK H kv kk = none) : kvK kk = keyK (ksOf H kk) ∧ Keys H (tsOf kv) (ksOf H kk) := by
  obtain ⟨ct, Tb, _, _⟩ := conv_tabs Dt hT
  have hf := find_none_map hK
  have hok : ∀ p ∈ kk, ∃ w, (p.1, w) ∈ tsOf kv ∧ keyB H p.2 w = true := fun p hp => by
    have := sortN_find hf p.1 (List.mem_map.mpr ⟨p, hp, rfl⟩)
    have h2 : okK H kv kk p.1 = true := by simpa using this
    unfold okK at h2
    cases ew : widthOf (kvK kv) p.1 with
    | none => rw [ew] at h2; cases h2
    | some w =>
      rw [ew, valN_of hp Dk.nd] at h2
      refine ⟨w, ?_, h2⟩
      have e := widthOf_val (n := p.1) (tab_ints Dt hT)
      rw [ew, ct] at e
      obtain ⟨b, hb, eb⟩ := List.mem_map.mp (valV_mem e)
      have e1 : b.1 = p.1 := Sum.inr.inj (congrArg Prod.fst eb)
      have e2 : b.2 = w := V.int.inj (congrArg Prod.snd eb)
      rw [← e1, ← e2]
      exact hb
  have hcol : ∀ p ∈ kk, ∀ w, keyB H p.2 w = true → colsB H p.2 w = true ∧ 0 < (intsOf H p.2).length ∧ ((intsOf H p.2).length : Int) < w := fun p _ w h => by
    unfold keyB at h
    unfold colsB intsOf
    cases e : tupOf H p.2 with
    | none => rw [e] at h; cases h
    | some xs =>
      rw [e] at h
      have h' : (goCols w 0 xs && decide (0 < (xs.length : Int) ∧ (xs.length : Int) < w)) = true := h
      rw [Bool.and_eq_true] at h'
      have h2 := of_decide_eq_true h'.2
      refine ⟨h'.1, ?_, ?_⟩
      · show 0 < (xs.map intV).length
        rw [List.length_map]
        omega
      · show ((xs.map intV).length : Int) < w
        rw [List.length_map]
        exact h2.2
  refine ⟨?_, ⟨by rw [ks_names]; exact Dk.nd, ?_, fun b hb => ?_, fun b hb => ?_⟩⟩
  · unfold kvK keyK ksOf
    rw [List.map_map]
    refine List.map_congr_left fun p hp => ?_
    obtain ⟨w, _, hw⟩ := hok p hp
    show (Sum.inr p.1, p.2) = (Sum.inr p.1, V.ref (adrV p.2))
    rw [← (colsB_ok (hcol p hp w hw).1).2.1]
  · have := (nd_sub Dk.nd (ys := (tsOf kv).map (·.1)) fun x hx => by
      obtain ⟨p, hp, rfl⟩ := List.mem_map.mp hx
      obtain ⟨w, hm, _⟩ := hok p hp
      exact List.mem_map.mpr ⟨_, hm, rfl⟩).1
    rw [List.length_map, List.length_map] at this
    unfold ksOf
    rw [List.length_map]
    exact this
  · obtain ⟨p, hp, rfl⟩ := List.mem_map.mp hb
    obtain ⟨w, _, hw⟩ := hok p hp
    exact (colsB_ok (hcol p hp w hw).1).1
  · obtain ⟨p, hp, rfl⟩ := List.mem_map.mp hb
    obtain ⟨w, hm, hw⟩ := hok p hp
    obtain ⟨a1, a2, a3⟩ := hcol p hp w hw
    exact ⟨w, hm, (colsB_ok a1).2.2, a2, a3⟩
theorem conv_svcs {H : Hp} {t v : Addr} {kv sv : List (Str × V)} (Dt : Dn H t kv) (Dv : Dn H v sv) (hT : faultT kv = none) (hS : faultS H kv sv = none) : kvK sv = svK (ssOf H sv) ∧ Nms ((ssOf H sv).map (·.name)) sv.length ∧ (∀ b ∈ ssOf H sv, SvOk H (tsOf kv) b) ∧ 1 ≤ sv.length ∧ sv.length ≤ 8 := by
  obtain ⟨ct, Tb, _, _⟩ := conv_tabs Dt hT
  unfold faultS at hS
  by_cases hl : 1 ≤ sv.length ∧ sv.length ≤ 8
  · rw [if_pos hl] at hS
    have hf := find_none_map hS
    have hok : ∀ p ∈ sv, wordB p.1 = true ∧ ∃ (s : Str) (g c : V) (w : Int), tupOf H p.2 = some [.str s, g, c] ∧ (s, w) ∈ tsOf kv ∧ colsB H g w = true ∧ (c = .non ∨ ∃ i, c = .int i ∧ 1 ≤ i ∧ i ≤ 4) := fun p hp => by
      have := sortN_find hf p.1 (List.mem_map.mpr ⟨p, hp, rfl⟩)
      have h2 : okS H kv sv p.1 = true := by simpa using this
      unfold okS at h2
      rw [Bool.and_eq_true, valN_of hp Dv.nd] at h2
      refine ⟨h2.1, ?_⟩
      have h3 := h2.2
      unfold svcB at h3
      cases e : tupOf H p.2 with
      | none => rw [e] at h3; cases h3
      | some xs =>
        rw [e] at h3
        have h3 : svcL H (kvK kv) xs = true := h3
        by_cases hl3 : xs.length = 3
        · match xs, hl3 with
          | [x, g, c], _ =>
            simp only [svcL, Bool.and_eq_true] at h3
            cases x with
            | str s =>
              have h4 := h3.1
              cases ew : widthOf (kvK kv) s with
              | none =>
                simp only [ew] at h4
                cases h4
              | some w =>
                simp only [ew] at h4
                have e2 := widthOf_val (n := s) (tab_ints Dt hT)
                rw [ew, ct] at e2
                obtain ⟨b, hb, eb⟩ := List.mem_map.mp (valV_mem e2)
                have e1 : b.1 = s := Sum.inr.inj (congrArg Prod.fst eb)
                have e3 : b.2 = w := V.int.inj (congrArg Prod.snd eb)
                refine ⟨s, g, c, w, rfl, by rw [← e1, ← e3]; exact hb, h4, ?_⟩
                rcases Bool.or_eq_true_iff.mp h3.2 with h | h
                · exact .inl (of_decide_eq_true h)
                · cases c with
                  | int i => exact .inr ⟨i, rfl, of_decide_eq_true h⟩
                  | _ => cases h
            | _ => cases h3.1
        · rw [svcL_len hl3] at h3
          cases h3
    refine ⟨?_, ⟨by rw [ss_names, List.length_map], by rw [ss_names]; exact Dv.nd, fun s hs => ?_⟩, fun b hb => ?_, hl.1, hl.2⟩
    · unfold kvK svK ssOf
      rw [List.map_map]
      refine List.map_congr_left fun p hp => ?_
      obtain ⟨_, s, g, c, w, e, _⟩ := hok p hp
      obtain ⟨a, ea, _⟩ := tupOf_some e
      show (Sum.inr p.1, p.2) = (Sum.inr (svOf H p.1 p.2 ((tupOf H p.2).getD [])).name, V.ref (svOf H p.1 p.2 ((tupOf H p.2).getD [])).at_)
      rw [e]
      show (Sum.inr p.1, p.2) = (Sum.inr p.1, V.ref (adrV p.2))
      rw [ea]
      rfl
    · rw [ss_names] at hs
      obtain ⟨p, hp, rfl⟩ := List.mem_map.mp hs
      exact word_wd (hok p hp).1
    · obtain ⟨p, hp, rfl⟩ := List.mem_map.mp hb
      obtain ⟨_, s, g, c, w, e, hm, hc, hcap⟩ := hok p hp
      obtain ⟨a, ea, ha⟩ := tupOf_some e
      show SvOk H (tsOf kv) (svOf H p.1 p.2 ((tupOf H p.2).getD []))
      rw [e, ea]
      obtain ⟨c1, c2, c3⟩ := colsB_ok hc
      refine ⟨⟨?_, c1⟩, ⟨w, hm, c3, cols_len c3 (Tb.wd _ hm).2⟩, fun z hz => ?_⟩
      · show H a = some (.tup [.str s, .ref (adrV g), capV (capOf c)])
        rw [ha, ← c2]
        rcases hcap with rfl | ⟨i, rfl, _⟩ <;> rfl
      · have hz : capOf c = some z := hz
        rcases hcap with rfl | ⟨i, rfl, h1, h2⟩
        · cases hz
        · cases hz
          exact ⟨h1, h2⟩
  · rw [if_neg hl] at hS
    cases hS
/-! ### one capped service a table -/
def capGo (ts : List (Str × Int)) (ks : List KeyE) : List Str → List SvE → Option Str
  | _, [] => none
  | fl, b :: r => if whE ts ks b = true then capGo ts ks fl r else if b.tab ∈ fl then some b.name else capGo ts ks (fl ++ [b.tab]) r
def svAt4 (ss : List SvE) (n : Str) : Option SvE := ss.find? fun b => decide (b.name = n)
noncomputable def ordS (ss : List SvE) : List SvE := (sortN (ss.map (·.name))).filterMap (svAt4 ss)
theorem svAt4_of : ∀ {ss : List SvE} {b : SvE}, (ss.map (·.name)).Nodup → b ∈ ss → svAt4 ss b.name = some b
  | c :: ss, b, nd, hb => by
    rw [List.map_cons] at nd
    obtain ⟨n1, n2⟩ := List.nodup_cons.mp nd
    unfold svAt4
    rcases List.mem_cons.mp hb with rfl | hb
    · exact List.find?_cons_of_pos (by simp)
    · rw [List.find?_cons_of_neg (by
        intro z
        have z' : c.name = b.name := by simpa using z
        exact n1 (by rw [z']; exact List.mem_map.mpr ⟨b, hb, rfl⟩))]
      exact svAt4_of n2 hb
theorem filterMap_names {ss : List SvE} (nd : (ss.map (·.name)).Nodup) : ∀ {L : List SvE}, (∀ b ∈ L, b ∈ ss) → (L.map (·.name)).filterMap (svAt4 ss) = L
  | [], _ => rfl
  | b :: L, h => by
    rw [List.map_cons, List.filterMap_cons, svAt4_of nd (h b List.mem_cons_self)]
    rw [filterMap_names nd fun c hc => h c (List.mem_cons_of_mem _ hc)]
theorem capGo_drop {ts : List (Str × Int)} {ks : List KeyE} {fl : List Str} {L : List SvE} {i : Nat} {b : SvE} (h : L[i]? = some b) : capGo ts ks fl (L.drop i) = if whE ts ks b = true then capGo ts ks fl (L.drop (i + 1)) else if b.tab ∈ fl then some b.name else capGo ts ks (fl ++ [b.tab]) (L.drop (i + 1)) := by
  have e : L.drop i = b :: L.drop (i + 1) := by
    have hi : i < L.length := (List.getElem?_eq_some_iff.mp h).1
    rw [← (List.getElem?_eq_some_iff.mp h).2, List.getElem_cons_drop]
  rw [e]
  rfl
section
variable {P : Program} {w : World} {K : PySem.W.Frag} {mg : Str → Option Value} {base : Heap} {a : Nat → Addr} {d : Nat → FuncData}
def spChkCX (C : Addr) : Sp := fun vs H Q E => ∃ (v t k : Addr) (ts : List (Str × Int)) (ks : List KeyE) (ss : List SvE) (m n : Nat), vs = [.ref v, .ref t, .ref k] ∧ H v = some (.dK (svK ss)) ∧ H t = some (.dK (tabK ts)) ∧ H k = some (.dK (keyK ks)) ∧ Tabs ts m 4 ∧ Keys H ts ks ∧ (∀ b ∈ ss, SvOk H ts b) ∧ Nms (ss.map (·.name)) n ∧ n ≤ 8 ∧
  (capGo ts ks [] (ordS ss) = none → ∀ H', Same H H' → Q .non H') ∧ (∀ x, capGo ts ks [] (ordS ss) = some x → ∀ H', Same H H' → Er2 C "part" "name" (.str "capped") (.str x) H' E)
theorem ok_check_cappedX (T : Txt K mg a d) : FnOk P w K mg base (L2.CX P w) 3 (a 23) (d 23) ["services", "tables", "keys"] (spChkCX (a 3)) := by
  have G19 : FnOk P w K mg base CX0 1 (a 19) (d 19) ["service", "tables", "keys"] spIsWh := ok_is_wh T
  have G1300 : FnOk P w K mg base CX0 1 (a 1300) (d 1300) ["self", "part", "name"] (spI2 (a 3) "part" "name") := ok_i2 T
  refine T.F23.okX sc__check_capped (fun vs H Q E h => ?_) (fun cdv A outer s H vs Q E hr h => ?_)
  · obtain ⟨v, t, k, ts, ks, ss, m, n, rfl, _⟩ := h
    rfl
  · obtain ⟨v, t, k, ts, ks, ss, m, n, rfl, hv, ht, hk, hT, hK, hS, hN, hn, q1, q2⟩ := h
    have ndS : ((svK ss).map (·.1)).Nodup := by rw [keys_sv]; exact inr_nd hN.nd
    have lss : ss.length = n := by rw [← hN.len, List.length_map]
    refine ⟨_, (pss_cons (ps_set (i := 3) sc__check_capped.nd rfl (.inl rfl) (pe_lst pa_nil))
  (pss_one (ps_for (passes_of rfl) rfl (pi_list (pe_callB (id := "sorted")  (call_sortedD rfl) (by rfl) T.z_sorted (by decide +kernel) (pa_cons (pv 0) pa_nil))) (pg_name (i := 4) sc__check_capped.nd rfl (.inl rfl))
    (pss_cons (ps_set (i := 5) sc__check_capped.nd rfl (.inl rfl) (pe_dget (hu_of hr) (pv 0) (pv 4) (fun _ _ => rfl)))
      (pss_one (ps_if (pt_not (pt_val (pe_call G19 (hr.mono (by decide)) (by rfl) T.g19 T.F19.kp T.b19 .nil pass0 (pa_cons (pv 5) (pa_cons (pv 1) (pa_cons (pv 2) pa_nil))))))
        (pss_cons (ps_if (pt_cmpR op_in_seq (pe_ix ix_tup (pv 5) pe_int (fun _ _ => rfl)) (pv 3) (by rfl))
            (pss_one (ps_raise rfl (takes_of rfl rfl rfl rfl) (pmk_oex T.x_3 T.in_3 T.ti_3 G1300 (hr.mono (by decide)) T.b1300 .nil pass0 (by rfl) T.cg_3 (pa_cons pe_str (pa_cons (pv 4) pa_nil)))))
            pss_nil)
          (pss_one (ps_expr (pe_bm PySem.F.plainAttrs_list PySem.F.slot_list_append PySem.F.type_list_append mt_append (pv 3) (pa_cons (pe_ix ix_tup (pv 5) pe_int (fun _ _ => rfl)) pa_nil)))))
        pss_nil)))))), ?_⟩
    refine ⟨Nat.zero_le _, fun f hf => ?_⟩
    have s0 := same_upd (o := .lst []) hf
    refine ⟨_, rfl, v, svK ss, ss.map (·.name), rfl, .inl (s0 _ _ hv), keys_sv ss, by rw [List.length_map]; omega, fun ys p yp so hp => ⟨p, rfl, ?_⟩⟩
    obtain ⟨L, hLp, rfl⟩ := perm_map_ex yp ss rfl
    have eo : ordS ss = L := by
      unfold ordS
      rw [sortN_eq yp so]
      exact filterMap_names hN.nd fun b hb => hLp.mem_iff.mp hb
    rw [eo] at q1 q2
    have s1 := same_upd (o := .lst ((L.map (·.name)).map V.str)) hp
    have nfp : f ≠ p := ne_of_none upd_same hp
    have lL : L.length ≤ 8 := by rw [hLp.length_eq]; omega
    refine ⟨⟨_, .of upd_same⟩, for_list (K := K) (a := p) (xs := (L.map (·.name)).map V.str) (fun i σ H' => ∃ (fl : List Str) (y4 y5 : Option V), σ = [some (.ref v), some (.ref t), some (.ref k), some (.ref f), y4, y5] ∧ H' p = some (.lst ((L.map (·.name)).map V.str)) ∧ H' f = some (.lst (fl.map V.str)) ∧ fl.length ≤ i ∧ capGo ts ks fl (L.drop i) = capGo ts ks [] L ∧ Same H H')
      ⟨[], none, none, rfl, upd_same, s1 _ _ upd_same, Nat.le_refl _, by rw [List.drop_zero], s0.trans s1⟩ (fun i σ H' _ hp => ?_) (fun i y σ H' hy hp => ?_) (fun σ H' hp => ?_)⟩
    · obtain ⟨fl, y4, y5, rfl, hp', _⟩ := hp
      exact .of hp'
    · obtain ⟨fl, y4, y5, rfl, hp', hf', hfl, hgo, sm⟩ := hp
      obtain ⟨nm, hn', rfl⟩ := map_at hy
      obtain ⟨b, hb, rfl⟩ := map_at hn'
      have hi : i < L.length := (List.getElem?_eq_some_iff.mp hb).1
      have hm : b ∈ ss := hLp.mem_iff.mp (List.mem_of_getElem? hb)
      obtain ⟨htold, ⟨w', hw', hcols, hcl⟩, hcap⟩ := hS b hm
      have hw2 := widthAt_mem hT.nm.nd hw'
      have vb : valV (svK ss) (Sum.inr b.name) = some (.ref b.at_) := val_nodup (kvs := svK ss) ndS (Sum.inr b.name, V.ref b.at_) (List.mem_map.mpr ⟨b, hm, rfl⟩)
      have we : whE ts ks b = isWh w' ks b.tab b.cols b.cap := by
        unfold whE
        rw [hw2]
      rw [capGo_drop hb, we] at hgo
      refine ⟨_, rfl, _, rfl, v, _, rfl, DctAt.at_ (.of (sm _ _ hv)) ndS vb, ?_⟩
      refine ⟨_, rfl, _, rfl, _, rfl, b.at_, t, k, b.ga, b.tab, b.cols, b.cap, w', ts, ks, m, rfl, htold.mono fun _ _ e => sm _ _ e, .of (sm _ _ ht), .of (sm _ _ hk), hT, hK.mono fun _ _ e => sm _ _ e, hw', by omega, fun H2 s2 => ⟨_, rfl, ?_⟩⟩
      have sm2 := sm.trans s2
      cases ew : isWh w' ks b.tab b.cols b.cap with
      | true =>
        rw [ew, if_pos rfl] at hgo
        exact ⟨fl, _, _, rfl, s2 _ _ hp', s2 _ _ hf', Nat.le_succ_of_le hfl, hgo, sm2⟩
      | false =>
        rw [ew, if_neg (by decide)] at hgo
        have hat := htold.tup
        refine ⟨_, rfl, _, _, _, _, rfl, rfl, .of (sm2 _ _ hat), atI_nat (j := 0) rfl, _, rfl, f, _, rfl, .inl (.of (s2 _ _ hf')), rfl, flat_strs _, _, rfl, ?_⟩
        show if inV (.str b.tab) (fl.map V.str) = true then _ else _
        rw [inV_strs]
        refine ite_d (fun hin => ?_) (fun hno => ?_)
        · rw [if_pos hin] at hgo
          exact ⟨_, rfl, er2_raise (q2 _ hgo.symm H2 sm2)⟩
        · rw [if_neg hno] at hgo
          refine ⟨_, rfl, .inl ⟨rfl, _, .of (s2 _ _ hf')⟩, _, rfl, _, _, _, _, rfl, rfl, .of (sm2 _ _ hat), atI_nat (j := 0) rfl, f, _, _, rfl, rfl, s2 _ _ hf', ?_, fl ++ [b.tab], _, _, rfl, ?_, ?_, ?_, hgo, ?_⟩
          · rw [List.length_map]
            exact Nat.lt_of_le_of_lt (by omega : _ ≤ 8) (by decide)
          · rw [upd_ne nfp.symm]
            exact s2 _ _ hp'
          · rw [List.map_append]
            exact upd_same
          · rw [List.length_append, List.length_singleton]
            omega
          · intro x o ex
            rw [upd_ne (ne_of_none ex hf)]
            exact sm2 x o ex
    · obtain ⟨fl, y4, y5, rfl, hp', hf', hfl, hgo, sm⟩ := hp
      rw [List.length_map, List.length_map, List.drop_length] at hgo
      exact q1 hgo.symm H' sm
/-! ### the class -/
noncomputable def fault (H : Hp) (kv kk sv : List (Str × V)) : Option (Str × V) := match faultT kv with
  | some u => some ("tables", u)
  | none => match faultK H kv kk with
    | some u => some ("keys", u)
    | none => match faultS H kv sv with
      | some u => some ("services", u)
      | none => match capGo (tsOf kv) (ksOf H kk) [] (ordS (ssOf H sv)) with
        | some x => some ("capped", .str x)
        | none => none
theorem faultK_kp {H H' : Hp} {kv kk : List (Str × V)} (nd : (kk.map (·.1)).Nodup) (h : ∀ p ∈ kk, Thg H p.2) (k : Kp H H') : faultK H' kv kk = faultK H kv kk := by
  unfold faultK
  congr 1
  have hp := sortN_perm (kk.map (·.1))
  have : ∀ n ∈ sortN (kk.map (·.1)), okK H' kv kk n = okK H kv kk n := fun n hn => by
    unfold okK
    cases widthOf (kvK kv) n with
    | none => rfl
    | some w => exact keyB_kp (h _ (valN_mem (hp.mem_iff.mp hn) nd).2) k
  generalize sortN (kk.map (·.1)) = l at this
  clear hp
  induction l with
  | nil => rfl
  | cons x l ih =>
    rw [List.find?_cons, List.find?_cons, this x List.mem_cons_self, ih fun n hn => this n (List.mem_cons_of_mem _ hn)]
theorem faultS_kp {H H' : Hp} {kv sv : List (Str × V)} (nd : (sv.map (·.1)).Nodup) (h : ∀ p ∈ sv, Th2 H p.2) (k : Kp H H') : faultS H' kv sv = faultS H kv sv := by
  unfold faultS
  have hp := sortN_perm (sv.map (·.1))
  have : ∀ n ∈ sortN (sv.map (·.1)), okS H' kv sv n = okS H kv sv n := fun n hn => by
    unfold okS
    rw [svcB_kp (h _ (valN_mem (hp.mem_iff.mp hn) nd).2) k]
  have e : (sortN (sv.map (·.1))).find? (fun n => !okS H' kv sv n) = (sortN (sv.map (·.1))).find? fun n => !okS H kv sv n := by
    generalize sortN (sv.map (·.1)) = l at this
    clear hp
    induction l with
    | nil => rfl
    | cons x l ih =>
      rw [List.find?_cons, List.find?_cons, this x List.mem_cons_self, ih fun n hn => this n (List.mem_cons_of_mem _ hn)]
  rw [e]
theorem fault_kp {H H' : Hp} {kv kk sv : List (Str × V)} (nk : (kk.map (·.1)).Nodup) (nv : (sv.map (·.1)).Nodup) (hk : ∀ p ∈ kk, Thg H p.2) (hv : ∀ p ∈ sv, Th2 H p.2) (k : Kp H H') : fault H' kv kk sv = fault H kv kk sv := by
  unfold fault
  rw [faultK_kp nk hk k, faultS_kp nv hv k, ksOf_kp hk k, ssOf_kp hv k]
/-- a Schema at p, by its three dicts -/
structure SchX (C p dx d1 d2 d3 : Addr) (H : Hp) (kv kk sv : List (Str × V)) : Prop where
  ob : H p = some (.ins C dx (fldsS d1 d2 d3))
  tb : DctAt H d1 (kvK kv)
  ky : DctAt H d2 (kvK kk)
  sv : DctAt H d3 (kvK sv)
def spSInitX (C CI : Addr) : Sp := fun vs H Q E => ∃ (p dx t k v : Addr) (kv kk sv : List (Str × V)), vs = [.ref p, .ref t, .ref k, .ref v] ∧ H p = some (.ins C dx []) ∧ Dn H t kv ∧ Dn H k kk ∧ Dn H v sv ∧ (∀ p ∈ kv, Thg H p.2) ∧ (∀ p ∈ kk, Th1 H p.2) ∧ (∀ p ∈ sv, Th2 H p.2) ∧
  (fault H kv kk sv = none → ∀ H' d1 d2 d3, SchX C p dx d1 d2 d3 H' kv kk sv → (∀ b o, b ≠ p → H b = some o → H' b = some o) → Q .non H') ∧ (∀ pt u, fault H kv kk sv = some (pt, u) → ∀ H', Same H H' → Er2 CI "part" "name" (.str pt) u H' E)
end
section
variable {P : Program} {w : World} {K : PySem.W.Frag} {mg : Str → Option Value} {base : Heap} {a : Nat → Addr} {d : Nat → FuncData}
theorem Dn.dct {H : Hp} {t : Addr} {kv : List (Str × V)} (h : Dn H t kv) : DctAt H t (kvK kv) := .of h.at_
theorem kvK_inj {H : Hp} {t : Addr} {kv : List (Str × V)} (D : Dn H t kv) {kvs : List (Key × V)} (e : kvK kv = kvs) : H t = some (.dK kvs) := by
  rw [← e]
  exact D.at_
theorem ok_sinitX (T : Txt K mg a d) : FnOk P w K mg base (L2.CX P w) 5 (a 3500) (d 3500) ["self", "tables", "keys", "services"] (spSInitX (a 25) (a 3)) := by
  have G20 : FnOk P w K mg base (L2.CX P w) 4 (a 20) (d 20) ["tables"] (spChkTX (a 3)) := ok_check_tablesX T
  have G21 : FnOk P w K mg base (L2.CX P w) 4 (a 21) (d 21) ["keys", "tables"] (spChkKX (a 3)) := ok_check_keysX T
  have G22 : FnOk P w K mg base (L2.CX P w) 4 (a 22) (d 22) ["services", "tables"] (spChkSX (a 3)) := ok_check_servicesX T
  have G23 : FnOk P w K mg base (L2.CX P w) 3 (a 23) (d 23) ["services", "tables", "keys"] (spChkCX (a 3)) := ok_check_cappedX T
  have G24 : FnOk P w K mg base CX0 1 (a 24) (d 24) ["things"] spCopied := ok_copied T
  refine T.F3500.okX sc_Schema___init__ (fun vs H Q E h => ?_) (fun cdv A outer s H vs Q E hr h => ?_)
  · obtain ⟨p, dx, t, k, v, kv, kk, sv, rfl, _⟩ := h
    rfl
  · obtain ⟨p, dx, t, k, v, kv, kk, sv, rfl, hp, Dt, Dk, Dv, ht, hk, hv, q1, q2⟩ := h
    refine ⟨_, (pss_cons (ps_expr (pe_call G20 (hr.mono (by decide)) (by rfl) T.g20 T.F20.kp T.b20 .nil (passes_call (takes_of rfl rfl rfl rfl) (fun _ _ _ _ h => h)) (pa_cons (pv 1) pa_nil)))
  (pss_cons (ps_expr (pe_call G21 (hr.mono (by decide)) (by rfl) T.g21 T.F21.kp T.b21 .nil (passes_call (takes_of rfl rfl rfl rfl) (fun _ _ _ _ h => h)) (pa_cons (pv 2) (pa_cons (pv 1) pa_nil))))
  (pss_cons (ps_expr (pe_call G22 (hr.mono (by decide)) (by rfl) T.g22 T.F22.kp T.b22 .nil (passes_call (takes_of rfl rfl rfl rfl) (fun _ _ _ _ h => h)) (pa_cons (pv 3) (pa_cons (pv 1) pa_nil))))
  (pss_cons (ps_expr (pe_call G23 (hr.mono (by decide)) (by rfl) T.g23 T.F23.kp T.b23 .nil (passes_call (takes_of rfl rfl rfl rfl) (fun _ _ _ _ h => h)) (pa_cons (pv 3) (pa_cons (pv 1) (pa_cons (pv 2) pa_nil)))))
  (pss_cons (ps_fld (pv 0) (pe_call G24 (hr.mono (by decide)) (by rfl) T.g24 T.F24.kp T.b24 .nil pass0 (pa_cons (pv 1) pa_nil)) rfl)
  (pss_cons (ps_fld (pv 0) (pe_call G24 (hr.mono (by decide)) (by rfl) T.g24 T.F24.kp T.b24 .nil pass0 (pa_cons (pv 2) pa_nil)) rfl)
  (pss_one (ps_fld (pv 0) (pe_call G24 (hr.mono (by decide)) (by rfl) T.g24 T.F24.kp T.b24 .nil pass0 (pa_cons (pv 3) pa_nil)) rfl)))))))), ?_⟩
    unfold fault at q1 q2
    refine ⟨_, rfl, t, kv, rfl, Dt, ht, fun eT H1 s1 => ?_, fun u eu H' s' => q2 "tables" u (by rw [eu]) H' s'⟩
    rw [eT] at q1 q2
    have k1 := Kp.same s1
    refine ⟨_, rfl, _, rfl, k, t, kk, kv, rfl, Dk.same s1, Dt.same s1, eT, fun p hp => (hk p hp).kp k1, fun eK H2 s2 => ?_, fun u eu H' s' => q2 "keys" u (by rw [faultK_kp Dk.nd (fun p hp => (hk p hp).th) k1] at eu; show (match faultK H kv kk with | some u => some (("keys" : Str), u) | none => _) = _; rw [eu]) H' (s1.trans s')⟩
    rw [faultK_kp Dk.nd (fun p hp => (hk p hp).th) k1] at eK
    simp only [eK] at q1 q2
    have s12 := s1.trans s2
    have k2 := Kp.same s12
    refine ⟨_, rfl, _, rfl, v, t, sv, kv, rfl, Dv.same s12, Dt.same s12, eT, fun p hp => (hv p hp).kp k2, fun eS H3 s3 => ?_, fun u eu H' s' => q2 "services" u (by rw [faultS_kp Dv.nd hv k2] at eu; simp only [eu]) H' (s12.trans s')⟩
    rw [faultS_kp Dv.nd hv k2] at eS
    simp only [eS] at q1 q2
    have s13 := s12.trans s3
    have k3 := Kp.same s13
    obtain ⟨ct, Tb, m1, m5⟩ := conv_tabs Dt eT
    obtain ⟨ck, Ks⟩ := conv_keys Dt Dk eT eK
    obtain ⟨cs, Ns, So, n1, n8⟩ := conv_svcs Dt Dv eT eS
    refine ⟨_, rfl, _, rfl, _, rfl, v, t, k, tsOf kv, ksOf H kk, ssOf H sv, _, _, rfl, kvK_inj (Dv.same s13) cs, kvK_inj (Dt.same s13) ct, kvK_inj (Dk.same s13) ck, Tb, Ks.mono k3.tup, fun b hb => (So b hb).mono k3.tup, Ns, n8, fun eC H4 s4 => ?_, fun x ex H' s' => q2 "capped" (.str x) (by simp only [ex]) H' (s13.trans s')⟩
    simp only [eC] at q1
    have s14 := s13.trans s4
    -- the three copies
    refine ⟨_, rfl, t, kvK kv, kv.map (·.1), rfl, (Dt.same s14).dct, keys_kv kv, Dt.nd, by rw [List.length_map]; exact Dt.len, fun d1 H5 f1 D1 s5 => ?_⟩
    have hp5 := (s14.trans s5) _ _ hp
    refine ⟨_, rfl, p, _, dx, _, rfl, hp5, T.cl_25, T.no_25__tables, by show 0 < 1000; decide, ?_⟩
    generalize hH6 : upd H5 p _ = H6
    have hp6 : H6 p = some (.ins (a 25) dx (putF "_tables" (.ref d1) [])) := by rw [← hH6]; exact upd_same
    have o6 : ∀ b o, b ≠ p → H5 b = some o → H6 b = some o := fun b o n e => by rw [← hH6, upd_ne n]; exact e
    have o06 : ∀ b o, b ≠ p → H b = some o → H6 b = some o := fun b o n e => o6 b o n ((s14.trans s5) _ _ e)
    refine ⟨_, rfl, k, kvK kk, kk.map (·.1), rfl, Dk.dct.but hp o06, keys_kv kk, Dk.nd, by rw [List.length_map]; exact Dk.len, fun d2 H7 f2 D2 s7 => ?_⟩
    have hp7 := s7 _ _ hp6
    refine ⟨_, rfl, p, _, dx, _, rfl, hp7, T.cl_25, T.no_25__keys, by show 1 < 1000; decide, ?_⟩
    generalize hH8 : upd H7 p _ = H8
    have hp8 : H8 p = some (.ins (a 25) dx (putF "_keys" (.ref d2) (putF "_tables" (.ref d1) []))) := by rw [← hH8]; exact upd_same
    have o8 : ∀ b o, b ≠ p → H7 b = some o → H8 b = some o := fun b o n e => by rw [← hH8, upd_ne n]; exact e
    have o68 : ∀ b o, b ≠ p → H6 b = some o → H8 b = some o := fun b o n e => o8 b o n (s7 _ _ e)
    have o08 : ∀ b o, b ≠ p → H b = some o → H8 b = some o := fun b o n e => o68 b o n (o06 b o n e)
    refine ⟨_, rfl, v, kvK sv, sv.map (·.1), rfl, Dv.dct.but hp o08, keys_kv sv, Dv.nd, by rw [List.length_map]; exact Dv.len, fun d3 H9 f3 D3 s9 => ?_⟩
    have hp9 := s9 _ _ hp8
    have l2 : ∀ d1 d2 : Addr, (putF "_keys" (.ref d2) (putF "_tables" (.ref d1) ([] : List (Str × V)))).length < 1000 := fun d1 d2 => by
      have e : putF "_keys" (.ref d2) (putF "_tables" (.ref d1) ([] : List (Str × V))) = [(("_tables" : Str), V.ref d1), (("_keys" : Str), V.ref d2)] := by
        show (if ("_tables" : Str) = "_keys" then _ else (("_tables" : Str), V.ref d1) :: putF "_keys" (.ref d2) []) = _
        rw [if_neg (by decide +kernel)]
        rfl
      rw [e]
      show 2 < 1000
      decide
    refine ⟨_, rfl, p, _, dx, _, rfl, hp9, T.cl_25, T.no_25__services, l2 _ _, ?_⟩
    generalize hH : upd H9 p _ = Hz
    have hpz : Hz p = some (.ins (a 25) dx (fldsS d1 d2 d3)) := by rw [← hH]; exact upd_same
    have oz : ∀ b o, b ≠ p → H9 b = some o → Hz b = some o := fun b o n e => by rw [← hH, upd_ne n]; exact e
    exact q1 trivial Hz d1 d2 d3 ⟨hpz, (((D1.but hp5 o6).same s7).but hp7 o8 |>.same s9).but hp9 oz, ((D2.but hp7 o8).same s9).but hp9 oz, D3.but hp9 oz⟩ fun b o n e => oz b o n (s9 _ _ (o08 b o n e))
def spPropX (C : Addr) (f : List (Str × V) → List (Str × V) → List (Str × V) → List (Str × V)) : Sp := fun vs H Q _ => ∃ (p dx d1 d2 d3 : Addr) (kv kk sv : List (Str × V)), vs = [.ref p] ∧ SchX C p dx d1 d2 d3 H kv kk sv ∧ ∀ D H', DctAt H' D (kvK (f kv kk sv)) → Same H H' → Q (.ref D) H'
theorem ok_p_tablesX (T : Txt K mg a d) : FnOk P w K mg base CX0 1 (a 3501) (d 3501) ["self"] (spPropX (a 25) fun kv _ _ => kv) := by
  refine T.F3501.ok sc_Schema_tables (fun vs H Q E h => ?_) (fun cdv A outer s H vs Q E hr h => ?_)
  · obtain ⟨p, dx, d1, d2, d3, kv, kk, sv, rfl, _⟩ := h
    rfl
  · obtain ⟨p, dx, d1, d2, d3, kv, kk, sv, rfl, o, q⟩ := h
    obtain ⟨kd, e, pk⟩ := o.tb
    exact ⟨_, (pss_one (ps_ret (pe_callTy (T := "dict")  call_dictD (by rfl) T.z_dict (by decide +kernel) (pa_cons (pe_fld (pv 0) rfl) pa_nil)))), _, rfl, p, _, dx, _, _, rfl, o.ob, T.cl_25, T.no_25__tables, flds_t _ _ _, d1, kd, rfl, .inl e, fun D hD => q D _ ⟨kd, upd_same, pk⟩ (same_upd hD)⟩
theorem ok_p_keysX (T : Txt K mg a d) : FnOk P w K mg base CX0 1 (a 3502) (d 3502) ["self"] (spPropX (a 25) fun _ kk _ => kk) := by
  refine T.F3502.ok sc_Schema_key_columns (fun vs H Q E h => ?_) (fun cdv A outer s H vs Q E hr h => ?_)
  · obtain ⟨p, dx, d1, d2, d3, kv, kk, sv, rfl, _⟩ := h
    rfl
  · obtain ⟨p, dx, d1, d2, d3, kv, kk, sv, rfl, o, q⟩ := h
    obtain ⟨kd, e, pk⟩ := o.ky
    exact ⟨_, (pss_one (ps_ret (pe_callTy (T := "dict")  call_dictD (by rfl) T.z_dict (by decide +kernel) (pa_cons (pe_fld (pv 0) rfl) pa_nil)))), _, rfl, p, _, dx, _, _, rfl, o.ob, T.cl_25, T.no_25__keys, flds_k _ _ _, d2, kd, rfl, .inl e, fun D hD => q D _ ⟨kd, upd_same, pk⟩ (same_upd hD)⟩
theorem ok_p_servicesX (T : Txt K mg a d) : FnOk P w K mg base CX0 1 (a 3503) (d 3503) ["self"] (spPropX (a 25) fun _ _ sv => sv) := by
  refine T.F3503.ok sc_Schema_services (fun vs H Q E h => ?_) (fun cdv A outer s H vs Q E hr h => ?_)
  · obtain ⟨p, dx, d1, d2, d3, kv, kk, sv, rfl, _⟩ := h
    rfl
  · obtain ⟨p, dx, d1, d2, d3, kv, kk, sv, rfl, o, q⟩ := h
    obtain ⟨kd, e, pk⟩ := o.sv
    exact ⟨_, (pss_one (ps_ret (pe_callTy (T := "dict")  call_dictD (by rfl) T.z_dict (by decide +kernel) (pa_cons (pe_fld (pv 0) rfl) pa_nil)))), _, rfl, p, _, dx, _, _, rfl, o.ob, T.cl_25, T.no_25__services, flds_s _ _ _, d3, kd, rfl, .inl e, fun D hD => q D _ ⟨kd, upd_same, pk⟩ (same_upd hD)⟩
theorem SchX.same {C p dx d1 d2 d3 : Addr} {H H' : Hp} {kv kk sv : List (Str × V)} (h : SchX C p dx d1 d2 d3 H kv kk sv) (s : Same H H') : SchX C p dx d1 d2 d3 H' kv kk sv := ⟨s _ _ h.ob, h.tb.same s, h.ky.same s, h.sv.same s⟩
end
section
variable {P : Program} {w : World} {K : PySem.W.Frag} {mg : Str → Option Value} {base : Heap} {a : Nat → Addr} {d : Nat → FuncData}
theorem ok_isint (T : Txt K mg a d) : FnOk P w K mg base CX0 1 (a 44) (d 44) ["_law_thing"] (spB plainV) := by
  refine T.F44.ok sc__law_is_integer (fun vs H Q E h => ?_) (fun cdv A outer s H vs Q E hr h => ?_)
  · obtain ⟨v, rfl, _⟩ := h
    rfl
  · obtain ⟨v, rfl, hv, q⟩ := h
    refine ⟨_, (pss_one (ps_ret (pe_and (pe_callB (id := "isinstance")  call_isi (by rfl) T.z_isinstance (by decide +kernel) (pa_cons (pv 0) (pa_cons (pe_bltn (v := .ty "int") (by rfl) T.z_int (by decide +kernel) rfl) pa_nil))) (pe_one (pe_not (pe_callB (id := "isinstance")  call_isi (by rfl) T.z_isinstance (by decide +kernel) (pa_cons (pv 0) (pa_cons (pe_bltn (v := .ty "bool") (by rfl) T.z_bool (by decide +kernel) rfl) pa_nil)))))))), ?_⟩
    obtain ⟨n, ht, k1, k2, k3⟩ := hv.ty (K := K)
    refine ⟨_, rfl, _, _, _, _, _, rfl, .ty _, ht, kit_ty k1, _, rfl, ?_⟩
    have q : Q (.bl (tyInt v && !tyBool v)) H := q H (Same.refl H)
    refine ite2 (fun e => ?_) (fun e => ?_)
    · rw [e] at q
      exact ⟨_, rfl, _, _, _, _, _, rfl, .ty _, ht, kit_ty k2, _, rfl, q⟩
    · rw [Bool.eq_false_iff.mpr e] at q
      exact q
theorem dp_sgns {K : PySem.W.Frag} {H : Hp} : ∀ cs : List Nat, DpAll K H (cs.map fun c => V.str ⟨#[c]⟩) (cs.map fun c => PyData.str ⟨#[c]⟩)
  | [] => .nil
  | c :: cs => .cons (.str _) (dp_sgns cs)
theorem sgns_shaped {cs : List Nat} (h : ∀ c ∈ cs, c < 128) : SeqAt.shaped (.list (cs.map fun c => PyData.str ⟨#[c]⟩)) = true := by
  have := strs_shapedL (ns := cs.map fun c => (⟨#[c]⟩ : Str)) fun s hs => by
    obtain ⟨c, hc, rfl⟩ := List.mem_map.mp hs
    intro x hx
    have : x = c := by simpa using hx
    rw [this]
    exact h c hc
  rw [List.map_map] at this
  exact this
theorem filter_okC (cs : List Nat) : ((cs.filter fun c => !okC c).map fun c => PyData.str ⟨#[c]⟩).isEmpty = cs.all okC := by
  induction cs with
  | nil => rfl
  | cons c cs ih =>
    cases h : okC c with
    | true => rw [List.filter_cons_of_neg (by rw [h]; decide), ih, List.all_cons, h, Bool.true_and]
    | false =>
      rw [List.filter_cons_of_pos (by rw [h]; rfl), List.all_cons, h, Bool.false_and]
      rfl
def spWordS : Sp := fun vs H Q _ => ∃ s : Str, vs = [.str s] ∧ NmOk s ∧ ∀ H', Same H H' → Q (.bl (wordB s)) H'
theorem ok_lword (T : Txt K mg a d) : FnOk P w K mg base CX0 1 (a 45) (d 45) ["_law_thing"] spWordS := by
  refine T.F45.ok sc__law_is_word (fun vs H Q E h => ?_) (fun cdv A outer s H vs Q E hr h => ?_)
  · obtain ⟨s, rfl, _⟩ := h
    rfl
  · obtain ⟨s, rfl, hs, q⟩ := h
    obtain ⟨hl, hlow⟩ := hs
    refine ⟨_, (pss_cons (ps_if (PW.pt (pw_or (pt_not (pt_val (pe_callB (id := "isinstance")  call_isi (by rfl) T.z_isinstance (by decide +kernel) (pa_cons (pv 0) (pa_cons (pe_bltn (v := .ty "str") (by rfl) T.z_str (by decide +kernel) rfl) pa_nil))))) (pw_or (pt_cmpR op_lt (pe_callB (id := "len")  call_len_str (by rfl) T.z_len (by decide +kernel) (pa_cons (pv 0) pa_nil)) pe_int (nomark _)) (pw_or1 (pt_cmpR op_gt (pe_callB (id := "len")  call_len_str (by rfl) T.z_len (by decide +kernel) (pa_cons (pv 0) pa_nil)) pe_int (nomark _))))))
    (pss_one (ps_ret pe_bl))
    pss_nil)
  (pss_one (ps_ret (pe_cmpR (op_eqD (hu_of64 hr)) (pe_lc (own := [("_law_sign", 1)]) rfl sc__law_is_word.nd (pi_str (pv 0)) (blkOk_by (N := ["_law_thing", "_law_sign"]) (sc := defScope s__law_is_word) (by decide +kernel)) (fun _ _ _ _ _ => pg_name (i := 1) sc__law_is_word.nd rfl (.inl rfl)) (fun _ _ _ _ _ => (pts_one (pt_cmpR op_notIn_sign (pv 1) pe_str (by rfl)))) (fun _ _ _ _ _ => (pv 1))) (pe_lst pa_nil) (nomark _))))), ?_⟩
    refine ⟨_, rfl, _, _, _, _, _, rfl, .ty _, .base (.str s), kit_ty (show kitB "str" "str" = some true by decide +kernel), _, rfl, ?_⟩
    have q : ∀ H', Same H H' → Q (.bl (decide (1 ≤ s.length ∧ s.length ≤ 8) && s.cps.toList.all okC)) H' := q
    have bad : ¬ (1 ≤ s.length ∧ s.length ≤ 8) → Q (.bl false) H := fun h => by
      have q1 := q H (Same.refl H)
      rw [decide_eq_false h] at q1
      exact q1
    refine ⟨_, rfl, _, rfl, small1000' (by omega), _, _, rfl, rfl, _, rfl, ite_d (fun h1 => bad (by omega)) (fun h1 => ?_)⟩
    refine ⟨_, rfl, _, rfl, small1000' (by omega), _, _, rfl, rfl, _, rfl, ite_d (fun h2 => bad (by omega)) (fun h2 => ?_)⟩
    have e : decide (1 ≤ s.length ∧ s.length ≤ 8) = true := decide_eq_true (by omega)
    rw [e] at q
    refine ⟨_, rfl, _, rfl, fun D hD => ?_⟩
    refine lc_str (fun i H' => H' D = some (.lst (((s.cps.toList.take i).filter fun c => !okC c).map fun c => V.str ⟨#[c]⟩)) ∧ Same H H') ⟨upd_same, same_upd hD⟩ (fun i c H' hx hp => ?_) (fun H' hp => ?_)
    · have hx' : s.cps.toList[i]? = some c := by rw [Array.getElem?_toList]; exact hx
      have et : (s.cps.toList.take (i + 1)).filter (fun c => !okC c) = (s.cps.toList.take i).filter (fun c => !okC c) ++ (if (!okC c) = true then [c] else []) := by
        rw [List.take_add_one, hx', List.filter_append]
        show _ ++ (List.filter (fun c => !okC c) [c]) = _
        rw [List.filter_cons]
        rfl
      refine ⟨rfl, _, rfl, c, _, rfl, rfl, _, rfl, ?_⟩
      rw [sgn_in]
      refine ite2 (fun h3 => ?_) (fun h3 => ?_)
      · refine ⟨_, rfl, _, hp.1, ?_, ?_, fun x o ex => ?_⟩
        · rw [List.length_map]
          have h4 := List.length_filter_le (fun c => !okC c) (s.cps.toList.take i)
          have h5 : s.cps.toList.length = s.length := Array.length_toList
          rw [List.length_take] at h4
          exact small1000 (by omega)
        · rw [et, if_pos h3, List.map_append]
          exact upd_same
        · rw [upd_ne (ne_of_none ex hD)]
          exact hp.2 x o ex
      · rw [et, if_neg h3, List.append_nil]
        exact hp
    · obtain ⟨h3, h4⟩ := hp
      have et : s.cps.toList.take s.cps.size = s.cps.toList := List.take_of_length_le (Nat.le_of_eq Array.length_toList)
      rw [et] at h3
      refine ⟨Nat.zero_le _, fun e he => ⟨_, .list [], .lst (.of (same_upd he _ _ h3)) (dp_sgns _), .lst (.of upd_same) .nil, sgns_shaped fun c hc => hlow c (List.mem_filter.mp hc).1, by decide, ?_⟩⟩
      rw [eqv_nilL, filter_okC]
      exact q _ (h4.trans (same_upd he))
def spGoodCols : Sp := fun vs H Q _ => ∃ (v : V) (w : Int), vs = [v, .int w] ∧ Th1 H v ∧ ∀ H', Same H H' → Q (.bl (colsB H v w)) H'
theorem ok_goodcols (T : Txt K mg a d) : FnOk P w K mg base CX0 2 (a 46) (d 46) ["_law_thing", "_law_width_here"] spGoodCols := by
  have G44 : FnOk P w K mg base CX0 1 (a 44) (d 44) ["_law_thing"] (spB plainV) := ok_isint T
  refine T.F46.ok sc__law_good_columns (fun vs H Q E h => ?_) (fun cdv A outer s H vs Q E hr h => ?_)
  · obtain ⟨v, w, rfl, _⟩ := h
    rfl
  · obtain ⟨v, w, rfl, hv, q⟩ := h
    obtain ⟨n, hty, k1⟩ := hv.th.tyT (K := K)
    refine ⟨_, (pss_cons (ps_if (pt_not (pt_val (pe_callB (id := "isinstance")  call_isi (by rfl) T.z_isinstance (by decide +kernel) (pa_cons (pv 0) (pa_cons (pe_bltn (v := .ty "tuple") (by rfl) T.z_tuple (by decide +kernel) rfl) pa_nil)))))
    (pss_one (ps_ret pe_bl))
    pss_nil)
  (pss_cons (ps_for PassesOwn.never rfl (pi_range1 (by rfl) T.z_range (pa_cons (pe_callB (id := "len")  call_len_seq (by rfl) T.z_len (by decide +kernel) (pa_cons (pv 0) pa_nil)) pa_nil)) (pg_name (i := 2) sc__law_good_columns.nd rfl (.inl rfl))
    (pss_cons (ps_if (PW.pt (pw_or (pt_not (pt_val (pe_call G44 (hr.mono (by decide)) (by rfl) T.g44 T.F44.kp T.b44 .nil pass0 (pa_cons (pe_ix ix_tup (pv 0) (pv 2) (fun _ _ => rfl)) pa_nil)))) (pw_or (pt_cmpR op_lt (pe_ix ix_tup (pv 0) (pv 2) (fun _ _ => rfl)) pe_int (nomark _)) (pw_or1 (pt_cmpR op_ge (pe_ix ix_tup (pv 0) (pv 2) (fun _ _ => rfl)) (pv 1) (nomark _))))))
        (pss_one (ps_ret pe_bl))
        pss_nil)
      (pss_one (ps_if (PW.pt (pw_and (pt_cmpR op_gt (pv 2) pe_int (nomark _)) (pw_and1 (pt_cmpR op_ge (pe_ix ix_tup (pv 0) (pe_op op_sub (pv 2) pe_int) (fun _ _ => rfl)) (pe_ix ix_tup (pv 0) (pv 2) (fun _ _ => rfl)) (nomark _)))))
        (pss_one (ps_ret pe_bl))
        pss_nil))))
  (pss_one (ps_ret pe_bl)))), ?_⟩
    refine ⟨_, rfl, _, _, _, _, _, rfl, .ty _, hty, kit_ty k1, _, rfl, ?_⟩
    unfold colsB at q
    cases et : tupOf H v with
    | none =>
      rw [et] at q
      exact q H (Same.refl H)
    | some xs =>
      rw [et] at q
      obtain ⟨c, rfl, hc⟩ := tupOf_some et
      have hlen := (hv.it xs et).1
      have hit := (hv.it xs et).2
      have q : ∀ H', Same H H' → Q (.bl (goCols w 0 xs)) H' := q
      refine ⟨_, rfl, _, _, rfl, .inr (.of hc), _, rfl, by omega, by omega, ?_⟩
      rw [Int.toNat_natCast]
      refine for_range (lo := 0) (n := xs.length) (fun i σ H' => ∃ y2 : Option V, σ = [some (.ref c), some (.int w), y2] ∧ Same H H' ∧ ∃ l : Int, goCols w l (xs.drop i) = goCols w 0 xs ∧ 0 ≤ l ∧ (i = 0 → l = 0) ∧ (∀ j, i = j + 1 → ∃ z : Int, xs[j]? = some (.int z) ∧ l = z + 1 ∧ 0 ≤ z)) ⟨none, rfl, Same.refl H, 0, by rw [List.drop_zero], Int.le_refl 0, fun _ => rfl, fun j hj => by omega⟩ (fun i σ H' hi hp => ?_) (fun σ H' hp => ?_)
      · obtain ⟨y2, rfl, s1, l, hgo, hl0, hz, hprev⟩ := hp
        have hx : xs[i]? = some xs[i] := List.getElem?_eq_getElem hi
        generalize hxi : xs[i] = x at hx
        rw [goCols_drop hx] at hgo
        have hat : ∀ {u : Hp}, Same H u → SqT K u c xs := fun su => .of (su _ _ hc)
        have h0i : (0 : Int) + (i : Int) = ((i : Nat) : Int) := Int.zero_add _
        refine ⟨_, rfl, _, rfl, _, _, _, _, rfl, rfl, hat s1, at_g h0i hx, x, rfl, (hit x (List.mem_of_getElem? hx)).same s1, fun H1 s2 => ⟨_, rfl, ?_⟩⟩
        have s12 := s1.trans s2
        have no : goCols w 0 xs = false → Q (.bl false) H1 := fun e => by
          have := q H1 s12
          rw [e] at this
          exact this
        cases ep : plainV x with
        | false => exact no (by rw [← hgo]; cases x <;> first | rfl | cases ep)
        | true =>
          obtain ⟨j, rfl⟩ := plain_int ep
          have hgo : (decide (l ≤ j ∧ j < w) && goCols w (j + 1) (xs.drop (i + 1))) = goCols w 0 xs := hgo
          refine ⟨_, rfl, _, rfl, _, _, _, _, rfl, rfl, hat s12, at_g h0i hx, _, _, rfl, rfl, _, rfl, ite_d (fun h1 => no (by rw [← hgo, decide_eq_false (by omega)]; rfl)) (fun h1 => ?_)⟩
          refine ⟨_, rfl, _, rfl, _, _, _, _, rfl, rfl, hat s12, at_g h0i hx, _, rfl, _, _, rfl, rfl, _, rfl, ite_d (fun h2 => no (by rw [← hgo, decide_eq_false (by omega)]; rfl)) (fun h2 => ?_)⟩
          refine ⟨_, rfl, _, _, rfl, rfl, _, rfl, ite_d (fun h3 => ?_) (fun h3 => ?_)⟩
          · have hi1 : i = (i - 1) + 1 := by omega
            obtain ⟨z, hz1, hz2, hz3⟩ := hprev (i - 1) hi1
            have hm : (0 : Int) + (i : Int) - 1 = ((i - 1 : Nat) : Int) := by omega
            refine ⟨_, rfl, _, rfl, _, _, rfl, rfl, _, _, _, _, rfl, rfl, hat s12, at_g hm hz1, _, rfl, _, rfl, _, _, _, _, rfl, rfl, hat s12, at_g h0i hx, _, _, rfl, rfl, _, rfl, ite_d (fun h4 => no (by rw [← hgo, decide_eq_false (by omega)]; rfl)) (fun h4 => ?_)⟩
            refine ⟨_, rfl, s12, j + 1, ?_, by omega, fun e => by omega, fun k hk => ⟨j, ?_, rfl, by omega⟩⟩
            · rw [← hgo, decide_eq_true (by omega), Bool.true_and]
            · rw [show k = i by omega]
              exact hx
          · have hi0 : i = 0 := by omega
            have hl := hz hi0
            refine ⟨_, rfl, s12, j + 1, ?_, by omega, fun e => by omega, fun k hk => ⟨j, ?_, rfl, by omega⟩⟩
            · rw [← hgo, decide_eq_true (by omega), Bool.true_and]
            · rw [show k = i by omega]
              exact hx
      · obtain ⟨y2, rfl, s1, l, hgo, _⟩ := hp
        rw [List.drop_length] at hgo
        have e0 : goCols w 0 xs = true := hgo.symm
        rw [e0] at q
        exact q H' s1
end
section
variable {P : Program} {w : World} {K : PySem.W.Frag} {mg : Str → Option Value} {base : Heap} {a : Nat → Addr} {d : Nat → FuncData}
def spGoodSvc : Sp := fun vs H Q _ => ∃ (t : Addr) (v : V) (kvs : List (Key × V)), vs = [.ref t, v] ∧ Th2 H v ∧ H t = some (.dK kvs) ∧ (∀ n v, valV kvs (Sum.inr n) = some v → ∃ w, v = .int w) ∧ ∀ H', Same H H' → Q (.bl (svcB H kvs v)) H'
theorem ok_goodsvc (T : Txt K mg a d) : FnOk P w K mg base CX0 3 (a 47) (d 47) ["_law_tables_here", "_law_told"] spGoodSvc := by
  have G46 : FnOk P w K mg base CX0 2 (a 46) (d 46) ["_law_thing", "_law_width_here"] spGoodCols := ok_goodcols T
  have G44 : FnOk P w K mg base CX0 1 (a 44) (d 44) ["_law_thing"] (spB plainV) := ok_isint T
  refine T.F47.ok sc__law_good_service (fun vs H Q E h => ?_) (fun cdv A outer s H vs Q E hr h => ?_)
  · obtain ⟨t, v, kvs, rfl, _⟩ := h
    rfl
  · obtain ⟨t, v, kvs, rfl, hv, ht, hint, q⟩ := h
    obtain ⟨n, hty, k1⟩ := hv.th.tyT (K := K)
    refine ⟨_, (pss_cons (ps_if (PW.pt (pw_or (pt_not (pt_val (pe_callB (id := "isinstance")  call_isi (by rfl) T.z_isinstance (by decide +kernel) (pa_cons (pv 1) (pa_cons (pe_bltn (v := .ty "tuple") (by rfl) T.z_tuple (by decide +kernel) rfl) pa_nil))))) (pw_or1 (pt_cmpR op_ne (pe_callB (id := "len")  call_len_seq (by rfl) T.z_len (by decide +kernel) (pa_cons (pv 1) pa_nil)) pe_int (nomark _)))))
    (pss_one (ps_ret pe_bl))
    pss_nil)
  (pss_cons (ps_if (PW.pt (pw_or (pt_not (pt_val (pe_callB (id := "isinstance")  call_isi (by rfl) T.z_isinstance (by decide +kernel) (pa_cons (pe_ix ix_tup (pv 1) pe_int (fun _ _ => rfl)) (pa_cons (pe_bltn (v := .ty "str") (by rfl) T.z_str (by decide +kernel) rfl) pa_nil))))) (pw_or1 (pt_cmp (pc_dnotin (hu_of hr) (pe_ix ix_tup (pv 1) pe_int (fun _ _ => rfl)) (pv 0))))))
    (pss_one (ps_ret pe_bl))
    pss_nil)
  (pss_cons (ps_if (pt_not (pt_val (pe_call G46 (hr.mono (by decide)) (by rfl) T.g46 T.F46.kp T.b46 .nil pass0 (pa_cons (pe_ix ix_tup (pv 1) pe_int (fun _ _ => rfl)) (pa_cons (pe_dget (hu_of hr) (pv 0) (pe_ix ix_tup (pv 1) pe_int (fun _ _ => rfl)) (fun _ _ => rfl)) pa_nil)))))
    (pss_one (ps_ret pe_bl))
    pss_nil)
  (pss_one (ps_ret (pe_or (pe_cmpR op_isN (pe_ix ix_tup (pv 1) pe_int (fun _ _ => rfl)) pe_non (nomark _)) (pe_one (pe_and (pe_call G44 (hr.mono (by decide)) (by rfl) T.g44 T.F44.kp T.b44 .nil pass0 (pa_cons (pe_ix ix_tup (pv 1) pe_int (fun _ _ => rfl)) pa_nil)) (pe_one (pe_chain op_le op_le pe_int (pe_ix ix_tup (pv 1) pe_int (fun _ _ => rfl)) pe_int)))))))))), ?_⟩
    refine ⟨_, rfl, _, _, _, _, _, rfl, .ty _, hty, kit_ty k1, _, rfl, ?_⟩
    unfold svcB at q
    cases et : tupOf H v with
    | none =>
      rw [et] at q
      exact q H (Same.refl H)
    | some xs =>
      rw [et] at q
      obtain ⟨c, rfl, hc⟩ := tupOf_some et
      have hit := (hv.it xs et).2
      have q : ∀ H', Same H H' → Q (.bl (svcL H kvs xs)) H' := q
      refine ⟨_, rfl, _, _, rfl, .inr (.of hc), rfl, _, rfl, ?_⟩
      by_cases h3 : xs.length = 3
      · match xs, h3 with
        | [x, g, cp], _ =>
          have hx := hit x (by simp)
          have hg := hit g (by simp)
          have hcp := hit cp (by simp)
          obtain ⟨nx, hxy, _, _, k3⟩ := hx.th.ty (K := K)
          refine ⟨_, rfl, _, _, _, _, rfl, rfl, .of hc, atI_nat (j := 0) rfl, _, _, _, _, _, rfl, .ty _, hxy, kit_ty k3, _, rfl, ?_⟩
          cases hx.th with
          | int i => exact q H (Same.refl H)
          | bl i => exact q H (Same.refl H)
          | non => exact q H (Same.refl H)
          | lst e => exact q H (Same.refl H)
          | tup e => exact q H (Same.refl H)
          | str s hl hcs =>
            have q : ∀ H', Same H H' → Q (.bl ((match widthOf kvs s with | some w => colsB H g w | none => false) && (decide (cp = .non) || countB 4 cp))) H' := q
            refine ⟨_, rfl, _, _, _, _, rfl, rfl, .of hc, atI_nat (j := 0) rfl, _, rfl, t, _, rfl, DGet.k (k := Sum.inr s) ht, _, rfl, ?_⟩
            have dg := DGet.k (k := Sum.inr s) ht
            cases e2 : valV kvs (Sum.inr s) with
            | none =>
              have ew : widthOf kvs s = none := by
                unfold widthOf
                rw [e2]
              rw [ew] at q
              exact q H (Same.refl H)
            | some u =>
              obtain ⟨w, rfl⟩ := hint s u e2
              have ew : widthOf kvs s = some w := by
                unfold widthOf
                rw [e2]
              rw [e2] at dg
              rw [ew] at q
              have q : ∀ H', Same H H' → Q (.bl (colsB H g w && (decide (cp = .non) || countB 4 cp))) H' := q
              refine ⟨_, rfl, _, _, _, _, rfl, rfl, .of hc, atI_nat (j := 1) rfl, _, rfl, _, rfl, _, _, _, _, rfl, rfl, .of hc, atI_nat (j := 0) rfl, t, _, rfl, dg, g, w, rfl, hg, fun H1 s1 => ⟨_, rfl, ?_⟩⟩
              cases eg : colsB H g w with
              | false =>
                rw [eg] at q
                exact q H1 s1
              | true =>
                rw [eg, Bool.true_and] at q
                refine ⟨_, rfl, _, _, _, _, rfl, rfl, .of (s1 _ _ hc), atI_nat (j := 2) rfl, rfl, _, rfl, ?_⟩
                by_cases en2 : cp = .non
                · rw [decide_eq_true en2] at q ⊢
                  exact q H1 s1
                · rw [decide_eq_false en2, Bool.false_or] at q
                  rw [decide_eq_false en2]
                  refine ⟨_, rfl, _, _, _, _, rfl, rfl, .of (s1 _ _ hc), atI_nat (j := 2) rfl, cp, rfl, hcp.th.same s1, fun H2 s2 => ⟨_, rfl, ?_⟩⟩
                  have s12 := s1.trans s2
                  cases ep : plainV cp with
                  | false =>
                    have := q H2 s12
                    rw [countB_no ep] at this
                    exact this
                  | true =>
                    obtain ⟨i, rfl⟩ := plain_int ep
                    have q := q H2 s12
                    have q : Q (.bl (decide (1 ≤ i ∧ i ≤ 4))) H2 := q
                    refine ⟨_, rfl, _, _, _, _, rfl, rfl, .of (s12 _ _ hc), atI_nat (j := 2) rfl, _, _, rfl, rfl, _, rfl, ite_d (fun h1 => ?_) (fun h1 => ?_)⟩
                    · refine ⟨_, _, rfl, rfl, ?_⟩
                      show Q (.bl (decide (i ≤ 4))) H2
                      have e2 : decide (1 ≤ i ∧ i ≤ 4) = decide (i ≤ 4) := by
                        by_cases h2 : i ≤ 4 <;> simp [h1, h2]
                      rw [e2] at q
                      exact q
                    · rw [decide_eq_false (fun z : 1 ≤ i ∧ i ≤ 4 => h1 z.1)] at q
                      exact q
      · show if (!decide (V.int xs.length = V.int 3)) = true then _ else _
        rw [decide_eq_false (fun z => h3 (by have := V.int.inj z; omega))]
        rw [svcL_len h3] at q
        exact q H (Same.refl H)
theorem cols_le {cs : List Int} {w : Int} (h : Cols cs w) : (cs.length : Int) ≤ w ∨ (cs.length : Int) = 0 := by
  rcases Nat.eq_zero_or_pos cs.length with h0 | h0
  · exact .inr (by omega)
  · left
    have nd : cs.Nodup := h.1.imp fun h e => by rw [e] at h; exact absurd h (Int.lt_irrefl _)
    have hc := h.2 (cs[0]'h0) (List.getElem_mem h0)
    have := (nd_sub nd (ys := (List.range w.toNat).map fun i : Nat => (i : Int)) fun x hx => by
      have := h.2 x hx
      exact List.mem_map.mpr ⟨x.toNat, List.mem_range.mpr (by omega), by omega⟩).1
    rw [List.length_map, List.length_range] at this
    omega
/-! ### _law_fault -/
theorem kd_names' {kd : List (Key × V)} {zs : List Str} (h : kd.map (·.1) = zs.map Sum.inr) : kd.map (fun kv => kV kv.1) = zs.map V.str := by
  have : kd.map (fun kv => kV kv.1) = (kd.map (·.1)).map kV := by rw [List.map_map]; rfl
  rw [this, h, List.map_map]
  rfl
def spFault : Sp := fun vs H Q _ => ∃ (t k v : Addr) (kv kk sv : List (Str × V)), vs = [.ref t, .ref k, .ref v] ∧ Dn H t kv ∧ Dn H k kk ∧ Dn H v sv ∧ (∀ p ∈ kv, Thg H p.2) ∧ (∀ p ∈ kk, Th1 H p.2) ∧ (∀ p ∈ sv, Th2 H p.2) ∧
  (fault H kv kk sv = none → ∀ H', Same H H' → Q .non H') ∧ (∀ pt u, fault H kv kk sv = some (pt, u) → ∀ r H', H' r = some (.tup [.str pt, u]) → Same H H' → Q (.ref r) H')
theorem tup2 {H H1 : Hp} {Q : VK} {x y : V} (s : Same H H1) (q : ∀ r H', H' r = some (.tup [x, y]) → Same H H' → Q (.ref r) H') : ([x, y] : List V).length ≤ sizeLine ∧ ∀ r, H1 r = none → Q (.ref r) (upd H1 r (.tup [x, y])) :=
  ⟨by show 2 ≤ sizeLine; decide, fun r hr => q r _ upd_same (s.trans (same_upd hr))⟩
theorem fault_T {H : Hp} {kv kk sv : List (Str × V)} {u : V} (h : faultT kv = some u) : fault H kv kk sv = some (("tables" : Str), u) := by
  unfold fault
  rw [h]
theorem fault_K {H : Hp} {kv kk sv : List (Str × V)} {u : V} (h0 : faultT kv = none) (h : faultK H kv kk = some u) : fault H kv kk sv = some (("keys" : Str), u) := by
  unfold fault
  simp only [h0, h]
theorem fault_S {H : Hp} {kv kk sv : List (Str × V)} {u : V} (h0 : faultT kv = none) (h1 : faultK H kv kk = none) (h : faultS H kv sv = some u) : fault H kv kk sv = some (("services" : Str), u) := by
  unfold fault
  simp only [h0, h1, h]
theorem fault_C {H : Hp} {kv kk sv : List (Str × V)} {x : Str} (h0 : faultT kv = none) (h1 : faultK H kv kk = none) (h2 : faultS H kv sv = none) (h : capGo (tsOf kv) (ksOf H kk) [] (ordS (ssOf H sv)) = some x) : fault H kv kk sv = some (("capped" : Str), V.str x) := by
  unfold fault
  simp only [h0, h1, h2, h]
theorem fault_N {H : Hp} {kv kk sv : List (Str × V)} (h0 : faultT kv = none) (h1 : faultK H kv kk = none) (h2 : faultS H kv sv = none) (h : capGo (tsOf kv) (ksOf H kk) [] (ordS (ssOf H sv)) = none) : fault H kv kk sv = none := by
  unfold fault
  simp only [h0, h1, h2, h]
theorem ok_fault (T : Txt K mg a d) : FnOk P w K mg base CX0 5 (a 48) (d 48) ["_law_tables_here", "_law_keys_here", "_law_services_here"] spFault := by
  have G45 : FnOk P w K mg base CX0 1 (a 45) (d 45) ["_law_thing"] spWordS := ok_lword T
  have G44 : FnOk P w K mg base CX0 1 (a 44) (d 44) ["_law_thing"] (spB plainV) := ok_isint T
  have G46 : FnOk P w K mg base CX0 2 (a 46) (d 46) ["_law_thing", "_law_width_here"] spGoodCols := ok_goodcols T
  have G47 : FnOk P w K mg base CX0 3 (a 47) (d 47) ["_law_tables_here", "_law_told"] spGoodSvc := ok_goodsvc T
  have G35 : FnOk P w K mg base CX0 3 (a 35) (d 35) ["_law_tables_here", "_law_keys_here", "_law_told"] spWhole := ok_is_whole T
  refine T.F48.ok sc__law_fault (fun vs H Q E h => ?_) (fun cdv A outer s H vs Q E hr h => ?_)
  · obtain ⟨t, k, v, kv, kk, sv, rfl, _⟩ := h
    rfl
  · obtain ⟨t, k, v, kv, kk, sv, rfl, Dt, Dk, Dv, ht, hk, hv, q1, q2⟩ := h
    have lkv : (kvK kv).length = kv.length := List.length_map ..
    have lsv : (kvK sv).length = sv.length := List.length_map ..
    refine ⟨_, (pss_cons (ps_if (PW.pt (pw_or (pt_cmpR op_lt (pe_callB (id := "len")  call_lenD (by rfl) T.z_len (by decide +kernel) (pa_cons (pv 0) pa_nil)) pe_int (nomark _)) (pw_or1 (pt_cmpR op_gt (pe_callB (id := "len")  call_lenD (by rfl) T.z_len (by decide +kernel) (pa_cons (pv 0) pa_nil)) pe_int (nomark _)))))
    (pss_one (ps_ret (pe_tup (pa_cons pe_str (pa_cons pe_non pa_nil)))))
    pss_nil)
  (pss_cons (ps_for PassesOwn.never rfl (pi_list (pe_callB (id := "sorted")  cr_sortedS (by rfl) T.z_sorted (by decide +kernel) (pa_cons (pe_callTy (T := "list")  (call_listD rfl) (by rfl) T.z_list (by decide +kernel) (pa_cons (pv 0) pa_nil)) pa_nil))) (pg_name (i := 3) sc__law_fault.nd rfl (.inl rfl))
    (pss_one (ps_if (PW.pt (pw_or (pt_not (pt_val (pe_call G45 (hr.mono (by decide)) (by rfl) T.g45 T.F45.kp T.b45 .nil pass0 (pa_cons (pv 3) pa_nil)))) (pw_or (pt_not (pt_val (pe_call G44 (hr.mono (by decide)) (by rfl) T.g44 T.F44.kp T.b44 .nil pass0 (pa_cons (pe_dget (hu_of hr) (pv 0) (pv 3) (fun _ _ => rfl)) pa_nil)))) (pw_or (pt_cmpR op_lt (pe_dget (hu_of hr) (pv 0) (pv 3) (fun _ _ => rfl)) pe_int (nomark _)) (pw_or1 (pt_cmpR op_gt (pe_dget (hu_of hr) (pv 0) (pv 3) (fun _ _ => rfl)) pe_int (nomark _)))))))
        (pss_one (ps_ret (pe_tup (pa_cons pe_str (pa_cons (pv 3) pa_nil)))))
        pss_nil)))
  (pss_cons (ps_for PassesOwn.never rfl (pi_list (pe_callB (id := "sorted")  cr_sortedS (by rfl) T.z_sorted (by decide +kernel) (pa_cons (pe_callTy (T := "list")  (call_listD rfl) (by rfl) T.z_list (by decide +kernel) (pa_cons (pv 1) pa_nil)) pa_nil))) (pg_name (i := 3) sc__law_fault.nd rfl (.inl rfl))
    (pss_cons (ps_if (PW.pt (pw_or (pt_cmp (pc_dnotin (hu_of hr) (pv 3) (pv 0))) (pw_or1 (pt_not (pt_val (pe_call G46 (hr.mono (by decide)) (by rfl) T.g46 T.F46.kp T.b46 .nil pass0 (pa_cons (pe_dget (hu_of hr) (pv 1) (pv 3) (fun _ _ => rfl)) (pa_cons (pe_dget (hu_of hr) (pv 0) (pv 3) (fun _ _ => rfl)) pa_nil))))))))
        (pss_one (ps_ret (pe_tup (pa_cons pe_str (pa_cons (pv 3) pa_nil)))))
        pss_nil)
      (pss_one (ps_if (PW.pt (pw_or (pt_cmpR op_eq (pe_callB (id := "len")  call_len_seq (by rfl) T.z_len (by decide +kernel) (pa_cons (pe_dget (hu_of hr) (pv 1) (pv 3) (fun _ _ => rfl)) pa_nil)) pe_int (nomark _)) (pw_or1 (pt_cmpR op_eq (pe_callB (id := "len")  call_len_seq (by rfl) T.z_len (by decide +kernel) (pa_cons (pe_dget (hu_of hr) (pv 1) (pv 3) (fun _ _ => rfl)) pa_nil)) (pe_dget (hu_of hr) (pv 0) (pv 3) (fun _ _ => rfl)) (nomark _)))))
        (pss_one (ps_ret (pe_tup (pa_cons pe_str (pa_cons (pv 3) pa_nil)))))
        pss_nil))))
  (pss_cons (ps_if (PW.pt (pw_or (pt_cmpR op_lt (pe_callB (id := "len")  call_lenD (by rfl) T.z_len (by decide +kernel) (pa_cons (pv 2) pa_nil)) pe_int (nomark _)) (pw_or1 (pt_cmpR op_gt (pe_callB (id := "len")  call_lenD (by rfl) T.z_len (by decide +kernel) (pa_cons (pv 2) pa_nil)) pe_int (nomark _)))))
    (pss_one (ps_ret (pe_tup (pa_cons pe_str (pa_cons pe_non pa_nil)))))
    pss_nil)
  (pss_cons (ps_for PassesOwn.never rfl (pi_list (pe_callB (id := "sorted")  cr_sortedS (by rfl) T.z_sorted (by decide +kernel) (pa_cons (pe_callTy (T := "list")  (call_listD rfl) (by rfl) T.z_list (by decide +kernel) (pa_cons (pv 2) pa_nil)) pa_nil))) (pg_name (i := 3) sc__law_fault.nd rfl (.inl rfl))
    (pss_one (ps_if (PW.pt (pw_or (pt_not (pt_val (pe_call G45 (hr.mono (by decide)) (by rfl) T.g45 T.F45.kp T.b45 .nil pass0 (pa_cons (pv 3) pa_nil)))) (pw_or1 (pt_not (pt_val (pe_call G47 (hr.mono (by decide)) (by rfl) T.g47 T.F47.kp T.b47 .nil pass0 (pa_cons (pv 0) (pa_cons (pe_dget (hu_of hr) (pv 2) (pv 3) (fun _ _ => rfl)) pa_nil))))))))
        (pss_one (ps_ret (pe_tup (pa_cons pe_str (pa_cons (pv 3) pa_nil)))))
        pss_nil)))
  (pss_cons (ps_set (i := 4) sc__law_fault.nd rfl (.inl rfl) (pe_lst pa_nil))
  (pss_cons (ps_for PassesOwn.never rfl (pi_list (pe_callB (id := "sorted")  cr_sortedS (by rfl) T.z_sorted (by decide +kernel) (pa_cons (pe_callTy (T := "list")  (call_listD rfl) (by rfl) T.z_list (by decide +kernel) (pa_cons (pv 2) pa_nil)) pa_nil))) (pg_name (i := 3) sc__law_fault.nd rfl (.inl rfl))
    (pss_one (ps_if (pt_not (pt_val (pe_call G35 (hr.mono (by decide)) (by rfl) T.g35 T.F35.kp T.b35 .nil pass0 (pa_cons (pv 0) (pa_cons (pv 1) (pa_cons (pe_dget (hu_of hr) (pv 2) (pv 3) (fun _ _ => rfl)) pa_nil))))))
        (pss_cons (ps_if (pt_cmpR op_in_seq (pe_ix ix_tup (pe_dget (hu_of hr) (pv 2) (pv 3) (fun _ _ => rfl)) pe_int (fun _ _ => rfl)) (pv 4) (by rfl))
            (pss_one (ps_ret (pe_tup (pa_cons pe_str (pa_cons (pv 3) pa_nil)))))
            pss_nil)
          (pss_one (ps_expr (pe_bm PySem.F.plainAttrs_list PySem.F.slot_list_append PySem.F.type_list_append mt_append (pv 4) (pa_cons (pe_ix ix_tup (pe_dget (hu_of hr) (pv 2) (pv 3) (fun _ _ => rfl)) pe_int (fun _ _ => rfl)) pa_nil)))))
        pss_nil)))
  (pss_one (ps_ret pe_non))))))))), ?_⟩
    have bT : ∀ u, faultT kv = some u → ∀ H1, Same H H1 → ([.str "tables", u] : List V).length ≤ sizeLine ∧ ∀ r, H1 r = none → Q (.ref r) (upd H1 r (.tup [.str "tables", u])) := fun u e H1 s1 => tup2 s1 (q2 "tables" u (fault_T e))
    refine ⟨_, rfl, t, _, rfl, Dt.at_, _, _, rfl, rfl, _, rfl, ite_d (fun h1 => bT _ (by unfold faultT; rw [if_neg (by omega)]) H (Same.refl H)) (fun h1 => ?_)⟩
    refine ⟨_, rfl, t, _, rfl, Dt.at_, _, _, rfl, rfl, _, rfl, ite_d (fun h2 => bT _ (by unfold faultT; rw [if_neg (by omega)]) H (Same.refl H)) (fun h2 => ?_)⟩
    have eT : faultT kv = ((sortN (kv.map (·.1))).find? fun n => !okT kv n).map V.str := by
      unfold faultT
      rw [if_pos (by omega)]
    -- tables
    refine ⟨_, rfl, t, _, rfl, .inl Dt.at_, fun l0 hl0 => ?_⟩
    rw [kd_names' (keys_kv kv)]
    have s0 := same_upd (o := .lst ((kv.map (·.1)).map V.str)) hl0
    refine ⟨l0, kv.map (·.1), rfl, .of upd_same, by rw [List.length_map]; exact Dt.len, fun ys p yp so hp => ⟨p, rfl, ?_⟩⟩
    rw [sortN_eq yp so] at eT
    have s1 := s0.trans (same_upd (o := .lst (ys.map V.str)) hp)
    have hp1 : upd (upd H l0 (.lst ((kv.map (·.1)).map V.str))) p (.lst (ys.map V.str)) p = some (.lst (ys.map V.str)) := upd_same
    generalize upd (upd H l0 (.lst ((kv.map (·.1)).map V.str))) p (.lst (ys.map V.str)) = H1 at s1 hp1
    refine ⟨⟨_, .of hp1⟩, for_list (K := K) (a := p) (xs := ys.map V.str) (fun i σ H' => ∃ y3 : Option V, σ = [some (.ref t), some (.ref k), some (.ref v), y3, none] ∧ Same H1 H' ∧ ∀ y ∈ ys.take i, (!okT kv y) = false) ⟨none, rfl, Same.refl _, fun y hy => by cases hy⟩ (fun i σ H' _ hp => ?_) (fun i y σ H' hy hp => ?_) (fun σ H2 hp => ?_)⟩
    · obtain ⟨y1, rfl, s1, _⟩ := hp
      exact .of (s1 _ _ hp1)
    · obtain ⟨y1, rfl, sa, hok⟩ := hp
      obtain ⟨n, hn, rfl⟩ := map_at hy
      have hm := mem_names yp hn
      have hmv := (valN_mem hm Dt.nd).2
      have s2 := s1.trans sa
      have bad : okT kv n = false → faultT kv = some (.str n) := fun e => by
        rw [eT, find_at hok hn (by rw [e]; rfl)]
        rfl
      have good : okT kv n = true → ∀ y ∈ ys.take (i + 1), (!okT kv y) = false := fun e y hy => by
        rw [take_snoc hn] at hy
        rcases List.mem_append.mp hy with h | h
        · exact hok y h
        · rw [List.mem_singleton.mp h, e]
          rfl
      refine ⟨_, rfl, n, rfl, Dt.nm _ hmv, fun H3 s3 => ⟨_, rfl, ?_⟩⟩
      have s23 := s2.trans s3
      cases ew : wordB n with
      | false => exact ⟨_, rfl, bT _ (bad (by unfold okT; rw [ew]; rfl)) H3 s23⟩
      | true =>
        refine ⟨_, rfl, _, rfl, t, _, rfl, (Dt.same s23).get hm, _, rfl, (ht _ hmv).same s23, fun H4 s4 => ⟨_, rfl, ?_⟩⟩
        have s24 := s23.trans s4
        cases ep : plainV (valN kv n) with
        | false => exact ⟨_, rfl, bT _ (bad (by unfold okT; rw [ew, countB_no ep]; rfl)) H4 s24⟩
        | true =>
          obtain ⟨j, ej⟩ := plain_int ep
          have g := (Dt.same s24).get hm
          rw [ej] at g
          have eo : okT kv n = decide (1 ≤ j ∧ j ≤ 4) := by
            unfold okT
            rw [ew, ej]
            rfl
          refine ⟨_, rfl, _, rfl, t, _, rfl, g, _, _, rfl, rfl, _, rfl, ite_d (fun h3 => ⟨_, rfl, bT _ (bad (by rw [eo, decide_eq_false (by omega)])) H4 s24⟩) (fun h3 => ?_)⟩
          refine ⟨_, rfl, _, rfl, t, _, rfl, g, _, _, rfl, rfl, _, rfl, ite_d (fun h4 => ⟨_, rfl, bT _ (bad (by rw [eo, decide_eq_false (by omega)])) H4 s24⟩) (fun h4 => ?_)⟩
          exact ⟨_, rfl, (sa.trans s3).trans s4, good (by rw [eo, decide_eq_true (by omega)])⟩
    · obtain ⟨y3, rfl, sa, hok⟩ := hp
      rw [List.length_map, List.take_length] at hok
      have eT0 : faultT kv = none := by rw [eT, find_no hok]; rfl
      have s2 := s1.trans sa
      clear sa hok eT hp1 bT
      obtain ⟨ct, Tb, m1, m5⟩ := conv_tabs Dt eT0
      have hint := tab_ints Dt eT0
      -- keys
      refine ⟨_, rfl, k, _, rfl, .inl (s2 _ _ Dk.at_), fun l0 hl0 => ?_⟩
      rw [kd_names' (keys_kv kk)]
      have s0 := same_upd (o := .lst ((kk.map (·.1)).map V.str)) hl0
      refine ⟨l0, kk.map (·.1), rfl, .of upd_same, by rw [List.length_map]; exact Dk.len, fun yk p ypk sok hp => ⟨p, rfl, ?_⟩⟩
      have eK : faultK H kv kk = (yk.find? fun n => !okK H kv kk n).map V.str := by
        unfold faultK
        rw [sortN_eq ypk sok]
      have s3 := (s2.trans s0).trans (same_upd (o := .lst (yk.map V.str)) hp)
      have hp1 : upd (upd H2 l0 (.lst ((kk.map (·.1)).map V.str))) p (.lst (yk.map V.str)) p = some (.lst (yk.map V.str)) := upd_same
      generalize upd (upd H2 l0 (.lst ((kk.map (·.1)).map V.str))) p (.lst (yk.map V.str)) = H3 at s3 hp1
      refine ⟨⟨_, .of hp1⟩, for_list (K := K) (a := p) (xs := yk.map V.str) (fun i σ H' => ∃ y3 : Option V, σ = [some (.ref t), some (.ref k), some (.ref v), y3, none] ∧ Same H3 H' ∧ ∀ y ∈ yk.take i, (!okK H kv kk y) = false) ⟨_, rfl, Same.refl _, fun y hy => by cases hy⟩ (fun i σ H' _ hp => ?_) (fun i y σ H' hy hp => ?_) (fun σ H4 hp => ?_)⟩
      · obtain ⟨y1, rfl, s1, _⟩ := hp
        exact .of (s1 _ _ hp1)
      · obtain ⟨y1, rfl, sa, hok⟩ := hp
        obtain ⟨n, hn, rfl⟩ := map_at hy
        have hm := mem_names ypk hn
        have hmv := (valN_mem hm Dk.nd).2
        have s4 := s3.trans sa
        have bad : okK H kv kk n = false → ∀ Hx, Same H Hx → ([.str "keys", .str n] : List V).length ≤ sizeLine ∧ ∀ r, Hx r = none → Q (.ref r) (upd Hx r (.tup [.str "keys", .str n])) := fun e Hx sx => tup2 sx (q2 "keys" (.str n) (fault_K eT0 (by
          rw [eK, find_at hok hn (by rw [e]; rfl)]
          rfl)))
        have good : okK H kv kk n = true → ∀ y ∈ yk.take (i + 1), (!okK H kv kk y) = false := fun e y hy => by
          rw [take_snoc hn] at hy
          rcases List.mem_append.mp hy with h | h
          · exact hok y h
          · rw [List.mem_singleton.mp h, e]
            rfl
        have dg := DGet.k (k := Sum.inr n) (Dt.same s4).at_
        rw [widthOf_val hint] at dg
        refine ⟨_, rfl, _, rfl, t, _, rfl, dg, _, rfl, ?_⟩
        cases ew : widthOf (kvK kv) n with
        | none => exact ⟨_, rfl, bad (by unfold okK; rw [ew]) H' s4⟩
        | some w =>
          rw [ew] at dg
          have eo : okK H kv kk n = keyB H (valN kk n) w := by
            unfold okK
            rw [ew]
          have thk := hk _ hmv
          refine ⟨_, rfl, _, rfl, k, _, rfl, (Dk.same s4).get hm, _, rfl, _, rfl, t, _, rfl, dg, valN kk n, w, rfl, thk.kp (.same s4), fun H5 s5 => ⟨_, rfl, ?_⟩⟩
          have s45 := s4.trans s5
          rw [colsB_kp thk.th (.same s4)]
          cases ec : colsB H (valN kk n) w with
          | false =>
            refine ⟨_, rfl, bad ?_ H5 s45⟩
            rw [eo]
            unfold keyB
            unfold colsB at ec
            cases et : tupOf H (valN kk n) with
            | none => rfl
            | some xs =>
              rw [et] at ec
              have ec : goCols w 0 xs = false := ec
              show (goCols w 0 xs && _) = false
              rw [ec]
              rfl
          | true =>
            obtain ⟨c1, c2, c3⟩ := colsB_ok ec
            have g5 := (Dk.same s45).get hm
            have dg5 := DGet.k (k := Sum.inr n) (Dt.same s45).at_
            rw [widthOf_val hint, ew] at dg5
            have hlen : keyB H (valN kk n) w = decide (0 < ((intsOf H (valN kk n)).length : Int) ∧ ((intsOf H (valN kk n)).length : Int) < w) := by
              have et := tupOf_tup c1
              rw [← c2] at et
              unfold keyB
              unfold colsB at ec
              rw [et] at ec ⊢
              have ec : goCols w 0 ((intsOf H (valN kk n)).map V.int) = true := ec
              show (goCols w 0 ((intsOf H (valN kk n)).map V.int) && _) = _
              rw [ec, Bool.true_and, List.length_map]
            have hcl := cols_le c3
            rw [c2] at g5
            have ll : (((intsOf H (valN kk n)).map V.int).length : Int) = ((intsOf H (valN kk n)).length : Int) := by rw [List.length_map]
            refine ⟨_, rfl, _, rfl, k, _, rfl, g5, _, _, rfl, .inr (.of (s45 _ _ c1)), rfl, _, rfl, ite_eqI (fun h1 => ?_) (fun h1 => ?_)⟩
            · exact ⟨_, rfl, bad (by rw [eo, hlen, decide_eq_false (by omega)]) H5 s45⟩
            · refine ⟨_, rfl, _, rfl, k, _, rfl, g5, _, _, rfl, .inr (.of (s45 _ _ c1)), _, rfl, _, rfl, t, _, rfl, dg5, rfl, _, rfl, ite_eqI (fun h2 => ?_) (fun h2 => ?_)⟩
              · exact ⟨_, rfl, bad (by rw [eo, hlen, decide_eq_false (by omega)]) H5 s45⟩
              · exact ⟨_, rfl, sa.trans s5, good (by rw [eo, hlen, decide_eq_true (by omega)])⟩
      · obtain ⟨y3, rfl, sa, hok⟩ := hp
        rw [List.length_map, List.take_length] at hok
        have eK0 : faultK H kv kk = none := by rw [eK, find_no hok]; rfl
        have s4 := s3.trans sa
        clear sa hok eK hp1 s3 s2 s0
        obtain ⟨ck, Ks⟩ := conv_keys Dt Dk eT0 eK0
        have bS : ∀ u, faultS H kv sv = some u → ∀ H1, Same H H1 → ([.str "services", u] : List V).length ≤ sizeLine ∧ ∀ r, H1 r = none → Q (.ref r) (upd H1 r (.tup [.str "services", u])) := fun u e H1 s1 => tup2 s1 (q2 "services" u (fault_S eT0 eK0 e))
        refine ⟨_, rfl, v, _, rfl, s4 _ _ Dv.at_, _, _, rfl, rfl, _, rfl, ite_d (fun h1 => bS _ (by unfold faultS; rw [if_neg (by omega)]) H4 s4) (fun h1 => ?_)⟩
        refine ⟨_, rfl, v, _, rfl, s4 _ _ Dv.at_, _, _, rfl, rfl, _, rfl, ite_d (fun h2 => bS _ (by unfold faultS; rw [if_neg (by omega)]) H4 s4) (fun h2 => ?_)⟩
        have eS : faultS H kv sv = ((sortN (sv.map (·.1))).find? fun n => !okS H kv sv n).map V.str := by
          unfold faultS
          rw [if_pos (by omega)]
        refine ⟨_, rfl, v, _, rfl, .inl (s4 _ _ Dv.at_), fun l0 hl0 => ?_⟩
        rw [kd_names' (keys_kv sv)]
        have s0 := same_upd (o := .lst ((sv.map (·.1)).map V.str)) hl0
        refine ⟨l0, sv.map (·.1), rfl, .of upd_same, by rw [List.length_map]; exact Dv.len, fun ys p yp so hp => ⟨p, rfl, ?_⟩⟩
        rw [sortN_eq yp so] at eS
        have s5 := (s4.trans s0).trans (same_upd (o := .lst (ys.map V.str)) hp)
        have hp1 : upd (upd H4 l0 (.lst ((sv.map (·.1)).map V.str))) p (.lst (ys.map V.str)) p = some (.lst (ys.map V.str)) := upd_same
        generalize upd (upd H4 l0 (.lst ((sv.map (·.1)).map V.str))) p (.lst (ys.map V.str)) = H5 at s5 hp1
        refine ⟨⟨_, .of hp1⟩, for_list (K := K) (a := p) (xs := ys.map V.str) (fun i σ H' => ∃ y3 : Option V, σ = [some (.ref t), some (.ref k), some (.ref v), y3, none] ∧ Same H5 H' ∧ ∀ y ∈ ys.take i, (!okS H kv sv y) = false) ⟨_, rfl, Same.refl _, fun y hy => by cases hy⟩ (fun i σ H' _ hp => ?_) (fun i y σ H' hy hp => ?_) (fun σ H6 hp => ?_)⟩
        · obtain ⟨y1, rfl, s1, _⟩ := hp
          exact .of (s1 _ _ hp1)
        · obtain ⟨y1, rfl, sa, hok⟩ := hp
          obtain ⟨n, hn, rfl⟩ := map_at hy
          have hm := mem_names yp hn
          have hmv := (valN_mem hm Dv.nd).2
          have s6 := s5.trans sa
          have bad : okS H kv sv n = false → faultS H kv sv = some (.str n) := fun e => by
            rw [eS, find_at hok hn (by rw [e]; rfl)]
            rfl
          have good : okS H kv sv n = true → ∀ y ∈ ys.take (i + 1), (!okS H kv sv y) = false := fun e y hy => by
            rw [take_snoc hn] at hy
            rcases List.mem_append.mp hy with h | h
            · exact hok y h
            · rw [List.mem_singleton.mp h, e]
              rfl
          refine ⟨_, rfl, n, rfl, Dv.nm _ hmv, fun H7 s7 => ⟨_, rfl, ?_⟩⟩
          have s67 := s6.trans s7
          cases ew : wordB n with
          | false => exact ⟨_, rfl, bS _ (bad (by unfold okS; rw [ew]; rfl)) H7 s67⟩
          | true =>
            refine ⟨_, rfl, _, rfl, _, rfl, v, _, rfl, (Dv.same s67).get hm, t, _, kvK kv, rfl, (hv _ hmv).kp (.same s67), s67 _ _ Dt.at_, hint, fun H8 s8 => ⟨_, rfl, ?_⟩⟩
            rw [svcB_kp (hv _ hmv) (.same s67)]
            cases ec : svcB H (kvK kv) (valN sv n) with
            | false => exact ⟨_, rfl, bS _ (bad (by unfold okS; rw [ew, ec]; rfl)) H8 (s67.trans s8)⟩
            | true => exact ⟨_, rfl, (sa.trans s7).trans s8, good (by unfold okS; rw [ew, ec]; rfl)⟩
        · obtain ⟨y3, rfl, sa, hok⟩ := hp
          rw [List.length_map, List.take_length] at hok
          have eS0 : faultS H kv sv = none := by rw [eS, find_no hok]; rfl
          have s6 := s5.trans sa
          clear sa hok eS hp1 s5 s4 s0 bS
          obtain ⟨cs, Ns, So, n1, n8⟩ := conv_svcs Dt Dv eT0 eS0
          have lss : (ssOf H sv).length = sv.length := List.length_map ..
          have ndS : ((svK (ssOf H sv)).map (·.1)).Nodup := by rw [keys_sv]; exact inr_nd Ns.nd
          have hvs : ∀ Hx, Same H Hx → Hx v = some (.dK (svK (ssOf H sv))) := fun Hx sx => kvK_inj (Dv.same sx) cs
          have hts : ∀ Hx, Same H Hx → Hx t = some (.dK (tabK (tsOf kv))) := fun Hx sx => kvK_inj (Dt.same sx) ct
          have hks : ∀ Hx, Same H Hx → Hx k = some (.dK (keyK (ksOf H kk))) := fun Hx sx => kvK_inj (Dk.same sx) ck
          refine ⟨Nat.zero_le _, fun f hf => ?_⟩
          have s7 := s6.trans (same_upd (o := .lst []) hf)
          refine ⟨_, rfl, v, _, rfl, .inl (s7 _ _ Dv.at_), fun l0 hl0 => ?_⟩
          rw [kd_names' (keys_kv sv)]
          have hf1 : upd (upd H6 f (.lst [])) l0 (.lst ((sv.map (·.1)).map V.str)) f = some (.lst []) := (same_upd hl0) _ _ upd_same
          have s8 := s7.trans (same_upd (o := .lst ((sv.map (·.1)).map V.str)) hl0)
          refine ⟨l0, sv.map (·.1), rfl, .of upd_same, by rw [List.length_map]; exact Dv.len, fun ys p yp so hp => ⟨p, rfl, ?_⟩⟩
          rw [← ss_names H sv] at yp
          obtain ⟨L, hLp, rfl⟩ := perm_map_ex yp (ssOf H sv) rfl
          have eo : ordS (ssOf H sv) = L := by
            unfold ordS
            rw [sortN_eq yp so]
            exact filterMap_names Ns.nd fun b hb => hLp.mem_iff.mp hb
          have s9 := s8.trans (same_upd (o := .lst ((L.map (·.name)).map V.str)) hp)
          have hf2 := (same_upd (o := .lst ((L.map (·.name)).map V.str)) hp) _ _ hf1
          have hp1 : upd (upd (upd H6 f (.lst [])) l0 (.lst ((sv.map (·.1)).map V.str))) p (.lst ((L.map (·.name)).map V.str)) p = some (.lst ((L.map (·.name)).map V.str)) := upd_same
          have nfp : f ≠ p := ne_of_none hf1 hp
          have nfree : H f = none := s6.free hf
          generalize upd (upd (upd H6 f (.lst [])) l0 (.lst ((sv.map (·.1)).map V.str))) p (.lst ((L.map (·.name)).map V.str)) = H9 at s9 hf2 hp1
          have lL : L.length ≤ 8 := by rw [hLp.length_eq]; omega
          refine ⟨⟨_, .of hp1⟩, for_list (K := K) (a := p) (xs := (L.map (·.name)).map V.str) (fun i σ H' => ∃ (fl : List Str) (y3 : Option V), σ = [some (.ref t), some (.ref k), some (.ref v), y3, some (.ref f)] ∧ H' p = some (.lst ((L.map (·.name)).map V.str)) ∧ H' f = some (.lst (fl.map V.str)) ∧ fl.length ≤ i ∧ capGo (tsOf kv) (ksOf H kk) fl (L.drop i) = capGo (tsOf kv) (ksOf H kk) [] (ordS (ssOf H sv)) ∧ Same H H')
            ⟨[], _, rfl, hp1, hf2, Nat.le_refl _, by rw [List.drop_zero, eo], s9⟩ (fun i σ H' _ hp => ?_) (fun i y σ H' hy hp => ?_) (fun σ H10 hp => ?_)⟩
          · obtain ⟨fl, y3, rfl, hp', _⟩ := hp
            exact .of hp'
          · obtain ⟨fl, y3, rfl, hp', hf', hfl, hgo, sm⟩ := hp
            obtain ⟨nm, hn', rfl⟩ := map_at hy
            obtain ⟨b, hb, rfl⟩ := map_at hn'
            have hi : i < L.length := (List.getElem?_eq_some_iff.mp hb).1
            have hm : b ∈ ssOf H sv := hLp.mem_iff.mp (List.mem_of_getElem? hb)
            obtain ⟨htold, ⟨w', hw', hcols, hcl⟩, hcap⟩ := So b hm
            have hw2 := widthAt_mem Tb.nm.nd hw'
            have vb : valV (svK (ssOf H sv)) (Sum.inr b.name) = some (.ref b.at_) := val_nodup (kvs := svK (ssOf H sv)) ndS (Sum.inr b.name, V.ref b.at_) (List.mem_map.mpr ⟨b, hm, rfl⟩)
            have we : whE (tsOf kv) (ksOf H kk) b = isWh w' (ksOf H kk) b.tab b.cols b.cap := by
              unfold whE
              rw [hw2]
            rw [capGo_drop hb, we] at hgo
            refine ⟨_, rfl, _, rfl, _, rfl, _, rfl, v, _, rfl, DctAt.at_ (.of (hvs _ sm)) ndS vb, t, k, b.at_, b.ga, _, tsOf kv, ksOf H kk, b.tab, w', b.cols, b.cap, rfl, .of (hts _ sm), .of (hks _ sm), Tb.up (by decide), Ks.mono fun _ _ e => sm _ _ e, htold.mono fun _ _ e => sm _ _ e, hw', by omega, fun H2 s2 => ⟨_, rfl, ?_⟩⟩
            have sm2 := sm.trans s2
            cases ew : isWh w' (ksOf H kk) b.tab b.cols b.cap with
            | true =>
              rw [ew, if_pos rfl] at hgo
              exact ⟨fl, _, rfl, s2 _ _ hp', s2 _ _ hf', Nat.le_succ_of_le hfl, hgo, sm2⟩
            | false =>
              rw [ew, if_neg (by decide)] at hgo
              have hat := htold.tup
              refine ⟨_, rfl, _, rfl, v, _, rfl, DctAt.at_ (.of (hvs _ sm2)) ndS vb, _, _, _, _, rfl, rfl, .of (sm2 _ _ hat), atI_nat (j := 0) rfl, _, rfl, f, _, rfl, .inl (.of (s2 _ _ hf')), rfl, flat_strs _, _, rfl, ?_⟩
              show if inV (.str b.tab) (fl.map V.str) = true then _ else _
              rw [inV_strs]
              refine ite_d (fun hin => ?_) (fun hno => ?_)
              · rw [if_pos hin] at hgo
                exact ⟨_, rfl, tup2 sm2 (q2 "capped" (.str b.name) (fault_C eT0 eK0 eS0 hgo.symm))⟩
              · rw [if_neg hno] at hgo
                refine ⟨_, rfl, .inl ⟨rfl, _, .of (s2 _ _ hf')⟩, _, rfl, _, rfl, v, _, rfl, DctAt.at_ (.of (hvs _ sm2)) ndS vb, _, _, _, _, rfl, rfl, .of (sm2 _ _ hat), atI_nat (j := 0) rfl, f, _, _, rfl, rfl, s2 _ _ hf', ?_, fl ++ [b.tab], _, rfl, ?_, ?_, ?_, hgo, ?_⟩
                · rw [List.length_map]
                  exact Nat.lt_of_le_of_lt (by omega : _ ≤ 8) (by decide)
                · rw [upd_ne nfp.symm]
                  exact s2 _ _ hp'
                · rw [List.map_append]
                  exact upd_same
                · rw [List.length_append, List.length_singleton]
                  omega
                · intro x o ex
                  rw [upd_ne (ne_of_none ex nfree)]
                  exact sm2 x o ex
          · obtain ⟨fl, y3, rfl, hp', hf', hfl, hgo, sm⟩ := hp
            rw [List.length_map, List.length_map, List.drop_length] at hgo
            exact q1 (fault_N eT0 eK0 eS0 hgo.symm) H10 sm
end
/-! ### the state that is spoiled -/
inductive Fl : V → Prop
  | int (i : Int) : Fl (.int i)
  | bl (b : Bool) : Fl (.bl b)
  | non : Fl .non
  | str (s : Str) (h : s.length ≤ 1000) (hc : Low s) : Fl (.str s)
theorem Fl.thg {H : Hp} {v : V} (h : Fl v) : Thg H v := by
  cases h with
  | int i => exact .int i
  | bl b => exact .bl b
  | non => exact .non
  | str s h hc => exact .str s h hc
theorem Fl.no {H : Hp} {v : V} (h : Fl v) : tupOf H v = none := by cases h <;> rfl
theorem Fl.th1 {H : Hp} {v : V} (h : Fl v) : Th1 H v := .flat h.thg h.no
theorem Fl.th2 {H : Hp} {v : V} (h : Fl v) : Th2 H v := .flat h.thg h.no
def putN (kv : List (Str × V)) (n : Str) (x : V) : List (Str × V) := if n ∈ kv.map (·.1) then kv.map fun p => if p.1 = n then (p.1, x) else p else kv ++ [(n, x)]
theorem putN_K (kv : List (Str × V)) (n : Str) (x : V) : putK (kvK kv) (Sum.inr n) x = kvK (putN kv n x) := by
  unfold putN
  by_cases h : n ∈ kv.map (·.1)
  · rw [if_pos h]
    unfold putK
    have ha : ((kvK kv).any fun kv => decide (kv.1 = Sum.inr n)) = true := by
      obtain ⟨b, hb, e⟩ := List.mem_map.mp h
      exact List.any_eq_true.mpr ⟨_, List.mem_map.mpr ⟨b, hb, rfl⟩, decide_eq_true (by rw [e])⟩
    rw [if_pos ha]
    unfold kvK
    rw [List.map_map, List.map_map]
    refine List.map_congr_left fun c _ => ?_
    show (if (Sum.inr c.1 : Key) = Sum.inr n then _ else _) = (fun p : Str × V => ((Sum.inr p.1 : Key), p.2)) (if c.1 = n then (c.1, x) else c)
    by_cases e : c.1 = n
    · rw [if_pos e, if_pos (by rw [e])]
    · rw [if_neg e, if_neg (fun z => e (Sum.inr.inj z))]
  · rw [if_neg h]
    unfold kvK
    rw [snoc_map]
    refine putK_new _ (valV_no ?_)
    have e := keys_kv kv
    unfold kvK at e
    rw [e]
    exact inr_no h
theorem putN_mem {kv : List (Str × V)} {n : Str} {x : V} {q : Str × V} (h : q ∈ putN kv n x) : q ∈ kv ∨ q = (n, x) := by
  unfold putN at h
  split at h
  · obtain ⟨p, hp, e⟩ := List.mem_map.mp h
    by_cases e1 : p.1 = n
    · rw [if_pos e1] at e
      right
      rw [← e, e1]
    · rw [if_neg e1] at e
      left
      rw [← e]
      exact hp
  · rcases List.mem_append.mp h with h | h
    · exact .inl h
    · exact .inr (List.mem_singleton.mp h)
theorem putN_len (kv : List (Str × V)) (n : Str) (x : V) : (putN kv n x).length ≤ kv.length + 1 := by
  unfold putN
  split
  · rw [List.length_map]
    omega
  · rw [List.length_append]
    exact Nat.le_refl _
theorem putN_nd {kv : List (Str × V)} {n : Str} {x : V} (nd : (kv.map (·.1)).Nodup) : ((putN kv n x).map (·.1)).Nodup := by
  unfold putN
  by_cases h : n ∈ kv.map (·.1)
  · rw [if_pos h, List.map_map]
    have e : kv.map ((fun p : Str × V => p.1) ∘ fun p => if p.1 = n then (p.1, x) else p) = kv.map (·.1) := List.map_congr_left fun p _ => by
      show (if p.1 = n then (p.1, x) else p).1 = p.1
      split <;> rfl
    rw [e]
    exact nd
  · rw [if_neg h, snoc_map]
    exact List.nodup_append.mpr ⟨nd, by simp, fun a ha b hb e => h (by have hb' : b = n := List.mem_singleton.mp hb; rw [← hb', ← e]; exact ha)⟩
theorem Dn.put {H : Hp} {t : Addr} {kv : List (Str × V)} {n : Str} {x : V} (D : Dn H t kv) (hn : NmOk n) (hl : kv.length + 1 < 64) : Dn (upd H t (.dK (putK (kvK kv) (Sum.inr n) x))) t (putN kv n x) :=
  ⟨by rw [← putN_K]; exact upd_same, putN_nd D.nd, fun p hp => by
    rcases putN_mem hp with h | h
    · exact D.nm p h
    · rw [h]
      exact hn, by have := putN_len kv n x; omega⟩
theorem Dn.oth {H : Hp} {t b : Addr} {kv : List (Str × V)} {o : HO} (D : Dn H t kv) (n : t ≠ b) : Dn (upd H b o) t kv := ⟨by rw [upd_ne n]; exact D.at_, D.nd, D.nm, D.len⟩
theorem Dn.chg {H H' : Hp} {t p : Addr} {kv : List (Str × V)} (D : Dn H t kv) (hP : PoolAt H p) (c : Chg p H H') : Dn H' t kv := ⟨c.at (pool_ne hP D.at_ (by intro _ z; cases z)) D.at_, D.nd, D.nm, D.len⟩
def NmL (L : Nat) (kv : List (Str × V)) : Prop := ∀ p ∈ kv, p.1.length ≤ L ∧ Low p.1
theorem NmL.up {L M : Nat} {kv : List (Str × V)} (h : NmL L kv) (hm : L ≤ M) : NmL M kv := fun p hp => ⟨by have := (h p hp).1; omega, (h p hp).2⟩
theorem NmL.put {L M : Nat} {kv : List (Str × V)} {n : Str} {x : V} (h : NmL L kv) (hm : L ≤ M) (hn : n.length ≤ M) (hl : Low n) : NmL M (putN kv n x) := fun p hp => by
  rcases putN_mem hp with q | q
  · exact (h.up hm) p q
  · rw [q]
    exact ⟨hn, hl⟩
structure Sp4 (W : Addr × List V) (p t k v : Addr) (x y z L : Nat) (H : Hp) (kv kk sv : List (Str × V)) : Prop where
  pool : PoolAt H p
  dt : Dn H t kv
  dk : Dn H k kk
  dv : Dn H v sv
  ht : ∀ q ∈ kv, Fl q.2
  hk : ∀ q ∈ kk, Th1 H q.2
  hv : ∀ q ∈ sv, Th2 H q.2
  lt : kv.length ≤ x
  lk : kk.length ≤ y
  lv : sv.length ≤ z
  nt : NmL L kv
  nk : NmL L kk
  nv : NmL L sv
  sp : H W.1 = some (.lst W.2)
  np : W.1 ≠ p
theorem Sp4.chg {W : Addr × List V} {p t k v : Addr} {x y z L : Nat} {H H' : Hp} {kv kk sv : List (Str × V)} (S : Sp4 W p t k v x y z L H kv kk sv) (c : Chg p H H') : Sp4 W p t k v x y z L H' kv kk sv :=
  have q := Kp.chg S.pool c
  ⟨c.1, S.dt.chg S.pool c, S.dk.chg S.pool c, S.dv.chg S.pool c, S.ht, fun p hp => (S.hk p hp).kp q, fun p hp => (S.hv p hp).kp q, S.lt, S.lk, S.lv, S.nt, S.nk, S.nv, c.at S.np S.sp, S.np⟩
theorem Chg.same4 {a : Addr} {H H1 H2 : Hp} (x : Chg a H H1) (s : Same H1 H2) : Chg a H H2 := ⟨x.1.same s, fun b o n e => s _ _ (x.2 b o n e)⟩
theorem pool_ne' {H : Hp} {p b : Addr} (h : PoolAt H p) (e : H b = none) : b ≠ p := Chg.ne h e
theorem dict_pool {H : Hp} {t p : Addr} {kvs : List (Key × V)} (e : H t = some (.dK kvs)) (hP : PoolAt H p) (o : HO) : PoolAt (upd H t o) p := by
  have n := pool_ne hP e (by intro _ z; cases z)
  obtain ⟨p0, p1, p2, p3, r, e', c⟩ := hP
  exact ⟨p0, p1, p2, p3, r, by rw [upd_ne n.symm]; exact e', c⟩
theorem Sp4.putT {W : Addr × List V} {p t k v : Addr} {x y z L M : Nat} {H : Hp} {kv kk sv : List (Str × V)} (S : Sp4 W p t k v x y z L H kv kk sv) (ntk : t ≠ k) (ntv : t ≠ v) {n : Str} {u : V} (hL : L ≤ M) (hM : M ≤ 100) (hn : n.length ≤ M) (hlow : Low n) (hu : Fl u) (hx : x + 1 < 64) :
    (kvK kv).length < sizeLine ∧ Sp4 W p t k v (x + 1) y z M (upd H t (.dK (putK (kvK kv) (Sum.inr n) u))) (putN kv n u) kk sv := by
  have q := Kp.dict (o := .dK (putK (kvK kv) (Sum.inr n) u)) S.dt.at_
  have := S.lt
  refine ⟨by unfold kvK; rw [List.length_map]; exact small1000 (by omega), dict_pool S.dt.at_ S.pool _, S.dt.put ⟨by omega, hlow⟩ (by omega), S.dk.oth ntk.symm, S.dv.oth ntv.symm, fun w hw => ?_, fun p hp => (S.hk p hp).kp q, fun p hp => (S.hv p hp).kp q, by have := putN_len kv n u; omega, S.lk, S.lv, S.nt.put hL hn hlow, S.nk.up hL, S.nv.up hL, by rw [upd_ne (ne_of S.sp S.dt.at_ (by intro z; cases z))]; exact S.sp, S.np⟩
  rcases putN_mem hw with h | h
  · exact S.ht w h
  · rw [h]
    exact hu
theorem Sp4.putK_ {W : Addr × List V} {p t k v : Addr} {x y z L M : Nat} {H : Hp} {kv kk sv : List (Str × V)} (S : Sp4 W p t k v x y z L H kv kk sv) (ntk : t ≠ k) (nkv : k ≠ v) {n : Str} {u : V} (hL : L ≤ M) (hM : M ≤ 100) (hn : n.length ≤ M) (hlow : Low n) (hu : Th1 H u) (hx : y + 1 < 64) :
    (kvK kk).length < sizeLine ∧ Sp4 W p t k v x (y + 1) z M (upd H k (.dK (putK (kvK kk) (Sum.inr n) u))) kv (putN kk n u) sv := by
  have q := Kp.dict (o := .dK (putK (kvK kk) (Sum.inr n) u)) S.dk.at_
  have := S.lk
  refine ⟨by unfold kvK; rw [List.length_map]; exact small1000 (by omega), dict_pool S.dk.at_ S.pool _, S.dt.oth ntk, S.dk.put ⟨by omega, hlow⟩ (by omega), S.dv.oth nkv.symm, S.ht, fun w hw => ?_, fun p hp => (S.hv p hp).kp q, S.lt, by have := putN_len kk n u; omega, S.lv, S.nt.up hL, S.nk.put hL hn hlow, S.nv.up hL, by rw [upd_ne (ne_of S.sp S.dk.at_ (by intro z; cases z))]; exact S.sp, S.np⟩
  rcases putN_mem hw with h | h
  · exact (S.hk w h).kp q
  · rw [h]
    exact hu.kp q
theorem Sp4.putS {W : Addr × List V} {p t k v : Addr} {x y z L M : Nat} {H : Hp} {kv kk sv : List (Str × V)} (S : Sp4 W p t k v x y z L H kv kk sv) (ntv : t ≠ v) (nkv : k ≠ v) {n : Str} {u : V} (hL : L ≤ M) (hM : M ≤ 100) (hn : n.length ≤ M) (hlow : Low n) (hu : Th2 H u) (hx : z + 1 < 64) :
    (kvK sv).length < sizeLine ∧ Sp4 W p t k v x y (z + 1) M (upd H v (.dK (putK (kvK sv) (Sum.inr n) u))) kv kk (putN sv n u) := by
  have q := Kp.dict (o := .dK (putK (kvK sv) (Sum.inr n) u)) S.dv.at_
  have := S.lv
  refine ⟨by unfold kvK; rw [List.length_map]; exact small1000 (by omega), dict_pool S.dv.at_ S.pool _, S.dt.oth ntv, S.dk.oth nkv, S.dv.put ⟨by omega, hlow⟩ (by omega), S.ht, fun p hp => (S.hk p hp).kp q, fun w hw => ?_, S.lt, S.lk, by have := putN_len sv n u; omega, S.nt.up hL, S.nk.up hL, S.nv.put hL hn hlow, by rw [upd_ne (ne_of S.sp S.dv.at_ (by intro z; cases z))]; exact S.sp, S.np⟩
  rcases putN_mem hw with h | h
  · exact (S.hv w h).kp q
  · rw [h]
    exact hu.kp q
theorem Sp4.up {W : Addr × List V} {p t k v : Addr} {x y z L x' y' z' M : Nat} {H : Hp} {kv kk sv : List (Str × V)} (S : Sp4 W p t k v x y z L H kv kk sv) (h1 : x ≤ x') (h2 : y ≤ y') (h3 : z ≤ z') (h4 : L ≤ M) : Sp4 W p t k v x' y' z' M H kv kk sv :=
  ⟨S.pool, S.dt, S.dk, S.dv, S.ht, S.hk, S.hv, Nat.le_trans S.lt h1, Nat.le_trans S.lk h2, Nat.le_trans S.lv h3, S.nt.up h4, S.nk.up h4, S.nv.up h4, S.sp, S.np⟩
theorem Dn.nil (H : Hp) (t : Addr) : Dn (upd H t (.dK [])) t [] := ⟨upd_same, List.nodup_nil, fun p hp => (by cases hp), by decide⟩
theorem Sp4.clrT {W : Addr × List V} {p t k v : Addr} {x y z L : Nat} {H : Hp} {kv kk sv : List (Str × V)} (S : Sp4 W p t k v x y z L H kv kk sv) (ntk : t ≠ k) (ntv : t ≠ v) : Sp4 W p t k v x y z L (upd H t (.dK [])) [] kk sv := by
  have q := Kp.dict (o := .dK []) S.dt.at_
  exact ⟨dict_pool S.dt.at_ S.pool _, Dn.nil H t, S.dk.oth ntk.symm, S.dv.oth ntv.symm, fun w hw => (by cases hw), fun p hp => (S.hk p hp).kp q, fun p hp => (S.hv p hp).kp q, Nat.zero_le _, S.lk, S.lv, fun p hp => (by cases hp), S.nk, S.nv, by rw [upd_ne (ne_of S.sp S.dt.at_ (by intro z; cases z))]; exact S.sp, S.np⟩
theorem Sp4.clrS {W : Addr × List V} {p t k v : Addr} {x y z L : Nat} {H : Hp} {kv kk sv : List (Str × V)} (S : Sp4 W p t k v x y z L H kv kk sv) (ntv : t ≠ v) (nkv : k ≠ v) : Sp4 W p t k v x y z L (upd H v (.dK [])) kv kk [] := by
  have q := Kp.dict (o := .dK []) S.dv.at_
  exact ⟨dict_pool S.dv.at_ S.pool _, S.dt.oth ntv, S.dk.oth nkv, Dn.nil H v, S.ht, fun p hp => (S.hk p hp).kp q, fun w hw => (by cases hw), S.lt, S.lk, Nat.zero_le _, S.nt, S.nk, fun p hp => (by cases hp), by rw [upd_ne (ne_of S.sp S.dv.at_ (by intro z; cases z))]; exact S.sp, S.np⟩
section
variable {P : Program} {w : World} {K : PySem.W.Frag} {mg : Str → Option Value} {base : Heap} {a : Nat → Addr} {d : Nat → FuncData}
def spWidth : Sp := fun vs H Q _ => ∃ (t : Addr) (n : Str) (kv : List (Str × V)), vs = [.ref t, .str n] ∧ Dn H t kv ∧ (∀ q ∈ kv, Fl q.2) ∧ ∀ (w : Int) H', 1 ≤ w → w ≤ 4 → Same H H' → Q (.int w) H'
theorem ok_width (T : Txt K mg a d) : FnOk P w K mg base CX0 1 (a 41) (d 41) ["_law_tables_here", "_law_name"] spWidth := by
  refine T.F41.ok sc__law_width (fun vs H Q E h => ?_) (fun cdv A outer s H vs Q E hr h => ?_)
  · obtain ⟨t, n, kv, rfl, _⟩ := h
    rfl
  · obtain ⟨t, n, kv, rfl, D, hf, q⟩ := h
    refine ⟨_, (pss_cons (ps_set (i := 2) sc__law_width.nd rfl (.inl rfl) (pe_dget2 (hu_of hr) (pv 0) (pv 1) pe_int ⟨rfl, rfl, rfl, rfl⟩))
  (pss_cons (ps_if (pt_cmpR (op_notInD (hu_of65 hr)) (pv 2) (pe_lst (pa_cons pe_int (pa_cons pe_int (pa_cons pe_int (pa_cons pe_int pa_nil))))) (by rfl))
    (pss_one (ps_ret pe_int))
    pss_nil)
  (pss_one (ps_ret (pe_callTy (T := "int")  call_int1 (by rfl) T.z_int (by decide +kernel) (pa_cons (pv 2) pa_nil)))))), ?_⟩
    have hg : ∃ o : Option V, DGet H t (.str n) o ∧ Fl (o.getD (.int 2)) := by
      refine ⟨_, DGet.k (k := Sum.inr n) D.at_, ?_⟩
      cases e : valV (kvK kv) (Sum.inr n) with
      | none => exact .int 2
      | some u =>
        obtain ⟨p, hp, ep⟩ := List.mem_map.mp (valV_mem e)
        have : p.2 = u := congrArg Prod.snd ep
        show Fl u
        rw [← this]
        exact hf p hp
    obtain ⟨o, dg, fl⟩ := hg
    refine ⟨_, rfl, t, rfl, .inl ⟨_, .inl D.at_⟩, _, rfl, _, dg, ?_⟩
    generalize o.getD (.int 2) = u at fl
    refine ⟨_, rfl, by show 4 ≤ sizeLine; decide, fun l hl => ?_⟩
    have s1 := same_upd (o := .lst [.int 1, .int 2, .int 3, .int 4]) hl
    have dl : Dp K (upd H l (.lst [.int 1, .int 2, .int 3, .int 4])) (.ref l) (.list [.int 1, .int 2, .int 3, .int 4]) := .lst (.of upd_same) (.cons (.int 1) (.cons (.int 2) (.cons (.int 3) (.cons (.int 4) .nil))))
    have hu : ∃ d, Dp K (upd H l (.lst [.int 1, .int 2, .int 3, .int 4])) u d ∧ SeqAt.shaped d = true ∧ (([.int 1, .int 2, .int 3, .int 4] : List PyData).any (fun z => PyData.eqv z d) = true → (∃ i : Int, u = .int i ∧ 1 ≤ i ∧ i ≤ 4) ∨ u = .bl true) := by
      cases fl with
      | int i =>
        refine ⟨.int i, .int i, rfl, fun h => .inl ⟨i, rfl, ?_⟩⟩
        simp only [List.any_cons, List.any_nil, PyData.eqv, Bool.or_false, Bool.or_eq_true, beq_iff_eq] at h
        omega
      | bl b =>
        refine ⟨.bool b, .bl b, rfl, fun h => ?_⟩
        cases b with
        | true => exact .inr rfl
        | false => simp [PyData.eqv] at h
      | non => exact ⟨.none, .non, rfl, fun h => by simp [PyData.eqv] at h⟩
      | str s hl hc => exact ⟨.str s, .str s, str_shaped hc, fun h => by simp [PyData.eqv] at h⟩
    obtain ⟨dd, d1, d2, d3⟩ := hu
    refine ⟨dd, _, d1, dl, d2, by decide, _, rfl, ?_⟩
    cases e : ([.int 1, .int 2, .int 3, .int 4] : List PyData).any (fun z => PyData.eqv z dd) with
    | false => exact q 2 _ (by decide) (by decide) s1
    | true =>
      rcases d3 e with ⟨i, rfl, h1, h2⟩ | rfl
      · exact ⟨_, rfl, .inl ⟨i, rfl, q i _ h1 h2 s1⟩⟩
      · exact ⟨_, rfl, .inr ⟨true, rfl, q 1 _ (by decide) (by decide) s1⟩⟩
def spPick : Sp := fun vs H Q _ => ∃ (p l : Addr) (xs : List V), vs = [.ref p, .ref l] ∧ PoolAt H p ∧ H l = some (.lst xs) ∧ l ≠ p ∧ 1 ≤ xs.length ∧ xs.length ≤ 1000 ∧ ∀ v H', v ∈ xs → Chg p H H' → Q v H'
theorem ok_pick (T : Txt K mg a d) : FnOk P w K mg base CX0 3 (a 38) (d 38) ["_law_pool_here", "_law_row"] spPick := by
  have G29 : FnOk P w K mg base CX0 2 (a 29) (d 29) ["_law_pool_here", "_law_many"] spDraw := ok_draw T
  refine T.F38.ok sc__law_pick (fun vs H Q E h => ?_) (fun cdv A outer s H vs Q E hr h => ?_)
  · obtain ⟨p, l, xs, rfl, _⟩ := h
    rfl
  · obtain ⟨p, l, xs, rfl, hP, hl, nl, h1, h2, q⟩ := h
    refine ⟨_, (pss_one (ps_ret (pe_ix ix_list (pv 1) (pe_call G29 (hr.mono (by decide)) (by rfl) T.g29 T.F29.kp T.b29 .nil pass0 (pa_cons (pv 0) (pa_cons (pe_callB (id := "len")  call_len_seq (by rfl) T.z_len (by decide +kernel) (pa_cons (pv 1) pa_nil)) pa_nil))) (fun _ _ => rfl)))), ?_⟩
    refine ⟨_, rfl, _, rfl, _, rfl, _, _, rfl, .inl (.of hl), p, _, rfl, hP, by omega, Nat.lt_of_le_of_lt (by omega : _ ≤ 1000) (by decide), fun r H1 r0 r1 C1 => ?_⟩
    obtain ⟨v, hv⟩ := at_some (xs := xs) r0 r1
    exact ⟨l, xs, r, v, rfl, rfl, .of (C1.at nl hl), hv, q v H1 (atI_mem hv) C1⟩
def spBadCols : Sp := fun vs H Q _ => ∃ (p : Addr) (w : Int), vs = [.ref p, .int w] ∧ PoolAt H p ∧ ∀ v H', Th1 H' v → Chg p H H' → Q v H'
theorem ok_badcols (T : Txt K mg a d) : FnOk P w K mg base CX0 4 (a 39) (d 39) ["_law_pool_here", "_law_width_here"] spBadCols := by
  have G38 : FnOk P w K mg base CX0 3 (a 38) (d 38) ["_law_pool_here", "_law_row"] spPick := ok_pick T
  refine T.F39.ok sc__law_bad_columns (fun vs H Q E h => ?_) (fun cdv A outer s H vs Q E hr h => ?_)
  · obtain ⟨p, w, rfl, _⟩ := h
    rfl
  · obtain ⟨p, w, rfl, hP, q⟩ := h
    refine ⟨_, (pss_one (ps_ret (pe_call G38 (hr.mono (by decide)) (by rfl) T.g38 T.F38.kp T.b38 .nil pass0 (pa_cons (pv 0) (pa_cons (pe_lst (pa_cons (pe_tup (pa_cons (pv 1) pa_nil)) (pa_cons (pe_tup (pa_cons pe_int (pa_cons pe_int pa_nil))) (pa_cons (pe_tup (pa_cons pe_int (pa_cons pe_int pa_nil))) (pa_cons (pe_lst (pa_cons pe_int pa_nil)) (pa_cons (pe_tup (pa_cons pe_bl pa_nil)) (pa_cons (pe_tup (pa_cons (pe_un un_neg pe_int) pa_nil)) (pa_cons pe_non (pa_cons (pe_tup (pa_cons pe_str pa_nil)) (pa_cons pe_int (pa_cons (pe_tup (pa_cons pe_int (pa_cons pe_int (pa_cons pe_int (pa_cons pe_int (pa_cons pe_int pa_nil)))))) pa_nil))))))))))) pa_nil))))), ?_⟩
    have C0 := Chg.refl hP
    refine ⟨_, rfl, _, rfl, by show 1 ≤ sizeLine; decide, fun t1 h1 => ⟨by show 2 ≤ sizeLine; decide, fun t2 h2 => ⟨by show 2 ≤ sizeLine; decide, fun t3 h3 => ⟨by show 1 ≤ sizeLine; decide, fun t4 h4 => ⟨by show 1 ≤ sizeLine; decide, fun t5 h5 => ⟨_, rfl, by show 1 ≤ sizeLine; decide, fun t6 h6 => ⟨by show 1 ≤ sizeLine; decide, fun t7 h7 => ⟨by show 5 ≤ sizeLine; decide, fun t8 h8 => ⟨by show 10 ≤ sizeLine; decide, fun l hl => ?_⟩⟩⟩⟩⟩⟩⟩⟩⟩
    have C1 := C0.new (o := .tup [.int w]) h1
    have C2 := C1.new (o := .tup [.int 0, .int 0]) h2
    have C3 := C2.new (o := .tup [.int 1, .int 0]) h3
    have C4 := C3.new (o := .lst [.int 0]) h4
    have C5 := C4.new (o := .tup [.bl true]) h5
    have C6 := C5.new (o := .tup [.int (-1)]) h6
    have C7 := C6.new (o := .tup [.str "a"]) h7
    have C8 := C7.new (o := .tup [.int 0, .int 1, .int 2, .int 3, .int 4]) h8
    have C9 := C8.new (o := .lst [.ref t1, .ref t2, .ref t3, .ref t4, .ref t5, .ref t6, .non, .ref t7, .int 0, .ref t8]) hl
    have s2 := same_upd (o := .tup [.int 0, .int 0]) h2
    have s3 := same_upd (o := .tup [.int 1, .int 0]) h3
    have s4 := same_upd (o := .lst [.int 0]) h4
    have s5 := same_upd (o := .tup [.bl true]) h5
    have s6 := same_upd (o := .tup [.int (-1)]) h6
    have s7 := same_upd (o := .tup [.str "a"]) h7
    have s8 := same_upd (o := .tup [.int 0, .int 1, .int 2, .int 3, .int 4]) h8
    have s9 := same_upd (o := .lst [.ref t1, .ref t2, .ref t3, .ref t4, .ref t5, .ref t6, .non, .ref t7, .int 0, .ref t8]) hl
    have z8 := s9 _ _ (upd_same (a := t8) (o := .tup [.int 0, .int 1, .int 2, .int 3, .int 4]))
    have z7 := s9 _ _ (s8 _ _ (upd_same (a := t7) (o := .tup [.str "a"])))
    have z6 := s9 _ _ (s8 _ _ (s7 _ _ (upd_same (a := t6) (o := .tup [.int (-1)]))))
    have z5 := s9 _ _ (s8 _ _ (s7 _ _ (s6 _ _ (upd_same (a := t5) (o := .tup [.bl true])))))
    have z4 := s9 _ _ (s8 _ _ (s7 _ _ (s6 _ _ (s5 _ _ (upd_same (a := t4) (o := .lst [.int 0]))))))
    have z3 := s9 _ _ (s8 _ _ (s7 _ _ (s6 _ _ (s5 _ _ (s4 _ _ (upd_same (a := t3) (o := .tup [.int 1, .int 0])))))))
    have z2 := s9 _ _ (s8 _ _ (s7 _ _ (s6 _ _ (s5 _ _ (s4 _ _ (s3 _ _ (upd_same (a := t2) (o := .tup [.int 0, .int 0]))))))))
    have z1 := s9 _ _ (s8 _ _ (s7 _ _ (s6 _ _ (s5 _ _ (s4 _ _ (s3 _ _ (s2 _ _ (upd_same (a := t1) (o := .tup [.int w])))))))))
    refine ⟨p, l, _, rfl, C9.1, upd_same, pool_ne' C8.1 hl, by show 1 ≤ 10; decide, by show 10 ≤ 1000; decide, fun v H' hv C' => q v H' ?_ (C9.trans C')⟩
    have kp := Kp.chg C9.1 C'
    have lowa : Low "a" := by unfold Low; decide +kernel
    have thi : ∀ {G : Hp} (ns : List Int), ∀ x ∈ ns.map V.int, Thg G x := fun ns x hx => by
      obtain ⟨i, _, rfl⟩ := List.mem_map.mp hx
      exact .int i
    simp only [List.mem_cons, List.not_mem_nil, or_false] at hv
    rcases hv with rfl | rfl | rfl | rfl | rfl | rfl | rfl | rfl | rfl | rfl
    · exact (Th1.tup z1 (by show 1 ≤ 100; decide) (thi [w])).kp kp
    · exact (Th1.tup z2 (by decide) (thi [0, 0])).kp kp
    · exact (Th1.tup z3 (by decide) (thi [1, 0])).kp kp
    · exact (Th1.flat (.lst z4) (tupOf_lst z4)).kp kp
    · exact (Th1.tup z5 (by decide) (fun x hx => by rw [List.mem_singleton.mp hx]; exact .bl true)).kp kp
    · exact (Th1.tup z6 (by decide) (thi [-1])).kp kp
    · exact Fl.non.th1
    · exact (Th1.tup z7 (by decide) (fun x hx => by rw [List.mem_singleton.mp hx]; exact .str _ (by decide) lowa)).kp kp
    · exact (Fl.int 0).th1
    · exact (Th1.tup z8 (by decide) (thi [0, 1, 2, 3, 4])).kp kp
end
theorem low_app {s u : Str} (h1 : Low s) (h2 : Low u) : Low (s ++ u) := fun c hc => by
  rw [cps_app] at hc
  rcases List.mem_append.mp hc with h | h
  · exact h1 c h
  · exact h2 c h
section
variable {P : Program} {w : World} {K : PySem.W.Frag} {mg : Str → Option Value} {base : Heap} {a : Nat → Addr} {d : Nat → FuncData}
def spSpoilT : Sp := fun vs H Q _ => ∃ (W : Addr × List V) (p t k v : Addr) (kind : Int) (x y z L : Nat) (kv kk sv : List (Str × V)), vs = [.ref p, .int kind, .ref t] ∧ t ≠ k ∧ t ≠ v ∧ Sp4 W p t k v x y z L H kv kk sv ∧ 1 ≤ kv.length ∧ x + 8 < 64 ∧ 12 ≤ L ∧ L + 1 ≤ 100 ∧
  ∀ kv' H', Sp4 W p t k v (x + 8) y z (L + 1) H' kv' kk sv → Q .non H'
theorem ok_spoilT (T : Txt K mg a d) : FnOk P w K mg base CX0 4 (a 40) (d 40) ["_law_pool_here", "_law_kind", "_law_tables_here"] spSpoilT := by
  have G29 : FnOk P w K mg base CX0 2 (a 29) (d 29) ["_law_pool_here", "_law_many"] spDraw := ok_draw T
  have G38 : FnOk P w K mg base CX0 3 (a 38) (d 38) ["_law_pool_here", "_law_row"] spPick := ok_pick T
  refine T.F40.ok sc__law_spoil_tables (fun vs H Q E h => ?_) (fun cdv A outer s H vs Q E hr h => ?_)
  · obtain ⟨W, p, t, k, v, kind, x, y, z, L, kv, kk, sv, rfl, _⟩ := h
    rfl
  · obtain ⟨W, p, t, k, v, kind, x, y, z, L, kv, kk, sv, rfl, ntk, ntv, S, h1, hx, hL, hL2, q⟩ := h
    have hlen := S.lt
    refine ⟨_, (pss_cons (ps_set (i := 3) sc__law_spoil_tables.nd rfl (.inl rfl) (pe_call G38 (hr.mono (by decide)) (by rfl) T.g38 T.F38.kp T.b38 .nil pass0 (pa_cons (pv 0) (pa_cons (pe_callTy (T := "list")  (call_listD rfl) (by rfl) T.z_list (by decide +kernel) (pa_cons (pv 2) pa_nil)) pa_nil))))
  (Evl.pss_cut (ps_if (pt_cmpR op_eq (pv 1) pe_int (nomark _))
    (pss_one (ps_dput (hu_of hr) (pv 2) (pe_call G38 (hr.mono (by decide)) (by rfl) T.g38 T.F38.kp T.b38 .nil pass0 (pa_cons (pv 0) (pa_cons (pe_lst (pa_cons pe_str (pa_cons pe_str (pa_cons (pe_op op_add_str (pv 3) pe_str) (pa_cons pe_str (pa_cons (pe_op op_add_str (pv 3) pe_str) (pa_cons pe_str pa_nil))))))) pa_nil))) pe_int rfl))
    pss_nil)
  (Evl.pss_cut (ps_if (pt_cmpR op_eq (pv 1) pe_int (nomark _))
    (pss_one (ps_dput (hu_of hr) (pv 2) (pv 3) (pe_call G38 (hr.mono (by decide)) (by rfl) T.g38 T.F38.kp T.b38 .nil pass0 (pa_cons (pv 0) (pa_cons (pe_lst (pa_cons pe_int (pa_cons pe_int (pa_cons (pe_un un_neg pe_int) (pa_cons pe_bl (pa_cons pe_non (pa_cons pe_str (pa_cons (pe_op op_pow pe_int pe_int) pa_nil)))))))) pa_nil))) rfl))
    pss_nil)
  (pss_one (ps_if (pt_cmpR op_eq (pv 1) pe_int (nomark _))
    (pss_one (ps_if (pt_cmpR op_eq (pe_call G29 (hr.mono (by decide)) (by rfl) T.g29 T.F29.kp T.b29 .nil pass0 (pa_cons (pv 0) (pa_cons pe_int pa_nil))) pe_int (nomark _))
        (pss_one (ps_expr (pe_bm0 PySem.F.plainAttrs_dict PySem.F.slot_dict_clear PySem.F.type_dict_clear mtd_clear (pv 2))))
        (pss_one (ps_for PassesOwn.never rfl (pi_list (pe_lst (pa_cons pe_str (pa_cons pe_str (pa_cons pe_str (pa_cons pe_str (pa_cons pe_str (pa_cons pe_str pa_nil)))))))) (pg_name (i := 4) sc__law_spoil_tables.nd rfl (.inl rfl))
            (pss_one (ps_dput (hu_of hr) (pv 2) (pv 4) pe_int rfl))))))
    pss_nil))))), ?_⟩
    refine ⟨_, rfl, _, rfl, t, _, rfl, .inl S.dt.at_, fun l hl => ?_⟩
    rw [kd_names' (keys_kv kv)]
    have C1 := (Chg.refl S.pool).new (o := .lst ((kv.map (·.1)).map V.str)) hl
    refine ⟨p, l, _, rfl, C1.1, upd_same, pool_ne' S.pool hl, by rw [List.length_map, List.length_map]; omega, by rw [List.length_map, List.length_map]; omega, fun u H1 hu C2 => ?_⟩
    obtain ⟨nm, hnm, rfl⟩ := List.mem_map.mp hu
    obtain ⟨q0, hq0, rfl⟩ := List.mem_map.mp hnm
    obtain ⟨hnl, hnlow⟩ := S.nt q0 hq0
    have S1 := S.chg (C1.trans C2)
    generalize q0.1 = nm at hnl hnlow
    clear hu hnm hq0 C1 C2 hl
    -- a table more
    refine ⟨fun σ H' => σ = [some (.ref p), some (.int kind), some (.ref t), some (.str nm), none] ∧ ∃ kv', Sp4 W p t k v (x + 1) y z (L + 1) H' kv' kk sv, ?_, ?_⟩
    · refine ⟨_, rfl, rfl, _, rfl, ite_eqI (fun _ => ?_) (fun _ => ⟨rfl, kv, S1.up (Nat.le_succ _) (Nat.le_refl _) (Nat.le_refl _) (Nat.le_succ _)⟩)⟩
      have l1 : (nm ++ "1").length = nm.length + 1 := len_app _ _
      have l2 : (nm ++ " ").length = nm.length + 1 := len_app _ _
      refine ⟨_, rfl, _, rfl, _, rfl, _, _, rfl, rfl, small1000' (by show nm.length + 1 ≤ 1000; omega), _, rfl, _, _, rfl, rfl, small1000' (by show nm.length + 1 ≤ 1000; omega), by show 6 ≤ sizeLine; decide, fun l hl => ?_⟩
      have C3 := (Chg.refl S1.pool).new (o := .lst [.str "", .str "A", .str (nm ++ "1"), .str "abcdefghi", .str (nm ++ " "), .str "a-b"]) hl
      refine ⟨p, l, _, rfl, C3.1, upd_same, pool_ne' S1.pool hl, by show 1 ≤ 6; decide, by show 6 ≤ 1000; decide, fun u H2 hu C4 => ?_⟩
      have S2 := S1.chg (C3.trans C4)
      have hs : ∃ s : Str, u = .str s ∧ s.length ≤ L + 1 ∧ Low s := by
        simp only [List.mem_cons, List.not_mem_nil, or_false] at hu
        rcases hu with rfl | rfl | rfl | rfl | rfl | rfl
        · exact ⟨"", rfl, Nat.zero_le _, by unfold Low; decide +kernel⟩
        · exact ⟨"A", rfl, by show 1 ≤ L + 1; omega, by unfold Low; decide +kernel⟩
        · exact ⟨_, rfl, by rw [l1]; omega, low_app hnlow (by unfold Low; decide +kernel)⟩
        · exact ⟨"abcdefghi", rfl, by show 9 ≤ L + 1; omega, by unfold Low; decide +kernel⟩
        · exact ⟨_, rfl, by rw [l2]; omega, low_app hnlow (by unfold Low; decide +kernel)⟩
        · exact ⟨"a-b", rfl, by show 3 ≤ L + 1; omega, by unfold Low; decide +kernel⟩
      obtain ⟨s, rfl, hs1, hs2⟩ := hs
      obtain ⟨len, S3⟩ := S2.putT ntk ntv (Nat.le_succ L) hL2 hs1 hs2 (Fl.int 1) (by omega)
      exact ⟨t, _, rfl, DPut.k (k := Sum.inr s) S2.dt.at_ len, rfl, _, S3⟩
    · rintro σ H2 ⟨rfl, kv2, S2⟩
      -- a wrong width
      refine ⟨fun σ H' => σ = [some (.ref p), some (.int kind), some (.ref t), some (.str nm), none] ∧ ∃ kv', Sp4 W p t k v (x + 2) y z (L + 1) H' kv' kk sv, ?_, ?_⟩
      · refine ⟨_, rfl, rfl, _, rfl, ite_eqI (fun _ => ?_) (fun _ => ⟨rfl, kv2, S2.up (Nat.le_succ _) (Nat.le_refl _) (Nat.le_refl _) (Nat.le_refl _)⟩)⟩
        refine ⟨_, rfl, _, rfl, _, _, rfl, rfl, ⟨by decide, by decide, by decide⟩, by show 7 ≤ sizeLine; decide, fun l hl => ?_⟩
        have C3 := (Chg.refl S2.pool).new (o := .lst [.int 0, .int 5, .int (-1), .bl true, .non, .str "a", .int (10 ^ (30 : Int).toNat)]) hl
        refine ⟨p, l, _, rfl, C3.1, upd_same, pool_ne' S2.pool hl, by show 1 ≤ 7; decide, by show 7 ≤ 1000; decide, fun u H3 hu C4 => ?_⟩
        have S3 := S2.chg (C3.trans C4)
        have hf : Fl u := by
          simp only [List.mem_cons, List.not_mem_nil, or_false] at hu
          rcases hu with rfl | rfl | rfl | rfl | rfl | rfl | rfl
          · exact .int _
          · exact .int _
          · exact .int _
          · exact .bl _
          · exact .non
          · exact .str _ (by decide) (by unfold Low; decide +kernel)
          · exact .int _
        obtain ⟨len, S4⟩ := S3.putT ntk ntv (Nat.le_refl _) hL2 (n := nm) (by omega) hnlow hf (by omega)
        exact ⟨_, rfl, _, rfl, t, _, rfl, DPut.k (k := Sum.inr nm) S3.dt.at_ len, rfl, _, S4⟩
      · rintro σ H3 ⟨rfl, kv3, S3⟩
        refine ⟨_, rfl, rfl, _, rfl, ite_eqI (fun _ => ?_) (fun _ => q kv3 H3 (S3.up (by omega) (Nat.le_refl _) (Nat.le_refl _) (Nat.le_refl _)))⟩
        refine ⟨_, rfl, p, 2, rfl, S3.pool, by decide, by decide, fun r H4 r0 r1 C4 => ⟨rfl, _, rfl, ite_eqI (fun _ => ?_) (fun _ => ?_)⟩⟩
        · have S4 := S3.chg C4
          exact ⟨_, rfl, .inr (.inr (.inl ⟨rfl, .inl ⟨_, S4.dt.at_⟩⟩)), t, _, rfl, rfl, S4.dt.at_, q [] _ ((S4.clrT ntk ntv).up (by omega) (Nat.le_refl _) (Nat.le_refl _) (Nat.le_refl _))⟩
        · have S4 := S3.chg C4
          refine ⟨by show 6 ≤ sizeLine; decide, fun l hl => ⟨l, rfl, ?_⟩⟩
          have S5 := S4.chg ((Chg.refl S4.pool).new (o := .lst ((["p", "pq", "pqr", "pqrs", "q", "qr"] : List Str).map V.str)) hl)
          have nlt : l ≠ t := (ne_of_none S4.dt.at_ hl).symm
          have hl5 : upd H4 l (.lst ((["p", "pq", "pqr", "pqrs", "q", "qr"] : List Str).map V.str)) l = some (.lst ((["p", "pq", "pqr", "pqrs", "q", "qr"] : List Str).map V.str)) := upd_same
          have hw : ∀ s ∈ (["p", "pq", "pqr", "pqrs", "q", "qr"] : List Str), s.length ≤ 12 ∧ Low s := by unfold Low; decide +kernel
          refine ⟨⟨_, .of hl5⟩, for_list (K := K) (a := l) (xs := (["p", "pq", "pqr", "pqrs", "q", "qr"] : List Str).map V.str) (fun i σ H' => ∃ (y4 : Option V) (kv' : List (Str × V)), σ = [some (.ref p), some (.int kind), some (.ref t), some (.str nm), y4] ∧ H' l = some (.lst ((["p", "pq", "pqr", "pqrs", "q", "qr"] : List Str).map V.str)) ∧ i ≤ 6 ∧ Sp4 W p t k v (x + 2 + i) y z (L + 1) H' kv' kk sv) ⟨none, kv3, rfl, hl5, Nat.zero_le _, S5⟩ (fun i σ H' _ hp => ?_) (fun i y σ H' hy hp => ?_) (fun σ H5 hp => ?_)⟩
          · obtain ⟨y4, kv', rfl, hl', _⟩ := hp
            exact .of hl'
          · obtain ⟨y4, kv', rfl, hl', hi, S6⟩ := hp
            obtain ⟨s, hs, rfl⟩ := map_at hy
            have hi6 : i < 6 := (List.getElem?_eq_some_iff.mp hs).1
            obtain ⟨w1, w2⟩ := hw s (List.mem_of_getElem? hs)
            obtain ⟨len, S7⟩ := S6.putT ntk ntv (Nat.le_refl _) hL2 (n := s) (by omega) w2 (Fl.int 2) (by omega)
            exact ⟨_, rfl, _, rfl, t, _, rfl, DPut.k (k := Sum.inr s) S6.dt.at_ len, _, _, rfl, by rw [upd_ne nlt]; exact hl', by omega, S7⟩
          · obtain ⟨y4, kv', rfl, hl', hi, S6⟩ := hp
            exact q kv' H5 S6
end
section
variable {P : Program} {w : World} {K : PySem.W.Frag} {mg : Str → Option Value} {base : Heap} {a : Nat → Addr} {d : Nat → FuncData}
def spSpoilK : Sp := fun vs H Q _ => ∃ (W : Addr × List V) (p t k v : Addr) (kind : Int) (x y z L : Nat) (kv kk sv : List (Str × V)), vs = [.ref p, .int kind, .ref t, .ref k] ∧ t ≠ k ∧ k ≠ v ∧ Sp4 W p t k v x y z L H kv kk sv ∧ 1 ≤ kv.length ∧ x < 64 ∧ y + 2 < 64 ∧ 12 ≤ L ∧ L + 1 ≤ 100 ∧
  ∀ kk' H', Sp4 W p t k v x (y + 2) z (L + 1) H' kv kk' sv → Q .non H'
theorem ok_spoilK (T : Txt K mg a d) : FnOk P w K mg base CX0 5 (a 42) (d 42) ["_law_pool_here", "_law_kind", "_law_tables_here", "_law_keys_here"] spSpoilK := by
  have G38 : FnOk P w K mg base CX0 3 (a 38) (d 38) ["_law_pool_here", "_law_row"] spPick := ok_pick T
  have G41 : FnOk P w K mg base CX0 1 (a 41) (d 41) ["_law_tables_here", "_law_name"] spWidth := ok_width T
  have G39 : FnOk P w K mg base CX0 4 (a 39) (d 39) ["_law_pool_here", "_law_width_here"] spBadCols := ok_badcols T
  refine T.F42.ok sc__law_spoil_keys (fun vs H Q E h => ?_) (fun cdv A outer s H vs Q E hr h => ?_)
  · obtain ⟨W, p, t, k, v, kind, x, y, z, L, kv, kk, sv, rfl, _⟩ := h
    rfl
  · obtain ⟨W, p, t, k, v, kind, x, y, z, L, kv, kk, sv, rfl, ntk, nkv, S, h1, hx, hy, hL, hL2, q⟩ := h
    have hlen := S.lt
    refine ⟨_, (pss_cons (ps_set (i := 4) sc__law_spoil_keys.nd rfl (.inl rfl) (pe_call G38 (hr.mono (by decide)) (by rfl) T.g38 T.F38.kp T.b38 .nil pass0 (pa_cons (pv 0) (pa_cons (pe_op op_cat (pe_callTy (T := "list")  (call_listD rfl) (by rfl) T.z_list (by decide +kernel) (pa_cons (pv 2) pa_nil)) (pe_lst (pa_cons pe_str pa_nil))) pa_nil))))
  (Evl.pss_cut (ps_if (pt_cmpR op_eq (pv 1) pe_int (nomark _))
    (pss_one (ps_dput (hu_of hr) (pv 3) (pe_op op_add_str (pv 4) pe_str) (pe_tup (pa_cons pe_int pa_nil)) rfl))
    pss_nil)
  (pss_one (ps_if (pt_cmpR op_eq (pv 1) pe_int (nomark _))
    (pss_cons (ps_set (i := 5) sc__law_spoil_keys.nd rfl (.inl rfl) (pe_call G41 (hr.mono (by decide)) (by rfl) T.g41 T.F41.kp T.b41 .nil pass0 (pa_cons (pv 2) (pa_cons (pv 4) pa_nil))))
      (pss_one (ps_dput (hu_of hr) (pv 3) (pv 4) (pe_call G38 (hr.mono (by decide)) (by rfl) T.g38 T.F38.kp T.b38 .nil pass0 (pa_cons (pv 0) (pa_cons (pe_lst (pa_cons (pe_tup pa_nil) (pa_cons (pe_callTy (T := "tuple")  call_tuple_of (by rfl) T.z_tuple (by decide +kernel) (pa_cons (pe_listRg rfl (by rfl) T.z_list (prg_1 (by rfl) T.z_range (pv 5))) pa_nil)) (pa_cons (pe_call G39 (hr.mono (by decide)) (by rfl) T.g39 T.F39.kp T.b39 .nil pass0 (pa_cons (pv 0) (pa_cons (pv 5) pa_nil))) pa_nil)))) pa_nil))) rfl)))
    pss_nil)))), ?_⟩
    refine ⟨_, rfl, _, rfl, t, _, rfl, .inl S.dt.at_, fun l1 hl1 => ?_⟩
    rw [kd_names' (keys_kv kv)]
    have C1 := (Chg.refl S.pool).new (o := .lst ((kv.map (·.1)).map V.str)) hl1
    have e1 : upd H l1 (.lst ((kv.map (·.1)).map V.str)) l1 = some (.lst ((kv.map (·.1)).map V.str)) := upd_same
    refine ⟨by show 1 ≤ sizeLine; decide, fun l2 hl2 => ?_⟩
    have C2 := C1.new (o := .lst [.str "zzzzzzzz"]) hl2
    have lk : ((kv.map (·.1)).map V.str).length = kv.length := by rw [List.length_map, List.length_map]
    refine ⟨l1, l2, _, _, rfl, rfl, same_upd hl2 _ _ e1, upd_same, ?_, fun l hl => ?_⟩
    · show ((kv.map (·.1)).map V.str).length + 1 ≤ sizeLine
      rw [lk]
      exact small1000' (by omega)
    have C3 := C2.new (o := .lst ((kv.map (·.1)).map V.str ++ [.str "zzzzzzzz"])) hl
    refine ⟨p, l, _, rfl, C3.1, upd_same, pool_ne' C2.1 hl, by rw [List.length_append]; exact Nat.le_add_left _ _, by rw [List.length_append, lk]; show kv.length + 1 ≤ 1000; omega, fun u H1 hu C4 => ?_⟩
    have hs : ∃ s : Str, u = .str s ∧ s.length ≤ L ∧ Low s := by
      rcases List.mem_append.mp hu with h | h
      · obtain ⟨nm, hnm, rfl⟩ := List.mem_map.mp h
        obtain ⟨q0, hq0, rfl⟩ := List.mem_map.mp hnm
        exact ⟨_, rfl, S.nt q0 hq0⟩
      · rw [List.mem_singleton.mp h]
        exact ⟨"zzzzzzzz", rfl, by show 8 ≤ L; omega, by unfold Low; decide +kernel⟩
    obtain ⟨nm, rfl, hnl, hnlow⟩ := hs
    have S1 := S.chg (C3.trans C4)
    clear C1 C2 C3 C4 hu e1 hl hl1 hl2
    refine ⟨fun σ H' => σ = [some (.ref p), some (.int kind), some (.ref t), some (.ref k), some (.str nm), none] ∧ ∃ kk', Sp4 W p t k v x (y + 1) z (L + 1) H' kv kk' sv, ?_, ?_⟩
    · refine ⟨_, rfl, rfl, _, rfl, ite_eqI (fun _ => ?_) (fun _ => ⟨rfl, kk, S1.up (Nat.le_refl _) (Nat.le_succ _) (Nat.le_refl _) (Nat.le_succ _)⟩)⟩
      have l1 : (nm ++ "z").length = nm.length + 1 := len_app _ _
      refine ⟨by show 1 ≤ sizeLine; decide, fun u hu => ⟨_, rfl, _, rfl, _, _, rfl, rfl, small1000' (by show nm.length + 1 ≤ 1000; omega), ?_⟩⟩
      have S2 := S1.chg ((Chg.refl S1.pool).new (o := .tup [.int 0]) hu)
      obtain ⟨len, S3⟩ := S2.putK_ ntk nkv (Nat.le_succ L) hL2 (n := nm ++ "z") (u := .ref u) (by rw [l1]; omega) (low_app hnlow (by unfold Low; decide +kernel)) (Th1.tup upd_same (by show 1 ≤ 100; decide) fun q hq => by rw [List.mem_singleton.mp hq]; exact .int 0) (by omega)
      exact ⟨k, _, rfl, DPut.k (k := Sum.inr (nm ++ "z")) S2.dk.at_ len, rfl, _, S3⟩
    · rintro σ H2 ⟨rfl, kk2, S2⟩
      refine ⟨_, rfl, rfl, _, rfl, ite_eqI (fun _ => ?_) (fun _ => q kk2 H2 (S2.up (Nat.le_refl _) (Nat.le_succ _) (Nat.le_refl _) (Nat.le_refl _)))⟩
      refine ⟨_, rfl, _, rfl, t, nm, kv, rfl, S2.dt, S2.ht, fun w H3 w1 w4 s3 => ?_⟩
      have S3 := S2.chg ((Chg.refl S2.pool).same4 s3)
      refine ⟨_, rfl, Nat.zero_le _, fun t1 h1 => ?_⟩
      have S4 := S3.chg ((Chg.refl S3.pool).new (o := .tup []) h1)
      have e1 : upd H3 t1 (.tup []) t1 = some (.tup []) := upd_same
      generalize upd H3 t1 (.tup []) = H4 at S4 e1
      refine ⟨_, rfl, _, rfl, RgOk.of_le (by decide) (by omega) (by decide) (by omega), fun t2 h2 => ?_⟩
      have S5 := S4.chg ((Chg.refl S4.pool).new (o := .lst (rgV 0 w)) h2)
      have e1' := same_upd (o := .lst (rgV 0 w)) h2 _ _ e1
      have e2 : upd H4 t2 (.lst (rgV 0 w)) t2 = some (.lst (rgV 0 w)) := upd_same
      generalize upd H4 t2 (.lst (rgV 0 w)) = H5 at S5 e1' e2
      refine ⟨t2, _, rfl, .inl ⟨.of e2, fun t3 h3 => ?_⟩⟩
      have S6 := S5.chg ((Chg.refl S5.pool).new (o := .tup (rgV 0 w)) h3)
      have e1'' := same_upd (o := .tup (rgV 0 w)) h3 _ _ e1'
      have e3 : upd H5 t3 (.tup (rgV 0 w)) t3 = some (.tup (rgV 0 w)) := upd_same
      generalize upd H5 t3 (.tup (rgV 0 w)) = H6 at S6 e1'' e3
      refine ⟨_, rfl, _, rfl, p, w, rfl, S6.pool, fun u H7 hu C7 => ⟨by show 3 ≤ sizeLine; decide, fun l hl => ?_⟩⟩
      have S7 := S6.chg C7
      have kp7 := Kp.chg S6.pool C7
      have g1 := kp7.tup _ _ e1''
      have g3 := kp7.tup _ _ e3
      have C8 := (Chg.refl S7.pool).new (o := .lst [.ref t1, .ref t3, u]) hl
      have kp8 := Kp.same (same_upd (o := .lst [.ref t1, .ref t3, u]) hl)
      refine ⟨p, l, _, rfl, C8.1, upd_same, pool_ne' S7.pool hl, by show 1 ≤ 3; decide, by show 3 ≤ 1000; decide, fun r H9 hr C9 => ?_⟩
      have S9 := S7.chg (C8.trans C9)
      have kp9 := kp8.trans (Kp.chg C8.1 C9)
      have hth : Th1 H9 r := by
        simp only [List.mem_cons, List.not_mem_nil, or_false] at hr
        rcases hr with rfl | rfl | rfl
        · exact (Th1.tup g1 (by show 0 ≤ 100; decide) fun q hq => by cases hq).kp kp9
        · refine (Th1.tup g3 (by rw [rgV_length]; omega) fun q hq => ?_).kp kp9
          unfold rgV at hq
          obtain ⟨j, _, rfl⟩ := List.mem_map.mp hq
          exact .int _
        · exact hu.kp kp9
      obtain ⟨len, S10⟩ := S9.putK_ ntk nkv (Nat.le_refl _) hL2 (n := nm) (by omega) hnlow hth (by omega)
      exact ⟨_, rfl, _, rfl, k, _, rfl, DPut.k (k := Sum.inr nm) S9.dk.at_ len, q _ _ S10⟩
end
section
variable {P : Program} {w : World} {K : PySem.W.Frag} {mg : Str → Option Value} {base : Heap} {a : Nat → Addr} {d : Nat → FuncData}
theorem th1_nil {H : Hp} {u : Addr} (hu : H u = some (.tup [])) : Th1 H (.ref u) := Th1.tup hu (by show 0 ≤ 100; decide) fun q hq => by cases hq
theorem th2_svc {H : Hp} {x : Addr} {a1 g c : V} (hx : H x = some (.tup [a1, g, c])) (ha : Th1 H a1) (hg : Th1 H g) (hc : Th1 H c) : Th2 H (.ref x) := Th2.tup hx (by show 3 ≤ 100; decide) fun q hq => by
  simp only [List.mem_cons, List.not_mem_nil, or_false] at hq
  rcases hq with rfl | rfl | rfl
  · exact ha
  · exact hg
  · exact hc
def spSpoilS : Sp := fun vs H Q _ => ∃ (W : Addr × List V) (p t k v : Addr) (kind : Int) (x y z L : Nat) (kv kk sv : List (Str × V)), vs = [.ref p, .int kind, .ref t, .ref v] ∧ t ≠ v ∧ k ≠ v ∧ Sp4 W p t k v x y z L H kv kk sv ∧ 1 ≤ kv.length ∧ 1 ≤ sv.length ∧ x < 64 ∧ z + 13 < 64 ∧ 12 ≤ L ∧ L + 1 ≤ 100 ∧
  ∀ sv' H', Sp4 W p t k v x y (z + 13) (L + 1) H' kv kk sv' → Q .non H'
theorem ok_spoilS (T : Txt K mg a d) : FnOk P w K mg base CX0 5 (a 43) (d 43) ["_law_pool_here", "_law_kind", "_law_tables_here", "_law_services_here"] spSpoilS := by
  have G29 : FnOk P w K mg base CX0 2 (a 29) (d 29) ["_law_pool_here", "_law_many"] spDraw := ok_draw T
  have G30 : FnOk P w K mg base CX0 3 (a 30) (d 30) ["_law_pool_here", "_law_many"] spWord := ok_word T
  have G38 : FnOk P w K mg base CX0 3 (a 38) (d 38) ["_law_pool_here", "_law_row"] spPick := ok_pick T
  have G41 : FnOk P w K mg base CX0 1 (a 41) (d 41) ["_law_tables_here", "_law_name"] spWidth := ok_width T
  have G39 : FnOk P w K mg base CX0 4 (a 39) (d 39) ["_law_pool_here", "_law_width_here"] spBadCols := ok_badcols T
  refine T.F43.ok sc__law_spoil_services (fun vs H Q E h => ?_) (fun cdv A outer s H vs Q E hr h => ?_)
  · obtain ⟨W, p, t, k, v, kind, x, y, z, L, kv, kk, sv, rfl, _⟩ := h
    rfl
  · obtain ⟨W, p, t, k, v, kind, x, y, z, L, kv, kk, sv, rfl, ntv, nkv, S, h1, h2, hx, hz, hL, hL2, q⟩ := h
    have hlt := S.lt
    have hlv := S.lv
    refine ⟨_, (pss_cons (ps_set (i := 4) sc__law_spoil_services.nd rfl (.inl rfl) (pe_call G38 (hr.mono (by decide)) (by rfl) T.g38 T.F38.kp T.b38 .nil pass0 (pa_cons (pv 0) (pa_cons (pe_callTy (T := "list")  (call_listD rfl) (by rfl) T.z_list (by decide +kernel) (pa_cons (pv 3) pa_nil)) pa_nil))))
  (pss_cons (ps_set (i := 5) sc__law_spoil_services.nd rfl (.inl rfl) (pe_call G38 (hr.mono (by decide)) (by rfl) T.g38 T.F38.kp T.b38 .nil pass0 (pa_cons (pv 0) (pa_cons (pe_callTy (T := "list")  (call_listD rfl) (by rfl) T.z_list (by decide +kernel) (pa_cons (pv 2) pa_nil)) pa_nil))))
  (pss_cons (ps_set (i := 6) sc__law_spoil_services.nd rfl (.inl rfl) (pe_call G41 (hr.mono (by decide)) (by rfl) T.g41 T.F41.kp T.b41 .nil pass0 (pa_cons (pv 2) (pa_cons (pv 5) pa_nil))))
  (Evl.pss_cut (ps_if (pt_cmpR op_eq (pv 1) pe_int (nomark _))
    (pss_one (ps_dput (hu_of hr) (pv 3) (pe_call G38 (hr.mono (by decide)) (by rfl) T.g38 T.F38.kp T.b38 .nil pass0 (pa_cons (pv 0) (pa_cons (pe_lst (pa_cons pe_str (pa_cons pe_str (pa_cons (pe_op op_add_str (pv 4) pe_str) (pa_cons pe_str (pa_cons (pe_op op_add_str pe_str (pv 4)) pa_nil)))))) pa_nil))) (pe_tup (pa_cons (pv 5) (pa_cons (pe_tup pa_nil) (pa_cons pe_non pa_nil)))) rfl))
    pss_nil)
  (Evl.pss_cut (ps_if (pt_cmpR op_eq (pv 1) pe_int (nomark _))
    (pss_cons (ps_set (i := 7) sc__law_spoil_services.nd rfl (.inl rfl) (pe_lst (pa_cons (pe_tup (pa_cons (pv 5) (pa_cons (pe_tup pa_nil) pa_nil))) (pa_cons (pe_lst (pa_cons (pv 5) (pa_cons (pe_tup pa_nil) (pa_cons pe_non pa_nil)))) (pa_cons (pe_tup (pa_cons (pe_op op_add_str (pv 5) pe_str) (pa_cons (pe_tup pa_nil) (pa_cons pe_non pa_nil)))) (pa_cons (pe_tup (pa_cons (pv 5) (pa_cons (pe_call G39 (hr.mono (by decide)) (by rfl) T.g39 T.F39.kp T.b39 .nil pass0 (pa_cons (pv 0) (pa_cons (pv 6) pa_nil))) (pa_cons pe_int pa_nil)))) pa_nil))))))
      (pss_cons (ps_set (i := 7) sc__law_spoil_services.nd rfl (.inl rfl) (pe_op op_cat (pv 7) (pe_lst (pa_cons (pe_tup (pa_cons (pv 5) (pa_cons (pe_tup pa_nil) (pa_cons (pe_call G38 (hr.mono (by decide)) (by rfl) T.g38 T.F38.kp T.b38 .nil pass0 (pa_cons (pv 0) (pa_cons (pe_lst (pa_cons pe_int (pa_cons pe_int (pa_cons pe_bl (pa_cons (pe_un un_neg pe_int) (pa_cons pe_str (pa_cons (pe_tup (pa_cons pe_int pa_nil)) pa_nil))))))) pa_nil))) pa_nil)))) (pa_cons pe_non (pa_cons (pe_tup (pa_cons pe_int (pa_cons (pe_tup pa_nil) (pa_cons pe_non pa_nil)))) pa_nil))))))
      (pss_one (ps_dput (hu_of hr) (pv 3) (pv 4) (pe_call G38 (hr.mono (by decide)) (by rfl) T.g38 T.F38.kp T.b38 .nil pass0 (pa_cons (pv 0) (pa_cons (pv 7) pa_nil))) rfl))))
    pss_nil)
  (Evl.pss_cut (ps_if (pt_cmpR op_eq (pv 1) pe_int (nomark _))
    (pss_cons (ps_dput (hu_of hr) (pv 3) (pe_call G30 (hr.mono (by decide)) (by rfl) T.g30 T.F30.kp T.b30 .nil pass0 (pa_cons (pv 0) (pa_cons (pe_op op_add pe_int (pe_call G29 (hr.mono (by decide)) (by rfl) T.g29 T.F29.kp T.b29 .nil pass0 (pa_cons (pv 0) (pa_cons pe_int pa_nil)))) pa_nil))) (pe_tup (pa_cons (pv 5) (pa_cons (pe_tup pa_nil) (pa_cons (pe_op op_add pe_int (pe_call G29 (hr.mono (by decide)) (by rfl) T.g29 T.F29.kp T.b29 .nil pass0 (pa_cons (pv 0) (pa_cons pe_int pa_nil)))) pa_nil)))) rfl)
      (pss_one (ps_dput (hu_of hr) (pv 3) (pe_call G30 (hr.mono (by decide)) (by rfl) T.g30 T.F30.kp T.b30 .nil pass0 (pa_cons (pv 0) (pa_cons (pe_op op_add pe_int (pe_call G29 (hr.mono (by decide)) (by rfl) T.g29 T.F29.kp T.b29 .nil pass0 (pa_cons (pv 0) (pa_cons pe_int pa_nil)))) pa_nil))) (pe_tup (pa_cons (pv 5) (pa_cons (pe_tup pa_nil) (pa_cons (pe_op op_add pe_int (pe_call G29 (hr.mono (by decide)) (by rfl) T.g29 T.F29.kp T.b29 .nil pass0 (pa_cons (pv 0) (pa_cons pe_int pa_nil)))) pa_nil)))) rfl)))
    pss_nil)
  (pss_one (ps_if (pt_cmpR op_eq (pv 1) pe_int (nomark _))
    (pss_one (ps_if (pt_cmpR op_eq (pe_call G29 (hr.mono (by decide)) (by rfl) T.g29 T.F29.kp T.b29 .nil pass0 (pa_cons (pv 0) (pa_cons pe_int pa_nil))) pe_int (nomark _))
        (pss_one (ps_expr (pe_bm0 PySem.F.plainAttrs_dict PySem.F.slot_dict_clear PySem.F.type_dict_clear mtd_clear (pv 3))))
        (pss_one (ps_for PassesOwn.never rfl (pi_list (pe_lst (pa_cons pe_str (pa_cons pe_str (pa_cons pe_str (pa_cons pe_str (pa_cons pe_str (pa_cons pe_str (pa_cons pe_str (pa_cons pe_str (pa_cons pe_str pa_nil))))))))))) (pg_name (i := 8) sc__law_spoil_services.nd rfl (.inl rfl))
            (pss_one (ps_dput (hu_of hr) (pv 3) (pv 8) (pe_tup (pa_cons (pv 5) (pa_cons (pe_tup pa_nil) (pa_cons pe_non pa_nil)))) rfl))))))
    pss_nil)))))))), ?_⟩
    -- a name
    refine ⟨_, rfl, _, rfl, v, _, rfl, .inl S.dv.at_, fun l hl => ?_⟩
    rw [kd_names' (keys_kv sv)]
    have C1 := (Chg.refl S.pool).new (o := .lst ((sv.map (·.1)).map V.str)) hl
    refine ⟨p, l, _, rfl, C1.1, upd_same, pool_ne' S.pool hl, by rw [List.length_map, List.length_map]; omega, by rw [List.length_map, List.length_map]; omega, fun u H1 hu C2 => ?_⟩
    obtain ⟨nm, hnm, rfl⟩ := List.mem_map.mp hu
    obtain ⟨q0, hq0, rfl⟩ := List.mem_map.mp hnm
    obtain ⟨hnl, hnlow⟩ := S.nv q0 hq0
    have S1 := S.chg (C1.trans C2)
    generalize q0.1 = nm at hnl hnlow
    clear hu hnm hq0 C1 C2 hl
    -- a table
    refine ⟨_, rfl, _, rfl, t, _, rfl, .inl S1.dt.at_, fun l hl => ?_⟩
    rw [kd_names' (keys_kv kv)]
    have C1 := (Chg.refl S1.pool).new (o := .lst ((kv.map (·.1)).map V.str)) hl
    refine ⟨p, l, _, rfl, C1.1, upd_same, pool_ne' S1.pool hl, by rw [List.length_map, List.length_map]; omega, by rw [List.length_map, List.length_map]; omega, fun u H2 hu C2 => ?_⟩
    obtain ⟨tb, htb, rfl⟩ := List.mem_map.mp hu
    obtain ⟨q0, hq0, rfl⟩ := List.mem_map.mp htb
    obtain ⟨htl, htlow⟩ := S.nt q0 hq0
    have S2 := S1.chg (C1.trans C2)
    generalize q0.1 = tb at htl htlow
    clear hu htb hq0 C1 C2 hl S S1
    have ftb : Fl (.str tb) := .str tb (by omega) htlow
    -- its width
    refine ⟨_, rfl, _, rfl, t, tb, kv, rfl, S2.dt, S2.ht, fun w H3 w1 w4 s3 => ?_⟩
    have S3 := S2.chg ((Chg.refl S2.pool).same4 s3)
    clear S2 s3
    -- a name that is no word
    refine ⟨fun σ H' => σ = [some (.ref p), some (.int kind), some (.ref t), some (.ref v), some (.str nm), some (.str tb), some (.int w), none, none] ∧ ∃ sv', Sp4 W p t k v x y (z + 1) (L + 1) H' kv kk sv', ?_, ?_⟩
    · refine ⟨_, rfl, rfl, _, rfl, ite_eqI (fun _ => ?_) (fun _ => ⟨rfl, sv, S3.up (Nat.le_refl _) (Nat.le_refl _) (Nat.le_succ _) (Nat.le_succ _)⟩)⟩
      have l1 : (nm ++ "2").length = nm.length + 1 := len_app _ _
      have l2 : ((" " : Str) ++ nm).length = nm.length + 1 := by rw [len_app]; show 1 + nm.length = _; omega
      refine ⟨_, rfl, Nat.zero_le _, fun t1 g1 => ⟨by show 3 ≤ sizeLine; decide, fun t2 g2 => ?_⟩⟩
      have C4 := ((Chg.refl S3.pool).new (o := .tup []) g1).new (o := .tup [.str tb, .ref t1, .non]) g2
      have e1 := same_upd (o := .tup [.str tb, .ref t1, .non]) g2 _ _ (upd_same (H := H3) (a := t1) (o := .tup []))
      have th : Th2 (upd (upd H3 t1 (.tup [])) t2 (.tup [.str tb, .ref t1, .non])) (.ref t2) := th2_svc upd_same ftb.th1 (th1_nil e1) Fl.non.th1
      generalize upd (upd H3 t1 (.tup [])) t2 (.tup [.str tb, .ref t1, .non]) = H4 at C4 th
      refine ⟨_, rfl, _, rfl, _, rfl, _, _, rfl, rfl, small1000' (by show nm.length + 1 ≤ 1000; omega), _, rfl, _, _, rfl, rfl, small1000' (by show 1 + nm.length ≤ 1000; omega), by show 5 ≤ sizeLine; decide, fun l hl => ?_⟩
      have C5 := C4.new (o := .lst [.str "", .str "B", .str (nm ++ "2"), .str "abcdefghijk", .str (" " ++ nm)]) hl
      refine ⟨p, l, _, rfl, C5.1, upd_same, pool_ne' C4.1 hl, by show 1 ≤ 5; decide, by show 5 ≤ 1000; decide, fun u H5 hu C6 => ?_⟩
      have S5 := S3.chg (C5.trans C6)
      have kp := (Kp.same (same_upd (o := .lst [.str "", .str "B", .str (nm ++ "2"), .str "abcdefghijk", .str (" " ++ nm)]) hl)).trans (Kp.chg C5.1 C6)
      have hs : ∃ s : Str, u = .str s ∧ s.length ≤ L + 1 ∧ Low s := by
        simp only [List.mem_cons, List.not_mem_nil, or_false] at hu
        rcases hu with rfl | rfl | rfl | rfl | rfl
        · exact ⟨"", rfl, Nat.zero_le _, by unfold Low; decide +kernel⟩
        · exact ⟨"B", rfl, by show 1 ≤ L + 1; omega, by unfold Low; decide +kernel⟩
        · exact ⟨_, rfl, by rw [l1]; omega, low_app hnlow (by unfold Low; decide +kernel)⟩
        · exact ⟨"abcdefghijk", rfl, by show 11 ≤ L + 1; omega, by unfold Low; decide +kernel⟩
        · exact ⟨_, rfl, by rw [l2]; omega, low_app (by unfold Low; decide +kernel) hnlow⟩
      obtain ⟨s, rfl, hs1, hs2⟩ := hs
      obtain ⟨len, S6⟩ := S5.putS ntv nkv (Nat.le_succ L) hL2 hs1 hs2 (th.kp kp) (by omega)
      exact ⟨v, _, rfl, DPut.k (k := Sum.inr s) S5.dv.at_ len, rfl, _, S6⟩
    · rintro σ H4 ⟨rfl, sv4, S4⟩
      -- a wrong service
      refine ⟨fun σ H' => ∃ y7 : Option V, σ = [some (.ref p), some (.int kind), some (.ref t), some (.ref v), some (.str nm), some (.str tb), some (.int w), y7, none] ∧ ∃ sv', Sp4 W p t k v x y (z + 2) (L + 1) H' kv kk sv', ?_, ?_⟩
      · refine ⟨_, rfl, rfl, _, rfl, ite_eqI (fun _ => ?_) (fun _ => ⟨none, rfl, sv4, S4.up (Nat.le_refl _) (Nat.le_refl _) (Nat.le_succ _) (Nat.le_refl _)⟩)⟩
        refine ⟨_, rfl, Nat.zero_le _, fun a1 g1 => ⟨by show 2 ≤ sizeLine; decide, fun b1 g2 => ?_⟩⟩
        have C5 := ((Chg.refl S4.pool).new (o := .tup []) g1).new (o := .tup [.str tb, .ref a1]) g2
        have e1 := same_upd (o := .tup [.str tb, .ref a1]) g2 _ _ (upd_same (H := H4) (a := a1) (o := .tup []))
        have f1 : Th2 (upd (upd H4 a1 (.tup [])) b1 (.tup [.str tb, .ref a1])) (.ref b1) := Th2.tup upd_same (by show 2 ≤ 100; decide) fun q hq => by
          simp only [List.mem_cons, List.not_mem_nil, or_false] at hq
          rcases hq with rfl | rfl
          · exact ftb.th1
          · exact th1_nil e1
        generalize upd (upd H4 a1 (.tup [])) b1 (.tup [.str tb, .ref a1]) = H5 at C5 f1
        refine ⟨_, rfl, Nat.zero_le _, fun a2 g1 => ⟨by show 3 ≤ sizeLine; decide, fun b2 g2 => ?_⟩⟩
        have C6 := (C5.new (o := .tup []) g1).new (o := .lst [.str tb, .ref a2, .non]) g2
        have k6 := (Kp.same (same_upd (o := .tup []) g1)).trans (Kp.same (same_upd (o := .lst [.str tb, .ref a2, .non]) g2))
        have z2 : upd (upd H5 a2 (.tup [])) b2 (.lst [.str tb, .ref a2, .non]) b2 = some (.lst [.str tb, .ref a2, .non]) := upd_same
        have f2 : Th2 (upd (upd H5 a2 (.tup [])) b2 (.lst [.str tb, .ref a2, .non])) (.ref b2) := Th2.flat (.lst z2) (tupOf_lst z2)
        generalize upd (upd H5 a2 (.tup [])) b2 (.lst [.str tb, .ref a2, .non]) = H6 at C6 k6 f2
        refine ⟨_, rfl, _, _, rfl, rfl, small1000' (by show tb.length + 1 ≤ 1000; omega), Nat.zero_le _, fun a3 g1 => ⟨by show 3 ≤ sizeLine; decide, fun b3 g2 => ?_⟩⟩
        have C7 := (C6.new (o := .tup []) g1).new (o := .tup [.str (tb ++ "z"), .ref a3, .non]) g2
        have k7 := (Kp.same (same_upd (o := .tup []) g1)).trans (Kp.same (same_upd (o := .tup [.str (tb ++ "z"), .ref a3, .non]) g2))
        have e3 := same_upd (o := .tup [.str (tb ++ "z"), .ref a3, .non]) g2 _ _ (upd_same (H := H6) (a := a3) (o := .tup []))
        have ftz : Fl (.str (tb ++ "z")) := .str _ (by rw [len_app]; show tb.length + 1 ≤ 1000; omega) (low_app htlow (by unfold Low; decide +kernel))
        have f3 : Th2 (upd (upd H6 a3 (.tup [])) b3 (.tup [.str (tb ++ "z"), .ref a3, .non])) (.ref b3) := th2_svc upd_same ftz.th1 (th1_nil e3) Fl.non.th1
        generalize upd (upd H6 a3 (.tup [])) b3 (.tup [.str (tb ++ "z"), .ref a3, .non]) = H7 at C7 k7 f3
        refine ⟨_, rfl, _, rfl, _, rfl, p, w, rfl, C7.1, fun u H8 hu C8 => ⟨by show 3 ≤ sizeLine; decide, fun b4 g2 => ?_⟩⟩
        have C9 := (C7.trans C8).new (o := .tup [.str tb, u, .int 2]) g2
        have kk8 := Kp.same (same_upd (o := .tup [.str tb, u, .int 2]) g2)
        have k8 := (Kp.chg C7.1 C8).trans kk8
        have f4 : Th2 (upd H8 b4 (.tup [.str tb, u, .int 2])) (.ref b4) := th2_svc upd_same ftb.th1 (hu.kp kk8) (Fl.int 2).th1
        generalize upd H8 b4 (.tup [.str tb, u, .int 2]) = H9 at C9 k8 f4
        refine ⟨by show 4 ≤ sizeLine; decide, fun l1 hl1 => ?_⟩
        have k9 := Kp.same (same_upd (o := .lst [.ref b1, .ref b2, .ref b3, .ref b4]) hl1)
        have C10 := C9.new (o := .lst [.ref b1, .ref b2, .ref b3, .ref b4]) hl1
        have el1 : upd H9 l1 (.lst [.ref b1, .ref b2, .ref b3, .ref b4]) l1 = some (.lst [.ref b1, .ref b2, .ref b3, .ref b4]) := upd_same
        have nl1 : l1 ≠ p := pool_ne' C9.1 hl1
        have F1 := (((f1.kp k6).kp k7).kp k8).kp k9
        have F2 := ((f2.kp k7).kp k8).kp k9
        have F3 := (f3.kp k8).kp k9
        have F4 := f4.kp k9
        generalize upd H9 l1 (.lst [.ref b1, .ref b2, .ref b3, .ref b4]) = H10 at C10 el1 F1 F2 F3 F4
        clear f1 f2 f3 f4 k6 k7 k8 k9 C5 C6 C7 C8 C9 g1 g2 hl1
        -- three more
        refine ⟨_, rfl, _, rfl, Nat.zero_le _, fun a5 g1 => ⟨_, rfl, _, rfl, by show 1 ≤ sizeLine; decide, fun a6 g6 => ⟨by show 6 ≤ sizeLine; decide, fun l2 hl2 => ?_⟩⟩⟩
        have C11 := (((C10.new (o := .tup []) g1).new (o := .tup [.int 1]) g6)).new (o := .lst [.int 0, .int 5, .bl true, .int (-1), .str "a", .ref a6]) hl2
        have kA := (Kp.same (same_upd (o := .tup []) g1)).trans ((Kp.same (same_upd (o := .tup [.int 1]) g6)).trans (Kp.same (same_upd (o := .lst [.int 0, .int 5, .bl true, .int (-1), .str "a", .ref a6]) hl2)))
        have sA := (same_upd (o := .tup []) g1).trans ((same_upd (o := .tup [.int 1]) g6).trans (same_upd (o := .lst [.int 0, .int 5, .bl true, .int (-1), .str "a", .ref a6]) hl2))
        have eA : upd (upd (upd H10 a5 (.tup [])) a6 (.tup [.int 1])) l2 (.lst [.int 0, .int 5, .bl true, .int (-1), .str "a", .ref a6]) a5 = some (.tup []) := same_upd hl2 _ _ (same_upd g6 _ _ upd_same)
        have eB : upd (upd (upd H10 a5 (.tup [])) a6 (.tup [.int 1])) l2 (.lst [.int 0, .int 5, .bl true, .int (-1), .str "a", .ref a6]) a6 = some (.tup [.int 1]) := same_upd hl2 _ _ upd_same
        have eL : upd (upd (upd H10 a5 (.tup [])) a6 (.tup [.int 1])) l2 (.lst [.int 0, .int 5, .bl true, .int (-1), .str "a", .ref a6]) l2 = some (.lst [.int 0, .int 5, .bl true, .int (-1), .str "a", .ref a6]) := upd_same
        have nl2 : l2 ≠ p := pool_ne' ((C10.new (o := .tup []) g1).new (o := .tup [.int 1]) g6).1 hl2
        have el1' := sA _ _ el1
        have F1' := F1.kp kA
        have F2' := F2.kp kA
        have F3' := F3.kp kA
        have F4' := F4.kp kA
        generalize upd (upd (upd H10 a5 (.tup [])) a6 (.tup [.int 1])) l2 (.lst [.int 0, .int 5, .bl true, .int (-1), .str "a", .ref a6]) = H11 at C11 eA eB eL el1' F1' F2' F3' F4'
        clear F1 F2 F3 F4 sA kA el1 g1 g6 hl2 C10
        refine ⟨p, l2, _, rfl, C11.1, eL, nl2, by show 1 ≤ 6; decide, by show 6 ≤ 1000; decide, fun cp H12 hcp C12 => ⟨by show 3 ≤ sizeLine; decide, fun b5 g5 => ?_⟩⟩
        have kB := Kp.chg C11.1 C12
        have hcp1 : Th1 H12 cp := by
          simp only [List.mem_cons, List.not_mem_nil, or_false] at hcp
          rcases hcp with rfl | rfl | rfl | rfl | rfl | rfl
          · exact (Fl.int _).th1
          · exact (Fl.int _).th1
          · exact (Fl.bl _).th1
          · exact (Fl.int _).th1
          · exact (Fl.str "a" (by decide) (by unfold Low; decide +kernel)).th1
          · exact (Th1.tup eB (by show 1 ≤ 100; decide) fun q hq => by rw [List.mem_singleton.mp hq]; exact .int 1).kp kB
        have kC := Kp.same (same_upd (o := .tup [.str tb, .ref a5, cp]) g5)
        have f5 : Th2 (upd H12 b5 (.tup [.str tb, .ref a5, cp])) (.ref b5) := th2_svc upd_same ftb.th1 ((th1_nil eA).kp (kB.trans kC)) (hcp1.kp kC)
        have C13 := (C11.trans C12).new (o := .tup [.str tb, .ref a5, cp]) g5
        have el1'' := same_upd (o := .tup [.str tb, .ref a5, cp]) g5 _ _ (C12.at nl1 el1')
        have G1 := F1'.kp (kB.trans kC)
        have G2 := F2'.kp (kB.trans kC)
        have G3 := F3'.kp (kB.trans kC)
        have G4 := F4'.kp (kB.trans kC)
        generalize upd H12 b5 (.tup [.str tb, .ref a5, cp]) = H13 at C13 f5 el1'' G1 G2 G3 G4
        clear F1' F2' F3' F4' kB kC hcp1 eA eB eL el1' C11 C12 g5 hcp
        refine ⟨Nat.zero_le _, fun a7 g1 => ⟨by show 3 ≤ sizeLine; decide, fun b7 g2 => ⟨by show 3 ≤ sizeLine; decide, fun l3 hl3 => ?_⟩⟩⟩
        have kD := (Kp.same (same_upd (o := .tup []) g1)).trans ((Kp.same (same_upd (o := .tup [.int 5, .ref a7, .non]) g2)).trans (Kp.same (same_upd (o := .lst [.ref b5, .non, .ref b7]) hl3)))
        have sD := (same_upd (o := .tup []) g1).trans ((same_upd (o := .tup [.int 5, .ref a7, .non]) g2).trans (same_upd (o := .lst [.ref b5, .non, .ref b7]) hl3))
        have C14 := ((C13.new (o := .tup []) g1).new (o := .tup [.int 5, .ref a7, .non]) g2).new (o := .lst [.ref b5, .non, .ref b7]) hl3
        have e7 := same_upd (o := .tup [.int 5, .ref a7, .non]) g2 _ _ (upd_same (H := H13) (a := a7) (o := .tup []))
        have f7 : Th2 (upd (upd H13 a7 (.tup [])) b7 (.tup [.int 5, .ref a7, .non])) (.ref b7) := th2_svc upd_same (Fl.int 5).th1 (th1_nil e7) Fl.non.th1
        have f7' := f7.kp (Kp.same (same_upd (o := .lst [.ref b5, .non, .ref b7]) hl3))
        have el3 : upd (upd (upd H13 a7 (.tup [])) b7 (.tup [.int 5, .ref a7, .non])) l3 (.lst [.ref b5, .non, .ref b7]) l3 = some (.lst [.ref b5, .non, .ref b7]) := upd_same
        refine ⟨l1, l3, _, _, rfl, rfl, sD _ _ el1'', el3, by show 7 ≤ sizeLine; decide, fun l4 hl4 => ?_⟩
        have C15 := C14.new (o := .lst ([.ref b1, .ref b2, .ref b3, .ref b4] ++ [.ref b5, .non, .ref b7])) hl4
        have kE := kD.trans (Kp.same (same_upd (o := .lst ([.ref b1, .ref b2, .ref b3, .ref b4] ++ [.ref b5, .non, .ref b7])) hl4))
        refine ⟨_, rfl, _, rfl, p, l4, _, rfl, C15.1, upd_same, pool_ne' C14.1 hl4, by show 1 ≤ 7; decide, by show 7 ≤ 1000; decide, fun r H16 hr C16 => ?_⟩
        have S16 := S4.chg (C15.trans C16)
        have kF := kE.trans (Kp.chg C15.1 C16)
        have hth : Th2 H16 r := by
          rcases List.mem_append.mp hr with hr | hr
          · simp only [List.mem_cons, List.not_mem_nil, or_false] at hr
            rcases hr with rfl | rfl | rfl | rfl
            · exact G1.kp kF
            · exact G2.kp kF
            · exact G3.kp kF
            · exact G4.kp kF
          · simp only [List.mem_cons, List.not_mem_nil, or_false] at hr
            rcases hr with rfl | rfl | rfl
            · exact f5.kp kF
            · exact Fl.non.th2
            · exact (f7'.kp (Kp.same (same_upd hl4))).kp (Kp.chg C15.1 C16)
        obtain ⟨len, S17⟩ := S16.putS ntv nkv (Nat.le_refl _) hL2 (n := nm) (by omega) hnlow hth (by omega)
        exact ⟨_, rfl, _, rfl, v, _, rfl, DPut.k (k := Sum.inr nm) S16.dv.at_ len, _, rfl, _, S17⟩
      · rintro σ H5 ⟨y7, rfl, sv5, S5⟩
        -- two capped services more
        have one : ∀ (G : Hp) (svx : List (Str × V)) (zz : Nat), Sp4 W p t k v x y zz (L + 1) G kv kk svx → zz + 1 < 64 → ∀ (a1 b1 : Addr) (c : Int), G a1 = none → ∀ G1 : Hp, Chg p (upd G a1 (.tup [])) G1 → G1 b1 = none → ∀ (G2 : Hp) (s : Str), Chg p (upd G1 b1 (.tup [.str tb, .ref a1, .int c])) G2 → s.length ≤ 8 → Low s → ∃ svy, G2 v = some (.dK (kvK svx)) ∧ (kvK svx).length < sizeLine ∧ Sp4 W p t k v x y (zz + 1) (L + 1) (upd G2 v (.dK (putK (kvK svx) (Sum.inr s) (.ref b1)))) kv kk svy := fun G svx zz S hz' a1 b1 c g1 G1 Cx g2 G2 s C hs hlow => by
          have Ca := (Chg.refl S.pool).new (o := .tup []) g1
          have C1 := (Ca.trans Cx).new (o := .tup [.str tb, .ref a1, .int c]) g2
          have e1 := same_upd (o := .tup [.str tb, .ref a1, .int c]) g2 _ _ (chg_tup Ca.1 Cx _ _ (upd_same (H := G) (a := a1) (o := .tup [])))
          have f1 : Th2 (upd G1 b1 (.tup [.str tb, .ref a1, .int c])) (.ref b1) := th2_svc upd_same ftb.th1 (th1_nil e1) (Fl.int c).th1
          have S2 := S.chg (C1.trans C)
          obtain ⟨len, S3⟩ := S2.putS ntv nkv (Nat.le_refl _) hL2 (n := s) (by omega) hlow (f1.kp (Kp.chg C1.1 C)) hz'
          exact ⟨_, S2.dv.at_, len, S3⟩
        refine ⟨fun σ H' => ∃ y7 : Option V, σ = [some (.ref p), some (.int kind), some (.ref t), some (.ref v), some (.str nm), some (.str tb), some (.int w), y7, none] ∧ ∃ sv', Sp4 W p t k v x y (z + 4) (L + 1) H' kv kk sv', ?_, ?_⟩
        · refine ⟨_, rfl, rfl, _, rfl, ite_eqI (fun _ => ?_) (fun _ => ⟨y7, rfl, sv5, S5.up (Nat.le_refl _) (Nat.le_refl _) (by omega) (Nat.le_refl _)⟩)⟩
          refine ⟨_, rfl, Nat.zero_le _, fun a1 g1 => ⟨_, rfl, p, 4, rfl, ((Chg.refl S5.pool).new (o := .tup []) g1).1, by decide, by decide, fun c G1 c0 c1 Cx => ⟨_, _, rfl, rfl, by show 3 ≤ sizeLine; decide, fun b1 g2 => ?_⟩⟩⟩
          refine ⟨_, rfl, _, rfl, _, rfl, p, 8, rfl, ((Chg.refl Cx.1).new (o := .tup [.str tb, .ref a1, .int (1 + c)]) g2).1, by decide, by decide, fun m G2 m0 m1 Cy => ⟨_, _, rfl, rfl, p, (1 + m).toNat, by rw [Int.toNat_of_nonneg (by omega)]; rfl, Cy.1, by omega, fun sx G3 hsx Cz => ?_⟩⟩
          have lowx : Low sx := fun c hc => by
            have := (hsx.2 c hc).2
            omega
          obtain ⟨svy, ev, len, S6⟩ := one H5 sv5 (z + 2) S5 (by omega) a1 b1 (1 + c) g1 G1 Cx g2 G3 sx (Cy.trans Cz) (by rw [hsx.1]; omega) lowx
          refine ⟨v, _, rfl, DPut.k (k := Sum.inr sx) ev len, ?_⟩
          generalize upd G3 v (.dK (putK (kvK sv5) (Sum.inr sx) (.ref b1))) = H6 at S6
          clear Cx Cy Cz g1 g2 ev len hsx lowx
          refine ⟨_, rfl, Nat.zero_le _, fun a1 g1 => ⟨_, rfl, p, 4, rfl, ((Chg.refl S6.pool).new (o := .tup []) g1).1, by decide, by decide, fun c G1 c0 c1 Cx => ⟨_, _, rfl, rfl, by show 3 ≤ sizeLine; decide, fun b1 g2 => ?_⟩⟩⟩
          refine ⟨_, rfl, _, rfl, _, rfl, p, 8, rfl, ((Chg.refl Cx.1).new (o := .tup [.str tb, .ref a1, .int (1 + c)]) g2).1, by decide, by decide, fun m G2 m0 m1 Cy => ⟨_, _, rfl, rfl, p, (1 + m).toNat, by rw [Int.toNat_of_nonneg (by omega)]; rfl, Cy.1, by omega, fun sx G3 hsx Cz => ?_⟩⟩
          have lowx : Low sx := fun c hc => by
            have := (hsx.2 c hc).2
            omega
          obtain ⟨svz, ev, len, S7⟩ := one H6 svy (z + 2 + 1) S6 (by omega) a1 b1 (1 + c) g1 G1 Cx g2 G3 sx (Cy.trans Cz) (by rw [hsx.1]; omega) lowx
          exact ⟨v, _, rfl, DPut.k (k := Sum.inr sx) ev len, y7, rfl, _, S7⟩
        · rintro σ H6 ⟨y7, rfl, sv6, S6⟩
          refine ⟨_, rfl, rfl, _, rfl, ite_eqI (fun _ => ?_) (fun _ => q sv6 H6 (S6.up (Nat.le_refl _) (Nat.le_refl _) (by omega) (Nat.le_refl _)))⟩
          refine ⟨_, rfl, p, 2, rfl, S6.pool, by decide, by decide, fun r H7 r0 r1 C7 => ⟨rfl, _, rfl, ite_eqI (fun _ => ?_) (fun _ => ?_)⟩⟩
          · have S7 := S6.chg C7
            exact ⟨_, rfl, .inr (.inr (.inl ⟨rfl, .inl ⟨_, S7.dv.at_⟩⟩)), v, _, rfl, rfl, S7.dv.at_, q [] _ ((S7.clrS ntv nkv).up (Nat.le_refl _) (Nat.le_refl _) (by omega) (Nat.le_refl _))⟩
          · have S7 := S6.chg C7
            refine ⟨by show 9 ≤ sizeLine; decide, fun l hl => ⟨l, rfl, ?_⟩⟩
            have S8 := S7.chg ((Chg.refl S7.pool).new (o := .lst ((["p", "pq", "pqr", "pqrs", "q", "qr", "qrs", "r", "rs"] : List Str).map V.str)) hl)
            have nlv : l ≠ v := (ne_of_none S7.dv.at_ hl).symm
            have hl5 : upd H7 l (.lst ((["p", "pq", "pqr", "pqrs", "q", "qr", "qrs", "r", "rs"] : List Str).map V.str)) l = some (.lst ((["p", "pq", "pqr", "pqrs", "q", "qr", "qrs", "r", "rs"] : List Str).map V.str)) := upd_same
            have hw : ∀ s ∈ (["p", "pq", "pqr", "pqrs", "q", "qr", "qrs", "r", "rs"] : List Str), s.length ≤ 12 ∧ Low s := by unfold Low; decide +kernel
            refine ⟨⟨_, .of hl5⟩, for_list (K := K) (a := l) (xs := (["p", "pq", "pqr", "pqrs", "q", "qr", "qrs", "r", "rs"] : List Str).map V.str) (fun i σ H' => ∃ (y8 : Option V) (sv' : List (Str × V)), σ = [some (.ref p), some (.int kind), some (.ref t), some (.ref v), some (.str nm), some (.str tb), some (.int w), y7, y8] ∧ H' l = some (.lst ((["p", "pq", "pqr", "pqrs", "q", "qr", "qrs", "r", "rs"] : List Str).map V.str)) ∧ i ≤ 9 ∧ Sp4 W p t k v x y (z + 4 + i) (L + 1) H' kv kk sv') ⟨none, sv6, rfl, hl5, Nat.zero_le _, S8⟩ (fun i σ H' _ hp => ?_) (fun i y σ H' hy hp => ?_) (fun σ H5 hp => ?_)⟩
            · obtain ⟨y8, sv', rfl, hl', _⟩ := hp
              exact .of hl'
            · obtain ⟨y8, sv', rfl, hl', hi, S9⟩ := hp
              obtain ⟨s, hs, rfl⟩ := map_at hy
              have hi9 : i < 9 := (List.getElem?_eq_some_iff.mp hs).1
              obtain ⟨w1, w2⟩ := hw s (List.mem_of_getElem? hs)
              refine ⟨_, rfl, Nat.zero_le _, fun a1 g1 => ⟨by show 3 ≤ sizeLine; decide, fun b1 g2 => ?_⟩⟩
              have C1 := ((Chg.refl S9.pool).new (o := .tup []) g1).new (o := .tup [.str tb, .ref a1, .non]) g2
              have e1 := same_upd (o := .tup [.str tb, .ref a1, .non]) g2 _ _ (upd_same (H := H') (a := a1) (o := .tup []))
              have f1 : Th2 (upd (upd H' a1 (.tup [])) b1 (.tup [.str tb, .ref a1, .non])) (.ref b1) := th2_svc upd_same ftb.th1 (th1_nil e1) Fl.non.th1
              have hl9 := (same_upd (o := .tup [.str tb, .ref a1, .non]) g2) _ _ ((same_upd (o := .tup []) g1) _ _ hl')
              have S10 := S9.chg C1
              obtain ⟨len, S11⟩ := S10.putS ntv nkv (Nat.le_refl _) hL2 (n := s) (by omega) w2 f1 (by omega)
              exact ⟨_, rfl, _, rfl, v, _, rfl, DPut.k (k := Sum.inr s) S10.dv.at_ len, _, _, rfl, by rw [upd_ne nlv]; exact hl9, by omega, S11⟩
            · obtain ⟨y8, sv', rfl, hl', hi, S9⟩ := hp
              exact q sv' H5 S9
end
section
variable {P : Program} {w : World} {K : PySem.W.Frag} {mg : Str → Option Value} {base : Heap} {a : Nat → Addr} {d : Nat → FuncData}
def spParts : Sp := fun vs H Q _ => ∃ (p ca : Addr) (m more : Nat) (wm : Int) (cps : List (Option Int)), vs = [.ref p, .int (m : Int), .int wm, .ref ca, .int (more : Int)] ∧ PoolAt H p ∧ H ca = some (.lst (cps.map capV)) ∧ ca ≠ p ∧ 1 ≤ m ∧ m + more ≤ 26 ∧ 1 ≤ wm ∧ wm ≤ 100 ∧ 1 ≤ cps.length ∧ cps.length ≤ 100 ∧ (∀ c, some c ∈ cps → 1 ≤ c ∧ c ≤ 4) ∧
  ∀ (l t k v : Addr) (ts : List (Str × Int)) (ks : List KeyE) (ss : List SvE) (H' : Hp), H' l = some (.lst [.ref t, .ref k, .ref v]) → H l = none → H t = none → H k = none → H v = none → t ≠ k → H' t = some (.dK (tabK ts)) → H' k = some (.dK (keyK ks)) → H' v = some (.dK (svK ss)) → Tabs ts m wm → Keys H' ts ks → Svcs H' ts ks ss (m + more) → Chg p H H' → Q (.ref l) H'
theorem ok_parts (T : Txt K mg a d) : FnOk P w K mg base CX0 6 (a 37) (d 37) ["_law_pool_here", "_law_many", "_law_widest", "_law_caps", "_law_more"] spParts := by
  have G33 : FnOk P w K mg base CX0 5 (a 33) (d 33) ["_law_pool_here", "_law_many", "_law_widest"] spTables := ok_tables T
  have G34 : FnOk P w K mg base CX0 4 (a 34) (d 34) ["_law_pool_here", "_law_tables_here"] spKeys := ok_keys T
  have G36 : FnOk P w K mg base CX0 5 (a 36) (d 36) ["_law_pool_here", "_law_tables_here", "_law_keys_here", "_law_caps", "_law_more"] spServices := ok_services T
  refine T.F37.ok sc__law_schema_parts (fun vs H Q E h => ?_) (fun cdv A outer s H vs Q E hr h => ?_)
  · obtain ⟨p, ca, m, more, wm, cps, rfl, _⟩ := h
    rfl
  · obtain ⟨p, ca, m, more, wm, cps, rfl, hP, hca, ncp, hm1, hm2, hw1, hw2, hc1, hc2, hcap, q⟩ := h
    refine ⟨_, (pss_cons (ps_set (i := 5) sc__law_schema_parts.nd rfl (.inl rfl) (pe_call G33 (hr.mono (by decide)) (by rfl) T.g33 T.F33.kp T.b33 .nil pass0 (pa_cons (pv 0) (pa_cons (pv 1) (pa_cons (pv 2) pa_nil)))))
  (pss_cons (ps_set (i := 6) sc__law_schema_parts.nd rfl (.inl rfl) (pe_call G34 (hr.mono (by decide)) (by rfl) T.g34 T.F34.kp T.b34 .nil pass0 (pa_cons (pv 0) (pa_cons (pv 5) pa_nil))))
  (pss_one (ps_ret (pe_lst (pa_cons (pv 5) (pa_cons (pv 6) (pa_cons (pe_call G36 (hr.mono (by decide)) (by rfl) T.g36 T.F36.kp T.b36 .nil pass0 (pa_cons (pv 0) (pa_cons (pv 5) (pa_cons (pv 6) (pa_cons (pv 3) (pa_cons (pv 4) pa_nil)))))) pa_nil)))))))), ?_⟩
    refine ⟨_, rfl, _, rfl, _, rfl, p, m, wm, rfl, hP, by omega, hw1, hw2, fun t ts H1 t0 ht hT C1 => ?_⟩
    refine ⟨_, rfl, _, rfl, p, t, m, ts, rfl, C1.1, ht, hT.up hw2, by omega, fun k ks H2 k0 hk hK C2 => ?_⟩
    have nt : t ≠ p := pool_ne C1.1 ht (by intro _ z; cases z)
    have ht2 := C2.at nt ht
    have nk : k ≠ p := pool_ne C2.1 hk (by intro _ z; cases z)
    have C12 := C1.trans C2
    refine ⟨_, rfl, _, rfl, _, rfl, _, rfl, _, rfl, _, rfl, _, rfl, p, t, k, ca, m, more, ts, ks, cps, rfl, C2.1, ht2, hk, hT.up hw2, hm1, hm2, hK, C12.at ncp hca, ncp, hc1, hc2, hcap, fun v ss H3 v0 hv hS C3 => ⟨by show 3 ≤ sizeLine; decide, fun l hl => ?_⟩⟩
    have C13 := C12.trans C3
    have s3 := same_upd (o := .lst [.ref t, .ref k, .ref v]) hl
    have K3 := hK.mono (chg_tup C2.1 C3)
    exact q l t k v ts ks ss _ upd_same (free_of C13 hP hl) t0 (free_of C1 hP k0) (free_of C12 hP v0) (ne_of_none ht k0) (s3 _ _ (C3.at nt ht2)) (s3 _ _ (C3.at nk hk)) (s3 _ _ hv) hT (K3.mono fun _ _ e => s3 _ _ e) (hS.mono fun _ _ e => s3 _ _ e) (C13.new hl)
end
theorem ifT {A B : Prop} (h : A) : if true = true then A else B := by
  rw [if_pos rfl]
  exact h
theorem ifF {A B : Prop} (h : B) : if false = true then A else B := by
  rw [if_neg (by decide)]
  exact h
theorem capGo_mem {ts : List (Str × Int)} {ks : List KeyE} {x : Str} : ∀ {bs : List SvE} {fl : List Str}, capGo ts ks fl bs = some x → ∃ b ∈ bs, b.name = x
  | [], _, h => by cases h
  | b :: r, fl, h => by
    unfold capGo at h
    split at h
    · obtain ⟨c, hc, e⟩ := capGo_mem h
      exact ⟨c, List.mem_cons_of_mem _ hc, e⟩
    · split at h
      · exact ⟨b, List.mem_cons_self, Option.some.inj h⟩
      · obtain ⟨c, hc, e⟩ := capGo_mem h
        exact ⟨c, List.mem_cons_of_mem _ hc, e⟩
theorem find_nm {f : Str → Bool} {kv : List (Str × V)} {u : V} (nm : ∀ p ∈ kv, NmOk p.1) (h : ((sortN (kv.map (·.1))).find? f).map V.str = some u) : ∃ s, u = .str s ∧ Low s := by
  obtain ⟨s, hs, rfl⟩ := Option.map_eq_some_iff.mp h
  have := (sortN_perm (kv.map (·.1))).mem_iff.mp (List.mem_of_find?_eq_some hs)
  obtain ⟨p, hp, rfl⟩ := List.mem_map.mp this
  exact ⟨_, rfl, (nm p hp).2⟩
theorem ordS_mem {ss : List SvE} {b : SvE} (h : b ∈ ordS ss) : b.name ∈ ss.map (·.name) := by
  unfold ordS at h
  obtain ⟨n, hn, e⟩ := List.mem_filterMap.mp h
  have := (sortN_perm _).mem_iff.mp hn
  unfold svAt4 at e
  have h2 := List.mem_of_find?_eq_some e
  exact List.mem_map.mpr ⟨b, h2, rfl⟩
theorem fault_u {H : Hp} {t k v : Addr} {kv kk sv : List (Str × V)} {pt : Str} {u : V} (Dt : Dn H t kv) (Dk : Dn H k kk) (Dv : Dn H v sv) (h : fault H kv kk sv = some (pt, u)) : Low pt ∧ (u = .non ∨ ∃ s, u = .str s ∧ Low s) := by
  unfold fault at h
  split at h
  · rename_i x e
    cases h
    refine ⟨by unfold Low; decide +kernel, ?_⟩
    unfold faultT at e
    split at e
    · exact .inr (find_nm Dt.nm e)
    · cases e
      exact .inl rfl
  · split at h
    · rename_i x e
      cases h
      exact ⟨by unfold Low; decide +kernel, .inr (find_nm Dk.nm e)⟩
    · split at h
      · rename_i x e
        cases h
        refine ⟨by unfold Low; decide +kernel, ?_⟩
        unfold faultS at e
        split at e
        · exact .inr (find_nm Dv.nm e)
        · cases e
          exact .inl rfl
      · split at h
        · rename_i x e
          cases h
          refine ⟨by unfold Low; decide +kernel, .inr ⟨_, rfl, ?_⟩⟩
          obtain ⟨b, hb, rfl⟩ := capGo_mem e
          have hm := ordS_mem hb
          rw [ss_names] at hm
          obtain ⟨p, hp, e2⟩ := List.mem_map.mp hm
          rw [← e2]
          exact (Dv.nm p hp).2
        · cases h
theorem thg_sameB {H : Hp} {v : V} (h : Thg H v) : sameB v = true := by cases h <;> rfl
theorem dct_eqS {H : Hp} {D t : Addr} {kv : List (Str × V)} {Q : VK} (h : DctAt H D (kvK kv)) (Dt : Dn H t kv) (hv : ∀ p ∈ kv, Thg H p.2) (q : Q (.bl true) H) : rEqS (.ref D) (.ref t) H Q := by
  obtain ⟨kd, e, p⟩ := h
  refine ⟨D, t, kd, kvK kv, rfl, rfl, e, Dt.at_, p.length_eq, fun x hx => ?_, q⟩
  have hm := p.mem_iff.mp hx
  refine ⟨val_nodup (kv_nd Dt.nd) x hm, ?_⟩
  obtain ⟨b, hb, rfl⟩ := List.mem_map.mp hm
  exact thg_sameB (hv b hb)
/-- the data of what a fault tells -/
theorem told_data {K : PySem.W.Frag} {pt : Str} {u : V} (hp : Low pt) (hu : u = .non ∨ ∃ s, u = .str s ∧ Low s) : ∃ dd, (∀ (H : Hp) (r : Addr), H r = some (.tup [.str pt, u]) → Dp K H (.ref r) dd) ∧ SeqAt.shaped dd = true ∧ PyData.eqv dd dd = true := by
  have base : ∀ e : PyData, (∀ H : Hp, Dp K H u e) → e.canLay0 = true → e.depth = 0 → ∃ dd, (∀ (H : Hp) (r : Addr), H r = some (.tup [.str pt, u]) → Dp K H (.ref r) dd) ∧ SeqAt.shaped dd = true ∧ PyData.eqv dd dd = true := fun e he h1 h2 => by
    have hc : (PyData.tuple [.str pt, e]).canLay0 = true := by
      simp only [PyData.canLay0, PyData.canLayAll0, low_ok hp, h1, Bool.and_self]
    refine ⟨.tuple [.str pt, e], fun H r hr => .tup (.of hr) (.cons (.str pt) (.cons (he H) .nil)), ?_, PySem.SeqAt.eqv_refl _ hc⟩
    unfold SeqAt.shaped
    rw [hc, Bool.true_and]
    exact decide_eq_true (by simp only [PyData.depth, PyData.depthAll, h2]; decide)
  rcases hu with rfl | ⟨s, rfl, hs⟩
  · exact base .none (fun H => .non) rfl rfl
  · exact base (.str s) (fun H => .str s) (by simp only [PyData.canLay0, low_ok hs]) rfl
theorem wd_nm {s : Str} (h : Wd s) : s.length ≤ 12 ∧ Low s := ⟨by have := h.2.1; omega, wd_low h⟩
theorem th1_ints {H : Hp} {x : Addr} {cs : List Int} (h : H x = some (.tup (cs.map V.int))) (l : cs.length ≤ 100) : Th1 H (.ref x) := Th1.tup h (by rw [List.length_map]; exact l) fun u hu => by
  obtain ⟨i, _, rfl⟩ := List.mem_map.mp hu
  exact .int i
theorem sp4_of {W : Addr × List V} {pl t k v : Addr} {H : Hp} {ts : List (Str × Int)} {ks : List KeyE} {ss : List SvE} {m n : Nat} (hP : PoolAt H pl) (ht : H t = some (.dK (tabK ts))) (hk : H k = some (.dK (keyK ks))) (hv : H v = some (.dK (svK ss))) (hT : Tabs ts m 4) (hK : Keys H ts ks) (hS : Svcs H ts ks ss n) (m5 : m ≤ 5) (n8 : n ≤ 8) (sp : H W.1 = some (.lst W.2)) (np : W.1 ≠ pl) :
    Sp4 W pl t k v 5 5 8 12 H (ts.map fun p => (p.1, V.int p.2)) (ks.map fun b => (b.1, V.ref b.2.1)) (ss.map fun b => (b.name, V.ref b.at_)) := by
  have e1 : kvK (ts.map fun p => (p.1, V.int p.2)) = tabK ts := by unfold kvK tabK; rw [List.map_map]; rfl
  have e2 : kvK (ks.map fun b => (b.1, V.ref b.2.1)) = keyK ks := by unfold kvK keyK; rw [List.map_map]; rfl
  have e3 : kvK (ss.map fun b => (b.name, V.ref b.at_)) = svK ss := by unfold kvK svK; rw [List.map_map]; rfl
  have l1 := hT.len
  have l2 := hK.le
  have l3 : ss.length = n := by rw [← hS.nm.len, List.length_map]
  have n1 : ∀ p ∈ ts.map fun p => (p.1, V.int p.2), p.1.length ≤ 12 ∧ Low p.1 := fun p hp => by
    obtain ⟨b, hb, rfl⟩ := List.mem_map.mp hp
    exact wd_nm (hT.nm.wd _ (List.mem_map.mpr ⟨b, hb, rfl⟩))
  have n2 : ∀ p ∈ ks.map fun b => (b.1, V.ref b.2.1), p.1.length ≤ 12 ∧ Low p.1 := fun p hp => by
    obtain ⟨b, hb, rfl⟩ := List.mem_map.mp hp
    obtain ⟨w, hw, _⟩ := hK.ok b hb
    exact wd_nm (hT.nm.wd _ (List.mem_map.mpr ⟨_, hw, rfl⟩))
  have n3 : ∀ p ∈ ss.map fun b => (b.name, V.ref b.at_), p.1.length ≤ 12 ∧ Low p.1 := fun p hp => by
    obtain ⟨b, hb, rfl⟩ := List.mem_map.mp hp
    exact wd_nm (hS.nm.wd _ (List.mem_map.mpr ⟨b, hb, rfl⟩))
  refine ⟨hP, ⟨by rw [e1]; exact ht, by rw [List.map_map]; exact hT.nm.nd, fun p hp => ⟨by have := (n1 p hp).1; omega, (n1 p hp).2⟩, by rw [List.length_map]; omega⟩, ⟨by rw [e2]; exact hk, by rw [List.map_map]; exact hK.nd, fun p hp => ⟨by have := (n2 p hp).1; omega, (n2 p hp).2⟩, by rw [List.length_map]; omega⟩, ⟨by rw [e3]; exact hv, by rw [List.map_map]; exact hS.nm.nd, fun p hp => ⟨by have := (n3 p hp).1; omega, (n3 p hp).2⟩, by rw [List.length_map]; omega⟩, fun p hp => ?_, fun p hp => ?_, fun p hp => ?_, by rw [List.length_map]; omega, by rw [List.length_map]; omega, by rw [List.length_map]; omega, n1, n2, n3, sp, np⟩
  · obtain ⟨b, hb, rfl⟩ := List.mem_map.mp hp
    exact .int _
  · obtain ⟨b, hb, rfl⟩ := List.mem_map.mp hp
    obtain ⟨w, hw, _, _, hl⟩ := hK.ok b hb
    have := (hT.wd _ hw).2
    exact th1_ints (hK.at_ b hb) (by show _ ≤ 100; omega)
  · obtain ⟨b, hb, rfl⟩ := List.mem_map.mp hp
    obtain ⟨⟨t1, t2⟩, ⟨w, hw, _, hl⟩, _⟩ := hS.ok b hb
    have hn := wd_nm (hT.nm.wd _ (List.mem_map.mpr ⟨_, hw, rfl⟩))
    refine th2_svc t1 (Fl.str _ (by have := hn.1; omega) hn.2).th1 (th1_ints t2 (by omega)) ?_
    cases b.cap with
    | none => exact Fl.non.th1
    | some c => exact (Fl.int c).th1
theorem ne_tv {H : Hp} {t v : Addr} {ts : List (Str × Int)} {ss : List SvE} (ht : H t = some (.dK (tabK ts))) (hv : H v = some (.dK (svK ss))) (h : 1 ≤ ts.length) : t ≠ v := fun e => by
  subst e
  rw [ht] at hv
  have e := HO.dK.inj (Option.some.inj hv)
  cases ts with
  | nil => exact absurd h (by decide)
  | cons p r =>
    cases ss with
    | nil => cases e
    | cons b s => exact nomatch (Prod.mk.inj (List.cons.inj e).1).2
theorem ne_kv {H : Hp} {k v : Addr} {ts : List (Str × Int)} {ks : List KeyE} {ss : List SvE} (hk : H k = some (.dK (keyK ks))) (hv : H v = some (.dK (svK ss))) (hK : Keys H ts ks) (hS : ∀ b ∈ ss, SvOk H ts b) (h : 1 ≤ ss.length) : k ≠ v := fun e => by
  subst e
  rw [hk] at hv
  have e := HO.dK.inj (Option.some.inj hv)
  cases ss with
  | nil => exact absurd h (by decide)
  | cons b s =>
    cases ks with
    | nil => cases e
    | cons c r =>
      have e1 := V.ref.inj (Prod.mk.inj (List.cons.inj e).1).2
      have a1 := hK.at_ c List.mem_cons_self
      have a2 := (hS b List.mem_cons_self).told.tup
      rw [← e1, a1] at a2
      have a3 := HO.tup.inj (Option.some.inj a2)
      cases h1 : c.2.2 with
      | nil =>
        rw [h1] at a3
        cases a3
      | cons i l =>
        rw [h1] at a3
        exact nomatch (List.cons.inj a3).1
def spLaw (K : PySem.W.Frag) : Sp := fun vs H Q _ => ∃ (p : Addr) (ns : List Int), vs = [.ref p] ∧ SqL K H p (ns.map V.int) ∧ ns.length ≤ 63 ∧ ∀ H', Q (.bl true) H'
section
variable {P : Program} {w : World} {K : PySem.W.Frag} {mg : Str → Option Value} {base : Heap} {a : Nat → Addr} {d : Nat → FuncData}
theorem ok_law (T : Txt K mg a d) : FnOk P w K mg base CX0 9 (a 49) (d 49) ["_law_script"] (spLaw K) := by
  have G27 : FnOk P w K mg base CX0 1 (a 27) (d 27) ["_law_script"] (spPool K) := ok_pool T
  have G29 : FnOk P w K mg base CX0 2 (a 29) (d 29) ["_law_pool_here", "_law_many"] spDraw := ok_draw T
  have G37 : FnOk P w K mg base CX0 6 (a 37) (d 37) ["_law_pool_here", "_law_many", "_law_widest", "_law_caps", "_law_more"] spParts := ok_parts T
  have G40 : FnOk P w K mg base CX0 4 (a 40) (d 40) ["_law_pool_here", "_law_kind", "_law_tables_here"] spSpoilT := ok_spoilT T
  have G42 : FnOk P w K mg base CX0 5 (a 42) (d 42) ["_law_pool_here", "_law_kind", "_law_tables_here", "_law_keys_here"] spSpoilK := ok_spoilK T
  have G43 : FnOk P w K mg base CX0 5 (a 43) (d 43) ["_law_pool_here", "_law_kind", "_law_tables_here", "_law_services_here"] spSpoilS := ok_spoilS T
  have G48 : FnOk P w K mg base CX0 5 (a 48) (d 48) ["_law_tables_here", "_law_keys_here", "_law_services_here"] spFault := ok_fault T
  have G3500 : FnOk P w K mg base (L2.CX P w) 5 (a 3500) (d 3500) ["self", "tables", "keys", "services"] (spSInitX (a 25) (a 3)) := ok_sinitX T
  have G3501 : FnOk P w K mg base CX0 1 (a 3501) (d 3501) ["self"] (spPropX (a 25) fun kv _ _ => kv) := ok_p_tablesX T
  have G3502 : FnOk P w K mg base CX0 1 (a 3502) (d 3502) ["self"] (spPropX (a 25) fun _ kk _ => kk) := ok_p_keysX T
  have G3503 : FnOk P w K mg base CX0 1 (a 3503) (d 3503) ["self"] (spPropX (a 25) fun _ _ sv => sv) := ok_p_servicesX T
  refine T.F49.ok sc_law (fun vs H Q E h => ?_) (fun cdv A outer s H vs Q E hr h => ?_)
  · obtain ⟨p, ns, rfl, _⟩ := h
    rfl
  · obtain ⟨p0, ns, rfl, hS0, hl0, q⟩ := h
    refine ⟨_, (pss_cons (ps_set (i := 1) sc_law.nd rfl (.inr rfl) (pe_call G27 (hr.mono (by decide)) (by rfl) T.g27 T.F27.kp T.b27 .nil pass0 (pa_cons (pv 0) pa_nil)))
  (pss_cons (ps_setLc (i := 2) (own := [("_law_k", 12)]) rfl sc_law.nd rfl rfl (sw_true rfl rfl rfl (by decide +kernel)) (pi_range1 (by rfl) T.z_range (pa_cons (pe_call G29 (hr.mono (by decide)) (by rfl) T.g29 T.F29.kp T.b29 .nil pass0 (pa_cons (pv 1) (pa_cons pe_int pa_nil))) pa_nil)) (blkOk_by (N := ["_law_script", "_law_pool_here", "_law_spoils", "_law_tables_here", "_law_keys_here", "_law_services_here", "_law_kind", "_law_due", "_law_told", "_law_plain", "_law_schema", "e", "_law_k"]) (sc := defScope s_law) (by decide +kernel)) (fun _ _ _ _ _ => pg_name (i := 12) sc_law.nd rfl (.inl rfl)) (fun _ _ _ _ _ => pts_nil) (fun _ _ _ _ _ => (pe_call G29 (hr.mono (by decide)) (by rfl) T.g29 T.F29.kp T.b29 .nil pass0 (pa_cons (pv 1) (pa_cons pe_int pa_nil)))))
  (pss_cons (ps_asg (pe_call G37 (hr.mono (by decide)) (by rfl) T.g37 T.F37.kp T.b37 .nil pass0 (pa_cons (pv 1) (pa_cons (pe_op op_add pe_int (pe_call G29 (hr.mono (by decide)) (by rfl) T.g29 T.F29.kp T.b29 .nil pass0 (pa_cons (pv 1) (pa_cons pe_int pa_nil)))) (pa_cons pe_int (pa_cons (pe_lst (pa_cons pe_non (pa_cons pe_int (pa_cons pe_int (pa_cons pe_int (pa_cons pe_int pa_nil)))))) (pa_cons (pe_call G29 (hr.mono (by decide)) (by rfl) T.g29 T.F29.kp T.b29 .nil pass0 (pa_cons (pv 1) (pa_cons pe_int pa_nil))) pa_nil)))))) (pg_unl rfl (pgs_cons (pg_name (i := 3) sc_law.nd rfl (.inl rfl)) (pgs_cons (pg_name (i := 4) sc_law.nd rfl (.inl rfl)) (pgs_cons (pg_name (i := 5) sc_law.nd rfl (.inl rfl)) pgs_nil)))))
  (pss_cons (ps_for PassesOwn.never rfl (pi_list (pv 2)) (pg_name (i := 6) sc_law.nd rfl (.inl rfl))
    (pss_one (ps_if (PW.pt (pw_and (pt_cmpR op_gt (pe_callB (id := "len")  call_lenD (by rfl) T.z_len (by decide +kernel) (pa_cons (pv 3) pa_nil)) pe_int (nomark _)) (pw_and1 (pt_cmpR op_gt (pe_callB (id := "len")  call_lenD (by rfl) T.z_len (by decide +kernel) (pa_cons (pv 5) pa_nil)) pe_int (nomark _)))))
        (pss_cons (ps_expr (pe_call G43 (hr.mono (by decide)) (by rfl) T.g43 T.F43.kp T.b43 .nil pass0 (pa_cons (pv 1) (pa_cons (pv 6) (pa_cons (pv 3) (pa_cons (pv 5) pa_nil))))))
          (pss_cons (ps_expr (pe_call G42 (hr.mono (by decide)) (by rfl) T.g42 T.F42.kp T.b42 .nil pass0 (pa_cons (pv 1) (pa_cons (pv 6) (pa_cons (pv 3) (pa_cons (pv 4) pa_nil))))))
          (pss_one (ps_expr (pe_call G40 (hr.mono (by decide)) (by rfl) T.g40 T.F40.kp T.b40 .nil pass0 (pa_cons (pv 1) (pa_cons (pv 6) (pa_cons (pv 3) pa_nil))))))))
        pss_nil)))
  (pss_cons (ps_set (i := 7) sc_law.nd rfl (.inl rfl) (pe_call G48 (hr.mono (by decide)) (by rfl) T.g48 T.F48.kp T.b48 .nil pass0 (pa_cons (pv 3) (pa_cons (pv 4) (pa_cons (pv 5) pa_nil)))))
  (pss_cons (ps_set (i := 8) sc_law.nd rfl (.inl rfl) pe_non)
  (pss_cons (ps_set (i := 9) sc_law.nd rfl (.inl rfl) pe_bl)
  (pss_cons (ps_try_as (i := 11) (Wout := fun _ _ _ _ => False) rfl rfl sc_law.nd rfl rfl ⟨rfl, by decide, Or.inl T.cg_3⟩ takes0
    (fun W pn xe tk po => (pss_cons (ps_set (i := 10) sc_law.nd rfl (.inl rfl) (pe_makeX T.M_25 G3500 (hr.mono (by decide)) (by rfl) T.cg_25 T.b3500 (fun σ => passAt tk σ) (pa_cons (pe_callTy (T := "dict")  call_dictD (by rfl) T.z_dict (by decide +kernel) (pa_cons (pv 3) pa_nil)) (pa_cons (pe_callTy (T := "dict")  call_dictD (by rfl) T.z_dict (by decide +kernel) (pa_cons (pv 4) pa_nil)) (pa_cons (pe_callTy (T := "dict")  call_dictD (by rfl) T.z_dict (by decide +kernel) (pa_cons (pv 5) pa_nil)) pa_nil)))))
      (pss_one (ps_set (i := 9) sc_law.nd rfl (.inl rfl) (pe_and (pe_cmpR (op_eqSX (hu_of hr)) (pe_prop (pv 10) T.cl_25 T.p_3503 G3503 (hr.mono (by decide)) T.b3503 .nil pass0 rfl) (pv 5) (nomark _)) (pe_and (pe_cmpR (op_eqSX (hu_of hr)) (pe_prop (pv 10) T.cl_25 T.p_3501 G3501 (hr.mono (by decide)) T.b3501 .nil pass0 rfl) (pv 3) (nomark _)) (pe_one (pe_cmpR (op_eqSX (hu_of hr)) (pe_prop (pv 10) T.cl_25 T.p_3502 G3502 (hr.mono (by decide)) T.b3502 .nil pass0 rfl) (pv 4) (nomark _)))))))))
    (fun ea oe cls ed pn hz hf => (pss_cons (ps_set (i := 8) sc_law.nd rfl (.inl rfl) (pe_tup (pa_cons (pe_xf T.xf_3 T.no_3_part hz hf (pv 11)) (pa_cons (pe_xf T.xf_3 T.no_3_name hz hf (pv 11)) pa_nil))))
      (pss_one (ps_set (i := 9) sc_law.nd rfl (.inl rfl) (pe_and (pe_callB (id := "isinstance")  (call_isX T.xi_3 hz hf) (by rfl) T.z_isinstance (by decide +kernel) (pa_cons (pv 11) (pa_cons (pe_glob (v := .ref (a 2)) (by rfl) T.cg_2 rfl) pa_nil))) (pe_and (pe_callB (id := "isinstance")  (call_isX T.xi_3 hz hf) (by rfl) T.z_isinstance (by decide +kernel) (pa_cons (pv 11) (pa_cons (pe_bltn (v := .ty "ValueError") (by rfl) T.z_ValueError (by decide +kernel) rfl) pa_nil))) (pe_one (pe_not (pe_callB (id := "isinstance")  (call_isX T.xi_3 hz hf) (by rfl) T.z_isinstance (by decide +kernel) (pa_cons (pv 11) (pa_cons (pe_glob (v := .ref (a 4)) (by rfl) T.cg_4 rfl) pa_nil))))))))))))
  (pss_one (ps_ret (pe_and (pe_cmpR (op_eqD (hu_of64 hr)) (pv 8) (pv 7) (nomark _)) (pe_one (pv 9))))))))))))), ?_⟩
    refine ⟨_, rfl, p0, ns, rfl, hS0, hl0, fun pl H1 np hP s1 => ?_⟩
    -- how it is spoiled
    refine ⟨_, rfl, pl, 3, rfl, hP, by decide, by decide, fun so H2 so0 so1 C2 => ⟨_, rfl, by omega, by omega, fun D hD => ?_⟩⟩
    have nD : D ≠ pl := Chg.ne C2.1 hD
    refine lc_range (lo := 0) (n := so.toNat) (fun i H' => ∃ cs : List Int, H' D = some (.lst (cs.map V.int)) ∧ cs.length = i ∧ Chg pl H2 H') ⟨[], upd_same, rfl, (Chg.refl C2.1).new hD⟩ (fun i H' hi' hp => ?_) (fun H3 hp => ?_)
    · obtain ⟨cs, c1, c2, c3⟩ := hp
      refine ⟨rfl, ?_⟩
      refine ⟨_, rfl, pl, 10, rfl, c3.1, by decide, by decide, fun r H'' r0 r1 C => ?_⟩
      refine ⟨_, C.2 D _ nD c1, ?_, cs ++ [r], ?_, ?_, (c3.trans C).mut hD nD⟩
      · rw [List.length_map]
        exact small1000 (by omega)
      · rw [List.map_append]
        exact upd_same
      · rw [List.length_append, c2]
        rfl
    obtain ⟨cs, c1, c2, C3⟩ := hp
    have c2 : cs.length ≤ 2 := by omega
    -- the parts
    refine ⟨_, rfl, _, rfl, pl, 5, rfl, C3.1, by decide, by decide, fun m H4 m0 m1 C4 => ⟨_, _, rfl, rfl, by show 5 ≤ sizeLine; decide, fun ca hca => ?_⟩⟩
    have s5 := same_upd (o := .lst [.non, .int 1, .int 2, .int 3, .int 4]) hca
    have P5 := C4.1.same s5
    have nca : ca ≠ pl := pool_ne' C4.1 hca
    refine ⟨_, rfl, pl, 4, rfl, P5, by decide, by decide, fun mo H6 o0 o1 C6 => ?_⟩
    refine ⟨pl, ca, (1 + m).toNat, mo.toNat, 4, [none, some 1, some 2, some 3, some 4], by rw [Int.toNat_of_nonneg (by omega), Int.toNat_of_nonneg o0]; rfl, C6.1, C6.at nca upd_same, nca, by omega, by omega, by decide, by decide, by decide, by decide, fun c hc => ?_, fun l t k v ts ks ss H7 hl l0 t0 k0 v0 ntk ht hk hv hT hK hSv C7 => ?_⟩
    · simp only [List.mem_cons, List.not_mem_nil, or_false, reduceCtorEq, false_or, Option.some.injEq] at hc
      omega
    have hm5 : (1 + m).toNat ≤ 5 := by omega
    have hm1 : 1 ≤ (1 + m).toNat := by omega
    have hn8 : (1 + m).toNat + mo.toNat ≤ 8 := by omega
    have hn1 : 1 ≤ (1 + m).toNat + mo.toNat := by omega
    generalize (1 + m).toNat + mo.toNat = n at hSv hn8 hn1
    generalize (1 + m).toNat = mt at hT hm5 hm1
    have sp7 : H7 D = some (.lst (cs.map V.int)) := C7.at nD (C6.at nD (s5 _ _ (C4.at nD c1)))
    have S7 : Sp4 (D, cs.map V.int) pl t k v 5 5 8 12 H7 _ _ _ := sp4_of C7.1 ht hk hv hT hK hSv hm5 hn8 sp7 nD
    have ntv : t ≠ v := ne_tv ht hv (by have := hT.len; omega)
    have nkv : k ≠ v := ne_kv hk hv hK hSv.ok (by have := hSv.nm.len; rw [List.length_map] at this; omega)
    refine ⟨l, _, rfl, .of hl, rfl, _, _, rfl, _, _, rfl, _, _, rfl, rfl, ?_⟩
    generalize ts.map (fun p => (p.1, V.int p.2)) = kv0 at S7
    generalize ks.map (fun b => (b.1, V.ref b.2.1)) = kk0 at S7
    generalize ss.map (fun b => (b.name, V.ref b.at_)) = sv0 at S7
    clear hl l0 t0 k0 v0 ht hk hv hT hK hSv hS0 hl0 s1 C2 C3 C4 C6 C7 s5 P5 nca hca hm5 hm1 hn8 hn1 sp7
    refine ⟨_, rfl, D, rfl, ⟨_, .of S7.sp⟩, for_list (K := K) (a := D) (xs := cs.map V.int) (fun i σ H' => ∃ y6 : Option V, σ = [some (.ref p0), some (.ref pl), some (.ref D), some (.ref t), some (.ref k), some (.ref v), y6, none, none, none, none, none, none] ∧ i ≤ 2 ∧ ∃ kv kk sv, Sp4 (D, cs.map V.int) pl t k v (5 + 8 * i) (5 + 2 * i) (8 + 13 * i) (12 + 3 * i) H' kv kk sv) ⟨none, rfl, Nat.zero_le _, _, _, _, S7⟩ (fun i σ H' _ hp => ?_) (fun i y σ H' hy hp => ?_) (fun σ H' hp => ?_)⟩
    · obtain ⟨y6, rfl, _, kv, kk, sv, S⟩ := hp
      exact .of S.sp
    · obtain ⟨y6, rfl, hi, kv, kk, sv, S⟩ := hp
      obtain ⟨c, hc, rfl⟩ := map_at hy
      have hi1 : i < cs.length := (List.getElem?_eq_some_iff.mp hc).1
      have lkv : (kvK kv).length = kv.length := List.length_map ..
      have lsv : (kvK sv).length = sv.length := List.length_map ..
      have keep : ∀ c', ∃ y6 : Option V, ([some (.ref p0), some (.ref pl), some (.ref D), some (.ref t), some (.ref k), some (.ref v), some (.int c'), none, none, none, none, none, none] : List (Option V)) = [some (.ref p0), some (.ref pl), some (.ref D), some (.ref t), some (.ref k), some (.ref v), y6, none, none, none, none, none, none] ∧ i + 1 ≤ 2 ∧ ∃ kv kk sv, Sp4 (D, cs.map V.int) pl t k v (5 + 8 * (i + 1)) (5 + 2 * (i + 1)) (8 + 13 * (i + 1)) (12 + 3 * (i + 1)) H' kv kk sv := fun c' => ⟨_, rfl, by omega, kv, kk, sv, S.up (by omega) (by omega) (by omega) (by omega)⟩
      refine ⟨_, rfl, t, _, rfl, S.dt.at_, _, _, rfl, rfl, _, rfl, ite_d (fun h1 => ?_) (fun _ => ifF (keep c))⟩
      refine ⟨_, rfl, v, _, rfl, S.dv.at_, _, _, rfl, rfl, _, rfl, ite_d (fun h2 => ?_) (fun _ => keep c)⟩
      clear keep
      refine ⟨_, rfl, _, rfl, _, rfl, _, rfl, _, pl, t, k, v, c, _, _, _, _, kv, kk, sv, rfl, ntv, nkv, S, by omega, by omega, by omega, by omega, by omega, by omega, fun sv1 H1 S1 => ?_⟩
      refine ⟨_, rfl, _, rfl, _, rfl, _, rfl, _, pl, t, k, v, c, _, _, _, _, kv, kk, sv1, rfl, ntk, nkv, S1, by omega, by omega, by omega, by omega, by omega, fun kk1 H2 S2 => ?_⟩
      refine ⟨_, rfl, _, rfl, _, rfl, _, pl, t, k, v, c, _, _, _, _, kv, kk1, sv1, rfl, ntk, ntv, S2, by omega, by omega, by omega, by omega, fun kv1 H3 S3 => ?_⟩
      exact ⟨_, rfl, by omega, kv1, kk1, sv1, S3.up (by omega) (by omega) (by omega) (by omega)⟩
    · obtain ⟨y6, rfl, hi, kv, kk, sv, S⟩ := hp
      have hT1 : ∀ p ∈ kv, Thg H' p.2 := fun p hp => (S.ht p hp).thg
      have hK1 := S.hk
      have hV1 := S.hv
      have Dt := S.dt
      have Dk := S.dk
      have Dv := S.dv
      clear S7
      refine ⟨_, rfl, _, rfl, _, rfl, t, k, v, kv, kk, sv, rfl, Dt, Dk, Dv, hT1, hK1, hV1, fun hf H8 s8 => ?_, fun pt u hf r H8 hr s8 => ?_⟩
      · refine ⟨_, rfl, t, kvK kv, rfl, .inl (s8 _ _ Dt.at_), fun d1 f1 => ?_⟩
        have sb := same_upd (o := .dK (kvK kv)) f1
        refine ⟨_, rfl, k, kvK kk, rfl, .inl (sb _ _ (s8 _ _ Dk.at_)), fun d2 f2 => ?_⟩
        have sc := same_upd (o := .dK (kvK kk)) f2
        refine ⟨_, rfl, v, kvK sv, rfl, .inl (sc _ _ (sb _ _ (s8 _ _ Dv.at_))), fun d3 f3 => ?_⟩
        have sd := same_upd (o := .dK (kvK sv)) f3
        have e1 : upd (upd (upd H8 d1 (.dK (kvK kv))) d2 (.dK (kvK kk))) d3 (.dK (kvK sv)) d1 = some (.dK (kvK kv)) := sd _ _ (sc _ _ upd_same)
        have e2 : upd (upd (upd H8 d1 (.dK (kvK kv))) d2 (.dK (kvK kk))) d3 (.dK (kvK sv)) d2 = some (.dK (kvK kk)) := sd _ _ upd_same
        have e3 : upd (upd (upd H8 d1 (.dK (kvK kv))) d2 (.dK (kvK kk))) d3 (.dK (kvK sv)) d3 = some (.dK (kvK sv)) := upd_same
        have s9 := ((s8.trans sb).trans sc).trans sd
        generalize upd (upd (upd H8 d1 (.dK (kvK kv))) d2 (.dK (kvK kk))) d3 (.dK (kvK sv)) = H9 at s9 e1 e2 e3
        clear sb sc sd f1 f2 f3 s8
        refine fun x dx fx fdx ndx => ?_
        have g1 := same_upd (o := .own x) fdx
        have n1 : upd H9 dx (.own x) x = none := by rw [upd_ne ndx.symm]; exact fx
        have g2 := g1.trans (same_upd (o := .ins (a 25) dx []) n1)
        have sx := s9.trans g2
        have kx := Kp.same sx
        refine ⟨x, dx, d1, d2, d3, kv, kk, sv, rfl, upd_same, ⟨g2 _ _ e1, Dt.nd, Dt.nm, Dt.len⟩, ⟨g2 _ _ e2, Dk.nd, Dk.nm, Dk.len⟩, ⟨g2 _ _ e3, Dv.nd, Dv.nm, Dv.len⟩, fun p hp => (hT1 p hp).kp kx, fun p hp => (hK1 p hp).kp kx, fun p hp => (hV1 p hp).kp kx, fun _ H12 c1 c2 c3 O keep => ⟨rfl, ?_⟩, fun pt u hf' => ?_⟩
        · have s12 : Same H' H12 := fun b o e => keep b o (ne_of_none (s9 _ _ e) fx) (sx _ _ e)
          have k12 := Kp.same s12
          refine ⟨_, rfl, x, dx, _, rfl, O.ob, x, dx, c1, c2, c3, kv, kk, sv, rfl, O, fun a1 H13 A1 t1 => ?_⟩
          have s13 := s12.trans t1
          refine ⟨_, rfl, dct_eqS A1 ⟨s13 _ _ Dv.at_, Dv.nd, Dv.nm, Dv.len⟩ (fun p hp => (hV1 p hp).th.kp (Kp.same s13)) ⟨true, rfl, ifT ?_⟩⟩
          have O2 := O.same t1
          refine ⟨_, rfl, x, dx, _, rfl, O2.ob, x, dx, c1, c2, c3, kv, kk, sv, rfl, O2, fun a2 H14 A2 t2 => ?_⟩
          have s14 := s13.trans t2
          refine ⟨_, rfl, dct_eqS A2 ⟨s14 _ _ Dt.at_, Dt.nd, Dt.nm, Dt.len⟩ (fun p hp => (hT1 p hp).kp (Kp.same s14)) ⟨true, rfl, ifT ?_⟩⟩
          have O3 := O2.same t2
          refine ⟨_, rfl, x, dx, _, rfl, O3.ob, x, dx, c1, c2, c3, kv, kk, sv, rfl, O3, fun a3 H15 A3 t3 => ?_⟩
          have s15 := s14.trans t3
          refine ⟨_, rfl, dct_eqS A3 ⟨s15 _ _ Dk.at_, Dk.nd, Dk.nm, Dk.len⟩ (fun p hp => ((hK1 p hp).th.kp (Kp.same s15))) ?_⟩
          exact ⟨_, rfl, _, rfl, .none, .none, .non, .non, by decide, by decide, true, rfl, ifT ⟨_, rfl, q _⟩⟩
        · rw [fault_kp Dk.nd Dv.nd (fun p hp => (hK1 p hp).th) hV1 kx, hf] at hf'
          cases hf'
      · obtain ⟨hlow, hu⟩ := fault_u Dt Dk Dv hf
        obtain ⟨dd, hdd, dsh, deq⟩ := told_data (K := K) hlow hu
        refine ⟨_, rfl, t, kvK kv, rfl, .inl (s8 _ _ Dt.at_), fun d1 f1 => ?_⟩
        have sb := same_upd (o := .dK (kvK kv)) f1
        refine ⟨_, rfl, k, kvK kk, rfl, .inl (sb _ _ (s8 _ _ Dk.at_)), fun d2 f2 => ?_⟩
        have sc := same_upd (o := .dK (kvK kk)) f2
        refine ⟨_, rfl, v, kvK sv, rfl, .inl (sc _ _ (sb _ _ (s8 _ _ Dv.at_))), fun d3 f3 => ?_⟩
        have sd := same_upd (o := .dK (kvK sv)) f3
        have e1 : upd (upd (upd H8 d1 (.dK (kvK kv))) d2 (.dK (kvK kk))) d3 (.dK (kvK sv)) d1 = some (.dK (kvK kv)) := sd _ _ (sc _ _ upd_same)
        have e2 : upd (upd (upd H8 d1 (.dK (kvK kv))) d2 (.dK (kvK kk))) d3 (.dK (kvK sv)) d2 = some (.dK (kvK kk)) := sd _ _ upd_same
        have e3 : upd (upd (upd H8 d1 (.dK (kvK kv))) d2 (.dK (kvK kk))) d3 (.dK (kvK sv)) d3 = some (.dK (kvK sv)) := upd_same
        have s9 := ((s8.trans sb).trans sc).trans sd
        have hr9 := sd _ _ (sc _ _ (sb _ _ hr))
        generalize upd (upd (upd H8 d1 (.dK (kvK kv))) d2 (.dK (kvK kk))) d3 (.dK (kvK sv)) = H9 at s9 e1 e2 e3 hr9
        clear sb sc sd f1 f2 f3 s8 hr
        refine fun x dx fx fdx ndx => ?_
        have g1 := same_upd (o := .own x) fdx
        have n1 : upd H9 dx (.own x) x = none := by rw [upd_ne ndx.symm]; exact fx
        have g2 := g1.trans (same_upd (o := .ins (a 25) dx []) n1)
        have sx := s9.trans g2
        have kx := Kp.same sx
        have hr10 := g2 _ _ hr9
        refine ⟨x, dx, d1, d2, d3, kv, kk, sv, rfl, upd_same, ⟨g2 _ _ e1, Dt.nd, Dt.nm, Dt.len⟩, ⟨g2 _ _ e2, Dk.nd, Dk.nm, Dk.len⟩, ⟨g2 _ _ e3, Dv.nd, Dv.nm, Dv.len⟩, fun p hp => (hT1 p hp).kp kx, fun p hp => (hK1 p hp).kp kx, fun p hp => (hV1 p hp).kp kx, fun hf' => ?_, fun pt' u' hf' H12 s12 => ?_⟩
        · rw [fault_kp Dk.nd Dv.nd (fun p hp => (hK1 p hp).th) hV1 kx, hf] at hf'
          cases hf'
        · rw [fault_kp Dk.nd Dv.nd (fun p hp => (hK1 p hp).th) hV1 kx, hf] at hf'
          cases hf'
          have hr12 := s12 _ _ hr10
          intro xd H13 hxd hd s13
          have hr13 := s13 _ _ hr12
          refine ⟨true, T.exm_3_3, fun _ ea hea => ?_, fun z => Bool.noConfusion z⟩
          refine ⟨_, rfl, rfl, rfl, xd, _, _, rfl, hd, rfl, _, rfl, rfl, rfl, xd, _, _, rfl, hd, rfl, by show 2 ≤ sizeLine; decide, fun r2 hr2 => ?_⟩
          have s14 := same_upd (o := .tup [.str pt, u]) hr2
          have hd2 := s14 _ _ hd
          refine ⟨_, rfl, xd, _, _, _, true, rfl, rfl, hd2, rfl, fun u hu => hu, T.kit_3_2, true, rfl, ifT ?_⟩
          refine ⟨_, rfl, xd, _, _, _, true, rfl, rfl, hd2, rfl, fun u hu => hu, T.kit_3_ValueError, true, rfl, ifT ?_⟩
          refine ⟨_, rfl, xd, _, _, _, false, rfl, rfl, hd2, rfl, fun u hu => hu, T.kif_3_4, false, rfl, ?_⟩
          exact ⟨_, rfl, _, rfl, dd, dd, hdd _ _ upd_same, hdd _ _ (s14 _ _ hr13), dsh, dsh, true, by rw [deq], ifT ⟨_, rfl, q _⟩⟩
end
theorem all_mk {P : Program} {w : World} {K : PySem.W.Frag} {h : Heap} {mg : Str → Option Value} {fa : Addr} (X : K.In h) (G : h.Ns mainGlobals mg) (hfa : mg "law" = some (.ref fa))
    {f1300 : Addr} {od1300 an1300 : Option Addr} {sl1300 : Array (Option Value)} {oc1300 kV1300 dc1300 pm1300 cd1300 ct1300 : Value}
    {f7 : Addr} {od7 an7 : Option Addr} {sl7 : Array (Option Value)} {oc7 kV7 dc7 pm7 cd7 ct7 : Value}
    {f8 : Addr} {od8 an8 : Option Addr} {sl8 : Array (Option Value)} {oc8 kV8 dc8 pm8 cd8 ct8 : Value}
    {f14 : Addr} {od14 an14 : Option Addr} {sl14 : Array (Option Value)} {oc14 kV14 dc14 pm14 cd14 ct14 : Value}
    {f15 : Addr} {od15 an15 : Option Addr} {sl15 : Array (Option Value)} {oc15 kV15 dc15 pm15 cd15 ct15 : Value}
    {f16 : Addr} {od16 an16 : Option Addr} {sl16 : Array (Option Value)} {oc16 kV16 dc16 pm16 cd16 ct16 : Value}
    {f17 : Addr} {od17 an17 : Option Addr} {sl17 : Array (Option Value)} {oc17 kV17 dc17 pm17 cd17 ct17 : Value}
    {f18 : Addr} {od18 an18 : Option Addr} {sl18 : Array (Option Value)} {oc18 kV18 dc18 pm18 cd18 ct18 : Value}
    {f19 : Addr} {od19 an19 : Option Addr} {sl19 : Array (Option Value)} {oc19 kV19 dc19 pm19 cd19 ct19 : Value}
    {f20 : Addr} {od20 an20 : Option Addr} {sl20 : Array (Option Value)} {oc20 kV20 dc20 pm20 cd20 ct20 : Value}
    {f21 : Addr} {od21 an21 : Option Addr} {sl21 : Array (Option Value)} {oc21 kV21 dc21 pm21 cd21 ct21 : Value}
    {f22 : Addr} {od22 an22 : Option Addr} {sl22 : Array (Option Value)} {oc22 kV22 dc22 pm22 cd22 ct22 : Value}
    {f23 : Addr} {od23 an23 : Option Addr} {sl23 : Array (Option Value)} {oc23 kV23 dc23 pm23 cd23 ct23 : Value}
    {f24 : Addr} {od24 an24 : Option Addr} {sl24 : Array (Option Value)} {oc24 kV24 dc24 pm24 cd24 ct24 : Value}
    {f3500 : Addr} {od3500 an3500 : Option Addr} {sl3500 : Array (Option Value)} {oc3500 kV3500 dc3500 pm3500 cd3500 ct3500 : Value}
    {f3501 : Addr} {od3501 an3501 : Option Addr} {sl3501 : Array (Option Value)} {oc3501 kV3501 dc3501 pm3501 cd3501 ct3501 : Value}
    {f3502 : Addr} {od3502 an3502 : Option Addr} {sl3502 : Array (Option Value)} {oc3502 kV3502 dc3502 pm3502 cd3502 ct3502 : Value}
    {f3503 : Addr} {od3503 an3503 : Option Addr} {sl3503 : Array (Option Value)} {oc3503 kV3503 dc3503 pm3503 cd3503 ct3503 : Value}
    {f27 : Addr} {od27 an27 : Option Addr} {sl27 : Array (Option Value)} {oc27 kV27 dc27 pm27 cd27 ct27 : Value}
    {f28 : Addr} {od28 an28 : Option Addr} {sl28 : Array (Option Value)} {oc28 kV28 dc28 pm28 cd28 ct28 : Value}
    {f29 : Addr} {od29 an29 : Option Addr} {sl29 : Array (Option Value)} {oc29 kV29 dc29 pm29 cd29 ct29 : Value}
    {f30 : Addr} {od30 an30 : Option Addr} {sl30 : Array (Option Value)} {oc30 kV30 dc30 pm30 cd30 ct30 : Value}
    {f31 : Addr} {od31 an31 : Option Addr} {sl31 : Array (Option Value)} {oc31 kV31 dc31 pm31 cd31 ct31 : Value}
    {f32 : Addr} {od32 an32 : Option Addr} {sl32 : Array (Option Value)} {oc32 kV32 dc32 pm32 cd32 ct32 : Value}
    {f33 : Addr} {od33 an33 : Option Addr} {sl33 : Array (Option Value)} {oc33 kV33 dc33 pm33 cd33 ct33 : Value}
    {f34 : Addr} {od34 an34 : Option Addr} {sl34 : Array (Option Value)} {oc34 kV34 dc34 pm34 cd34 ct34 : Value}
    {f35 : Addr} {od35 an35 : Option Addr} {sl35 : Array (Option Value)} {oc35 kV35 dc35 pm35 cd35 ct35 : Value}
    {f36 : Addr} {od36 an36 : Option Addr} {sl36 : Array (Option Value)} {oc36 kV36 dc36 pm36 cd36 ct36 : Value}
    {f37 : Addr} {od37 an37 : Option Addr} {sl37 : Array (Option Value)} {oc37 kV37 dc37 pm37 cd37 ct37 : Value}
    {f38 : Addr} {od38 an38 : Option Addr} {sl38 : Array (Option Value)} {oc38 kV38 dc38 pm38 cd38 ct38 : Value}
    {f39 : Addr} {od39 an39 : Option Addr} {sl39 : Array (Option Value)} {oc39 kV39 dc39 pm39 cd39 ct39 : Value}
    {f40 : Addr} {od40 an40 : Option Addr} {sl40 : Array (Option Value)} {oc40 kV40 dc40 pm40 cd40 ct40 : Value}
    {f41 : Addr} {od41 an41 : Option Addr} {sl41 : Array (Option Value)} {oc41 kV41 dc41 pm41 cd41 ct41 : Value}
    {f42 : Addr} {od42 an42 : Option Addr} {sl42 : Array (Option Value)} {oc42 kV42 dc42 pm42 cd42 ct42 : Value}
    {f43 : Addr} {od43 an43 : Option Addr} {sl43 : Array (Option Value)} {oc43 kV43 dc43 pm43 cd43 ct43 : Value}
    {f44 : Addr} {od44 an44 : Option Addr} {sl44 : Array (Option Value)} {oc44 kV44 dc44 pm44 cd44 ct44 : Value}
    {f45 : Addr} {od45 an45 : Option Addr} {sl45 : Array (Option Value)} {oc45 kV45 dc45 pm45 cd45 ct45 : Value}
    {f46 : Addr} {od46 an46 : Option Addr} {sl46 : Array (Option Value)} {oc46 kV46 dc46 pm46 cd46 ct46 : Value}
    {f47 : Addr} {od47 an47 : Option Addr} {sl47 : Array (Option Value)} {oc47 kV47 dc47 pm47 cd47 ct47 : Value}
    {f48 : Addr} {od48 an48 : Option Addr} {sl48 : Array (Option Value)} {oc48 kV48 dc48 pm48 cd48 ct48 : Value}
    {f49 : Addr} {od49 an49 : Option Addr} {sl49 : Array (Option Value)} {oc49 kV49 dc49 pm49 cd49 ct49 : Value}
    {f2 : Addr}
    {nm_2 qn_2 : Str} {N_2 : Addr} {bs_2 : List Value} {sn_2 : List Str} {sub_2 : List Value} {ab_2 : Bool} {col_2 : Option Bool} {dd_2 : Option Addr} {m0_2 m1_2 m2_2 m3_2 m5_2 : Option Value}
    {f3 : Addr}
    {nm_3 qn_3 : Str} {N_3 : Addr} {bs_3 : List Value} {sn_3 : List Str} {sub_3 : List Value} {ab_3 : Bool} {col_3 : Option Bool} {dd_3 : Option Addr} {m0_3 m1_3 m2_3 m3_3 m5_3 : Option Value}
    {f4 : Addr}
    {nm_4 qn_4 : Str} {N_4 : Addr} {bs_4 : List Value} {sn_4 : List Str} {sub_4 : List Value} {ab_4 : Bool} {col_4 : Option Bool} {dd_4 : Option Addr} {m0_4 m1_4 m2_4 m3_4 m5_4 : Option Value}
    {f25 : Addr}
    {f53501 : Addr} {rest3501 : List Value}
    {f53502 : Addr} {rest3502 : List Value}
    {f53503 : Addr} {rest3503 : List Value}
    (ac_2 : PySem.W.nsIn K mainGlobals "CappedError" = some (some (.ref f2)))
    (ac_3 : PySem.W.nsIn K mainGlobals "InvalidSchema" = some (some (.ref f3)))
    (ac_4 : PySem.W.nsIn K mainGlobals "InvalidStore" = some (some (.ref f4)))
    (ac_25 : PySem.W.nsIn K mainGlobals "Schema" = some (some (.ref f25)))
    (fi_3 : PySem.W.findIn K (.ref f3) "__init__" = some (some (.ref f1300)))
    (fi_25 : PySem.W.findIn K (.ref f25) "__init__" = some (some (.ref f3500)))
    (pa_3501 : PySem.W.findIn K (.ref f25) "tables" = some (some (.ref f53501)))
    (pa_3502 : PySem.W.findIn K (.ref f25) "key_columns" = some (some (.ref f53502)))
    (pa_3503 : PySem.W.findIn K (.ref f25) "services" = some (some (.ref f53503)))
    (pd_3501 : PySem.W.recIn K f53501 "property" = some (.ref f3501 :: rest3501))
    (pd_3502 : PySem.W.recIn K f53502 "property" = some (.ref f3502 :: rest3502))
    (pd_3503 : PySem.W.recIn K f53503 "property" = some (.ref f3503 :: rest3503))
    (l1300 : K.lookup f1300 = some ⟨oc1300, od1300, .func (PySem.W.fnOf "__init__" "InvalidSchema.__init__" (defArgs s_InvalidSchema___init__) (defBody s_InvalidSchema___init__) (defScope s_InvalidSchema___init__) .none kV1300 dc1300 pm1300 an1300 cd1300 ct1300), sl1300⟩) (c1300 : PySem.W.codeIn K cd1300 "InvalidSchema.__init__" = true) (k1300 : PySem.W.keepIn K (.ref f1300) = true)
    (a7 : PySem.W.nsIn K mainGlobals "is_plain_int" = some (some (.ref f7))) (l7 : K.lookup f7 = some ⟨oc7, od7, .func (PySem.W.fnOf "is_plain_int" "is_plain_int" (defArgs s_is_plain_int) (defBody s_is_plain_int) (defScope s_is_plain_int) .none kV7 dc7 pm7 an7 cd7 ct7), sl7⟩) (c7 : PySem.W.codeIn K cd7 "is_plain_int" = true) (k7 : PySem.W.keepIn K (.ref f7) = true)
    (a8 : PySem.W.nsIn K mainGlobals "is_word" = some (some (.ref f8))) (l8 : K.lookup f8 = some ⟨oc8, od8, .func (PySem.W.fnOf "is_word" "is_word" (defArgs s_is_word) (defBody s_is_word) (defScope s_is_word) .none kV8 dc8 pm8 an8 cd8 ct8), sl8⟩) (c8 : PySem.W.codeIn K cd8 "is_word" = true) (k8 : PySem.W.keepIn K (.ref f8) = true)
    (a14 : PySem.W.nsIn K mainGlobals "_is_count" = some (some (.ref f14))) (l14 : K.lookup f14 = some ⟨oc14, od14, .func (PySem.W.fnOf "_is_count" "_is_count" (defArgs s__is_count) (defBody s__is_count) (defScope s__is_count) .none kV14 dc14 pm14 an14 cd14 ct14), sl14⟩) (c14 : PySem.W.codeIn K cd14 "_is_count" = true) (k14 : PySem.W.keepIn K (.ref f14) = true)
    (a15 : PySem.W.nsIn K mainGlobals "_is_name_in" = some (some (.ref f15))) (l15 : K.lookup f15 = some ⟨oc15, od15, .func (PySem.W.fnOf "_is_name_in" "_is_name_in" (defArgs s__is_name_in) (defBody s__is_name_in) (defScope s__is_name_in) .none kV15 dc15 pm15 an15 cd15 ct15), sl15⟩) (c15 : PySem.W.codeIn K cd15 "_is_name_in" = true) (k15 : PySem.W.keepIn K (.ref f15) = true)
    (a16 : PySem.W.nsIn K mainGlobals "_are_columns" = some (some (.ref f16))) (l16 : K.lookup f16 = some ⟨oc16, od16, .func (PySem.W.fnOf "_are_columns" "_are_columns" (defArgs s__are_columns) (defBody s__are_columns) (defScope s__are_columns) .none kV16 dc16 pm16 an16 cd16 ct16), sl16⟩) (c16 : PySem.W.codeIn K cd16 "_are_columns" = true) (k16 : PySem.W.keepIn K (.ref f16) = true)
    (a17 : PySem.W.nsIn K mainGlobals "_is_key" = some (some (.ref f17))) (l17 : K.lookup f17 = some ⟨oc17, od17, .func (PySem.W.fnOf "_is_key" "_is_key" (defArgs s__is_key) (defBody s__is_key) (defScope s__is_key) .none kV17 dc17 pm17 an17 cd17 ct17), sl17⟩) (c17 : PySem.W.codeIn K cd17 "_is_key" = true) (k17 : PySem.W.keepIn K (.ref f17) = true)
    (a18 : PySem.W.nsIn K mainGlobals "_is_service" = some (some (.ref f18))) (l18 : K.lookup f18 = some ⟨oc18, od18, .func (PySem.W.fnOf "_is_service" "_is_service" (defArgs s__is_service) (defBody s__is_service) (defScope s__is_service) .none kV18 dc18 pm18 an18 cd18 ct18), sl18⟩) (c18 : PySem.W.codeIn K cd18 "_is_service" = true) (k18 : PySem.W.keepIn K (.ref f18) = true)
    (a19 : PySem.W.nsIn K mainGlobals "_is_whole_service" = some (some (.ref f19))) (l19 : K.lookup f19 = some ⟨oc19, od19, .func (PySem.W.fnOf "_is_whole_service" "_is_whole_service" (defArgs s__is_whole_service) (defBody s__is_whole_service) (defScope s__is_whole_service) .none kV19 dc19 pm19 an19 cd19 ct19), sl19⟩) (c19 : PySem.W.codeIn K cd19 "_is_whole_service" = true) (k19 : PySem.W.keepIn K (.ref f19) = true)
    (a20 : PySem.W.nsIn K mainGlobals "_check_tables" = some (some (.ref f20))) (l20 : K.lookup f20 = some ⟨oc20, od20, .func (PySem.W.fnOf "_check_tables" "_check_tables" (defArgs s__check_tables) (defBody s__check_tables) (defScope s__check_tables) .none kV20 dc20 pm20 an20 cd20 ct20), sl20⟩) (c20 : PySem.W.codeIn K cd20 "_check_tables" = true) (k20 : PySem.W.keepIn K (.ref f20) = true)
    (a21 : PySem.W.nsIn K mainGlobals "_check_keys" = some (some (.ref f21))) (l21 : K.lookup f21 = some ⟨oc21, od21, .func (PySem.W.fnOf "_check_keys" "_check_keys" (defArgs s__check_keys) (defBody s__check_keys) (defScope s__check_keys) .none kV21 dc21 pm21 an21 cd21 ct21), sl21⟩) (c21 : PySem.W.codeIn K cd21 "_check_keys" = true) (k21 : PySem.W.keepIn K (.ref f21) = true)
    (a22 : PySem.W.nsIn K mainGlobals "_check_services" = some (some (.ref f22))) (l22 : K.lookup f22 = some ⟨oc22, od22, .func (PySem.W.fnOf "_check_services" "_check_services" (defArgs s__check_services) (defBody s__check_services) (defScope s__check_services) .none kV22 dc22 pm22 an22 cd22 ct22), sl22⟩) (c22 : PySem.W.codeIn K cd22 "_check_services" = true) (k22 : PySem.W.keepIn K (.ref f22) = true)
    (a23 : PySem.W.nsIn K mainGlobals "_check_capped" = some (some (.ref f23))) (l23 : K.lookup f23 = some ⟨oc23, od23, .func (PySem.W.fnOf "_check_capped" "_check_capped" (defArgs s__check_capped) (defBody s__check_capped) (defScope s__check_capped) .none kV23 dc23 pm23 an23 cd23 ct23), sl23⟩) (c23 : PySem.W.codeIn K cd23 "_check_capped" = true) (k23 : PySem.W.keepIn K (.ref f23) = true)
    (a24 : PySem.W.nsIn K mainGlobals "_copied" = some (some (.ref f24))) (l24 : K.lookup f24 = some ⟨oc24, od24, .func (PySem.W.fnOf "_copied" "_copied" (defArgs s__copied) (defBody s__copied) (defScope s__copied) .none kV24 dc24 pm24 an24 cd24 ct24), sl24⟩) (c24 : PySem.W.codeIn K cd24 "_copied" = true) (k24 : PySem.W.keepIn K (.ref f24) = true)
    (l3500 : K.lookup f3500 = some ⟨oc3500, od3500, .func (PySem.W.fnOf "__init__" "Schema.__init__" (defArgs s_Schema___init__) (defBody s_Schema___init__) (defScope s_Schema___init__) .none kV3500 dc3500 pm3500 an3500 cd3500 ct3500), sl3500⟩) (c3500 : PySem.W.codeIn K cd3500 "Schema.__init__" = true) (k3500 : PySem.W.keepIn K (.ref f3500) = true)
    (l3501 : K.lookup f3501 = some ⟨oc3501, od3501, .func (PySem.W.fnOf "tables" "Schema.tables" (defArgs s_Schema_tables) (defBody s_Schema_tables) (defScope s_Schema_tables) .none kV3501 dc3501 pm3501 an3501 cd3501 ct3501), sl3501⟩) (c3501 : PySem.W.codeIn K cd3501 "Schema.tables" = true) (k3501 : PySem.W.keepIn K (.ref f3501) = true)
    (l3502 : K.lookup f3502 = some ⟨oc3502, od3502, .func (PySem.W.fnOf "key_columns" "Schema.key_columns" (defArgs s_Schema_key_columns) (defBody s_Schema_key_columns) (defScope s_Schema_key_columns) .none kV3502 dc3502 pm3502 an3502 cd3502 ct3502), sl3502⟩) (c3502 : PySem.W.codeIn K cd3502 "Schema.key_columns" = true) (k3502 : PySem.W.keepIn K (.ref f3502) = true)
    (l3503 : K.lookup f3503 = some ⟨oc3503, od3503, .func (PySem.W.fnOf "services" "Schema.services" (defArgs s_Schema_services) (defBody s_Schema_services) (defScope s_Schema_services) .none kV3503 dc3503 pm3503 an3503 cd3503 ct3503), sl3503⟩) (c3503 : PySem.W.codeIn K cd3503 "Schema.services" = true) (k3503 : PySem.W.keepIn K (.ref f3503) = true)
    (a27 : PySem.W.nsIn K mainGlobals "_law_pool" = some (some (.ref f27))) (l27 : K.lookup f27 = some ⟨oc27, od27, .func (PySem.W.fnOf "_law_pool" "_law_pool" (defArgs s__law_pool) (defBody s__law_pool) (defScope s__law_pool) .none kV27 dc27 pm27 an27 cd27 ct27), sl27⟩) (c27 : PySem.W.codeIn K cd27 "_law_pool" = true) (k27 : PySem.W.keepIn K (.ref f27) = true)
    (a28 : PySem.W.nsIn K mainGlobals "_law_mixed" = some (some (.ref f28))) (l28 : K.lookup f28 = some ⟨oc28, od28, .func (PySem.W.fnOf "_law_mixed" "_law_mixed" (defArgs s__law_mixed) (defBody s__law_mixed) (defScope s__law_mixed) .none kV28 dc28 pm28 an28 cd28 ct28), sl28⟩) (c28 : PySem.W.codeIn K cd28 "_law_mixed" = true) (k28 : PySem.W.keepIn K (.ref f28) = true)
    (a29 : PySem.W.nsIn K mainGlobals "_law_draw" = some (some (.ref f29))) (l29 : K.lookup f29 = some ⟨oc29, od29, .func (PySem.W.fnOf "_law_draw" "_law_draw" (defArgs s__law_draw) (defBody s__law_draw) (defScope s__law_draw) .none kV29 dc29 pm29 an29 cd29 ct29), sl29⟩) (c29 : PySem.W.codeIn K cd29 "_law_draw" = true) (k29 : PySem.W.keepIn K (.ref f29) = true)
    (a30 : PySem.W.nsIn K mainGlobals "_law_word" = some (some (.ref f30))) (l30 : K.lookup f30 = some ⟨oc30, od30, .func (PySem.W.fnOf "_law_word" "_law_word" (defArgs s__law_word) (defBody s__law_word) (defScope s__law_word) .none kV30 dc30 pm30 an30 cd30 ct30), sl30⟩) (c30 : PySem.W.codeIn K cd30 "_law_word" = true) (k30 : PySem.W.keepIn K (.ref f30) = true)
    (a31 : PySem.W.nsIn K mainGlobals "_law_names" = some (some (.ref f31))) (l31 : K.lookup f31 = some ⟨oc31, od31, .func (PySem.W.fnOf "_law_names" "_law_names" (defArgs s__law_names) (defBody s__law_names) (defScope s__law_names) .none kV31 dc31 pm31 an31 cd31 ct31), sl31⟩) (c31 : PySem.W.codeIn K cd31 "_law_names" = true) (k31 : PySem.W.keepIn K (.ref f31) = true)
    (a32 : PySem.W.nsIn K mainGlobals "_law_columns" = some (some (.ref f32))) (l32 : K.lookup f32 = some ⟨oc32, od32, .func (PySem.W.fnOf "_law_columns" "_law_columns" (defArgs s__law_columns) (defBody s__law_columns) (defScope s__law_columns) .none kV32 dc32 pm32 an32 cd32 ct32), sl32⟩) (c32 : PySem.W.codeIn K cd32 "_law_columns" = true) (k32 : PySem.W.keepIn K (.ref f32) = true)
    (a33 : PySem.W.nsIn K mainGlobals "_law_tables" = some (some (.ref f33))) (l33 : K.lookup f33 = some ⟨oc33, od33, .func (PySem.W.fnOf "_law_tables" "_law_tables" (defArgs s__law_tables) (defBody s__law_tables) (defScope s__law_tables) .none kV33 dc33 pm33 an33 cd33 ct33), sl33⟩) (c33 : PySem.W.codeIn K cd33 "_law_tables" = true) (k33 : PySem.W.keepIn K (.ref f33) = true)
    (a34 : PySem.W.nsIn K mainGlobals "_law_keys" = some (some (.ref f34))) (l34 : K.lookup f34 = some ⟨oc34, od34, .func (PySem.W.fnOf "_law_keys" "_law_keys" (defArgs s__law_keys) (defBody s__law_keys) (defScope s__law_keys) .none kV34 dc34 pm34 an34 cd34 ct34), sl34⟩) (c34 : PySem.W.codeIn K cd34 "_law_keys" = true) (k34 : PySem.W.keepIn K (.ref f34) = true)
    (a35 : PySem.W.nsIn K mainGlobals "_law_is_whole" = some (some (.ref f35))) (l35 : K.lookup f35 = some ⟨oc35, od35, .func (PySem.W.fnOf "_law_is_whole" "_law_is_whole" (defArgs s__law_is_whole) (defBody s__law_is_whole) (defScope s__law_is_whole) .none kV35 dc35 pm35 an35 cd35 ct35), sl35⟩) (c35 : PySem.W.codeIn K cd35 "_law_is_whole" = true) (k35 : PySem.W.keepIn K (.ref f35) = true)
    (a36 : PySem.W.nsIn K mainGlobals "_law_services" = some (some (.ref f36))) (l36 : K.lookup f36 = some ⟨oc36, od36, .func (PySem.W.fnOf "_law_services" "_law_services" (defArgs s__law_services) (defBody s__law_services) (defScope s__law_services) .none kV36 dc36 pm36 an36 cd36 ct36), sl36⟩) (c36 : PySem.W.codeIn K cd36 "_law_services" = true) (k36 : PySem.W.keepIn K (.ref f36) = true)
    (a37 : PySem.W.nsIn K mainGlobals "_law_schema_parts" = some (some (.ref f37))) (l37 : K.lookup f37 = some ⟨oc37, od37, .func (PySem.W.fnOf "_law_schema_parts" "_law_schema_parts" (defArgs s__law_schema_parts) (defBody s__law_schema_parts) (defScope s__law_schema_parts) .none kV37 dc37 pm37 an37 cd37 ct37), sl37⟩) (c37 : PySem.W.codeIn K cd37 "_law_schema_parts" = true) (k37 : PySem.W.keepIn K (.ref f37) = true)
    (a38 : PySem.W.nsIn K mainGlobals "_law_pick" = some (some (.ref f38))) (l38 : K.lookup f38 = some ⟨oc38, od38, .func (PySem.W.fnOf "_law_pick" "_law_pick" (defArgs s__law_pick) (defBody s__law_pick) (defScope s__law_pick) .none kV38 dc38 pm38 an38 cd38 ct38), sl38⟩) (c38 : PySem.W.codeIn K cd38 "_law_pick" = true) (k38 : PySem.W.keepIn K (.ref f38) = true)
    (a39 : PySem.W.nsIn K mainGlobals "_law_bad_columns" = some (some (.ref f39))) (l39 : K.lookup f39 = some ⟨oc39, od39, .func (PySem.W.fnOf "_law_bad_columns" "_law_bad_columns" (defArgs s__law_bad_columns) (defBody s__law_bad_columns) (defScope s__law_bad_columns) .none kV39 dc39 pm39 an39 cd39 ct39), sl39⟩) (c39 : PySem.W.codeIn K cd39 "_law_bad_columns" = true) (k39 : PySem.W.keepIn K (.ref f39) = true)
    (a40 : PySem.W.nsIn K mainGlobals "_law_spoil_tables" = some (some (.ref f40))) (l40 : K.lookup f40 = some ⟨oc40, od40, .func (PySem.W.fnOf "_law_spoil_tables" "_law_spoil_tables" (defArgs s__law_spoil_tables) (defBody s__law_spoil_tables) (defScope s__law_spoil_tables) .none kV40 dc40 pm40 an40 cd40 ct40), sl40⟩) (c40 : PySem.W.codeIn K cd40 "_law_spoil_tables" = true) (k40 : PySem.W.keepIn K (.ref f40) = true)
    (a41 : PySem.W.nsIn K mainGlobals "_law_width" = some (some (.ref f41))) (l41 : K.lookup f41 = some ⟨oc41, od41, .func (PySem.W.fnOf "_law_width" "_law_width" (defArgs s__law_width) (defBody s__law_width) (defScope s__law_width) .none kV41 dc41 pm41 an41 cd41 ct41), sl41⟩) (c41 : PySem.W.codeIn K cd41 "_law_width" = true) (k41 : PySem.W.keepIn K (.ref f41) = true)
    (a42 : PySem.W.nsIn K mainGlobals "_law_spoil_keys" = some (some (.ref f42))) (l42 : K.lookup f42 = some ⟨oc42, od42, .func (PySem.W.fnOf "_law_spoil_keys" "_law_spoil_keys" (defArgs s__law_spoil_keys) (defBody s__law_spoil_keys) (defScope s__law_spoil_keys) .none kV42 dc42 pm42 an42 cd42 ct42), sl42⟩) (c42 : PySem.W.codeIn K cd42 "_law_spoil_keys" = true) (k42 : PySem.W.keepIn K (.ref f42) = true)
    (a43 : PySem.W.nsIn K mainGlobals "_law_spoil_services" = some (some (.ref f43))) (l43 : K.lookup f43 = some ⟨oc43, od43, .func (PySem.W.fnOf "_law_spoil_services" "_law_spoil_services" (defArgs s__law_spoil_services) (defBody s__law_spoil_services) (defScope s__law_spoil_services) .none kV43 dc43 pm43 an43 cd43 ct43), sl43⟩) (c43 : PySem.W.codeIn K cd43 "_law_spoil_services" = true) (k43 : PySem.W.keepIn K (.ref f43) = true)
    (a44 : PySem.W.nsIn K mainGlobals "_law_is_integer" = some (some (.ref f44))) (l44 : K.lookup f44 = some ⟨oc44, od44, .func (PySem.W.fnOf "_law_is_integer" "_law_is_integer" (defArgs s__law_is_integer) (defBody s__law_is_integer) (defScope s__law_is_integer) .none kV44 dc44 pm44 an44 cd44 ct44), sl44⟩) (c44 : PySem.W.codeIn K cd44 "_law_is_integer" = true) (k44 : PySem.W.keepIn K (.ref f44) = true)
    (a45 : PySem.W.nsIn K mainGlobals "_law_is_word" = some (some (.ref f45))) (l45 : K.lookup f45 = some ⟨oc45, od45, .func (PySem.W.fnOf "_law_is_word" "_law_is_word" (defArgs s__law_is_word) (defBody s__law_is_word) (defScope s__law_is_word) .none kV45 dc45 pm45 an45 cd45 ct45), sl45⟩) (c45 : PySem.W.codeIn K cd45 "_law_is_word" = true) (k45 : PySem.W.keepIn K (.ref f45) = true)
    (a46 : PySem.W.nsIn K mainGlobals "_law_good_columns" = some (some (.ref f46))) (l46 : K.lookup f46 = some ⟨oc46, od46, .func (PySem.W.fnOf "_law_good_columns" "_law_good_columns" (defArgs s__law_good_columns) (defBody s__law_good_columns) (defScope s__law_good_columns) .none kV46 dc46 pm46 an46 cd46 ct46), sl46⟩) (c46 : PySem.W.codeIn K cd46 "_law_good_columns" = true) (k46 : PySem.W.keepIn K (.ref f46) = true)
    (a47 : PySem.W.nsIn K mainGlobals "_law_good_service" = some (some (.ref f47))) (l47 : K.lookup f47 = some ⟨oc47, od47, .func (PySem.W.fnOf "_law_good_service" "_law_good_service" (defArgs s__law_good_service) (defBody s__law_good_service) (defScope s__law_good_service) .none kV47 dc47 pm47 an47 cd47 ct47), sl47⟩) (c47 : PySem.W.codeIn K cd47 "_law_good_service" = true) (k47 : PySem.W.keepIn K (.ref f47) = true)
    (a48 : PySem.W.nsIn K mainGlobals "_law_fault" = some (some (.ref f48))) (l48 : K.lookup f48 = some ⟨oc48, od48, .func (PySem.W.fnOf "_law_fault" "_law_fault" (defArgs s__law_fault) (defBody s__law_fault) (defScope s__law_fault) .none kV48 dc48 pm48 an48 cd48 ct48), sl48⟩) (c48 : PySem.W.codeIn K cd48 "_law_fault" = true) (k48 : PySem.W.keepIn K (.ref f48) = true)
    (a49 : PySem.W.nsIn K mainGlobals "law" = some (some (.ref f49))) (l49 : K.lookup f49 = some ⟨oc49, od49, .func (PySem.W.fnOf "law" "law" (defArgs s_law) (defBody s_law) (defScope s_law) .none kV49 dc49 pm49 an49 cd49 ct49), sl49⟩) (c49 : PySem.W.codeIn K cd49 "law" = true) (k49 : PySem.W.keepIn K (.ref f49) = true)
    (xl_2 : K.lookup f2 = some (excClassObj nm_2 qn_2 f2 N_2 bs_2 [.type "ValueError", .type "Exception", .type "BaseException", .type "object"] true sn_2 sub_2 ab_2 col_2 dd_2 m0_2 m1_2 m2_2 m3_2 m5_2 "ValueError.__new__"))
    (xs_2 : PySem.W.findIn K (.ref f2) "__setattr__" = some (some (.builtin "object.__setattr__")))
    (xe_2 : PySem.W.subIn K (.ref f2) (.type "BaseException") = some true)
    (xt_2 : PySem.W.typeIn K (.ref f2) = some (.type "type"))
    (xk_2 : PySem.W.keepIn K (.ref f2) = true)
    (ya_2 : PySem.W.findIn K (.ref f2) "__getattribute__" = some (some (.builtin "BaseException.__getattribute__")))
    (yg_2 : PySem.W.findIn K (.ref f2) "__getattr__" = some none)
    (yh_2 : PySem.W.hasDictIn K f2 = true)
    (za_2 : PySem.W.findIn K (.ref f2) "__class__" = some (some (.builtin "object.__class__")))
    (zn_2 : PySem.W.specialIn K (.builtin "object.__class__") "__get__" = some (some (.builtin "getset_descriptor.__get__")))
    (zt_2 : PySem.W.takesIn K (.builtin "object.__class__") = some true)
    (zm_2 : PySem.W.mroIn K f2 (.type "object") = some true)
    (xl_3 : K.lookup f3 = some (excClassObj nm_3 qn_3 f3 N_3 bs_3 [.ref f2, .type "ValueError", .type "Exception", .type "BaseException", .type "object"] true sn_3 sub_3 ab_3 col_3 dd_3 m0_3 m1_3 m2_3 m3_3 m5_3 "ValueError.__new__"))
    (xs_3 : PySem.W.findIn K (.ref f3) "__setattr__" = some (some (.builtin "object.__setattr__")))
    (xe_3 : PySem.W.subIn K (.ref f3) (.type "BaseException") = some true)
    (xt_3 : PySem.W.typeIn K (.ref f3) = some (.type "type"))
    (xk_3 : PySem.W.keepIn K (.ref f3) = true)
    (ya_3 : PySem.W.findIn K (.ref f3) "__getattribute__" = some (some (.builtin "BaseException.__getattribute__")))
    (yg_3 : PySem.W.findIn K (.ref f3) "__getattr__" = some none)
    (yh_3 : PySem.W.hasDictIn K f3 = true)
    (za_3 : PySem.W.findIn K (.ref f3) "__class__" = some (some (.builtin "object.__class__")))
    (zn_3 : PySem.W.specialIn K (.builtin "object.__class__") "__get__" = some (some (.builtin "getset_descriptor.__get__")))
    (zt_3 : PySem.W.takesIn K (.builtin "object.__class__") = some true)
    (zm_3 : PySem.W.mroIn K f3 (.type "object") = some true)
    (ty_3 : PySem.W.typeIn K (.ref f1300) = some (.type "function"))
    (na_3_part : PySem.W.findIn K (.ref f3) "part" = some none)
    (na_3_name : PySem.W.findIn K (.ref f3) "name" = some none)
    (xl_4 : K.lookup f4 = some (excClassObj nm_4 qn_4 f4 N_4 bs_4 [.ref f2, .type "ValueError", .type "Exception", .type "BaseException", .type "object"] true sn_4 sub_4 ab_4 col_4 dd_4 m0_4 m1_4 m2_4 m3_4 m5_4 "ValueError.__new__"))
    (xs_4 : PySem.W.findIn K (.ref f4) "__setattr__" = some (some (.builtin "object.__setattr__")))
    (xe_4 : PySem.W.subIn K (.ref f4) (.type "BaseException") = some true)
    (xt_4 : PySem.W.typeIn K (.ref f4) = some (.type "type"))
    (xk_4 : PySem.W.keepIn K (.ref f4) = true)
    (ya_4 : PySem.W.findIn K (.ref f4) "__getattribute__" = some (some (.builtin "BaseException.__getattribute__")))
    (yg_4 : PySem.W.findIn K (.ref f4) "__getattr__" = some none)
    (yh_4 : PySem.W.hasDictIn K f4 = true)
    (za_4 : PySem.W.findIn K (.ref f4) "__class__" = some (some (.builtin "object.__class__")))
    (zn_4 : PySem.W.specialIn K (.builtin "object.__class__") "__get__" = some (some (.builtin "getset_descriptor.__get__")))
    (zt_4 : PySem.W.takesIn K (.builtin "object.__class__") = some true)
    (zm_4 : PySem.W.mroIn K f4 (.type "object") = some true)
    (pg_25 : PySem.W.plainGet K f25 Str.empty = true)
    (hd_25 : PySem.W.hasDictIn K f25 = true)
    (po_25 : PySem.W.plainOver K f25 = true)
    (sa_25 : PySem.W.findIn K (.ref f25) "__setattr__" = some (some (.builtin "object.__setattr__")))
    (mk_25 : PySem.W.makesIn K f25 = true)
    (is_3500 : PySem.W.isFn K (.ref f3500) = true)
    (kc_25 : PySem.W.keepIn K (.ref f25) = true)
    (na_25__tables : PySem.W.findIn K (.ref f25) "_tables" = some none)
    (na_25__keys : PySem.W.findIn K (.ref f25) "_keys" = some none)
    (na_25__services : PySem.W.findIn K (.ref f25) "_services" = some none)
    (es_3_2 : PySem.W.subIn K (.ref f3) (.ref f2) = some true)
    (es_3_4 : PySem.W.kitOne K (.ref f3) (.ref f4) = some false)
    (es_3_ValueError : PySem.W.kitOne K (.ref f3) (.type "ValueError") = some true)
    (es_3_3 : PySem.W.subIn K (.ref f3) (.ref f3) = some true)
    (pb_3501 : PySem.W.specialIn K (.ref f53501) "__get__" = some (some (.builtin "property.__get__")))
    (pc_3501 : PySem.W.takesIn K (.ref f53501) = some true)
    (pb_3502 : PySem.W.specialIn K (.ref f53502) "__get__" = some (some (.builtin "property.__get__")))
    (pc_3502 : PySem.W.takesIn K (.ref f53502) = some true)
    (pb_3503 : PySem.W.specialIn K (.ref f53503) "__get__" = some (some (.builtin "property.__get__")))
    (pc_3503 : PySem.W.takesIn K (.ref f53503) = some true)
    (z_ValueError : PySem.W.nsIn K mainGlobals "ValueError" = some none)
    (z_abs : PySem.W.nsIn K mainGlobals "abs" = some none)
    (z_all : PySem.W.nsIn K mainGlobals "all" = some none)
    (z_bool : PySem.W.nsIn K mainGlobals "bool" = some none)
    (z_dict : PySem.W.nsIn K mainGlobals "dict" = some none)
    (z_int : PySem.W.nsIn K mainGlobals "int" = some none)
    (z_isinstance : PySem.W.nsIn K mainGlobals "isinstance" = some none)
    (z_len : PySem.W.nsIn K mainGlobals "len" = some none)
    (z_list : PySem.W.nsIn K mainGlobals "list" = some none)
    (z_range : PySem.W.nsIn K mainGlobals "range" = some none)
    (z_sorted : PySem.W.nsIn K mainGlobals "sorted" = some none)
    (z_str : PySem.W.nsIn K mainGlobals "str" = some none)
    (z_tuple : PySem.W.nsIn K mainGlobals "tuple" = some none)
    {t_LONGEST_WORD : Tok} (v_LONGEST_WORD : PySem.W.nsIn K mainGlobals "LONGEST_WORD" = some (some (.int (8) t_LONGEST_WORD)))
    {t_MOST_TABLES : Tok} (v_MOST_TABLES : PySem.W.nsIn K mainGlobals "MOST_TABLES" = some (some (.int (5) t_MOST_TABLES)))
    {t_MOST_WIDTH : Tok} (v_MOST_WIDTH : PySem.W.nsIn K mainGlobals "MOST_WIDTH" = some (some (.int (4) t_MOST_WIDTH)))
    {t_MOST_SERVICES : Tok} (v_MOST_SERVICES : PySem.W.nsIn K mainGlobals "MOST_SERVICES" = some (some (.int (8) t_MOST_SERVICES)))
    {t_MOST_CAP : Tok} (v_MOST_CAP : PySem.W.nsIn K mainGlobals "MOST_CAP" = some (some (.int (4) t_MOST_CAP)))
    : ∃ fd : FuncData, (∀ (s : Shared) (v : Value), BindsTo s fd ⟨[v], []⟩ [("_law_script", v)]) ∧ ∀ base : Heap, K.In base → base.Ns mainGlobals mg → FnOk P w K mg base CX0 9 fa fd ["_law_script"] (spLaw K) := by
  have e := hfa.symm.trans (PySem.W.mg_of X G a49)
  cases e
  have F1300 := fun_mk (st := s_InvalidSchema___init__) l1300 c1300 k1300
  have b1300 := F1300.binds (ps := ["self", "part", "name"]) fun _ _ _ _ _ _ us hl => match us, hl with | [_, _, _], _ => rfl
  have F7 := fun_mk (st := s_is_plain_int) l7 c7 k7
  have b7 := F7.binds (ps := ["thing"]) fun _ _ _ _ _ _ us hl => match us, hl with | [_], _ => rfl
  have F8 := fun_mk (st := s_is_word) l8 c8 k8
  have b8 := F8.binds (ps := ["thing"]) fun _ _ _ _ _ _ us hl => match us, hl with | [_], _ => rfl
  have F14 := fun_mk (st := s__is_count) l14 c14 k14
  have b14 := F14.binds (ps := ["thing", "most"]) fun _ _ _ _ _ _ us hl => match us, hl with | [_, _], _ => rfl
  have F15 := fun_mk (st := s__is_name_in) l15 c15 k15
  have b15 := F15.binds (ps := ["thing", "names"]) fun _ _ _ _ _ _ us hl => match us, hl with | [_, _], _ => rfl
  have F16 := fun_mk (st := s__are_columns) l16 c16 k16
  have b16 := F16.binds (ps := ["thing", "width"]) fun _ _ _ _ _ _ us hl => match us, hl with | [_, _], _ => rfl
  have F17 := fun_mk (st := s__is_key) l17 c17 k17
  have b17 := F17.binds (ps := ["thing", "width"]) fun _ _ _ _ _ _ us hl => match us, hl with | [_, _], _ => rfl
  have F18 := fun_mk (st := s__is_service) l18 c18 k18
  have b18 := F18.binds (ps := ["thing", "tables"]) fun _ _ _ _ _ _ us hl => match us, hl with | [_, _], _ => rfl
  have F19 := fun_mk (st := s__is_whole_service) l19 c19 k19
  have b19 := F19.binds (ps := ["service", "tables", "keys"]) fun _ _ _ _ _ _ us hl => match us, hl with | [_, _, _], _ => rfl
  have F20 := fun_mk (st := s__check_tables) l20 c20 k20
  have b20 := F20.binds (ps := ["tables"]) fun _ _ _ _ _ _ us hl => match us, hl with | [_], _ => rfl
  have F21 := fun_mk (st := s__check_keys) l21 c21 k21
  have b21 := F21.binds (ps := ["keys", "tables"]) fun _ _ _ _ _ _ us hl => match us, hl with | [_, _], _ => rfl
  have F22 := fun_mk (st := s__check_services) l22 c22 k22
  have b22 := F22.binds (ps := ["services", "tables"]) fun _ _ _ _ _ _ us hl => match us, hl with | [_, _], _ => rfl
  have F23 := fun_mk (st := s__check_capped) l23 c23 k23
  have b23 := F23.binds (ps := ["services", "tables", "keys"]) fun _ _ _ _ _ _ us hl => match us, hl with | [_, _, _], _ => rfl
  have F24 := fun_mk (st := s__copied) l24 c24 k24
  have b24 := F24.binds (ps := ["things"]) fun _ _ _ _ _ _ us hl => match us, hl with | [_], _ => rfl
  have F3500 := fun_mk (st := s_Schema___init__) l3500 c3500 k3500
  have b3500 := F3500.binds (ps := ["self", "tables", "keys", "services"]) fun _ _ _ _ _ _ us hl => match us, hl with | [_, _, _, _], _ => rfl
  have F3501 := fun_mk (st := s_Schema_tables) l3501 c3501 k3501
  have b3501 := F3501.binds (ps := ["self"]) fun _ _ _ _ _ _ us hl => match us, hl with | [_], _ => rfl
  have F3502 := fun_mk (st := s_Schema_key_columns) l3502 c3502 k3502
  have b3502 := F3502.binds (ps := ["self"]) fun _ _ _ _ _ _ us hl => match us, hl with | [_], _ => rfl
  have F3503 := fun_mk (st := s_Schema_services) l3503 c3503 k3503
  have b3503 := F3503.binds (ps := ["self"]) fun _ _ _ _ _ _ us hl => match us, hl with | [_], _ => rfl
  have F27 := fun_mk (st := s__law_pool) l27 c27 k27
  have b27 := F27.binds (ps := ["_law_script"]) fun _ _ _ _ _ _ us hl => match us, hl with | [_], _ => rfl
  have F28 := fun_mk (st := s__law_mixed) l28 c28 k28
  have b28 := F28.binds (ps := ["_law_seed", "_law_count"]) fun _ _ _ _ _ _ us hl => match us, hl with | [_, _], _ => rfl
  have F29 := fun_mk (st := s__law_draw) l29 c29 k29
  have b29 := F29.binds (ps := ["_law_pool_here", "_law_many"]) fun _ _ _ _ _ _ us hl => match us, hl with | [_, _], _ => rfl
  have F30 := fun_mk (st := s__law_word) l30 c30 k30
  have b30 := F30.binds (ps := ["_law_pool_here", "_law_many"]) fun _ _ _ _ _ _ us hl => match us, hl with | [_, _], _ => rfl
  have F31 := fun_mk (st := s__law_names) l31 c31 k31
  have b31 := F31.binds (ps := ["_law_pool_here", "_law_many"]) fun _ _ _ _ _ _ us hl => match us, hl with | [_, _], _ => rfl
  have F32 := fun_mk (st := s__law_columns) l32 c32 k32
  have b32 := F32.binds (ps := ["_law_pool_here", "_law_width_here", "_law_low", "_law_high"]) fun _ _ _ _ _ _ us hl => match us, hl with | [_, _, _, _], _ => rfl
  have F33 := fun_mk (st := s__law_tables) l33 c33 k33
  have b33 := F33.binds (ps := ["_law_pool_here", "_law_many", "_law_widest"]) fun _ _ _ _ _ _ us hl => match us, hl with | [_, _, _], _ => rfl
  have F34 := fun_mk (st := s__law_keys) l34 c34 k34
  have b34 := F34.binds (ps := ["_law_pool_here", "_law_tables_here"]) fun _ _ _ _ _ _ us hl => match us, hl with | [_, _], _ => rfl
  have F35 := fun_mk (st := s__law_is_whole) l35 c35 k35
  have b35 := F35.binds (ps := ["_law_tables_here", "_law_keys_here", "_law_told"]) fun _ _ _ _ _ _ us hl => match us, hl with | [_, _, _], _ => rfl
  have F36 := fun_mk (st := s__law_services) l36 c36 k36
  have b36 := F36.binds (ps := ["_law_pool_here", "_law_tables_here", "_law_keys_here", "_law_caps", "_law_more"]) fun _ _ _ _ _ _ us hl => match us, hl with | [_, _, _, _, _], _ => rfl
  have F37 := fun_mk (st := s__law_schema_parts) l37 c37 k37
  have b37 := F37.binds (ps := ["_law_pool_here", "_law_many", "_law_widest", "_law_caps", "_law_more"]) fun _ _ _ _ _ _ us hl => match us, hl with | [_, _, _, _, _], _ => rfl
  have F38 := fun_mk (st := s__law_pick) l38 c38 k38
  have b38 := F38.binds (ps := ["_law_pool_here", "_law_row"]) fun _ _ _ _ _ _ us hl => match us, hl with | [_, _], _ => rfl
  have F39 := fun_mk (st := s__law_bad_columns) l39 c39 k39
  have b39 := F39.binds (ps := ["_law_pool_here", "_law_width_here"]) fun _ _ _ _ _ _ us hl => match us, hl with | [_, _], _ => rfl
  have F40 := fun_mk (st := s__law_spoil_tables) l40 c40 k40
  have b40 := F40.binds (ps := ["_law_pool_here", "_law_kind", "_law_tables_here"]) fun _ _ _ _ _ _ us hl => match us, hl with | [_, _, _], _ => rfl
  have F41 := fun_mk (st := s__law_width) l41 c41 k41
  have b41 := F41.binds (ps := ["_law_tables_here", "_law_name"]) fun _ _ _ _ _ _ us hl => match us, hl with | [_, _], _ => rfl
  have F42 := fun_mk (st := s__law_spoil_keys) l42 c42 k42
  have b42 := F42.binds (ps := ["_law_pool_here", "_law_kind", "_law_tables_here", "_law_keys_here"]) fun _ _ _ _ _ _ us hl => match us, hl with | [_, _, _, _], _ => rfl
  have F43 := fun_mk (st := s__law_spoil_services) l43 c43 k43
  have b43 := F43.binds (ps := ["_law_pool_here", "_law_kind", "_law_tables_here", "_law_services_here"]) fun _ _ _ _ _ _ us hl => match us, hl with | [_, _, _, _], _ => rfl
  have F44 := fun_mk (st := s__law_is_integer) l44 c44 k44
  have b44 := F44.binds (ps := ["_law_thing"]) fun _ _ _ _ _ _ us hl => match us, hl with | [_], _ => rfl
  have F45 := fun_mk (st := s__law_is_word) l45 c45 k45
  have b45 := F45.binds (ps := ["_law_thing"]) fun _ _ _ _ _ _ us hl => match us, hl with | [_], _ => rfl
  have F46 := fun_mk (st := s__law_good_columns) l46 c46 k46
  have b46 := F46.binds (ps := ["_law_thing", "_law_width_here"]) fun _ _ _ _ _ _ us hl => match us, hl with | [_, _], _ => rfl
  have F47 := fun_mk (st := s__law_good_service) l47 c47 k47
  have b47 := F47.binds (ps := ["_law_tables_here", "_law_told"]) fun _ _ _ _ _ _ us hl => match us, hl with | [_, _], _ => rfl
  have F48 := fun_mk (st := s__law_fault) l48 c48 k48
  have b48 := F48.binds (ps := ["_law_tables_here", "_law_keys_here", "_law_services_here"]) fun _ _ _ _ _ _ us hl => match us, hl with | [_, _, _], _ => rfl
  have F49 := fun_mk (st := s_law) l49 c49 k49
  have b49 := F49.binds (ps := ["_law_script"]) fun _ _ _ _ _ _ us hl => match us, hl with | [_], _ => rfl
  let aa : Nat → Addr := fun i => match i with
    | 2 => f2
    | 3 => f3
    | 4 => f4
    | 7 => f7
    | 8 => f8
    | 14 => f14
    | 15 => f15
    | 16 => f16
    | 17 => f17
    | 18 => f18
    | 19 => f19
    | 20 => f20
    | 21 => f21
    | 22 => f22
    | 23 => f23
    | 24 => f24
    | 25 => f25
    | 27 => f27
    | 28 => f28
    | 29 => f29
    | 30 => f30
    | 31 => f31
    | 32 => f32
    | 33 => f33
    | 34 => f34
    | 35 => f35
    | 36 => f36
    | 37 => f37
    | 38 => f38
    | 39 => f39
    | 40 => f40
    | 41 => f41
    | 42 => f42
    | 43 => f43
    | 44 => f44
    | 45 => f45
    | 46 => f46
    | 47 => f47
    | 48 => f48
    | 49 => fa
    | 1300 => f1300
    | 3500 => f3500
    | 3501 => f3501
    | 3502 => f3502
    | 3503 => f3503
    | 53501 => f53501
    | 53502 => f53502
    | 53503 => f53503
    | _ => 0
  let dd : Nat → FuncData := fun i => match i with
    | 7 => PySem.W.fnOf "is_plain_int" "is_plain_int" (defArgs s_is_plain_int) (defBody s_is_plain_int) (defScope s_is_plain_int) .none kV7 dc7 pm7 an7 cd7 ct7
    | 8 => PySem.W.fnOf "is_word" "is_word" (defArgs s_is_word) (defBody s_is_word) (defScope s_is_word) .none kV8 dc8 pm8 an8 cd8 ct8
    | 14 => PySem.W.fnOf "_is_count" "_is_count" (defArgs s__is_count) (defBody s__is_count) (defScope s__is_count) .none kV14 dc14 pm14 an14 cd14 ct14
    | 15 => PySem.W.fnOf "_is_name_in" "_is_name_in" (defArgs s__is_name_in) (defBody s__is_name_in) (defScope s__is_name_in) .none kV15 dc15 pm15 an15 cd15 ct15
    | 16 => PySem.W.fnOf "_are_columns" "_are_columns" (defArgs s__are_columns) (defBody s__are_columns) (defScope s__are_columns) .none kV16 dc16 pm16 an16 cd16 ct16
    | 17 => PySem.W.fnOf "_is_key" "_is_key" (defArgs s__is_key) (defBody s__is_key) (defScope s__is_key) .none kV17 dc17 pm17 an17 cd17 ct17
    | 18 => PySem.W.fnOf "_is_service" "_is_service" (defArgs s__is_service) (defBody s__is_service) (defScope s__is_service) .none kV18 dc18 pm18 an18 cd18 ct18
    | 19 => PySem.W.fnOf "_is_whole_service" "_is_whole_service" (defArgs s__is_whole_service) (defBody s__is_whole_service) (defScope s__is_whole_service) .none kV19 dc19 pm19 an19 cd19 ct19
    | 20 => PySem.W.fnOf "_check_tables" "_check_tables" (defArgs s__check_tables) (defBody s__check_tables) (defScope s__check_tables) .none kV20 dc20 pm20 an20 cd20 ct20
    | 21 => PySem.W.fnOf "_check_keys" "_check_keys" (defArgs s__check_keys) (defBody s__check_keys) (defScope s__check_keys) .none kV21 dc21 pm21 an21 cd21 ct21
    | 22 => PySem.W.fnOf "_check_services" "_check_services" (defArgs s__check_services) (defBody s__check_services) (defScope s__check_services) .none kV22 dc22 pm22 an22 cd22 ct22
    | 23 => PySem.W.fnOf "_check_capped" "_check_capped" (defArgs s__check_capped) (defBody s__check_capped) (defScope s__check_capped) .none kV23 dc23 pm23 an23 cd23 ct23
    | 24 => PySem.W.fnOf "_copied" "_copied" (defArgs s__copied) (defBody s__copied) (defScope s__copied) .none kV24 dc24 pm24 an24 cd24 ct24
    | 27 => PySem.W.fnOf "_law_pool" "_law_pool" (defArgs s__law_pool) (defBody s__law_pool) (defScope s__law_pool) .none kV27 dc27 pm27 an27 cd27 ct27
    | 28 => PySem.W.fnOf "_law_mixed" "_law_mixed" (defArgs s__law_mixed) (defBody s__law_mixed) (defScope s__law_mixed) .none kV28 dc28 pm28 an28 cd28 ct28
    | 29 => PySem.W.fnOf "_law_draw" "_law_draw" (defArgs s__law_draw) (defBody s__law_draw) (defScope s__law_draw) .none kV29 dc29 pm29 an29 cd29 ct29
    | 30 => PySem.W.fnOf "_law_word" "_law_word" (defArgs s__law_word) (defBody s__law_word) (defScope s__law_word) .none kV30 dc30 pm30 an30 cd30 ct30
    | 31 => PySem.W.fnOf "_law_names" "_law_names" (defArgs s__law_names) (defBody s__law_names) (defScope s__law_names) .none kV31 dc31 pm31 an31 cd31 ct31
    | 32 => PySem.W.fnOf "_law_columns" "_law_columns" (defArgs s__law_columns) (defBody s__law_columns) (defScope s__law_columns) .none kV32 dc32 pm32 an32 cd32 ct32
    | 33 => PySem.W.fnOf "_law_tables" "_law_tables" (defArgs s__law_tables) (defBody s__law_tables) (defScope s__law_tables) .none kV33 dc33 pm33 an33 cd33 ct33
    | 34 => PySem.W.fnOf "_law_keys" "_law_keys" (defArgs s__law_keys) (defBody s__law_keys) (defScope s__law_keys) .none kV34 dc34 pm34 an34 cd34 ct34
    | 35 => PySem.W.fnOf "_law_is_whole" "_law_is_whole" (defArgs s__law_is_whole) (defBody s__law_is_whole) (defScope s__law_is_whole) .none kV35 dc35 pm35 an35 cd35 ct35
    | 36 => PySem.W.fnOf "_law_services" "_law_services" (defArgs s__law_services) (defBody s__law_services) (defScope s__law_services) .none kV36 dc36 pm36 an36 cd36 ct36
    | 37 => PySem.W.fnOf "_law_schema_parts" "_law_schema_parts" (defArgs s__law_schema_parts) (defBody s__law_schema_parts) (defScope s__law_schema_parts) .none kV37 dc37 pm37 an37 cd37 ct37
    | 38 => PySem.W.fnOf "_law_pick" "_law_pick" (defArgs s__law_pick) (defBody s__law_pick) (defScope s__law_pick) .none kV38 dc38 pm38 an38 cd38 ct38
    | 39 => PySem.W.fnOf "_law_bad_columns" "_law_bad_columns" (defArgs s__law_bad_columns) (defBody s__law_bad_columns) (defScope s__law_bad_columns) .none kV39 dc39 pm39 an39 cd39 ct39
    | 40 => PySem.W.fnOf "_law_spoil_tables" "_law_spoil_tables" (defArgs s__law_spoil_tables) (defBody s__law_spoil_tables) (defScope s__law_spoil_tables) .none kV40 dc40 pm40 an40 cd40 ct40
    | 41 => PySem.W.fnOf "_law_width" "_law_width" (defArgs s__law_width) (defBody s__law_width) (defScope s__law_width) .none kV41 dc41 pm41 an41 cd41 ct41
    | 42 => PySem.W.fnOf "_law_spoil_keys" "_law_spoil_keys" (defArgs s__law_spoil_keys) (defBody s__law_spoil_keys) (defScope s__law_spoil_keys) .none kV42 dc42 pm42 an42 cd42 ct42
    | 43 => PySem.W.fnOf "_law_spoil_services" "_law_spoil_services" (defArgs s__law_spoil_services) (defBody s__law_spoil_services) (defScope s__law_spoil_services) .none kV43 dc43 pm43 an43 cd43 ct43
    | 44 => PySem.W.fnOf "_law_is_integer" "_law_is_integer" (defArgs s__law_is_integer) (defBody s__law_is_integer) (defScope s__law_is_integer) .none kV44 dc44 pm44 an44 cd44 ct44
    | 45 => PySem.W.fnOf "_law_is_word" "_law_is_word" (defArgs s__law_is_word) (defBody s__law_is_word) (defScope s__law_is_word) .none kV45 dc45 pm45 an45 cd45 ct45
    | 46 => PySem.W.fnOf "_law_good_columns" "_law_good_columns" (defArgs s__law_good_columns) (defBody s__law_good_columns) (defScope s__law_good_columns) .none kV46 dc46 pm46 an46 cd46 ct46
    | 47 => PySem.W.fnOf "_law_good_service" "_law_good_service" (defArgs s__law_good_service) (defBody s__law_good_service) (defScope s__law_good_service) .none kV47 dc47 pm47 an47 cd47 ct47
    | 48 => PySem.W.fnOf "_law_fault" "_law_fault" (defArgs s__law_fault) (defBody s__law_fault) (defScope s__law_fault) .none kV48 dc48 pm48 an48 cd48 ct48
    | 49 => PySem.W.fnOf "law" "law" (defArgs s_law) (defBody s_law) (defScope s_law) .none kV49 dc49 pm49 an49 cd49 ct49
    | 1300 => PySem.W.fnOf "__init__" "InvalidSchema.__init__" (defArgs s_InvalidSchema___init__) (defBody s_InvalidSchema___init__) (defScope s_InvalidSchema___init__) .none kV1300 dc1300 pm1300 an1300 cd1300 ct1300
    | 3500 => PySem.W.fnOf "__init__" "Schema.__init__" (defArgs s_Schema___init__) (defBody s_Schema___init__) (defScope s_Schema___init__) .none kV3500 dc3500 pm3500 an3500 cd3500 ct3500
    | 3501 => PySem.W.fnOf "tables" "Schema.tables" (defArgs s_Schema_tables) (defBody s_Schema_tables) (defScope s_Schema_tables) .none kV3501 dc3501 pm3501 an3501 cd3501 ct3501
    | 3502 => PySem.W.fnOf "key_columns" "Schema.key_columns" (defArgs s_Schema_key_columns) (defBody s_Schema_key_columns) (defScope s_Schema_key_columns) .none kV3502 dc3502 pm3502 an3502 cd3502 ct3502
    | 3503 => PySem.W.fnOf "services" "Schema.services" (defArgs s_Schema_services) (defBody s_Schema_services) (defScope s_Schema_services) .none kV3503 dc3503 pm3503 an3503 cd3503 ct3503
    | _ => PySem.W.fnOf "law" "law" (defArgs s_law) (defBody s_law) (defScope s_law) .none kV49 dc49 pm49 an49 cd49 ct49
  have T : Txt K mg aa dd := { F1300 := F1300, b1300 := b1300, F7 := F7, b7 := b7, g7 := PySem.W.mg_of X G a7, F8 := F8, b8 := b8, g8 := PySem.W.mg_of X G a8, F14 := F14, b14 := b14, g14 := PySem.W.mg_of X G a14, F15 := F15, b15 := b15, g15 := PySem.W.mg_of X G a15, F16 := F16, b16 := b16, g16 := PySem.W.mg_of X G a16, F17 := F17, b17 := b17, g17 := PySem.W.mg_of X G a17, F18 := F18, b18 := b18, g18 := PySem.W.mg_of X G a18, F19 := F19, b19 := b19, g19 := PySem.W.mg_of X G a19, F20 := F20, b20 := b20, g20 := PySem.W.mg_of X G a20, F21 := F21, b21 := b21, g21 := PySem.W.mg_of X G a21, F22 := F22, b22 := b22, g22 := PySem.W.mg_of X G a22, F23 := F23, b23 := b23, g23 := PySem.W.mg_of X G a23, F24 := F24, b24 := b24, g24 := PySem.W.mg_of X G a24, F3500 := F3500, b3500 := b3500, F3501 := F3501, b3501 := b3501, F3502 := F3502, b3502 := b3502, F3503 := F3503, b3503 := b3503, F27 := F27, b27 := b27, g27 := PySem.W.mg_of X G a27, F28 := F28, b28 := b28, g28 := PySem.W.mg_of X G a28, F29 := F29, b29 := b29, g29 := PySem.W.mg_of X G a29, F30 := F30, b30 := b30, g30 := PySem.W.mg_of X G a30, F31 := F31, b31 := b31, g31 := PySem.W.mg_of X G a31, F32 := F32, b32 := b32, g32 := PySem.W.mg_of X G a32, F33 := F33, b33 := b33, g33 := PySem.W.mg_of X G a33, F34 := F34, b34 := b34, g34 := PySem.W.mg_of X G a34, F35 := F35, b35 := b35, g35 := PySem.W.mg_of X G a35, F36 := F36, b36 := b36, g36 := PySem.W.mg_of X G a36, F37 := F37, b37 := b37, g37 := PySem.W.mg_of X G a37, F38 := F38, b38 := b38, g38 := PySem.W.mg_of X G a38, F39 := F39, b39 := b39, g39 := PySem.W.mg_of X G a39, F40 := F40, b40 := b40, g40 := PySem.W.mg_of X G a40, F41 := F41, b41 := b41, g41 := PySem.W.mg_of X G a41, F42 := F42, b42 := b42, g42 := PySem.W.mg_of X G a42, F43 := F43, b43 := b43, g43 := PySem.W.mg_of X G a43, F44 := F44, b44 := b44, g44 := PySem.W.mg_of X G a44, F45 := F45, b45 := b45, g45 := PySem.W.mg_of X G a45, F46 := F46, b46 := b46, g46 := PySem.W.mg_of X G a46, F47 := F47, b47 := b47, g47 := PySem.W.mg_of X G a47, F48 := F48, b48 := b48, g48 := PySem.W.mg_of X G a48, F49 := F49, b49 := b49, g49 := PySem.W.mg_of X G a49, cg_2 := PySem.W.mg_of X G ac_2, x_2 := ⟨⟨_, _, _, _, _, _, _, _, _, _, _, _, _, _, _, xl_2, rfl⟩, xs_2, xe_2, xt_2, xk_2⟩, xf_2 := ⟨ya_2, yg_2, xe_2, yh_2⟩, xi_2 := ⟨ya_2, yg_2, xe_2, yh_2, za_2, zn_2, zt_2, zm_2⟩, cg_3 := PySem.W.mg_of X G ac_3, x_3 := ⟨⟨_, _, _, _, _, _, _, _, _, _, _, _, _, _, _, xl_3, rfl⟩, xs_3, xe_3, xt_3, xk_3⟩, xf_3 := ⟨ya_3, yg_3, xe_3, yh_3⟩, xi_3 := ⟨ya_3, yg_3, xe_3, yh_3, za_3, zn_3, zt_3, zm_3⟩, in_3 := fi_3, ti_3 := ty_3, no_3_part := na_3_part, no_3_name := na_3_name, cg_4 := PySem.W.mg_of X G ac_4, x_4 := ⟨⟨_, _, _, _, _, _, _, _, _, _, _, _, _, _, _, xl_4, rfl⟩, xs_4, xe_4, xt_4, xk_4⟩, xf_4 := ⟨ya_4, yg_4, xe_4, yh_4⟩, xi_4 := ⟨ya_4, yg_4, xe_4, yh_4, za_4, zn_4, zt_4, zm_4⟩, cg_25 := PySem.W.mg_of X G ac_25, cl_25 := ⟨pg_25, hd_25, po_25, sa_25⟩, M_25 := ⟨mk_25, fi_25, is_3500, kc_25⟩, no_25__tables := na_25__tables, no_25__keys := na_25__keys, no_25__services := na_25__services, kit_3_2 := kit_ref yh_2 xt_2 es_3_2, kif_3_4 := es_3_4, kit_3_ValueError := es_3_ValueError, exm_3_3 := PySem.W.exm_ref xe_3 yh_3 xt_3 es_3_3, p_3501 := ⟨pa_3501, pb_3501, pc_3501, ⟨_, pd_3501⟩⟩, p_3502 := ⟨pa_3502, pb_3502, pc_3502, ⟨_, pd_3502⟩⟩, p_3503 := ⟨pa_3503, pb_3503, pc_3503, ⟨_, pd_3503⟩⟩, z_ValueError := PySem.W.mg_none_of X G z_ValueError, z_abs := PySem.W.mg_none_of X G z_abs, z_all := PySem.W.mg_none_of X G z_all, z_bool := PySem.W.mg_none_of X G z_bool, z_dict := PySem.W.mg_none_of X G z_dict, z_int := PySem.W.mg_none_of X G z_int, z_isinstance := PySem.W.mg_none_of X G z_isinstance, z_len := PySem.W.mg_none_of X G z_len, z_list := PySem.W.mg_none_of X G z_list, z_range := PySem.W.mg_none_of X G z_range, z_sorted := PySem.W.mg_none_of X G z_sorted, z_str := PySem.W.mg_none_of X G z_str, z_tuple := PySem.W.mg_none_of X G z_tuple, c_LONGEST_WORD := ⟨_, PySem.W.mg_of X G v_LONGEST_WORD⟩, c_MOST_TABLES := ⟨_, PySem.W.mg_of X G v_MOST_TABLES⟩, c_MOST_WIDTH := ⟨_, PySem.W.mg_of X G v_MOST_WIDTH⟩, c_MOST_SERVICES := ⟨_, PySem.W.mg_of X G v_MOST_SERVICES⟩, c_MOST_CAP := ⟨_, PySem.W.mg_of X G v_MOST_CAP⟩ }
  exact ⟨_, fun s v => .of_eq rfl, fun base _ _ => ok_law T⟩
end My
open PySem PySem.W PyProof.Rows
set_option maxRecDepth 100000 in
set_option maxHeartbeats 0 in
theorem PySem.Challenge.cw_cappedcalls_k04_schema_refusals_holds : PySem.Challenge.rw_cappedcalls_k04_schema_refusals.Holds := by
  w_on; o_law; k_head; (case hw => w_witness2)
  k_fill
  refine L2.walk_of (l := PySem.Challenge.rw_cappedcalls_k04_schema_refusals) (n := 63) (k := 9) (x := "_law_script") (CX := fun _ => L2.CX0) (sp := fun w => My.spLaw _) rfl (by decide) rfl ⟨rfl, by decide, by decide⟩ (fun w h Y => PySem.W.kIn_of Y) ?F (fun _ _ a ns hl _ hS => ⟨a, ns, rfl, hS, hl, fun _ => rfl⟩) (fun _ _ _ _ _ h => h)
  case F =>
    intro w mg fa h KX G hmg
    refine' My.all_mk KX G hmg ?ac_2 ?ac_3 ?ac_4 ?ac_25 ?fi_3 ?fi_25 ?pa_3501 ?pa_3502 ?pa_3503 ?pd_3501 ?pd_3502 ?pd_3503 ?l1300 ?c1300 ?k1300 ?a7 ?l7 ?c7 ?k7 ?a8 ?l8 ?c8 ?k8 ?a14 ?l14 ?c14 ?k14 ?a15 ?l15 ?c15 ?k15 ?a16 ?l16 ?c16 ?k16 ?a17 ?l17 ?c17 ?k17 ?a18 ?l18 ?c18 ?k18 ?a19 ?l19 ?c19 ?k19 ?a20 ?l20 ?c20 ?k20 ?a21 ?l21 ?c21 ?k21 ?a22 ?l22 ?c22 ?k22 ?a23 ?l23 ?c23 ?k23 ?a24 ?l24 ?c24 ?k24 ?l3500 ?c3500 ?k3500 ?l3501 ?c3501 ?k3501 ?l3502 ?c3502 ?k3502 ?l3503 ?c3503 ?k3503 ?a27 ?l27 ?c27 ?k27 ?a28 ?l28 ?c28 ?k28 ?a29 ?l29 ?c29 ?k29 ?a30 ?l30 ?c30 ?k30 ?a31 ?l31 ?c31 ?k31 ?a32 ?l32 ?c32 ?k32 ?a33 ?l33 ?c33 ?k33 ?a34 ?l34 ?c34 ?k34 ?a35 ?l35 ?c35 ?k35 ?a36 ?l36 ?c36 ?k36 ?a37 ?l37 ?c37 ?k37 ?a38 ?l38 ?c38 ?k38 ?a39 ?l39 ?c39 ?k39 ?a40 ?l40 ?c40 ?k40 ?a41 ?l41 ?c41 ?k41 ?a42 ?l42 ?c42 ?k42 ?a43 ?l43 ?c43 ?k43 ?a44 ?l44 ?c44 ?k44 ?a45 ?l45 ?c45 ?k45 ?a46 ?l46 ?c46 ?k46 ?a47 ?l47 ?c47 ?k47 ?a48 ?l48 ?c48 ?k48 ?a49 ?l49 ?c49 ?k49 ?xl_2 ?xs_2 ?xe_2 ?xt_2 ?xk_2 ?ya_2 ?yg_2 ?yh_2 ?za_2 ?zn_2 ?zt_2 ?zm_2 ?xl_3 ?xs_3 ?xe_3 ?xt_3 ?xk_3 ?ya_3 ?yg_3 ?yh_3 ?za_3 ?zn_3 ?zt_3 ?zm_3 ?ty_3 ?na_3_part ?na_3_name ?xl_4 ?xs_4 ?xe_4 ?xt_4 ?xk_4 ?ya_4 ?yg_4 ?yh_4 ?za_4 ?zn_4 ?zt_4 ?zm_4 ?pg_25 ?hd_25 ?po_25 ?sa_25 ?mk_25 ?is_3500 ?kc_25 ?na_25__tables ?na_25__keys ?na_25__services ?es_3_2 ?es_3_4 ?es_3_ValueError ?es_3_3 ?pb_3501 ?pc_3501 ?pb_3502 ?pc_3502 ?pb_3503 ?pc_3503 ?z_ValueError ?z_abs ?z_all ?z_bool ?z_dict ?z_int ?z_isinstance ?z_len ?z_list ?z_range ?z_sorted ?z_str ?z_tuple ?v_LONGEST_WORD ?v_MOST_TABLES ?v_MOST_WIDTH ?v_MOST_SERVICES ?v_MOST_CAP
    (case ac_2 => k_is)
    (case ac_3 => k_is)
    (case ac_4 => k_is)
    (case ac_25 => k_is)
    (case fi_3 => k_is)
    (case fi_25 => k_is)
    (case pa_3501 => k_is)
    (case pa_3502 => k_is)
    (case pa_3503 => k_is)
    (case pd_3501 => k_is)
    (case pd_3502 => k_is)
    (case pd_3503 => k_is)
    (case l1300 => k_is)
    (case c1300 => k_is)
    (case k1300 => k_is)
    (case a7 => k_is)
    (case l7 => k_is)
    (case c7 => k_is)
    (case k7 => k_is)
    (case a8 => k_is)
    (case l8 => k_is)
    (case c8 => k_is)
    (case k8 => k_is)
    (case a14 => k_is)
    (case l14 => k_is)
    (case c14 => k_is)
    (case k14 => k_is)
    (case a15 => k_is)
    (case l15 => k_is)
    (case c15 => k_is)
    (case k15 => k_is)
    (case a16 => k_is)
    (case l16 => k_is)
    (case c16 => k_is)
    (case k16 => k_is)
    (case a17 => k_is)
    (case l17 => k_is)
    (case c17 => k_is)
    (case k17 => k_is)
    (case a18 => k_is)
    (case l18 => k_is)
    (case c18 => k_is)
    (case k18 => k_is)
    (case a19 => k_is)
    (case l19 => k_is)
    (case c19 => k_is)
    (case k19 => k_is)
    (case a20 => k_is)
    (case l20 => k_is)
    (case c20 => k_is)
    (case k20 => k_is)
    (case a21 => k_is)
    (case l21 => k_is)
    (case c21 => k_is)
    (case k21 => k_is)
    (case a22 => k_is)
    (case l22 => k_is)
    (case c22 => k_is)
    (case k22 => k_is)
    (case a23 => k_is)
    (case l23 => k_is)
    (case c23 => k_is)
    (case k23 => k_is)
    (case a24 => k_is)
    (case l24 => k_is)
    (case c24 => k_is)
    (case k24 => k_is)
    (case l3500 => k_is)
    (case c3500 => k_is)
    (case k3500 => k_is)
    (case l3501 => k_is)
    (case c3501 => k_is)
    (case k3501 => k_is)
    (case l3502 => k_is)
    (case c3502 => k_is)
    (case k3502 => k_is)
    (case l3503 => k_is)
    (case c3503 => k_is)
    (case k3503 => k_is)
    (case a27 => k_is)
    (case l27 => k_is)
    (case c27 => k_is)
    (case k27 => k_is)
    (case a28 => k_is)
    (case l28 => k_is)
    (case c28 => k_is)
    (case k28 => k_is)
    (case a29 => k_is)
    (case l29 => k_is)
    (case c29 => k_is)
    (case k29 => k_is)
    (case a30 => k_is)
    (case l30 => k_is)
    (case c30 => k_is)
    (case k30 => k_is)
    (case a31 => k_is)
    (case l31 => k_is)
    (case c31 => k_is)
    (case k31 => k_is)
    (case a32 => k_is)
    (case l32 => k_is)
    (case c32 => k_is)
    (case k32 => k_is)
    (case a33 => k_is)
    (case l33 => k_is)
    (case c33 => k_is)
    (case k33 => k_is)
    (case a34 => k_is)
    (case l34 => k_is)
    (case c34 => k_is)
    (case k34 => k_is)
    (case a35 => k_is)
    (case l35 => k_is)
    (case c35 => k_is)
    (case k35 => k_is)
    (case a36 => k_is)
    (case l36 => k_is)
    (case c36 => k_is)
    (case k36 => k_is)
    (case a37 => k_is)
    (case l37 => k_is)
    (case c37 => k_is)
    (case k37 => k_is)
    (case a38 => k_is)
    (case l38 => k_is)
    (case c38 => k_is)
    (case k38 => k_is)
    (case a39 => k_is)
    (case l39 => k_is)
    (case c39 => k_is)
    (case k39 => k_is)
    (case a40 => k_is)
    (case l40 => k_is)
    (case c40 => k_is)
    (case k40 => k_is)
    (case a41 => k_is)
    (case l41 => k_is)
    (case c41 => k_is)
    (case k41 => k_is)
    (case a42 => k_is)
    (case l42 => k_is)
    (case c42 => k_is)
    (case k42 => k_is)
    (case a43 => k_is)
    (case l43 => k_is)
    (case c43 => k_is)
    (case k43 => k_is)
    (case a44 => k_is)
    (case l44 => k_is)
    (case c44 => k_is)
    (case k44 => k_is)
    (case a45 => k_is)
    (case l45 => k_is)
    (case c45 => k_is)
    (case k45 => k_is)
    (case a46 => k_is)
    (case l46 => k_is)
    (case c46 => k_is)
    (case k46 => k_is)
    (case a47 => k_is)
    (case l47 => k_is)
    (case c47 => k_is)
    (case k47 => k_is)
    (case a48 => k_is)
    (case l48 => k_is)
    (case c48 => k_is)
    (case k48 => k_is)
    (case a49 => k_is)
    (case l49 => k_is)
    (case c49 => k_is)
    (case k49 => k_is)
    (case xl_2 => k_is)
    (case xs_2 => k_is)
    (case xe_2 => k_is)
    (case xt_2 => k_is)
    (case xk_2 => k_is)
    (case ya_2 => k_is)
    (case yg_2 => k_is)
    (case yh_2 => k_is)
    (case za_2 => k_is)
    (case zn_2 => k_is)
    (case zt_2 => k_is)
    (case zm_2 => k_is)
    (case xl_3 => k_is)
    (case xs_3 => k_is)
    (case xe_3 => k_is)
    (case xt_3 => k_is)
    (case xk_3 => k_is)
    (case ya_3 => k_is)
    (case yg_3 => k_is)
    (case yh_3 => k_is)
    (case za_3 => k_is)
    (case zn_3 => k_is)
    (case zt_3 => k_is)
    (case zm_3 => k_is)
    (case ty_3 => k_is)
    (case na_3_part => k_is)
    (case na_3_name => k_is)
    (case xl_4 => k_is)
    (case xs_4 => k_is)
    (case xe_4 => k_is)
    (case xt_4 => k_is)
    (case xk_4 => k_is)
    (case ya_4 => k_is)
    (case yg_4 => k_is)
    (case yh_4 => k_is)
    (case za_4 => k_is)
    (case zn_4 => k_is)
    (case zt_4 => k_is)
    (case zm_4 => k_is)
    (case pg_25 => k_is)
    (case hd_25 => k_is)
    (case po_25 => k_is)
    (case sa_25 => k_is)
    (case mk_25 => k_is)
    (case is_3500 => k_is)
    (case kc_25 => k_is)
    (case na_25__tables => k_is)
    (case na_25__keys => k_is)
    (case na_25__services => k_is)
    (case es_3_2 => first | rfl | k_is)
    (case es_3_4 => first | rfl | k_is)
    (case es_3_ValueError => first | rfl | k_is)
    (case es_3_3 => first | rfl | k_is)
    (case pb_3501 => k_is)
    (case pc_3501 => k_is)
    (case pb_3502 => k_is)
    (case pc_3502 => k_is)
    (case pb_3503 => k_is)
    (case pc_3503 => k_is)
    (case z_ValueError => k_is)
    (case z_abs => k_is)
    (case z_all => k_is)
    (case z_bool => k_is)
    (case z_dict => k_is)
    (case z_int => k_is)
    (case z_isinstance => k_is)
    (case z_len => k_is)
    (case z_list => k_is)
    (case z_range => k_is)
    (case z_sorted => k_is)
    (case z_str => k_is)
    (case z_tuple => k_is)
    (case v_LONGEST_WORD => k_is)
    (case v_MOST_TABLES => k_is)
    (case v_MOST_WIDTH => k_is)
    (case v_MOST_SERVICES => k_is)
    (case v_MOST_CAP => k_is)

