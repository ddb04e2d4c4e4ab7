import PyProof.Rows.All
import Wide.All
import OpenK.AllK
import Wide.FinOn
import HandS.ForMost
import HandS.IsInst
import HandS.Wide
import HandS.Evl
import HandS.DictComp
import HandS.Conv
import HandS.More
import HandS.Deep
import HandS.ForExc
import HandS.ExcInit
import HandS.ExcField
import HandS.ExcIs
import HandS.Property
import KE.KExcIs
import HandS.NoneIn
import HandS.DeepEq
import HandS.Finally
import PySem.Challenge.RW_cappedcalls_k03_schema_tells_its_parts
set_option Elab.async false
set_option linter.all false
set_option maxRecDepth 100000
set_option maxHeartbeats 4000000
namespace My
open PySem PySem.Spec PyProof.Rows L2
def topS (i : Nat) : Stmt := PySem.Challenge.pw_cappedcalls_k03_schema_tells_its_parts.main.body.getD i (.Pass ⟨0, 0, 0, 0⟩)
abbrev s_UnknownName___init__ : Stmt := inClass (topS 3) 0
theorem sc_UnknownName___init__ : FnScope ["self", "name"] ["self", "name"] (defScope s_UnknownName___init__) := ⟨rfl, rfl, rfl, by decide +kernel, rfl, by decide +kernel, by decide +kernel⟩
abbrev s_is_plain_int : Stmt := topS 7
theorem sc_is_plain_int : FnScope ["thing"] ["thing"] (defScope s_is_plain_int) := ⟨rfl, rfl, rfl, by decide +kernel, rfl, by decide +kernel, by decide +kernel⟩
abbrev s_is_word : Stmt := topS 8
theorem sc_is_word : FnScope ["thing", "letter"] ["thing"] (defScope s_is_word) := ⟨rfl, rfl, rfl, by decide +kernel, rfl, by decide +kernel, by decide +kernel⟩
abbrev s__is_count : Stmt := topS 14
theorem sc__is_count : FnScope ["thing", "most"] ["thing", "most"] (defScope s__is_count) := ⟨rfl, rfl, rfl, by decide +kernel, rfl, by decide +kernel, by decide +kernel⟩
abbrev s__is_name_in : Stmt := topS 15
theorem sc__is_name_in : FnScope ["thing", "names"] ["thing", "names"] (defScope s__is_name_in) := ⟨rfl, rfl, rfl, by decide +kernel, rfl, by decide +kernel, by decide +kernel⟩
abbrev s__are_columns : Stmt := topS 16
theorem sc__are_columns : FnScope ["thing", "width", "least", "column"] ["thing", "width"] (defScope s__are_columns) := ⟨rfl, rfl, rfl, by decide +kernel, rfl, by decide +kernel, by decide +kernel⟩
abbrev s__is_key : Stmt := topS 17
theorem sc__is_key : FnScope ["thing", "width"] ["thing", "width"] (defScope s__is_key) := ⟨rfl, rfl, rfl, by decide +kernel, rfl, by decide +kernel, by decide +kernel⟩
abbrev s__is_service : Stmt := topS 18
theorem sc__is_service : FnScope ["thing", "tables", "table", "given", "cap"] ["thing", "tables"] (defScope s__is_service) := ⟨rfl, rfl, rfl, by decide +kernel, rfl, by decide +kernel, by decide +kernel⟩
abbrev s__is_whole_service : Stmt := topS 19
theorem sc__is_whole_service : FnScope ["service", "tables", "keys", "table", "given", "cap", "column"] ["service", "tables", "keys"] (defScope s__is_whole_service) := ⟨rfl, rfl, rfl, by decide +kernel, rfl, by decide +kernel, by decide +kernel⟩
abbrev s__check_tables : Stmt := topS 20
theorem sc__check_tables : FnScope ["tables", "name"] ["tables"] (defScope s__check_tables) := ⟨rfl, rfl, rfl, by decide +kernel, rfl, by decide +kernel, by decide +kernel⟩
abbrev s__check_keys : Stmt := topS 21
theorem sc__check_keys : FnScope ["keys", "tables", "name"] ["keys", "tables"] (defScope s__check_keys) := ⟨rfl, rfl, rfl, by decide +kernel, rfl, by decide +kernel, by decide +kernel⟩
abbrev s__check_services : Stmt := topS 22
theorem sc__check_services : FnScope ["services", "tables", "name"] ["services", "tables"] (defScope s__check_services) := ⟨rfl, rfl, rfl, by decide +kernel, rfl, by decide +kernel, by decide +kernel⟩
abbrev s__check_capped : Stmt := topS 23
theorem sc__check_capped : FnScope ["services", "tables", "keys", "capped_tables", "name", "service"] ["services", "tables", "keys"] (defScope s__check_capped) := ⟨rfl, rfl, rfl, by decide +kernel, rfl, by decide +kernel, by decide +kernel⟩
abbrev s__copied : Stmt := topS 24
theorem sc__copied : FnScope ["things", "name"] ["things"] (defScope s__copied) := ⟨rfl, rfl, rfl, by decide +kernel, rfl, by decide +kernel, by decide +kernel⟩
abbrev s_Schema___init__ : Stmt := inClass (topS 25) 0
theorem sc_Schema___init__ : FnScope ["self", "tables", "keys", "services"] ["self", "tables", "keys", "services"] (defScope s_Schema___init__) := ⟨rfl, rfl, rfl, by decide +kernel, rfl, by decide +kernel, by decide +kernel⟩
abbrev s_Schema_tables : Stmt := inClass (topS 25) 1
theorem sc_Schema_tables : FnScope ["self"] ["self"] (defScope s_Schema_tables) := ⟨rfl, rfl, rfl, by decide +kernel, rfl, by decide +kernel, by decide +kernel⟩
abbrev s_Schema_key_columns : Stmt := inClass (topS 25) 2
theorem sc_Schema_key_columns : FnScope ["self"] ["self"] (defScope s_Schema_key_columns) := ⟨rfl, rfl, rfl, by decide +kernel, rfl, by decide +kernel, by decide +kernel⟩
abbrev s_Schema_services : Stmt := inClass (topS 25) 3
theorem sc_Schema_services : FnScope ["self"] ["self"] (defScope s_Schema_services) := ⟨rfl, rfl, rfl, by decide +kernel, rfl, by decide +kernel, by decide +kernel⟩
abbrev s_Schema_table_names : Stmt := inClass (topS 25) 5
theorem sc_Schema_table_names : FnScope ["self"] ["self"] (defScope s_Schema_table_names) := ⟨rfl, rfl, rfl, by decide +kernel, rfl, by decide +kernel, by decide +kernel⟩
abbrev s_Schema_service_names : Stmt := inClass (topS 25) 6
theorem sc_Schema_service_names : FnScope ["self"] ["self"] (defScope s_Schema_service_names) := ⟨rfl, rfl, rfl, by decide +kernel, rfl, by decide +kernel, by decide +kernel⟩
abbrev s_Schema_capped_names : Stmt := inClass (topS 25) 7
theorem sc_Schema_capped_names : FnScope ["self", "name"] ["self"] (defScope s_Schema_capped_names) := ⟨rfl, rfl, rfl, by decide +kernel, rfl, by decide +kernel, by decide +kernel⟩
abbrev s_Schema_width_of : Stmt := inClass (topS 25) 8
theorem sc_Schema_width_of : FnScope ["self", "table"] ["self", "table"] (defScope s_Schema_width_of) := ⟨rfl, rfl, rfl, by decide +kernel, rfl, by decide +kernel, by decide +kernel⟩
abbrev s_Schema_key_of : Stmt := inClass (topS 25) 9
theorem sc_Schema_key_of : FnScope ["self", "table"] ["self", "table"] (defScope s_Schema_key_of) := ⟨rfl, rfl, rfl, by decide +kernel, rfl, by decide +kernel, by decide +kernel⟩
abbrev s_Schema_service_of : Stmt := inClass (topS 25) 10
theorem sc_Schema_service_of : FnScope ["self", "name"] ["self", "name"] (defScope s_Schema_service_of) := ⟨rfl, rfl, rfl, by decide +kernel, rfl, by decide +kernel, by decide +kernel⟩
abbrev s_Schema_is_whole : Stmt := inClass (topS 25) 11
theorem sc_Schema_is_whole : FnScope ["self", "name"] ["self", "name"] (defScope s_Schema_is_whole) := ⟨rfl, rfl, rfl, by decide +kernel, rfl, by decide +kernel, by decide +kernel⟩
abbrev s__law_pool : Stmt := topS 27
theorem sc__law_pool : FnScope ["_law_script", "_law_cell"] ["_law_script"] (defScope s__law_pool) := ⟨rfl, rfl, rfl, by decide +kernel, rfl, by decide +kernel, by decide +kernel⟩
abbrev s__law_mixed : Stmt := topS 28
theorem sc__law_mixed : FnScope ["_law_seed", "_law_count", "_law_number"] ["_law_seed", "_law_count"] (defScope s__law_mixed) := ⟨rfl, rfl, rfl, by decide +kernel, rfl, by decide +kernel, by decide +kernel⟩
abbrev s__law_draw : Stmt := topS 29
theorem sc__law_draw : FnScope ["_law_pool_here", "_law_many", "_law_cell", "_law_found"] ["_law_pool_here", "_law_many"] (defScope s__law_draw) := ⟨rfl, rfl, rfl, by decide +kernel, rfl, by decide +kernel, by decide +kernel⟩
abbrev s__law_word : Stmt := topS 30
theorem sc__law_word : FnScope ["_law_pool_here", "_law_many", "_law_letters", "_law_word_here", "_law_k"] ["_law_pool_here", "_law_many"] (defScope s__law_word) := ⟨rfl, rfl, rfl, by decide +kernel, rfl, by decide +kernel, by decide +kernel⟩
abbrev s__law_names : Stmt := topS 31
theorem sc__law_names : FnScope ["_law_pool_here", "_law_many", "_law_letters", "_law_stem", "_law_first", "_law_step", "_law_front", "_law_found", "_law_k", "_law_sign"] ["_law_pool_here", "_law_many"] (defScope s__law_names) := ⟨rfl, rfl, rfl, by decide +kernel, rfl, by decide +kernel, by decide +kernel⟩
abbrev s__law_columns : Stmt := topS 32
theorem sc__law_columns : FnScope ["_law_pool_here", "_law_width", "_law_low", "_law_high", "_law_chosen", "_law_column"] ["_law_pool_here", "_law_width", "_law_low", "_law_high"] (defScope s__law_columns) := ⟨rfl, rfl, rfl, by decide +kernel, rfl, by decide +kernel, by decide +kernel⟩
abbrev s__law_tables : Stmt := topS 33
theorem sc__law_tables : FnScope ["_law_pool_here", "_law_many", "_law_widest", "_law_names_here", "_law_tables_here", "_law_name"] ["_law_pool_here", "_law_many", "_law_widest"] (defScope s__law_tables) := ⟨rfl, rfl, rfl, by decide +kernel, rfl, by decide +kernel, by decide +kernel⟩
abbrev s__law_keys : Stmt := topS 34
theorem sc__law_keys : FnScope ["_law_pool_here", "_law_tables_here", "_law_keys_here", "_law_name"] ["_law_pool_here", "_law_tables_here"] (defScope s__law_keys) := ⟨rfl, rfl, rfl, by decide +kernel, rfl, by decide +kernel, by decide +kernel⟩
abbrev s__law_is_whole : Stmt := topS 35
theorem sc__law_is_whole : FnScope ["_law_tables_here", "_law_keys_here", "_law_told", "_law_table", "_law_given", "_law_cap", "_law_column"] ["_law_tables_here", "_law_keys_here", "_law_told"] (defScope s__law_is_whole) := ⟨rfl, rfl, rfl, by decide +kernel, rfl, by decide +kernel, by decide +kernel⟩
abbrev s__law_services : Stmt := topS 36
theorem sc__law_services : FnScope ["_law_pool_here", "_law_tables_here", "_law_keys_here", "_law_caps", "_law_more", "_law_order", "_law_names_here", "_law_services_here", "_law_filled", "_law_k", "_law_table", "_law_cap", "_law_told"] ["_law_pool_here", "_law_tables_here", "_law_keys_here", "_law_caps", "_law_more"] (defScope s__law_services) := ⟨rfl, rfl, rfl, by decide +kernel, rfl, by decide +kernel, by decide +kernel⟩
abbrev s__law_asked : Stmt := topS 37
theorem sc__law_asked : FnScope ["_law_schema", "_law_name", "_law_which", "e"] ["_law_schema", "_law_name", "_law_which"] (defScope s__law_asked) := ⟨rfl, rfl, rfl, by decide +kernel, rfl, by decide +kernel, by decide +kernel⟩
abbrev s__law_due : Stmt := topS 38
theorem sc__law_due : FnScope ["_law_tables_here", "_law_keys_here", "_law_services_here", "_law_name", "_law_which"] ["_law_tables_here", "_law_keys_here", "_law_services_here", "_law_name", "_law_which"] (defScope s__law_due) := ⟨rfl, rfl, rfl, by decide +kernel, rfl, by decide +kernel, by decide +kernel⟩
abbrev s__law_holds : Stmt := topS 39
theorem sc__law_holds : FnScope ["_law_schema", "_law_tables_here", "_law_keys_here", "_law_services_here", "_law_others", "_law_due_here", "_law_name", "_law_which"] ["_law_schema", "_law_tables_here", "_law_keys_here", "_law_services_here", "_law_others"] (defScope s__law_holds) := ⟨rfl, rfl, rfl, by decide +kernel, rfl, by decide +kernel, by decide +kernel⟩
abbrev s_law : Stmt := topS 40
theorem sc_law : FnScope ["_law_script", "_law_pool_here", "_law_tables_here", "_law_keys_here", "_law_services_here", "_law_others", "_law_one", "_law_two", "_law_three", "_law_schema", "_law_told"] ["_law_script"] (defScope s_law) := ⟨rfl, rfl, rfl, by decide +kernel, rfl, by decide +kernel, by decide +kernel⟩
/-- what the top has written, as the walks ask for it -/
structure Txt (K : PySem.W.Frag) (mg : Str → Option Value) (a : Nat → Addr) (d : Nat → FuncData) : Prop where
  F1300 : Fun K "__init__" "UnknownName.__init__" s_UnknownName___init__ (a 1300) (d 1300)
  b1300 : Binds K (d 1300) ["self", "name"] []
  F7 : Fun K "is_plain_int" "is_plain_int" s_is_plain_int (a 7) (d 7)
  b7 : Binds K (d 7) ["thing"] []
  g7 : mg "is_plain_int" = some (.ref (a 7))
  F8 : Fun K "is_word" "is_word" s_is_word (a 8) (d 8)
  b8 : Binds K (d 8) ["thing"] []
  g8 : mg "is_word" = some (.ref (a 8))
  F14 : Fun K "_is_count" "_is_count" s__is_count (a 14) (d 14)
  b14 : Binds K (d 14) ["thing", "most"] []
  g14 : mg "_is_count" = some (.ref (a 14))
  F15 : Fun K "_is_name_in" "_is_name_in" s__is_name_in (a 15) (d 15)
  b15 : Binds K (d 15) ["thing", "names"] []
  g15 : mg "_is_name_in" = some (.ref (a 15))
  F16 : Fun K "_are_columns" "_are_columns" s__are_columns (a 16) (d 16)
  b16 : Binds K (d 16) ["thing", "width"] []
  g16 : mg "_are_columns" = some (.ref (a 16))
  F17 : Fun K "_is_key" "_is_key" s__is_key (a 17) (d 17)
  b17 : Binds K (d 17) ["thing", "width"] []
  g17 : mg "_is_key" = some (.ref (a 17))
  F18 : Fun K "_is_service" "_is_service" s__is_service (a 18) (d 18)
  b18 : Binds K (d 18) ["thing", "tables"] []
  g18 : mg "_is_service" = some (.ref (a 18))
  F19 : Fun K "_is_whole_service" "_is_whole_service" s__is_whole_service (a 19) (d 19)
  b19 : Binds K (d 19) ["service", "tables", "keys"] []
  g19 : mg "_is_whole_service" = some (.ref (a 19))
  F20 : Fun K "_check_tables" "_check_tables" s__check_tables (a 20) (d 20)
  b20 : Binds K (d 20) ["tables"] []
  g20 : mg "_check_tables" = some (.ref (a 20))
  F21 : Fun K "_check_keys" "_check_keys" s__check_keys (a 21) (d 21)
  b21 : Binds K (d 21) ["keys", "tables"] []
  g21 : mg "_check_keys" = some (.ref (a 21))
  F22 : Fun K "_check_services" "_check_services" s__check_services (a 22) (d 22)
  b22 : Binds K (d 22) ["services", "tables"] []
  g22 : mg "_check_services" = some (.ref (a 22))
  F23 : Fun K "_check_capped" "_check_capped" s__check_capped (a 23) (d 23)
  b23 : Binds K (d 23) ["services", "tables", "keys"] []
  g23 : mg "_check_capped" = some (.ref (a 23))
  F24 : Fun K "_copied" "_copied" s__copied (a 24) (d 24)
  b24 : Binds K (d 24) ["things"] []
  g24 : mg "_copied" = some (.ref (a 24))
  F3500 : Fun K "__init__" "Schema.__init__" s_Schema___init__ (a 3500) (d 3500)
  b3500 : Binds K (d 3500) ["self", "tables", "keys", "services"] []
  F3501 : Fun K "tables" "Schema.tables" s_Schema_tables (a 3501) (d 3501)
  b3501 : Binds K (d 3501) ["self"] []
  F3502 : Fun K "key_columns" "Schema.key_columns" s_Schema_key_columns (a 3502) (d 3502)
  b3502 : Binds K (d 3502) ["self"] []
  F3503 : Fun K "services" "Schema.services" s_Schema_services (a 3503) (d 3503)
  b3503 : Binds K (d 3503) ["self"] []
  F3505 : Fun K "table_names" "Schema.table_names" s_Schema_table_names (a 3505) (d 3505)
  b3505 : Binds K (d 3505) ["self"] []
  F3506 : Fun K "service_names" "Schema.service_names" s_Schema_service_names (a 3506) (d 3506)
  b3506 : Binds K (d 3506) ["self"] []
  F3507 : Fun K "capped_names" "Schema.capped_names" s_Schema_capped_names (a 3507) (d 3507)
  b3507 : Binds K (d 3507) ["self"] []
  F3508 : Fun K "width_of" "Schema.width_of" s_Schema_width_of (a 3508) (d 3508)
  b3508 : Binds K (d 3508) ["self", "table"] []
  F3509 : Fun K "key_of" "Schema.key_of" s_Schema_key_of (a 3509) (d 3509)
  b3509 : Binds K (d 3509) ["self", "table"] []
  F3510 : Fun K "service_of" "Schema.service_of" s_Schema_service_of (a 3510) (d 3510)
  b3510 : Binds K (d 3510) ["self", "name"] []
  F3511 : Fun K "is_whole" "Schema.is_whole" s_Schema_is_whole (a 3511) (d 3511)
  b3511 : Binds K (d 3511) ["self", "name"] []
  F27 : Fun K "_law_pool" "_law_pool" s__law_pool (a 27) (d 27)
  b27 : Binds K (d 27) ["_law_script"] []
  g27 : mg "_law_pool" = some (.ref (a 27))
  F28 : Fun K "_law_mixed" "_law_mixed" s__law_mixed (a 28) (d 28)
  b28 : Binds K (d 28) ["_law_seed", "_law_count"] []
  g28 : mg "_law_mixed" = some (.ref (a 28))
  F29 : Fun K "_law_draw" "_law_draw" s__law_draw (a 29) (d 29)
  b29 : Binds K (d 29) ["_law_pool_here", "_law_many"] []
  g29 : mg "_law_draw" = some (.ref (a 29))
  F30 : Fun K "_law_word" "_law_word" s__law_word (a 30) (d 30)
  b30 : Binds K (d 30) ["_law_pool_here", "_law_many"] []
  g30 : mg "_law_word" = some (.ref (a 30))
  F31 : Fun K "_law_names" "_law_names" s__law_names (a 31) (d 31)
  b31 : Binds K (d 31) ["_law_pool_here", "_law_many"] []
  g31 : mg "_law_names" = some (.ref (a 31))
  F32 : Fun K "_law_columns" "_law_columns" s__law_columns (a 32) (d 32)
  b32 : Binds K (d 32) ["_law_pool_here", "_law_width", "_law_low", "_law_high"] []
  g32 : mg "_law_columns" = some (.ref (a 32))
  F33 : Fun K "_law_tables" "_law_tables" s__law_tables (a 33) (d 33)
  b33 : Binds K (d 33) ["_law_pool_here", "_law_many", "_law_widest"] []
  g33 : mg "_law_tables" = some (.ref (a 33))
  F34 : Fun K "_law_keys" "_law_keys" s__law_keys (a 34) (d 34)
  b34 : Binds K (d 34) ["_law_pool_here", "_law_tables_here"] []
  g34 : mg "_law_keys" = some (.ref (a 34))
  F35 : Fun K "_law_is_whole" "_law_is_whole" s__law_is_whole (a 35) (d 35)
  b35 : Binds K (d 35) ["_law_tables_here", "_law_keys_here", "_law_told"] []
  g35 : mg "_law_is_whole" = some (.ref (a 35))
  F36 : Fun K "_law_services" "_law_services" s__law_services (a 36) (d 36)
  b36 : Binds K (d 36) ["_law_pool_here", "_law_tables_here", "_law_keys_here", "_law_caps", "_law_more"] []
  g36 : mg "_law_services" = some (.ref (a 36))
  F37 : Fun K "_law_asked" "_law_asked" s__law_asked (a 37) (d 37)
  b37 : Binds K (d 37) ["_law_schema", "_law_name", "_law_which"] []
  g37 : mg "_law_asked" = some (.ref (a 37))
  F38 : Fun K "_law_due" "_law_due" s__law_due (a 38) (d 38)
  b38 : Binds K (d 38) ["_law_tables_here", "_law_keys_here", "_law_services_here", "_law_name", "_law_which"] []
  g38 : mg "_law_due" = some (.ref (a 38))
  F39 : Fun K "_law_holds" "_law_holds" s__law_holds (a 39) (d 39)
  b39 : Binds K (d 39) ["_law_schema", "_law_tables_here", "_law_keys_here", "_law_services_here", "_law_others"] []
  g39 : mg "_law_holds" = some (.ref (a 39))
  F40 : Fun K "law" "law" s_law (a 40) (d 40)
  b40 : Binds K (d 40) ["_law_script"] []
  g40 : mg "law" = some (.ref (a 40))
  cg_2 : mg "CappedError" = some (.ref (a 2))
  x_2 : OexC K (a 2)
  xf_2 : XfC K (a 2)
  xi_2 : ExcC K (a 2)
  cg_3 : mg "UnknownName" = some (.ref (a 3))
  x_3 : OexC K (a 3)
  xf_3 : XfC K (a 3)
  xi_3 : ExcC K (a 3)
  in_3 : PySem.W.findIn K (.ref (a 3)) "__init__" = some (some (.ref (a 1300)))
  ti_3 : PySem.W.typeIn K (.ref (a 1300)) = some (.type "function")
  no_3_name : PySem.W.findIn K (.ref (a 3)) "name" = some none
  cg_25 : mg "Schema" = some (.ref (a 25))
  cl_25 : Cls K (a 25)
  M_25 : Mk K (a 25) (a 3500)
  no_25__tables : NoAttr K (a 25) "_tables"
  no_25__keys : NoAttr K (a 25) "_keys"
  no_25__services : NoAttr K (a 25) "_services"
  kit_3_2 : PySem.W.kitOne K (.ref (a 3)) (.ref (a 2)) = some true
  exm_3_3 : PySem.W.exmOne K (.ref (a 3)) (.ref (a 3)) = some true
  p_3501 : PropOf K (a 25) "tables" (a 53501) (a 3501)
  p_3502 : PropOf K (a 25) "key_columns" (a 53502) (a 3502)
  p_3503 : PropOf K (a 25) "services" (a 53503) (a 3503)
  m_3505 : Meth K (a 25) "table_names" (a 3505)
  m_3506 : Meth K (a 25) "service_names" (a 3506)
  m_3507 : Meth K (a 25) "capped_names" (a 3507)
  m_3508 : Meth K (a 25) "width_of" (a 3508)
  m_3509 : Meth K (a 25) "key_of" (a 3509)
  m_3510 : Meth K (a 25) "service_of" (a 3510)
  m_3511 : Meth K (a 25) "is_whole" (a 3511)
  z_abs : mg "abs" = none
  z_all : mg "all" = none
  z_bool : mg "bool" = none
  z_dict : mg "dict" = none
  z_int : mg "int" = none
  z_isinstance : mg "isinstance" = none
  z_len : mg "len" = none
  z_list : mg "list" = none
  z_range : mg "range" = none
  z_sorted : mg "sorted" = none
  z_str : mg "str" = none
  z_tuple : mg "tuple" = none
  c_LONGEST_WORD : ∃ t, mg "LONGEST_WORD" = some (.int (8) t)
  c_MOST_TABLES : ∃ t, mg "MOST_TABLES" = some (.int (5) t)
  c_MOST_WIDTH : ∃ t, mg "MOST_WIDTH" = some (.int (4) t)
  c_MOST_SERVICES : ∃ t, mg "MOST_SERVICES" = some (.int (8) t)
  c_MOST_CAP : ∃ t, mg "MOST_CAP" = some (.int (4) t)
end My
namespace L2
open PySem PySem.Spec PyProof.Rows
/-- a callee that may raise, called where it doesn't -/
theorem passN {X : Cx} {C : CXT} (h : C = L2.CX X.prog X.w) : Passes C X (fun _ _ _ => False) := by
  subst h
  exact passes_call (W := fun _ _ _ _ => False) takes0 (fun _ _ _ _ h => h)
section
variable {X : Cx} {CX : CXT} {k : Nat} {f C : Addr} {fd : FuncData} {ps : List Str} {sp : Sp} {E : St → XK} {x m : Str} {p pos apos : Pos} {e o : Expr} {es : List Expr} {ta : TE} {t : TA}
/-- o.m(e, ..), what it may raise told at the slots -/
def tMethX (C : Addr) (m : Str) (sp : Sp) (E : St → XK) (ta : TE) (t : TA) : TE := fun σ H Q => ta σ H fun x H1 => ∃ a dx fs, x = .ref a ∧ H1 a = some (.ins C dx fs) ∧ fs.lookup m = none ∧ t σ H1 fun vs H2 => sp (.ref a :: vs) H2 Q (E σ)
theorem pe_methX {pl : Sem Bool} (he : PE X o ta) (c : Cls X.K C) (hm : Meth X.K C m f) (F : FnOk X.prog X.w X.K X.mg X.base CX k f fd ps sp) (hr : Room k X.A) (hb : Binds X.K fd ps []) (hx : ∀ σ, PassesAt CX X σ (E σ)) (ha : PA X (e :: es) t)
    (hst : starEach (e :: es) X.env = (false, eval e X.env) :: starEach es X.env := by rfl) (hpl : (backTo pos (starEach es X.env)).any (·.1) = false := by rfl)
    (ht : eval (.Call (.Attribute o m apos) (e :: es) [] pos) X.env = (do
      let ov ← eval o X.env
      standAt apos.atName
      let (f, first) ← holding [ov] (getMethod ov m pl)
      callWith pos f first (backTo pos (starEach (e :: es) X.env)) (backToKw pos (keywordEach [] X.env))) := by rfl) :
    PE X (.Call (.Attribute o m apos) (e :: es) [] pos) (tMethX C m sp E ta t) := by
  refine ⟨fun pins s σ H Q I h => ?_⟩
  refine PySem.W.methodCall_KW (pl := pl) (thn (he.run pins s σ H _ I h) fun u s1 ⟨x, H1, I1, rx, a, dx, fs, ex, ea, l, q⟩ => ?_) ht
  subst ex
  obtain rfl : u = Value.ref a := rx
  refine getmeth_ok I1 ea c hm l ?_
  refine PySem.W.callWith_K (first := [.ref a]) (h₀ := X.base) I.ok.mod.kin hm.kp (thn (ha.run pos pins s1 σ H1 _ I1 q) fun us s2 ⟨vs, H2, I2, r, q2⟩ => ⟨I2.kIn, ?_⟩) hst hpl
  exact run_fnS (us := .ref a :: us) (vs := .ref a :: vs) F hr hb (hx σ) I2 (.cons rfl r) q2
theorem pe_methX0 {pl : Sem Bool} (he : PE X o ta) (c : Cls X.K C) (hm : Meth X.K C m f) (F : FnOk X.prog X.w X.K X.mg X.base CX k f fd ps sp) (hr : Room k X.A) (hb : Binds X.K fd ps []) (hx : ∀ σ, PassesAt CX X σ (E σ))
    (ht : eval (.Call (.Attribute o m apos) [] [] pos) X.env = (do
      let ov ← eval o X.env
      standAt apos.atName
      let (f, first) ← holding [ov] (getMethod ov m pl)
      callWith pos f first (backTo pos (starEach [] X.env)) (backToKw pos (keywordEach [] X.env))) := by rfl) :
    PE X (.Call (.Attribute o m apos) [] [] pos) (tMethX C m sp E ta tNil) := by
  refine ⟨fun pins s σ H Q I h => ?_⟩
  refine PySem.W.methodCall_KW (pl := pl) (thn (he.run pins s σ H _ I h) fun u s1 ⟨x, H1, I1, rx, a, dx, fs, ex, ea, l, q⟩ => ?_) ht
  subst ex
  obtain rfl : u = Value.ref a := rx
  refine getmeth_ok I1 ea c hm l ?_
  exact PySem.W.callWith_K0 (first := [.ref a]) I1.kIn hm.kp (run_fnS (us := [.ref a]) (vs := [.ref a]) F hr hb (hx σ) I1 (.cons rfl .nil) q)
/-- C(e, ..), what its __init__ may raise told at the slots -/
def tMakeX (C : Addr) (sp : Sp) (E : St → XK) (t : TA) : TE := fun σ H Q => t σ H fun vs H1 => ∀ x dx, H1 x = none → H1 dx = none → dx ≠ x →
  sp (.ref x :: vs) (upd (upd H1 dx (.own x)) x (.ins C dx [])) (fun v H2 => v = .non ∧ Q (.ref x) H2) (E σ)
theorem pe_makeX (M : Mk X.K C f) (F : FnOk X.prog X.w X.K X.mg X.base CX k f fd ps sp) (hr : Room (k + 1) X.A) (hg : Gl X x) (hm : X.mg x = some (.ref C)) (hb : Binds X.K fd ps []) (hx : ∀ σ, PassesAt CX X σ (E σ))
    (ha : PA X (e :: es) t) (hdb : (x == ("__debug__" : Str)) = false := by decide) (he : starEach (e :: es) X.env = (false, eval e X.env) :: starEach es X.env := by rfl) (hpl : (backTo pos (starEach es X.env)).any (·.1) = false := by rfl) :
    PE X (.Call (.Name x p) (e :: es) [] pos) (tMakeX C sp E t) := by
  refine ⟨fun pins s σ H Q I h => ?_⟩
  refine wpAny_Call_Name_kw (ld_glob I hg hm ?_ hdb)
  refine PySem.W.callWith_K (h₀ := X.base) I.ok.mod.kin M.kp (thn (ha.run pos pins s σ H _ I h) fun us s1 ⟨vs, H1, I1, r, q⟩ => ⟨I1.kIn, ?_⟩) he hpl
  have hq := q (s1.heap.objs.size + 1) s1.heap.objs.size (I1.hok.fresh (Nat.le_succ _)) (I1.hok.fresh (Nat.le_refl _)) (Nat.ne_of_lt (Nat.lt_succ_self _))
  have I2 := Inv.made (C := C) I1
  have r2 : Vals (V.ref (s1.heap.objs.size + 1) :: vs) (Value.ref (s1.heap.objs.size + 1) :: us) := .cons rfl r
  have hl : (Value.ref (s1.heap.objs.size + 1) :: us).length = ps.length := by
    have e := r2.length
    rw [F.len _ _ _ _ hq] at e
    exact e.symm
  have b := hb _ (Value.ref (s1.heap.objs.size + 1) :: us) I2.kIn (by rw [List.append_nil]; exact hl)
  rw [List.append_nil] at b
  refine wpAny_call (make_map (f := f) I1.kIn M.makes M.init (beq_iff_eq.mp M.fn) (codeAny_mono (F.run _ X.stack _ _ ⟨Value.ref (s1.heap.objs.size + 1) :: us, []⟩ (Value.ref (s1.heap.objs.size + 1) :: us) _ _ (E σ) (hr.make C us [])
    (I2.env0.make C us []) b r2 hq) fun r s' hq' => ?_))
  cases r with
  | error e => exact hx σ pins _ _ e s' I2 hq'
  | ok fl =>
    cases fl with
    | ret u =>
      obtain ⟨v, H', I3, rv, ev, q3⟩ := I2.after hq'
      subst ev
      exact ⟨rv, ⟨V.ref (s1.heap.objs.size + 1), H', I3, rfl, q3⟩⟩
    | next => exact False.elim hq'
    | brk => exact False.elim hq'
    | cont => exact False.elim hq'
end
/-- isinstance(e, c), e the exception that the suite holds, with a dict of its own -/
theorem call_isX {X : Cx} {a D : Addr} {cls : Value} {oe : Obj} {d : Option Addr} {pn : List (Addr × Obj)} (C : ExcC X.K D) (hz : Zc cls d oe) (hf : ∃ vs, oe.data = .fields vs) :
    CallR (X.suite a ((a, oe) :: pn)) (.builtin "isinstance") (fun xs H Q => ∃ (dd : Addr) (fs : List (Str × V)) (c : V) (cv : Value) (b : Bool), cls = .ref D ∧ d = some dd ∧ H dd = some (.xd fs) ∧ xs = [.ref a, c] ∧ (∀ u, RelV c u → u = cv) ∧ PySem.W.kitOne X.K (.ref D) cv = some b ∧ Q (.bl b) H) := by
  intro pins s σ H xs us Q I r h
  obtain ⟨dd, fs, c, cv, b, rfl, rfl, ed, rfl, hcv, e, q⟩ := h
  cases r with
  | cons rx rr =>
    cases rr with
    | cons rt rr =>
      cases rr
      cases rx
      have ec := hcv _ rt
      subst ec
      obtain ⟨hget, _⟩ := I.pin (a, oe) (List.mem_append.mpr (.inl List.mem_cons_self))
      obtain ⟨vs, hv⟩ := hf
      have hx : ObjOk X.prog X.w H s.heap dd (.xd fs) := I.hok dd _ ed
      obtain ⟨mA, hns, hr⟩ := hx
      obtain ⟨od, ho, hl⟩ := lookIn_ns hns
      have J : PySem.W.InstAt s.heap a oe D (some od) := ⟨hget, hz.1, by unfold PySem.W.notCls; rw [hv] <;> rfl, by rw [hz.2]; exact ho⟩
      have hcl : (PySem.W.clsIn X.K D).isSome = true := by
        obtain ⟨cdD, hcD, _⟩ := PySem.W.any_some C.hd
        rw [hcD]
        rfl
      exact PySem.W.kia_one (PySem.W.kitx_exc hcl C.hg C.hk C.hs C.ha C.hn C.ht C.hm) I.kIn J e (fun z => nomatch z) fun tk => ⟨.bl b, H, I.kept (t' := tk) fun _ _ z => z, rfl, q⟩
/-! ### two dicts that hold the same, things at addresses too -/
def sameB : V → Bool
  | .ref _ => true
  | v => flatB v
theorem eqAt_sameB {A : Around} {s : Shared} {v : V} {u u' : Value} (r : RelV v u) (r' : RelV v u') (f : sameB v = true) : SeqAt.EqAt A s u u' true := by
  cases v with
  | ref a =>
    cases (show u = Value.ref a from r)
    cases (show u' = Value.ref a from r')
    exact SeqAt.EqAt.same _
  | non => exact eqAt_same r r' f
  | bl b => exact eqAt_same r r' f
  | int i => exact eqAt_same r r' f
  | str x => exact eqAt_same r r' f
  | byt b => exact eqAt_same r r' f
  | flt x => exact eqAt_same r r' f
  | ty n => exact eqAt_same r r' f
theorem hits_allS {κ : Type} [DecidableEq κ] {A : Around} {s : Shared} {kvs : List (κ × V)} {vb : List (κ × Value)} (rb : KV kvs vb) {ks : List (κ × V)} {va : List (κ × Value)} (ra : KV ks va) :
    (∀ p ∈ ks, valV kvs p.1 = some p.2 ∧ sameB p.2 = true) → PySem.W.KeqHits A s vb va true := by
  unfold KV at ra
  induction ra with
  | nil => intro _; exact .nil
  | @cons p q ps qs h t ih =>
    intro hp
    obtain ⟨h1, h2⟩ := h
    obtain ⟨e, f⟩ := hp p List.mem_cons_self
    have rr : RelO (some p.2) (valueAt vb p.1) := by rw [← e]; exact rb.val p.1
    obtain ⟨y, hy, ry⟩ := rr.some_of
    obtain ⟨k, v⟩ := q
    have h1' : p.1 = k := h1
    rw [h1'] at hy
    show PySem.W.KeqHits A s vb ((k, v) :: qs) (true && true)
    exact .hit hy (eqAt_sameB h2 ry f) (ih fun p' hm => hp p' (List.mem_cons_of_mem _ hm))
def rNeS : R2 := fun x y H Q => ∃ a b ks ls, x = .ref a ∧ y = .ref b ∧ H a = some (.dK ks) ∧ H b = some (.dK ls) ∧ ks.length = ls.length ∧ (∀ p ∈ ks, valV ls p.1 = some p.2 ∧ sameB p.2 = true) ∧ Q (.bl false) H
theorem op_neS {X : Cx} (hu : X.A.units + 1 < cLine) : OpR X (compareOp .NotEq) rNeS := by
  intro pins s σ H x y v u Q I rx ry h
  obtain ⟨a, b, ks, ls, rfl, rfl, ea, eb, hlen, hp, q⟩ := h
  obtain rfl : v = Value.ref a := rx
  obtain rfl : u = Value.ref b := ry
  obtain ⟨_, ya, va, ra, da⟩ := (show ObjOk X.prog X.w H s.heap a (.dK ks) from I.hok a _ ea)
  obtain ⟨_, yb, vb, rb, db⟩ := (show ObjOk X.prog X.w H s.heap b (.dK ls) from I.hok b _ eb)
  have hl : va.length = vb.length := by rw [← ra.length, ← rb.length]; exact hlen
  exact PySem.W.keq_ne (knd := mixKind X.prog X.w) (r := true) ya yb da db (by omega) (fun _ => hits_allS rb ra hp) (fin_bl I q (by simp [hl]))
def rEqS : R2 := fun x y H Q => ∃ a b ks ls, x = .ref a ∧ y = .ref b ∧ H a = some (.dK ks) ∧ H b = some (.dK ls) ∧ ks.length = ls.length ∧ (∀ p ∈ ks, valV ls p.1 = some p.2 ∧ sameB p.2 = true) ∧ Q (.bl true) H
theorem op_eqSX {X : Cx} (hu : X.A.units + 1 < cLine) : OpR X (compareOp .Eq) rEqS := by
  intro pins s σ H x y v u Q I rx ry h
  obtain ⟨a, b, ks, ls, rfl, rfl, ea, eb, hlen, hp, q⟩ := h
  obtain rfl : v = Value.ref a := rx
  obtain rfl : u = Value.ref b := ry
  obtain ⟨_, ya, va, ra, da⟩ := (show ObjOk X.prog X.w H s.heap a (.dK ks) from I.hok a _ ea)
  obtain ⟨_, yb, vb, rb, db⟩ := (show ObjOk X.prog X.w H s.heap b (.dK ls) from I.hok b _ eb)
  have hl : va.length = vb.length := by rw [← ra.length, ← rb.length]; exact hlen
  exact PySem.W.keq_eq (knd := mixKind X.prog X.w) (r := true) ya yb da db (by omega) (fun _ => hits_allS rb ra hp) (fin_bl I q (by simp [hl]))
theorem kit_self {K : PySem.W.Frag} (x : Addr) : PySem.W.kitOne K (.ref x) (.ref x) = some true := by
  show (if (Value.ref x == Value.ref x) = true then some true else _) = some true
  rw [if_pos (by simp)]
theorem kit_ref {K : PySem.W.Frag} {x y : Addr} (hdct : PySem.W.hasDictIn K y = true) (ht : PySem.W.typeIn K (.ref y) = some (.type "type")) (h4 : PySem.W.subIn K (.ref x) (.ref y) = some true) : PySem.W.kitOne K (.ref x) (.ref y) = some true := by
  obtain ⟨cd, hc, _⟩ := PySem.W.any_some hdct
  have e2 : ((PySem.W.clsIn K y).isSome && PySem.W.typeIn K (.ref y) == some (.type "type")) = true := by rw [hc, ht] <;> rfl
  show (if (Value.ref x == Value.ref y) = true then some true else if ((PySem.W.clsIn K y).isSome && PySem.W.typeIn K (.ref y) == some (.type "type")) = true then PySem.W.subIn K (.ref x) (.ref y) else none) = some true
  rw [if_pos e2, h4]
  split <;> rfl
/-! ### two dicts compared whose values are data: True or False -/
def eqT (D : V → PyData) (ks ls : List (Key × V)) : Bool := (ks.length == ls.length) && ks.all fun p => match valV ls p.1 with
  | none => false
  | some v => PyData.eqv (D p.2) (D v)
theorem hits_data {X : Cx} {pins : List (Addr × Obj)} {σ : St} {H : Hp} {s : Shared} {A : Around} (I : Inv X pins σ H s) (hu : A.units + 65 < cLine) (D : V → PyData) {ls : List (Key × V)} {vb : List (Key × Value)} (rb : KV ls vb) (hb : ∀ p ∈ ls, Dp X.K H p.2 (D p.2) ∧ SeqAt.shaped (D p.2) = true) {ks : List (Key × V)} {va : List (Key × Value)} (ra : KV ks va) :
    (∀ p ∈ ks, Dp X.K H p.2 (D p.2) ∧ SeqAt.shaped (D p.2) = true) → PySem.W.KeqHits A.in1 s vb va (ks.all fun p => match valV ls p.1 with
      | none => false
      | some v => PyData.eqv (D p.2) (D v)) := by
  unfold KV at ra
  induction ra with
  | nil => intro _; exact .nil
  | @cons p q ps qs h t ih =>
    intro hp
    obtain ⟨h1, h2⟩ := h
    obtain ⟨k, v⟩ := q
    have h1' : p.1 = k := h1
    have rr := rb.val p.1
    have ih' := ih fun p' hm => hp p' (List.mem_cons_of_mem _ hm)
    rw [List.all_cons]
    cases e : valV ls p.1 with
    | none =>
      rw [e] at rr
      have hn : valueAt vb p.1 = none := by
        cases e2 : valueAt vb p.1 with
        | none => rfl
        | some _ => rw [e2] at rr; exact (show False from rr).elim
      rw [h1'] at hn
      exact .miss hn
    | some y =>
      rw [e] at rr
      obtain ⟨u, hy, ry⟩ := rr.some_of
      rw [h1'] at hy
      have hy2 : ∃ q ∈ ls, q.2 = y := by
        unfold valV at e
        cases e3 : ls.find? fun kv => decide (kv.1 = p.1) with
        | none => rw [e3] at e; cases e
        | some q => rw [e3] at e; exact ⟨q, List.mem_of_find?_eq_some e3, Option.some.inj e⟩
      obtain ⟨q, hq, rfl⟩ := hy2
      obtain ⟨as, r1⟩ := Dp.reads I _ _ _ (hp p List.mem_cons_self).1 h2
      obtain ⟨bs, r2⟩ := Dp.reads I _ _ _ (hb q hq).1 ry
      exact .hit hy (PySem.W.keq_at r1 r2 (hp p List.mem_cons_self).2 (hb q hq).2 (by show A.units + 1 + 64 < cLine; omega)) ih'
def rEqT (K : PySem.W.Frag) (neg : Bool) : R2 := fun x y H Q => ∃ (a b : Addr) (ks ls : List (Key × V)) (D : V → PyData), x = .ref a ∧ y = .ref b ∧ H a = some (.dK ks) ∧ H b = some (.dK ls) ∧ (∀ p ∈ ks, Dp K H p.2 (D p.2) ∧ SeqAt.shaped (D p.2) = true) ∧ (∀ p ∈ ls, Dp K H p.2 (D p.2) ∧ SeqAt.shaped (D p.2) = true) ∧ Q (.bl (if neg then !eqT D ks ls else eqT D ks ls)) H
theorem op_eqT {X : Cx} (hu : X.A.units + 65 < cLine) : OpR X (compareOp .Eq) (rEqT X.K false) := by
  intro pins s σ H x y v u Q I rx ry h
  obtain ⟨a, b, ks, ls, D, rfl, rfl, ea, eb, ha, hb, q⟩ := h
  obtain rfl : v = Value.ref a := rx
  obtain rfl : u = Value.ref b := ry
  obtain ⟨_, ya, va, ra, da⟩ := (show ObjOk X.prog X.w H s.heap a (.dK ks) from I.hok a _ ea)
  obtain ⟨_, yb, vb, rb, db⟩ := (show ObjOk X.prog X.w H s.heap b (.dK ls) from I.hok b _ eb)
  refine PySem.W.keq_eq (knd := mixKind X.prog X.w) ya yb da db (by omega) (fun _ => hits_data I hu D rb hb ra ha) (fin_bl I q ?_)
  unfold eqT
  rw [ra.length, rb.length]
  rfl
theorem op_neT {X : Cx} (hu : X.A.units + 65 < cLine) : OpR X (compareOp .NotEq) (rEqT X.K true) := by
  intro pins s σ H x y v u Q I rx ry h
  obtain ⟨a, b, ks, ls, D, rfl, rfl, ea, eb, ha, hb, q⟩ := h
  obtain rfl : v = Value.ref a := rx
  obtain rfl : u = Value.ref b := ry
  obtain ⟨_, ya, va, ra, da⟩ := (show ObjOk X.prog X.w H s.heap a (.dK ks) from I.hok a _ ea)
  obtain ⟨_, yb, vb, rb, db⟩ := (show ObjOk X.prog X.w H s.heap b (.dK ls) from I.hok b _ eb)
  refine PySem.W.keq_ne (knd := mixKind X.prog X.w) ya yb da db (by omega) (fun _ => hits_data I hu D rb hb ra ha) (fin_bl I q ?_)
  unfold eqT
  rw [ra.length, rb.length]
  rfl
/-! ### == of two objects of an own class by the class's own def, whatever it tells -/
def rEqO (C : Addr) (sp : Sp) (E : XK) : R2 := fun x y H Q => ∃ (a b dx dy : Addr) (fs gs : List (Str × V)), x = .ref a ∧ y = .ref b ∧ H a = some (.ins C dx fs) ∧ H b = some (.ins C dy gs) ∧ sp [.ref a, .ref b] H (fun v H' => ∃ c, v = .bl c ∧ Q (.bl c) H') E
theorem op_eqO {X : Cx} {CX : CXT} {n : Nat} {C f : Addr} {fd : FuncData} {ps : List Str} {sp : Sp} {E : XK} (F : FnOk X.prog X.w X.K X.mg X.base CX n f fd ps sp) (hrm : Room n X.A)
    (hs : PySem.W.findIn X.K (.ref C) "__eq__" = some (some (.ref f))) (hf : PySem.W.isFn X.K (.ref f) = true) (hb : Binds X.K fd ps []) (hx : Passes CX X E) : OpR X (compareOp .Eq) (rEqO C sp E) := by
  intro pins s σ H x y v u Q I rx ry h
  obtain ⟨a, b, dx, dy, fs, gs, rfl, rfl, ha, hb', hsp⟩ := h
  cases (show v = Value.ref a from rx)
  cases (show u = Value.ref b from ry)
  obtain ⟨mA, J, _⟩ := ins_get I.hok ha
  obtain ⟨mB, J', _⟩ := ins_get I.hok hb'
  obtain ⟨od, J, _⟩ := J.look
  obtain ⟨od', J', _⟩ := J'.look
  obtain ⟨m, hF⟩ := I.fr
  refine PySem.W.cmp_K (op := .Eq) (tb := .ref C) hrm.units0 hF I.ok.mod.kin J J'.type (by simp [PySem.W.notFirst]) hs hf ?_
  refine wpAny_mono (run_fn (us := [.ref a, .ref b]) (vs := [.ref a, .ref b]) (dvs := []) (ds := []) F hrm hb .nil hx I (.cons rfl (.cons rfl .nil)) hsp) (fun r s' q => ?_) fun _ _ z => z
  obtain ⟨w, H', I', rw', c, ew, q⟩ := q
  subst ew
  cases rw'
  exact ⟨.bl c, H', I', rfl, q⟩
end L2
namespace My
open PySem PySem.Spec PyProof.Rows L2
local macro_rules | `(tactic| walk_at "g") => `(tactic| first
  | refine ⟨_, rfl, ?_⟩
  | refine ⟨_, _, rfl, rfl, .inl ⟨by decide, by decide⟩, ?_⟩
  | refine ⟨_, _, rfl, rfl, .inr ⟨by decide, by decide⟩, ?_⟩
  | refine ⟨_, _, rfl, rfl, .inl ⟨by omega, by omega⟩, ?_⟩
  | refine ⟨_, _, rfl, rfl, ⟨by decide, by decide +kernel⟩, ?_⟩
  | refine ⟨_, _, rfl, rfl, ⟨by decide, by decide, by decide⟩, ?_⟩
  | refine ⟨_, _, rfl, rfl, (by show (0 : Int) < _; decide), ?_⟩
  | refine ⟨_, _, rfl, rfl, ?_⟩
  | refine .inl ⟨_, rfl, ?_⟩
  | refine ⟨rfl, _, rfl, ?_⟩)
local macro_rules | `(tactic| walk_at "gg") => `(tactic| repeat walk_at "g")
/-! ### the pool of draws: a list of ints at an address that every draw changes -/
def PoolAt (H : Hp) (a : Addr) : Prop := ∃ (p0 p1 p2 p3 : Int) (r : List Int), H a = some (.lst (.int p0 :: .int p1 :: .int p2 :: .int p3 :: r.map V.int)) ∧ 0 ≤ p0 ∧ 0 ≤ p1 ∧ 0 ≤ p2 ∧ p2 < 2147483647 ∧ 0 ≤ p3 ∧ r.length ≤ 63
/-- the pool at a may have changed; all else that was tracked stands -/
def Chg (a : Addr) (H H' : Hp) : Prop := PoolAt H' a ∧ ∀ b o, b ≠ a → H b = some o → H' b = some o
theorem Chg.refl {a : Addr} {H : Hp} (h : PoolAt H a) : Chg a H H := ⟨h, fun _ _ _ e => e⟩
theorem Chg.trans {a : Addr} {H H1 H2 : Hp} (x : Chg a H H1) (y : Chg a H1 H2) : Chg a H H2 := ⟨y.1, fun b o n e => y.2 b o n (x.2 b o n e)⟩
theorem Chg.new {a p : Addr} {o : HO} {H H1 : Hp} (x : Chg a H H1) (h : H1 p = none) : Chg a H (upd H1 p o) := by
  obtain ⟨⟨p0, p1, p2, p3, r, e, c⟩, k⟩ := x
  have n : a ≠ p := ne_of_none e h
  exact ⟨⟨p0, p1, p2, p3, r, by rw [upd_ne n]; exact e, c⟩, fun b u nb q => by
    have q' := k b u nb q
    rw [upd_ne (ne_of_none q' h)]
    exact q'⟩
theorem Chg.mut {a p : Addr} {o : HO} {H H1 : Hp} (x : Chg a H H1) (h : H p = none) (n : p ≠ a) : Chg a H (upd H1 p o) := by
  obtain ⟨⟨p0, p1, p2, p3, r, e, c⟩, k⟩ := x
  exact ⟨⟨p0, p1, p2, p3, r, by rw [upd_ne n.symm]; exact e, c⟩, fun b u nb q => by
    rw [upd_ne (ne_of_none q h)]
    exact k b u nb q⟩
theorem Chg.ne {a p : Addr} {H : Hp} (x : PoolAt H a) (h : H p = none) : p ≠ a := by
  obtain ⟨p0, p1, p2, p3, r, e, c⟩ := x
  exact (ne_of_none e h).symm
theorem PoolAt.same {a : Addr} {H H' : Hp} (x : PoolAt H a) (s : Same H H') : PoolAt H' a := by
  obtain ⟨p0, p1, p2, p3, r, e, c⟩ := x
  exact ⟨p0, p1, p2, p3, r, s _ _ e, c⟩
theorem same_upd {H : Hp} {p : Addr} {o : HO} (h : H p = none) : Same H (upd H p o) := fun b x e => by
  rw [upd_ne (ne_of_none e h)]
  exact e
theorem Same.on {H H' : Hp} {b : Addr} {o : HO} (s : Same H H') (e : H b = some o) : H' b = some o := s _ _ e
theorem upd_old {H : Hp} {p b : Addr} {o u : HO} (h : H p = none) (e : H b = some u) : upd H p o b = some u := by
  rw [upd_ne (ne_of_none e h)]
  exact e
theorem upd_oldN {H : Hp} {p b : Addr} {o u : HO} (n : b ≠ p) (e : H b = some u) : upd H p o b = some u := by
  rw [upd_ne n]
  exact e
theorem free_of {a p : Addr} {H H1 : Hp} (x : Chg a H H1) (h0 : PoolAt H a) (h : H1 p = none) : H p = none := by
  cases e : H p with
  | none => rfl
  | some o =>
    by_cases n : p = a
    · subst n
      obtain ⟨⟨p0, p1, p2, p3, r, e, c⟩, _⟩ := x
      rw [e] at h
      cases h
    · rw [x.2 p o n e] at h
      cases h
theorem ixN_at {n j : Nat} (h : j < n) : ixN n (j : Int) = some j := by
  unfold ixN
  rw [if_pos (by omega), if_pos (by omega)]
  simp
theorem ite_d {p A B : Prop} [Decidable p] (h1 : p → A) (h2 : ¬ p → B) : if decide p = true then A else B := by
  by_cases h : p
  · rw [if_pos (decide_eq_true h)]
    exact h1 h
  · rw [if_neg (by rw [decide_eq_false h]; decide)]
    exact h2 h
theorem ite_nd {p A B : Prop} [Decidable p] (h1 : ¬ p → A) (h2 : p → B) : if (!decide p) = true then A else B := by
  by_cases h : p
  · rw [if_neg (by rw [decide_eq_true h]; decide)]
    exact h2 h
  · rw [if_pos (by rw [decide_eq_false h]; decide)]
    exact h1 h
theorem ite_eqI {i j : Int} {A B : Prop} (h1 : i = j → A) (h2 : i ≠ j → B) : if decide (V.int i = V.int j) = true then A else B := ite_d (fun h => h1 (V.int.inj h)) (fun h => h2 fun e => h (congrArg V.int e))
theorem int_at {q0 q1 q2 q3 : Int} {r : List Int} {i : Nat} (h : i < (V.int q0 :: .int q1 :: .int q2 :: .int q3 :: r.map V.int).length) : ∃ c, (V.int q0 :: .int q1 :: .int q2 :: .int q3 :: r.map V.int)[i]? = some (.int c) := by
  have e : (V.int q0 :: .int q1 :: .int q2 :: .int q3 :: r.map V.int) = (q0 :: q1 :: q2 :: q3 :: r).map V.int := rfl
  rw [e] at h ⊢
  rw [List.length_map] at h
  exact ⟨_, by rw [List.getElem?_map, List.getElem?_eq_getElem h]; rfl⟩
theorem map_at {α β : Type} {f : α → β} {xs : List α} {i : Nat} {y : β} (h : (xs.map f)[i]? = some y) : ∃ x, xs[i]? = some x ∧ f x = y := by
  rw [List.getElem?_map] at h
  cases e : xs[i]? with
  | none =>
    rw [e] at h
    cases h
  | some x =>
    rw [e] at h
    exact ⟨x, rfl, Option.some.inj h⟩
theorem map_take {α β : Type} {f : α → β} {xs : List α} {i : Nat} {x : α} (h : xs[i]? = some x) : (xs.take (i + 1)).map f = (xs.take i).map f ++ [f x] := by
  rw [List.take_add_one, h, List.map_append]
  rfl
theorem small1000' {n : Nat} (h : n ≤ 1000) : n ≤ sizeLine := Nat.le_of_lt (small1000 h)
theorem hu_of64 {A : Around} {k : Nat} (hr : Room k A) : A.units + 64 < cLine := Nat.lt_of_le_of_lt (Nat.add_le_add_left (by omega : 64 ≤ 16 * k + 200) _) (by have := hr.un; omega)
theorem hu_of65 {A : Around} {k : Nat} (hr : Room k A) : A.units + 65 < cLine := Nat.lt_of_le_of_lt (Nat.add_le_add_left (by omega : 65 ≤ 16 * k + 200) _) (by have := hr.un; omega)
theorem at_g {α : Type} {xs : List α} {z : Int} {j : Nat} {v : α} (e : z = (j : Int)) (h : xs[j]? = some v) : atI xs z = some v := by
  rw [e]
  exact atI_nat h
theorem at_some {α : Type} {xs : List α} {z : Int} (h0 : 0 ≤ z) (h1 : z < xs.length) : ∃ v, atI xs z = some v := by
  have h2 : z.toNat < xs.length := by omega
  exact ⟨_, at_g (show z = ((z.toNat : Nat) : Int) by omega) (List.getElem?_eq_getElem h2)⟩
theorem atI_mem {α : Type} {xs : List α} {z : Int} {v : α} (h : atI xs z = some v) : v ∈ xs := by
  unfold atI at h
  cases e : ixN xs.length z with
  | none =>
    rw [e] at h
    cases h
  | some j =>
    rw [e] at h
    exact List.mem_of_getElem? h
theorem cutS_mem {z : Str} {lo hi : Option Int} {c : Nat} (h : c ∈ (cutS z lo hi).cps.toList) : c ∈ z.cps.toList := by
  unfold cutS at h
  exact List.mem_of_mem_drop (List.mem_of_mem_take h)
theorem letter_at : ∀ j : Nat, j < 26 → ("abcdefghijklmnopqrstuvwxyz" : Str).cps.toList[j]? = some (97 + j) := by decide +kernel
section
variable {P : Program} {w : World} {K : PySem.W.Frag} {mg : Str → Option Value} {base : Heap} {a : Nat → Addr} {d : Nat → FuncData}
/-! ### _law_mixed: some int -/
def spMixed : Sp := fun vs H Q _ => ∃ (s c : Int), vs = [.int s, .int c] ∧ ∀ r : Int, Q (.int r) H
theorem ok_mixed (T : Txt K mg a d) : FnOk P w K mg base CX0 1 (a 28) (d 28) ["_law_seed", "_law_count"] spMixed := by
  refine T.F28.ok sc__law_mixed (fun vs H Q E h => ?_) (fun cdv A outer s H vs Q E hr h => ?_)
  · obtain ⟨s, c, rfl, _⟩ := h
    rfl
  · obtain ⟨s, c, rfl, q⟩ := h
    refine ⟨_, (pss_cons (ps_set (i := 2) sc__law_mixed.nd rfl (.inl rfl) (pe_op op_mod (pe_callTy (T := "int")  call_int1 (by rfl) T.z_int (by decide +kernel) (pa_cons (pe_op op_mul (pe_op op_add (pe_op op_add (pv 0) (pe_op op_mul pe_int (pv 1))) pe_int) pe_int) pa_nil)) pe_int))
  (pss_cons (ps_set (i := 2) sc__law_mixed.nd rfl (.inl rfl) (pe_op op_mod (pe_callTy (T := "int")  call_int1 (by rfl) T.z_int (by decide +kernel) (pa_cons (pe_op op_mul (pv 2) (pe_op op_add (pe_op op_fdivW (pv 2) pe_int) pe_int)) pa_nil)) pe_int))
  (pss_one (ps_ret (pe_op op_mod (pe_callTy (T := "int")  call_int1 (by rfl) T.z_int (by decide +kernel) (pa_cons (pe_op op_mul (pv 2) (pe_op op_add (pe_op op_fdivW (pv 2) pe_int) pe_int)) pa_nil)) pe_int))))), ?_⟩
    walk_at "gg"
    exact q _
/-! ### _law_draw: an int from 0 below many -/
def spDraw : Sp := fun vs H Q _ => ∃ (p : Addr) (m : Int), vs = [.ref p, .int m] ∧ PoolAt H p ∧ 0 < m ∧ m.natAbs < 2 ^ 200 ∧ ∀ (r : Int) (H' : Hp), 0 ≤ r → r < m → Chg p H H' → Q (.int r) H'
def Oth (a : Addr) (H H' : Hp) : Prop := ∀ b o, b ≠ a → H b = some o → H' b = some o
theorem Oth.refl (a : Addr) (H : Hp) : Oth a H H := fun _ _ _ e => e
theorem Oth.upd {a : Addr} {H H' : Hp} {o : HO} (x : Oth a H H') : Oth a H (upd H' a o) := fun b u n e => by
  rw [upd_ne n]
  exact x b u n e
theorem chg_of {p : Addr} {H H' : Hp} {p0 p1 p2 p3 : Int} {r : List Int} (e : H' p = some (.lst (.int p0 :: .int p1 :: .int p2 :: .int p3 :: r.map V.int))) (o : Oth p H H')
    (h0 : 0 ≤ p0) (h1 : 0 ≤ p1) (h2 : 0 ≤ p2) (h3 : p2 < 2147483647) (h4 : 0 ≤ p3) (h5 : r.length ≤ 63) : Chg p H H' := ⟨⟨p0, p1, p2, p3, r, e, h0, h1, h2, h3, h4, h5⟩, o⟩
theorem ok_draw (T : Txt K mg a d) : FnOk P w K mg base CX0 2 (a 29) (d 29) ["_law_pool_here", "_law_many"] spDraw := by
  have G28 : FnOk P w K mg base CX0 1 (a 28) (d 28) ["_law_seed", "_law_count"] spMixed := ok_mixed T
  refine T.F29.ok sc__law_draw (fun vs H Q E h => ?_) (fun cdv A outer s H vs Q E hr h => ?_)
  · obtain ⟨p, m, rfl, _⟩ := h
    rfl
  · obtain ⟨p, m, rfl, ⟨p0, p1, p2, p3, r, e, c0, c1, c2, c3, c4, c5⟩, hm, hm2, q⟩ := h
    refine ⟨_, (pss_cons (ps_asg (pe_op op_add (pe_ix ix_list (pv 0) pe_int (fun _ _ => rfl)) pe_int) (pg_sub (pv 0) pe_int set_list))
  (Evl.pss_cut (ps_if (PW.pt (pw_and (pt_cmpR op_eq (pe_ix ix_list (pv 0) pe_int (fun _ _ => rfl)) pe_int (nomark _)) (pw_and1 (pt_cmpR op_lt (pe_ix ix_list (pv 0) pe_int (fun _ _ => rfl)) (pe_callB (id := "len")  call_len_seq (by rfl) T.z_len (by decide +kernel) (pa_cons (pv 0) pa_nil)) (nomark _)))))
    (pss_cons (ps_set (i := 2) sc__law_draw.nd rfl (.inl rfl) (pe_callB (id := "abs")  call_abs (by rfl) T.z_abs (by decide +kernel) (pa_cons (pe_ix ix_list (pv 0) (pe_ix ix_list (pv 0) pe_int (fun _ _ => rfl)) (fun _ _ => rfl)) pa_nil)))
      (pss_cons (ps_asg (pe_op op_add (pe_ix ix_list (pv 0) pe_int (fun _ _ => rfl)) pe_int) (pg_sub (pv 0) pe_int set_list))
      (pss_one (ps_if (pt_cmpR op_lt (pv 2) (pe_op op_pow pe_int pe_int) (nomark _))
        (pss_one (ps_asg (pe_op op_mod (pe_callTy (T := "int")  call_int1 (by rfl) T.z_int (by decide +kernel) (pa_cons (pe_op op_add (pe_op op_add (pe_op op_mul (pe_ix ix_list (pv 0) pe_int (fun _ _ => rfl)) pe_int) (pv 2)) pe_int) pa_nil)) pe_int) (pg_sub (pv 0) pe_int set_list)))
        (pss_one (ps_asg (pv 2) (pg_sub (pv 0) pe_int set_list)))))))
    pss_nil)
  (pss_cons (ps_if (pt_cmpR op_gt (pe_ix ix_list (pv 0) pe_int (fun _ _ => rfl)) pe_int (nomark _))
    (pss_cons (ps_set (i := 3) sc__law_draw.nd rfl (.inl rfl) (pe_op op_mod (pe_callTy (T := "int")  call_int1 (by rfl) T.z_int (by decide +kernel) (pa_cons (pe_ix ix_list (pv 0) pe_int (fun _ _ => rfl)) pa_nil)) (pv 1)))
      (pss_cons (ps_asg (pe_op op_fdivW (pe_ix ix_list (pv 0) pe_int (fun _ _ => rfl)) (pv 1)) (pg_sub (pv 0) pe_int set_list))
      (pss_one (ps_ret (pv 3)))))
    pss_nil)
  (pss_one (ps_ret (pe_op op_mod (pe_callTy (T := "int")  call_int1 (by rfl) T.z_int (by decide +kernel) (pa_cons (pe_call G28 (hr.mono (by decide)) (by rfl) T.g28 T.F28.kp T.b28 .nil pass0 (pa_cons (pe_ix ix_list (pv 0) pe_int (fun _ _ => rfl)) (pa_cons (pe_ix ix_list (pv 0) pe_int (fun _ _ => rfl)) pa_nil))) pa_nil)) (pv 1))))))), ?_⟩
    -- pool[3] = pool[3] + 1
    refine ⟨_, rfl, _, _, _, _, rfl, rfl, .of e, atI_nat (j := 3) rfl, _, _, rfl, rfl, _, rfl, _, _, _, 3, rfl, rfl, e, ixN_at (j := 3) (by simp only [List.length_cons]; omega), ?_⟩
    generalize hH : upd H p (HO.lst (List.set _ _ _)) = H1
    have e1 : H1 p = some (.lst (.int p0 :: .int p1 :: .int p2 :: .int (p3 + 1) :: r.map V.int)) := by
      rw [← hH]
      exact upd_same
    have o1 : Oth p H H1 := by
      rw [← hH]
      exact (Oth.refl p H).upd
    -- if pool[0] == 0 and pool[1] < len(pool): ..
    refine ⟨fun σ H2 => ∃ (q0 q1 q2 : Int) (y : Option V), σ = [some (.ref p), some (.int m), y, none] ∧ H2 p = some (.lst (.int q0 :: .int q1 :: .int q2 :: .int (p3 + 1) :: r.map V.int)) ∧ Oth p H H2 ∧ 0 ≤ q0 ∧ 0 ≤ q1 ∧ 0 ≤ q2 ∧ q2 < 2147483647, ?_, ?_⟩
    · refine ⟨_, rfl, _, _, _, _, rfl, rfl, .of e1, atI_nat (j := 0) rfl, rfl, _, rfl, ite_eqI (fun h0 => ?_) (fun h0 => iteF ⟨p0, p1, p2, none, rfl, e1, o1, c0, c1, c2, c3⟩)⟩
      refine ⟨_, rfl, _, _, _, _, rfl, rfl, .of e1, atI_nat (j := 1) rfl, _, rfl, _, _, rfl, .inl (.of e1), _, _, rfl, rfl, _, rfl, ite_d (fun h1 => ?_) (fun h1 => ⟨p0, p1, p2, none, rfl, e1, o1, c0, c1, c2, c3⟩)⟩
      -- cell = abs(pool[pool[1]]); pool[1] = pool[1] + 1
      obtain ⟨c, hc⟩ := int_at (q0 := p0) (q1 := p1) (q2 := p2) (q3 := p3 + 1) (r := r) (i := p1.toNat) (by omega)
      refine ⟨_, rfl, _, rfl, _, _, _, _, rfl, rfl, .of e1, atI_nat (j := 1) rfl, _, _, _, _, rfl, rfl, .of e1, at_of (j := p1.toNat) (by omega) hc, _, rfl, ?_⟩
      refine ⟨_, rfl, _, _, _, _, rfl, rfl, .of e1, atI_nat (j := 1) rfl, _, _, rfl, rfl, _, rfl, _, _, _, 1, rfl, rfl, e1, ixN_at (j := 1) (by simp only [List.length_cons]; omega), ?_⟩
      generalize hH2 : upd H1 p (HO.lst (List.set _ _ _)) = H2
      have e2 : H2 p = some (.lst (.int p0 :: .int (p1 + 1) :: .int p2 :: .int (p3 + 1) :: r.map V.int)) := by
        rw [← hH2]
        exact upd_same
      have o2 : Oth p H H2 := by
        rw [← hH2]
        exact o1.upd
      refine ⟨_, rfl, _, _, rfl, rfl, ⟨by decide, by decide, by decide⟩, _, _, rfl, rfl, _, rfl, ite_d (fun h2 => ?_) (fun h2 => ?_)⟩
      · refine ⟨_, rfl, _, _, _, _, rfl, rfl, .of e2, atI_nat (j := 2) rfl, _, _, rfl, rfl, .inr ⟨by decide, by decide⟩, _, rfl, _, _, rfl, rfl, _, _, rfl, rfl, .inl ⟨_, rfl, _, _, rfl, rfl, (by show (0 : Int) < _; decide), _, rfl, _, _, _, 2, rfl, rfl, e2, ixN_at (j := 2) (by simp only [List.length_cons]; omega), ?_⟩⟩
        exact ⟨p0, p1 + 1, _, _, rfl, upd_same, o2.upd, c0, by omega, Int.emod_nonneg _ (by decide), Int.emod_lt_of_pos _ (by decide)⟩
      · refine ⟨_, rfl, _, rfl, _, _, _, 0, rfl, rfl, e2, ixN_at (j := 0) (by simp only [List.length_cons]; omega), ?_⟩
        exact ⟨_, p1 + 1, p2, _, rfl, upd_same, o2.upd, by split <;> omega, by omega, c2, c3⟩
    · rintro σ H2 ⟨q0, q1, q2, y, rfl, e2, o2, d0, d1, d2, d3⟩
      refine ⟨_, rfl, _, _, _, _, rfl, rfl, .of e2, atI_nat (j := 0) rfl, _, _, rfl, rfl, _, rfl, ite_d (fun h0 => ?_) (fun h0 => ?_)⟩
      · refine ⟨_, rfl, _, _, _, _, rfl, rfl, .of e2, atI_nat (j := 0) rfl, .inl ⟨_, rfl, _, rfl, _, _, rfl, rfl, hm, ?_⟩⟩
        refine ⟨_, rfl, _, _, _, _, rfl, rfl, .of e2, atI_nat (j := 0) rfl, _, rfl, _, _, rfl, rfl, wide_div hm hm2 (by decide) (by decide), _, rfl, _, _, _, 0, rfl, rfl, e2, ixN_at (j := 0) (by simp only [List.length_cons]; omega), ?_⟩
        exact ⟨_, rfl, q _ _ (Int.emod_nonneg _ (by omega)) (Int.emod_lt_of_pos _ hm) (chg_of upd_same o2.upd (Int.ediv_nonneg d0 (by omega)) d1 d2 d3 (by omega) c5)⟩
      · refine ⟨_, rfl, _, _, _, _, rfl, rfl, .of e2, atI_nat (j := 2) rfl, _, rfl, _, _, _, _, rfl, rfl, .of e2, atI_nat (j := 3) rfl, _, _, rfl, fun x => .inl ⟨_, rfl, _, rfl, _, _, rfl, rfl, hm, ?_⟩⟩
        exact q _ _ (Int.emod_nonneg _ (by omega)) (Int.emod_lt_of_pos _ hm) (chg_of e2 o2 d0 d1 d2 d3 (by omega) c5)
/-! ### _law_pool: a pool made of the script -/
def spPool (K : PySem.W.Frag) : Sp := fun vs H Q _ => ∃ (p : Addr) (ns : List Int), vs = [.ref p] ∧ SqL K H p (ns.map V.int) ∧ ns.length ≤ 63 ∧ ∀ q H', H q = none → PoolAt H' q → Same H H' → Q (.ref q) H'
theorem ok_pool (T : Txt K mg a d) : FnOk P w K mg base CX0 1 (a 27) (d 27) ["_law_script"] (spPool K) := by
  refine T.F27.ok sc__law_pool (fun vs H Q E h => ?_) (fun cdv A outer s H vs Q E hr h => ?_)
  · obtain ⟨p, ns, rfl, _⟩ := h
    rfl
  · obtain ⟨p, ns, rfl, hS, hl, q⟩ := h
    refine ⟨_, (pss_one (ps_ret (pe_op op_cat (pe_lst (pa_cons pe_int (pa_cons pe_int (pa_cons pe_int (pa_cons pe_int pa_nil))))) (pe_lc (own := [("_law_cell", 1)]) rfl sc__law_pool.nd (pi_list (pv 0)) (blkOk_by (N := ["_law_script", "_law_cell"]) (sc := defScope s__law_pool) (by decide +kernel)) (fun _ _ _ _ _ => pg_name (i := 1) sc__law_pool.nd rfl (.inl rfl)) (fun _ _ _ _ _ => pts_nil) (fun _ _ _ _ _ => (pe_callTy (T := "int")  call_int1 (by rfl) T.z_int (by decide +kernel) (pa_cons (pv 1) pa_nil))))))), ?_⟩
    refine ⟨by show 4 ≤ sizeLine; decide, fun l nl => ?_⟩
    have s1 : Same H (upd H l (.lst [.int 0, .int 4, .int 5, .int 0])) := same_upd nl
    refine ⟨_, rfl, p, rfl, ⟨_, s1.seq hS⟩, fun D hD => ?_⟩
    refine lc_list (K := K) (a := p) (xs := ns.map V.int) (fun i H' => H' D = some (.lst ((ns.take i).map V.int)) ∧ Same (upd H l (.lst [.int 0, .int 4, .int 5, .int 0])) H') ⟨upd_same, same_upd hD⟩ (fun i H' _ hp => (s1.trans hp.2).seq hS) (fun i x H' hx hp => ?_) (fun H' hp => ?_)
    · obtain ⟨z, hz, rfl⟩ := map_at hx
      have hi : i < ns.length := (List.getElem?_eq_some_iff.mp hz).1
      refine ⟨rfl, ?_⟩
      refine ⟨_, rfl, .inl ⟨_, rfl, _, hp.1, ?_, ?_, ?_⟩⟩
      · rw [List.length_map, List.length_take]
        exact small1000 (by omega)
      · rw [map_take hz]
        exact upd_same
      · exact fun b o e => by
          rw [upd_ne (ne_of_none e hD)]
          exact hp.2 b o e
    · obtain ⟨h1, h2⟩ := hp
      rw [List.length_map, List.take_length] at h1
      refine ⟨l, D, _, _, rfl, rfl, h2 _ _ upd_same, h1, ?_, fun r hr => ?_⟩
      · show 4 + (ns.map V.int).length ≤ sizeLine
        rw [List.length_map]
        exact Nat.le_trans (by omega : 4 + ns.length ≤ 67) (by decide)
      · exact q r _ (s1.free (h2.free hr)) ⟨0, 4, 5, 0, ns, upd_same, by decide, by decide, by decide, by decide, by decide, hl⟩ ((s1.trans h2).trans (same_upd hr))
/-! ### _law_word: a word of so many letters -/
def IsWd (s : Str) (m : Nat) : Prop := s.length = m ∧ ∀ c ∈ s.cps.toList, 97 ≤ c ∧ c ≤ 122
def spWord : Sp := fun vs H Q _ => ∃ (p : Addr) (m : Nat), vs = [.ref p, .int (m : Int)] ∧ PoolAt H p ∧ m ≤ 100 ∧ ∀ (s : Str) (H' : Hp), IsWd s m → Chg p H H' → Q (.str s) H'
theorem ok_word (T : Txt K mg a d) : FnOk P w K mg base CX0 3 (a 30) (d 30) ["_law_pool_here", "_law_many"] spWord := by
  have G29 : FnOk P w K mg base CX0 2 (a 29) (d 29) ["_law_pool_here", "_law_many"] spDraw := ok_draw T
  refine T.F30.ok sc__law_word (fun vs H Q E h => ?_) (fun cdv A outer s H vs Q E hr h => ?_)
  · obtain ⟨p, m, rfl, _⟩ := h
    rfl
  · obtain ⟨p, m, rfl, hP, hm, q⟩ := h
    refine ⟨_, (pss_cons (ps_set (i := 2) sc__law_word.nd rfl (.inl rfl) pe_str)
  (pss_cons (ps_set (i := 3) sc__law_word.nd rfl (.inl rfl) pe_str)
  (pss_cons (ps_for PassesOwn.never rfl (pi_range1 (by rfl) T.z_range (pa_cons (pv 1) pa_nil)) (pg_name (i := 4) sc__law_word.nd rfl (.inl rfl))
    (pss_one (ps_set (i := 3) sc__law_word.nd rfl (.inl rfl) (pe_op op_add_str (pv 3) (pe_ix ix_str (pv 2) (pe_call G29 (hr.mono (by decide)) (by rfl) T.g29 T.F29.kp T.b29 .nil pass0 (pa_cons (pv 0) (pa_cons pe_int pa_nil))) (fun _ _ => rfl))))))
  (pss_one (ps_ret (pv 3)))))), ?_⟩
    refine ⟨_, rfl, _, rfl, by omega, by omega, ?_⟩
    refine for_range (lo := 0) (n := (m : Int).toNat) (fun i σ H' => ∃ (s : Str) (y : Option V), σ = [some (.ref p), some (.int m), some (.str "abcdefghijklmnopqrstuvwxyz"), some (.str s), y] ∧ IsWd s i ∧ Chg p H H') ⟨"", none, rfl, ⟨rfl, fun c hc => by cases hc⟩, Chg.refl hP⟩ (fun i σ H' hi hp => ?_) (fun σ H' hp => ?_)
    · obtain ⟨s, y, rfl, hs, hc⟩ := hp
      refine ⟨_, rfl, _, rfl, _, rfl, p, 26, rfl, hc.1, by decide, by decide, fun r H'' h0 h1 hC => ?_⟩
      refine ⟨_, r, 97 + r.toNat, rfl, rfl, by decide +kernel, at_g (show r = ((r.toNat : Nat) : Int) by omega) (letter_at r.toNat (by omega)), _, _, rfl, rfl, ?_, ?_⟩
      · show s.length + 1 ≤ sizeLine
        rw [hs.1]
        exact small1000 (by omega)
      · refine ⟨_, _, rfl, ⟨?_, fun c hcc => ?_⟩, hc.trans hC⟩
        · show (s.cps ++ #[97 + r.toNat]).size = i + 1
          rw [Array.size_append]
          have := hs.1
          show s.cps.size + 1 = i + 1
          exact congrArg (· + 1) this
        · have e : (s ++ (⟨#[97 + r.toNat]⟩ : Str)).cps.toList = s.cps.toList ++ [97 + r.toNat] := by
            show (s.cps ++ #[97 + r.toNat]).toList = _
            rw [Array.toList_append]
          rw [e] at hcc
          rcases List.mem_append.mp hcc with h | h
          · exact hs.2 c h
          · have := List.mem_singleton.mp h
            omega
    · obtain ⟨s, y, rfl, hs, hc⟩ := hp
      exact ⟨_, rfl, q s H' (by rw [Int.toNat_natCast] at hs; exact hs) hc⟩
end
/-! ### words, names -/
def Wd (s : Str) : Prop := 1 ≤ s.length ∧ s.length ≤ 8 ∧ ∀ c ∈ s.cps.toList, 97 ≤ c ∧ c ≤ 122
def sgn (c : Nat) : Str := ⟨#[c]⟩
theorem cps_app (s t : Str) : (s ++ t).cps.toList = s.cps.toList ++ t.cps.toList := by
  show (s.cps ++ t.cps).toList = _
  rw [Array.toList_append]
theorem len_cps (s : Str) : s.length = s.cps.toList.length := by
  show s.cps.size = _
  rw [Array.length_toList]
theorem len_app (s t : Str) : (s ++ t).length = s.length + t.length := by
  rw [len_cps, cps_app, List.length_append, ← len_cps, ← len_cps]
def nmOf (fr : Bool) (stem : Str) (c : Nat) : Str := if fr = true then sgn c ++ stem else stem ++ sgn c
theorem nmOf_inj {fr : Bool} {stem : Str} {c e : Nat} (h : nmOf fr stem c = nmOf fr stem e) : c = e := by
  have h' := congrArg (fun s : Str => s.cps.toList) h
  cases fr with
  | true =>
    have h2 : (sgn c ++ stem).cps.toList = (sgn e ++ stem).cps.toList := h'
    rw [cps_app, cps_app] at h2
    exact (List.cons.inj h2).1
  | false =>
    have h2 : (stem ++ sgn c).cps.toList = (stem ++ sgn e).cps.toList := h'
    rw [cps_app, cps_app] at h2
    exact (List.cons.inj (List.append_cancel_left h2)).1
theorem nmOf_wd {fr : Bool} {stem : Str} {n c : Nat} (h : IsWd stem n) (hn : n ≤ 7) (h1 : 97 ≤ c) (h2 : c ≤ 122) : Wd (nmOf fr stem c) := by
  have l1 : (sgn c).length = 1 := rfl
  have hl := h.1
  have hs : ∀ x ∈ (sgn c).cps.toList, 97 ≤ x ∧ x ≤ 122 := fun x hx => by
    rw [List.mem_singleton.mp hx]
    exact ⟨h1, h2⟩
  cases fr with
  | true =>
    refine ⟨?_, ?_, fun x hx => ?_⟩
    · show 1 ≤ (sgn c ++ stem).length
      rw [len_app]
      omega
    · show (sgn c ++ stem).length ≤ 8
      rw [len_app]
      omega
    · have hx' : x ∈ (sgn c ++ stem).cps.toList := hx
      rw [cps_app] at hx'
      exact (List.mem_append.mp hx').elim (hs x) (h.2 x)
  | false =>
    refine ⟨?_, ?_, fun x hx => ?_⟩
    · show 1 ≤ (stem ++ sgn c).length
      rw [len_app]
      omega
    · show (stem ++ sgn c).length ≤ 8
      rw [len_app]
      omega
    · have hx' : x ∈ (stem ++ sgn c).cps.toList := hx
      rw [cps_app] at hx'
      exact (List.mem_append.mp hx').elim (h.2 x) (hs x)
/-- names of m things: words, no two alike -/
structure Nms (ns : List Str) (m : Nat) : Prop where
  len : ns.length = m
  nd : ns.Nodup
  wd : ∀ s ∈ ns, Wd s
def signAt (f s : Int) (k : Nat) : Nat := 97 + ((f + s * (k : Int)) % 26).toNat
theorem signAt_le (f s : Int) (k : Nat) : 97 ≤ signAt f s k ∧ signAt f s k ≤ 122 := by
  unfold signAt
  have h1 := Int.emod_nonneg (f + s * (k : Int)) (by decide : (26 : Int) ≠ 0)
  have h2 := Int.emod_lt_of_pos (f + s * (k : Int)) (by decide : (0 : Int) < 26)
  omega
theorem signAt_inj {f s : Int} (hs : s ∈ ([1, 3, 5, 7, 9, 11] : List Int)) {i j : Nat} (hi : i < 26) (hj : j < 26) (h : signAt f s i = signAt f s j) : i = j := by
  unfold signAt at h
  have h1 := Int.emod_nonneg (f + s * (i : Int)) (by decide : (26 : Int) ≠ 0)
  have h2 := Int.emod_nonneg (f + s * (j : Int)) (by decide : (26 : Int) ≠ 0)
  have e : (f + s * (i : Int)) % 26 = (f + s * (j : Int)) % 26 := by omega
  simp only [List.mem_cons, List.not_mem_nil, or_false] at hs
  rcases hs with rfl | rfl | rfl | rfl | rfl | rfl <;> omega
def namesOf (fr : Bool) (stem : Str) (f s : Int) (m : Nat) : List Str := (List.range m).map fun k => nmOf fr stem (signAt f s k)
theorem namesOf_succ (fr : Bool) (stem : Str) (f s : Int) (m : Nat) : namesOf fr stem f s (m + 1) = namesOf fr stem f s m ++ [nmOf fr stem (signAt f s m)] := by
  unfold namesOf
  rw [List.range_succ, List.map_append]
  rfl
theorem nodup_map {α β : Type} {f : α → β} : ∀ {xs : List α}, xs.Nodup → (∀ x ∈ xs, ∀ y ∈ xs, f x = f y → x = y) → (xs.map f).Nodup
  | [], _, _ => List.nodup_nil
  | x :: xs, hd, hi => by
    have hd' := List.nodup_cons.mp hd
    rw [List.map_cons]
    refine List.nodup_cons.mpr ⟨fun hm => ?_, nodup_map hd'.2 fun y hy z hz => hi y (List.mem_cons_of_mem _ hy) z (List.mem_cons_of_mem _ hz)⟩
    obtain ⟨y, hy, e⟩ := List.mem_map.mp hm
    have := hi y (List.mem_cons_of_mem _ hy) x (List.mem_cons_self ..) e
    rw [this] at hy
    exact hd'.1 hy
theorem namesOf_ok {fr : Bool} {stem : Str} {n : Nat} {f s : Int} {m : Nat} (h : IsWd stem n) (hn : n ≤ 7) (hs : s ∈ ([1, 3, 5, 7, 9, 11] : List Int)) (hm : m ≤ 26) : Nms (namesOf fr stem f s m) m := by
  refine ⟨by unfold namesOf; rw [List.length_map, List.length_range], nodup_map List.nodup_range fun x hx y hy e => ?_, fun z hz => ?_⟩
  · exact signAt_inj hs (Nat.lt_of_lt_of_le (List.mem_range.mp hx) hm) (Nat.lt_of_lt_of_le (List.mem_range.mp hy) hm) (nmOf_inj e)
  · obtain ⟨k, hk, rfl⟩ := List.mem_map.mp hz
    exact nmOf_wd h hn (signAt_le f s k).1 (signAt_le f s k).2
section
variable {P : Program} {w : World} {K : PySem.W.Frag} {mg : Str → Option Value} {base : Heap} {a : Nat → Addr} {d : Nat → FuncData}
/-! ### _law_names -/
def spNames : Sp := fun vs H Q _ => ∃ (p : Addr) (m : Nat), vs = [.ref p, .int (m : Int)] ∧ PoolAt H p ∧ m ≤ 26 ∧
  ∀ (l : Addr) (ns : List Str) (H' : Hp), H l = none → H' l = some (.lst (ns.map V.str)) → Nms ns m → Chg p H H' → Q (.ref l) H'
theorem ok_names (T : Txt K mg a d) : FnOk P w K mg base CX0 4 (a 31) (d 31) ["_law_pool_here", "_law_many"] spNames := by
  have G29 : FnOk P w K mg base CX0 2 (a 29) (d 29) ["_law_pool_here", "_law_many"] spDraw := ok_draw T
  have G30 : FnOk P w K mg base CX0 3 (a 30) (d 30) ["_law_pool_here", "_law_many"] spWord := ok_word T
  refine T.F31.ok sc__law_names (fun vs H Q E h => ?_) (fun cdv A outer s H vs Q E hr h => ?_)
  · obtain ⟨p, m, rfl, _⟩ := h
    rfl
  · obtain ⟨p, m, rfl, hP, hm, q⟩ := h
    refine ⟨_, (pss_cons (ps_set (i := 2) sc__law_names.nd rfl (.inl rfl) pe_str)
  (pss_cons (ps_set (i := 3) sc__law_names.nd rfl (.inl rfl) (pe_call G30 (hr.mono (by decide)) (by rfl) T.g30 T.F30.kp T.b30 .nil pass0 (pa_cons (pv 0) (pa_cons (pe_call G29 (hr.mono (by decide)) (by rfl) T.g29 T.F29.kp T.b29 .nil pass0 (pa_cons (pv 0) (pa_cons pe_int pa_nil))) pa_nil))))
  (pss_cons (ps_set (i := 4) sc__law_names.nd rfl (.inl rfl) (pe_call G29 (hr.mono (by decide)) (by rfl) T.g29 T.F29.kp T.b29 .nil pass0 (pa_cons (pv 0) (pa_cons pe_int pa_nil))))
  (pss_cons (ps_set (i := 5) sc__law_names.nd rfl (.inl rfl) (pe_ix ix_list (pe_lst (pa_cons pe_int (pa_cons pe_int (pa_cons pe_int (pa_cons pe_int (pa_cons pe_int (pa_cons pe_int pa_nil))))))) (pe_call G29 (hr.mono (by decide)) (by rfl) T.g29 T.F29.kp T.b29 .nil pass0 (pa_cons (pv 0) (pa_cons pe_int pa_nil))) (fun _ _ => rfl)))
  (pss_cons (ps_set (i := 6) sc__law_names.nd rfl (.inl rfl) (pe_call G29 (hr.mono (by decide)) (by rfl) T.g29 T.F29.kp T.b29 .nil pass0 (pa_cons (pv 0) (pa_cons pe_int pa_nil))))
  (pss_cons (ps_set (i := 7) sc__law_names.nd rfl (.inl rfl) (pe_lst pa_nil))
  (pss_cons (ps_for PassesOwn.never rfl (pi_range1 (by rfl) T.z_range (pa_cons (pv 1) pa_nil)) (pg_name (i := 8) sc__law_names.nd rfl (.inl rfl))
    (pss_cons (ps_set (i := 9) sc__law_names.nd rfl (.inl rfl) (pe_ix ix_str (pv 2) (pe_op op_mod (pe_callTy (T := "int")  call_int1 (by rfl) T.z_int (by decide +kernel) (pa_cons (pe_op op_add (pv 4) (pe_op op_mul (pv 5) (pv 8))) pa_nil)) pe_int) (fun _ _ => rfl)))
      (pss_one (ps_if (pt_cmpR op_eq (pv 6) pe_int (nomark _))
        (pss_one (ps_expr (pe_bm PySem.F.plainAttrs_list PySem.F.slot_list_append PySem.F.type_list_append mt_append (pv 7) (pa_cons (pe_op op_add_str (pv 9) (pv 3)) pa_nil))))
        (pss_one (ps_expr (pe_bm PySem.F.plainAttrs_list PySem.F.slot_list_append PySem.F.type_list_append mt_append (pv 7) (pa_cons (pe_op op_add_str (pv 3) (pv 9)) pa_nil))))))))
  (pss_one (ps_ret (pv 7)))))))))), ?_⟩
    -- the stem
    refine ⟨_, rfl, _, rfl, p, 8, rfl, hP, by decide, by decide, fun n H1 a0 a1 C1 => ?_⟩
    refine ⟨p, n.toNat, (by rw [Int.toNat_of_nonneg a0]; rfl), C1.1, by omega, fun stem H2 hst C2 => ?_⟩
    have C02 := C1.trans C2
    -- first, step, front
    refine ⟨_, rfl, p, 26, rfl, C2.1, by decide, by decide, fun f H3 f0 f1 C3 => ?_⟩
    have C03 := C02.trans C3
    refine ⟨by show 6 ≤ sizeLine; decide, fun l1 nl1 => ?_⟩
    have C04 : Chg p H (upd H3 l1 (.lst [.int 1, .int 3, .int 5, .int 7, .int 9, .int 11])) := C03.new nl1
    have n1 : l1 ≠ p := Chg.ne C3.1 nl1
    refine ⟨_, rfl, p, 6, rfl, C04.1, by decide, by decide, fun x H5 x0 x1 C5 => ?_⟩
    have C05 := C04.trans C5
    obtain ⟨v, hv⟩ := at_some (xs := ([.int 1, .int 3, .int 5, .int 7, .int 9, .int 11] : List V)) x0 x1
    obtain ⟨st, hst2, rfl⟩ : ∃ s : Int, s ∈ ([1, 3, 5, 7, 9, 11] : List Int) ∧ V.int s = v := List.mem_map.mp (show v ∈ ([1, 3, 5, 7, 9, 11] : List Int).map V.int from atI_mem hv)
    have hsb : 0 ≤ st ∧ st ≤ 11 := by
      simp only [List.mem_cons, List.not_mem_nil, or_false] at hst2
      omega
    refine ⟨_, _, _, _, rfl, rfl, .of (C5.2 l1 _ n1 upd_same), hv, ?_⟩
    refine ⟨_, rfl, p, 2, rfl, C5.1, by decide, by decide, fun fr H6 r0 r1 C6 => ?_⟩
    have C06 := C05.trans C6
    -- found
    refine ⟨Nat.zero_le _, fun l nl => ?_⟩
    have nlp : l ≠ p := Chg.ne C6.1 nl
    have l0 : H l = none := free_of C06 hP nl
    refine ⟨_, rfl, _, rfl, by omega, by omega, ?_⟩
    refine for_range (lo := 0) (n := (m : Int).toNat) (fun i σ H' => ∃ y8 y9, σ = [some (.ref p), some (.int m), some (.str "abcdefghijklmnopqrstuvwxyz"), some (.str stem), some (.int f), some (.int st), some (.int fr), some (.ref l), y8, y9] ∧ H' l = some (.lst ((namesOf (decide (fr = 1)) stem f st i).map V.str)) ∧ Chg p H H') ⟨none, none, rfl, upd_same, C06.new nl⟩ (fun i σ H' hi hp => ?_) (fun σ H' hp => ?_)
    · obtain ⟨y8, y9, rfl, hl, hc⟩ := hp
      have hin : i < m := by omega
      have hs1 := signAt_le f st i
      have hlen : ((namesOf (decide (fr = 1)) stem f st i).map V.str).length < sizeLine := by
        rw [List.length_map]
        unfold namesOf
        rw [List.length_map, List.length_range]
        exact Nat.lt_of_le_of_lt (by omega : i ≤ 26) (by decide)
      have b1 := Int.emod_nonneg (f + st * (i : Int)) (by decide : (26 : Int) ≠ 0)
      have b2 := Int.emod_lt_of_pos (f + st * (i : Int)) (by decide : (0 : Int) < 26)
      refine ⟨_, rfl, _, rfl, _, rfl, _, rfl, _, _, rfl, rfl, .inl ⟨by omega, by omega⟩, _, _, rfl, rfl, .inl ⟨_, rfl, _, _, rfl, rfl, (by show (0 : Int) < 26; decide), ?_⟩⟩
      refine ⟨_, _, signAt f st i, rfl, rfl, by decide +kernel, at_g (j := ((f + st * (i : Int)) % 26).toNat) (by rw [Int.zero_add]; omega) (letter_at _ (by omega)), ?_⟩
      refine ⟨_, rfl, rfl, _, rfl, ite_eqI (fun h => ?_) (fun h => ?_)⟩
      · refine ⟨_, rfl, .inl ⟨rfl, _, .of hl⟩, _, rfl, _, rfl, _, _, rfl, rfl, ?_, l, _, _, rfl, rfl, hl, hlen, _, _, rfl, ?_, hc.mut l0 nlp⟩
        · show 1 + stem.length ≤ sizeLine
          rw [hst.1]
          exact small1000' (by omega)
        · rw [namesOf_succ, List.map_append, decide_eq_true h]
          exact upd_same
      · refine ⟨_, rfl, .inl ⟨rfl, _, .of hl⟩, _, rfl, _, rfl, _, _, rfl, rfl, ?_, l, _, _, rfl, rfl, hl, hlen, _, _, rfl, ?_, hc.mut l0 nlp⟩
        · show stem.length + 1 ≤ sizeLine
          rw [hst.1]
          exact small1000' (by omega)
        · rw [namesOf_succ, List.map_append, decide_eq_false h]
          exact upd_same
    · obtain ⟨y8, y9, rfl, hl, hc⟩ := hp
      rw [Int.toNat_natCast] at hl
      exact ⟨_, rfl, q l _ H' l0 hl (namesOf_ok hst (by omega) hst2 hm) hc⟩
/-! ### _law_columns -/
def Cols (cs : List Int) (w : Int) : Prop := cs.Pairwise (· < ·) ∧ ∀ c ∈ cs, 0 ≤ c ∧ c < w
theorem Cols.take {cs : List Int} {w : Int} (h : Cols cs w) (n : Nat) : Cols (cs.take n) w := ⟨h.1.sublist (List.take_sublist n cs), fun c hc => h.2 c (List.mem_of_mem_take hc)⟩
theorem Cols.snoc {cs : List Int} {i : Nat} (h : Cols cs (i : Int)) : Cols (cs ++ [(i : Int)]) ((i + 1 : Nat) : Int) := by
  refine ⟨List.pairwise_append.mpr ⟨h.1, List.pairwise_singleton _ _, fun x hx y hy => ?_⟩, fun c hc => ?_⟩
  · rw [List.mem_singleton.mp hy]
    exact (h.2 x hx).2
  · rcases List.mem_append.mp hc with h' | h'
    · have := h.2 c h'
      omega
    · rw [List.mem_singleton.mp h']
      omega
theorem Cols.up {cs : List Int} {v w : Int} (h : Cols cs v) (hw : v ≤ w) : Cols cs w := ⟨h.1, fun c hc => ⟨(h.2 c hc).1, Int.lt_of_lt_of_le (h.2 c hc).2 hw⟩⟩
theorem cut_take (xs : List V) (n : Nat) : cutV xs none (some (n : Int)) = xs.take n := by
  unfold cutV
  show (xs.drop 0).take (HT.sIx xs.length xs.length (some (n : Int)) - 0) = _
  rw [List.drop_zero, Nat.sub_zero]
  rw [HT.sIx_nat]
  by_cases h : n ≤ xs.length
  · rw [Nat.min_eq_left h]
  · rw [Nat.min_eq_right (by omega), List.take_length, List.take_of_length_le (by omega)]
def spCols : Sp := fun vs H Q _ => ∃ (p : Addr) (w lo : Int) (hi : Nat), vs = [.ref p, .int w, .int lo, .int (hi : Int)] ∧ PoolAt H p ∧ 1 ≤ w ∧ w ≤ 100 ∧ lo ≤ 1 ∧
  ∀ (t : Addr) (cs : List Int) (H' : Hp), H t = none → H' t = some (.tup (cs.map V.int)) → Cols cs w → cs.length ≤ hi → (lo = 1 → 1 ≤ hi → 1 ≤ cs.length) → Chg p H H' → Q (.ref t) H'
theorem ok_columns (T : Txt K mg a d) : FnOk P w K mg base CX0 3 (a 32) (d 32) ["_law_pool_here", "_law_width", "_law_low", "_law_high"] spCols := by
  have G29 : FnOk P w K mg base CX0 2 (a 29) (d 29) ["_law_pool_here", "_law_many"] spDraw := ok_draw T
  refine T.F32.ok sc__law_columns (fun vs H Q E h => ?_) (fun cdv A outer s H vs Q E hr h => ?_)
  · obtain ⟨p, w, lo, hi, rfl, _⟩ := h
    rfl
  · obtain ⟨p, wd, lo, hi, rfl, hP, hw1, hw2, hlo, q⟩ := h
    refine ⟨_, (pss_cons (ps_setLc (i := 4) (own := [("_law_column", 5)]) rfl sc__law_columns.nd rfl rfl (sw_true rfl rfl rfl (by decide +kernel)) (pi_range1 (by rfl) T.z_range (pa_cons (pv 1) pa_nil)) (blkOk_by (N := ["_law_pool_here", "_law_width", "_law_low", "_law_high", "_law_chosen", "_law_column"]) (sc := defScope s__law_columns) (by decide +kernel)) (fun _ _ _ _ _ => pg_name (i := 5) sc__law_columns.nd rfl (.inl rfl)) (fun _ _ _ _ _ => (pts_one (pt_cmpR op_eq (pe_call G29 (hr.mono (by decide)) (by rfl) T.g29 T.F29.kp T.b29 .nil pass0 (pa_cons (pv 0) (pa_cons pe_int pa_nil))) pe_int (nomark _)))) (fun _ _ _ _ _ => (pv 5)))
  (Evl.pss_cut (ps_if (pt_cmpR op_lt (pe_callB (id := "len")  call_len_seq (by rfl) T.z_len (by decide +kernel) (pa_cons (pv 4) pa_nil)) (pv 2) (nomark _))
    (pss_one (ps_set (i := 4) sc__law_columns.nd rfl (.inl rfl) (pe_lst (pa_cons (pe_call G29 (hr.mono (by decide)) (by rfl) T.g29 T.F29.kp T.b29 .nil pass0 (pa_cons (pv 0) (pa_cons (pv 1) pa_nil))) pa_nil))))
    pss_nil)
  (pss_one (ps_ret (pe_callTy (T := "tuple")  call_tuple_of (by rfl) T.z_tuple (by decide +kernel) (pa_cons (pe_slice sl_list (pv 4) po_none (po_some (pv 3))) pa_nil)))))), ?_⟩
    refine ⟨_, rfl, _, rfl, by omega, by omega, fun D hD => ?_⟩
    have nD : D ≠ p := Chg.ne hP hD
    refine lc_range (lo := 0) (n := wd.toNat) (fun i H' => ∃ cs : List Int, H' D = some (.lst (cs.map V.int)) ∧ cs.length ≤ i ∧ Cols cs (i : Int) ∧ Chg p H H') ⟨[], upd_same, Nat.le_refl _, ⟨.nil, fun c hc => by cases hc⟩, (Chg.refl hP).new hD⟩ (fun i H' hi' hp => ?_) (fun H' hp => ?_)
    · obtain ⟨cs, c1, c2, c3, c4⟩ := hp
      refine ⟨rfl, ?_⟩
      refine ⟨_, rfl, p, 2, rfl, c4.1, by decide, by decide, fun r H'' r0 r1 C => ⟨rfl, _, rfl, ite_eqI (fun h => ?_) (fun h => ?_)⟩⟩
      · refine ⟨_, rfl, _, C.2 D _ nD c1, ?_, cs ++ [(i : Int)], ?_, ?_, c3.snoc, (c4.trans C).mut hD nD⟩
        · rw [List.length_map]
          exact small1000 (by omega)
        · rw [List.map_append, Int.zero_add]
          exact upd_same
        · rw [List.length_append]
          exact Nat.succ_le_succ c2
      · exact ⟨cs, C.2 D _ nD c1, Nat.le_succ_of_le c2, c3.up (by omega), c4.trans C⟩
    obtain ⟨cs, c1, c2, c3, c4⟩ := hp
    rw [Int.toNat_of_nonneg (by omega)] at c3
    -- at low so many
    refine ⟨fun σ H2 => ∃ l cs y5, σ = [some (.ref p), some (.int wd), some (.int lo), some (.int hi), some (.ref l), y5] ∧ H2 l = some (.lst (cs.map V.int)) ∧ cs.length ≤ 100 ∧ Cols cs wd ∧ (lo = 1 → 1 ≤ cs.length) ∧ Chg p H H2, ?_, ?_⟩
    · refine ⟨_, rfl, _, _, rfl, .inl (.of c1), _, rfl, _, _, rfl, rfl, _, rfl, ite_d (fun h1 => ?_) (fun h1 => ⟨D, cs, _, rfl, c1, by omega, c3, fun e => ?_, c4⟩)⟩
      · refine ⟨_, rfl, _, rfl, p, wd, rfl, c4.1, by omega, Nat.lt_of_le_of_lt (by omega : _ ≤ 100) (by decide), fun r H3 r0 r1 C3 => ⟨by show 1 ≤ sizeLine; decide, fun l2 nl2 => ⟨l2, [r], _, rfl, upd_same, by show 1 ≤ 100; decide, ⟨List.pairwise_singleton _ _, fun c hc => ?_⟩, fun _ => Nat.le_refl _, (c4.trans C3).new nl2⟩⟩⟩
        rw [List.mem_singleton.mp hc]
        exact ⟨r0, r1⟩
      · rw [List.length_map] at h1
        omega
    · rintro σ H2 ⟨l, cs, y5, rfl, e1, e2, e3, e4, e5⟩
      refine ⟨_, rfl, _, rfl, _, rfl, _, _, rfl, .of e1, fun m hm => ?_⟩
      refine ⟨m, _, rfl, .inl ⟨.of upd_same, fun t ht => ?_⟩⟩
      rw [cut_take, ← List.map_take] at ht ⊢
      have C := (e5.new (o := .lst ((cs.take hi).map V.int)) hm).new (o := .tup ((cs.take hi).map V.int)) ht
      refine q t (cs.take hi) _ (free_of (e5.new (o := .lst ((cs.take hi).map V.int)) hm) hP ht) upd_same (e3.take hi) ?_ (fun h1 h2 => ?_) C
      · rw [List.length_take]
        omega
      · have := e4 h1
        rw [List.length_take]
        omega
/-! ### _law_tables -/
def tabK (ts : List (Str × Int)) : List (Key × V) := ts.map fun p => (Sum.inr p.1, V.int p.2)
structure Tabs (ts : List (Str × Int)) (m : Nat) (wm : Int) : Prop where
  nm : Nms (ts.map (·.1)) m
  wd : ∀ p ∈ ts, 1 ≤ p.2 ∧ p.2 ≤ wm
theorem Tabs.len {ts : List (Str × Int)} {m : Nat} {wm : Int} (h : Tabs ts m wm) : ts.length = m := by
  rw [← h.nm.len, List.length_map]
theorem valV_no {κ : Type} [DecidableEq κ] {k : κ} : ∀ {kvs : List (κ × V)}, k ∉ kvs.map (·.1) → valV kvs k = none
  | [], _ => rfl
  | p :: r, h => by
    rw [List.map_cons] at h
    rw [valV_neg (fun e => h (by rw [e]; exact List.mem_cons_self ..))]
    exact valV_no fun hm => h (List.mem_cons_of_mem _ hm)
theorem nd_take {α : Type} {xs : List α} {i : Nat} {x : α} (h : xs.Nodup) (hx : xs[i]? = some x) : x ∉ xs.take i := fun hm => by
  have e : (xs.take (i + 1)).Nodup := h.sublist (List.take_sublist _ _)
  rw [List.take_add_one, hx] at e
  exact (List.nodup_append.mp e).2.2 x hm x (by simp) rfl
theorem keys_tab (ts : List (Str × Int)) : (tabK ts).map (·.1) = (ts.map (·.1)).map Sum.inr := by
  unfold tabK
  rw [List.map_map, List.map_map]
  rfl
theorem inr_nd {ns : List Str} (h : ns.Nodup) : (ns.map (Sum.inr : Str → Key)).Nodup := nodup_map h fun _ _ _ _ e => Sum.inr.inj e
theorem inr_no {ns : List Str} {n : Str} (h : n ∉ ns) : (Sum.inr n : Key) ∉ ns.map Sum.inr := fun hm => by
  obtain ⟨x, hx, e⟩ := List.mem_map.mp hm
  rw [← Sum.inr.inj e] at h
  exact h hx
theorem tab_at {H : Hp} {t : Addr} {ts : List (Str × Int)} {n : Str} {w : Int} (e : H t = some (.dK (tabK ts))) (nd : (ts.map (·.1)).Nodup) (h : (n, w) ∈ ts) : DGet H t (.str n) (some (.int w)) := by
  have g := DGet.k (k := Sum.inr n) e
  have v : valV (tabK ts) (Sum.inr n) = some (.int w) := val_nodup (kvs := tabK ts) (by rw [keys_tab]; exact inr_nd nd) (Sum.inr n, V.int w) (List.mem_map.mpr ⟨(n, w), h, rfl⟩)
  rw [v] at g
  exact g
theorem snoc_map {α β : Type} (f : α → β) (xs : List α) (x : α) : (xs ++ [x]).map f = xs.map f ++ [f x] := by
  rw [List.map_append]
  rfl
theorem Chg.at {p b : Addr} {H H' : Hp} {o : HO} (c : Chg p H H') (n : b ≠ p) (e : H b = some o) : H' b = some o := c.2 b o n e
theorem pool_ne {H : Hp} {p b : Addr} {o : HO} (h : PoolAt H p) (e : H b = some o) (x : ∀ xs, o ≠ .lst xs) : b ≠ p := by
  obtain ⟨p0, p1, p2, p3, r, e', c⟩ := h
  exact ne_of e e' (x _)
def spTables : Sp := fun vs H Q _ => ∃ (p : Addr) (m : Nat) (wm : Int), vs = [.ref p, .int (m : Int), .int wm] ∧ PoolAt H p ∧ m ≤ 26 ∧ 1 ≤ wm ∧ wm ≤ 100 ∧
  ∀ (t : Addr) (ts : List (Str × Int)) (H' : Hp), H t = none → H' t = some (.dK (tabK ts)) → Tabs ts m wm → Chg p H H' → Q (.ref t) H'
theorem ok_tables (T : Txt K mg a d) : FnOk P w K mg base CX0 5 (a 33) (d 33) ["_law_pool_here", "_law_many", "_law_widest"] spTables := by
  have G29 : FnOk P w K mg base CX0 2 (a 29) (d 29) ["_law_pool_here", "_law_many"] spDraw := ok_draw T
  have G31 : FnOk P w K mg base CX0 4 (a 31) (d 31) ["_law_pool_here", "_law_many"] spNames := ok_names T
  refine T.F33.ok sc__law_tables (fun vs H Q E h => ?_) (fun cdv A outer s H vs Q E hr h => ?_)
  · obtain ⟨p, m, wm, rfl, _⟩ := h
    rfl
  · obtain ⟨p, m, wm, rfl, hP, hm, hw1, hw2, q⟩ := h
    have hu := hu_of hr
    refine ⟨_, (pss_cons (ps_set (i := 3) sc__law_tables.nd rfl (.inl rfl) (pe_call G31 (hr.mono (by decide)) (by rfl) T.g31 T.F31.kp T.b31 .nil pass0 (pa_cons (pv 0) (pa_cons (pv 1) pa_nil))))
  (pss_cons (ps_set (i := 4) sc__law_tables.nd rfl (.inl rfl) pe_dnewK)
  (pss_cons (ps_for PassesOwn.never rfl (pi_list (pv 3)) (pg_name (i := 5) sc__law_tables.nd rfl (.inl rfl))
    (pss_one (ps_dput (hu_of hr) (pv 4) (pv 5) (pe_op op_add pe_int (pe_call G29 (hr.mono (by decide)) (by rfl) T.g29 T.F29.kp T.b29 .nil pass0 (pa_cons (pv 0) (pa_cons (pv 2) pa_nil)))) rfl)))
  (pss_one (ps_ret (pv 4)))))), ?_⟩
    refine ⟨_, rfl, _, rfl, p, m, rfl, hP, hm, fun l ns H1 l0 hl hn C1 => ?_⟩
    have nl : l ≠ p := fun e => by
      obtain ⟨p0, p1, p2, p3, r, e', c⟩ := hP
      rw [e, e'] at l0
      cases l0
    intro t ht
    have nt : t ≠ p := Chg.ne C1.1 ht
    have nlt : l ≠ t := ne_of_none hl ht
    have t0 : H t = none := free_of C1 hP ht
    have lens : (ns.map V.str).length = m := by rw [List.length_map, hn.len]
    refine ⟨_, rfl, l, rfl, ⟨_, .of (by rw [upd_ne nlt]; exact hl)⟩, for_list (K := K) (a := l) (xs := ns.map V.str) (fun i σ H' => ∃ (ts : List (Str × Int)) (y5 : Option V), σ = [some (.ref p), some (.int m), some (.int wm), some (.ref l), some (.ref t), y5] ∧ H' t = some (.dK (tabK ts)) ∧ H' l = some (.lst (ns.map V.str)) ∧ ts.map (·.1) = ns.take i ∧ (∀ b ∈ ts, 1 ≤ b.2 ∧ b.2 ≤ wm) ∧ Chg p H H')
      ⟨[], none, rfl, upd_same, by rw [upd_ne nlt]; exact hl, rfl, (fun b hb => by cases hb), C1.new ht⟩ (fun i σ H' _ hp => ?_) (fun i y σ H' hy hp => ?_) (fun σ H' hp => ?_)⟩
    · obtain ⟨ts, y5, rfl, _, hl', _⟩ := hp
      exact .of hl'
    · obtain ⟨ts, y5, rfl, ht', hl', hk, hw, hc⟩ := hp
      obtain ⟨n, hn', rfl⟩ := map_at hy
      have hlen : ts.length ≤ 26 := by
        have e := congrArg List.length hk
        rw [List.length_map, List.length_take] at e
        have := hn.len
        omega
      refine ⟨_, rfl, _, rfl, p, wm, rfl, hc.1, by omega, Nat.lt_of_le_of_lt (by omega : _ ≤ 100) (by decide), fun r H'' r0 r1 C => ⟨_, _, rfl, rfl, _, rfl, _, rfl, t, _, rfl, DPut.k (k := Sum.inr n) (C.at nt ht') ?_, ts ++ [(n, 1 + r)], _, rfl, ?_, ?_, ?_, fun b hb => ?_, (hc.trans C).mut t0 nt⟩⟩
      · unfold tabK
        rw [List.length_map]
        exact Nat.lt_of_le_of_lt hlen (by decide)
      · unfold tabK
        rw [snoc_map]
        refine Eq.trans upd_same (congrArg (fun x => some (HO.dK x)) (putK_new _ (valV_no ?_)))
        have e := keys_tab ts
        unfold tabK at e
        rw [e, hk]
        exact inr_no (nd_take hn.nd hn')
      · rw [upd_ne nlt]
        exact C.at nl hl'
      · rw [snoc_map, hk, List.take_add_one, hn']
        rfl
      · rcases List.mem_append.mp hb with h | h
        · exact hw b h
        · rw [List.mem_singleton.mp h]
          exact ⟨by show 1 ≤ 1 + r; omega, by show 1 + r ≤ wm; omega⟩
    · obtain ⟨ts, y5, rfl, ht', hl', hk, hw, hc⟩ := hp
      rw [List.length_map, List.take_length] at hk
      exact ⟨_, rfl, q t ts H' t0 ht' ⟨by rw [hk]; exact hn, hw⟩ hc⟩
/-! ### _law_keys -/
abbrev KeyE := Str × Addr × List Int
def keyK (ks : List KeyE) : List (Key × V) := ks.map fun b => (Sum.inr b.1, V.ref b.2.1)
theorem keys_key (ks : List KeyE) : (keyK ks).map (·.1) = (ks.map (·.1)).map Sum.inr := by
  unfold keyK
  rw [List.map_map, List.map_map]
  rfl
structure Keys (H : Hp) (ts : List (Str × Int)) (ks : List KeyE) : Prop where
  nd : (ks.map (·.1)).Nodup
  le : ks.length ≤ ts.length
  at_ : ∀ b ∈ ks, H b.2.1 = some (.tup (b.2.2.map V.int))
  ok : ∀ b ∈ ks, ∃ w, (b.1, w) ∈ ts ∧ Cols b.2.2 w ∧ 1 ≤ b.2.2.length ∧ (b.2.2.length : Int) < w
theorem Keys.mono {H H' : Hp} {ts : List (Str × Int)} {ks : List KeyE} (h : Keys H ts ks) (m : ∀ b xs, H b = some (.tup xs) → H' b = some (.tup xs)) : Keys H' ts ks := ⟨h.nd, h.le, fun b hb => m _ _ (h.at_ b hb), h.ok⟩
theorem chg_tup {p : Addr} {H H' : Hp} (h : PoolAt H p) (c : Chg p H H') : ∀ b xs, H b = some (.tup xs) → H' b = some (.tup xs) := fun b xs e => c.at (pool_ne h e (by intro _ z; cases z)) e
theorem upd_tup {H : Hp} {t : Addr} {o u : HO} (h : H t = some u) (n : ∀ xs, u ≠ .tup xs) : ∀ b xs, H b = some (.tup xs) → upd H t o b = some (.tup xs) := fun b xs e => by
  rw [upd_ne (ne_of e h (fun z => n xs z.symm))]
  exact e
def spKeys : Sp := fun vs H Q _ => ∃ (p t : Addr) (m : Nat) (ts : List (Str × Int)), vs = [.ref p, .ref t] ∧ PoolAt H p ∧ H t = some (.dK (tabK ts)) ∧ Tabs ts m 100 ∧ m ≤ 26 ∧
  ∀ (k : Addr) (ks : List KeyE) (H' : Hp), H k = none → H' k = some (.dK (keyK ks)) → Keys H' ts ks → Chg p H H' → Q (.ref k) H'
theorem ok_keys (T : Txt K mg a d) : FnOk P w K mg base CX0 4 (a 34) (d 34) ["_law_pool_here", "_law_tables_here"] spKeys := by
  have G29 : FnOk P w K mg base CX0 2 (a 29) (d 29) ["_law_pool_here", "_law_many"] spDraw := ok_draw T
  have G32 : FnOk P w K mg base CX0 3 (a 32) (d 32) ["_law_pool_here", "_law_width", "_law_low", "_law_high"] spCols := ok_columns T
  refine T.F34.ok sc__law_keys (fun vs H Q E h => ?_) (fun cdv A outer s H vs Q E hr h => ?_)
  · obtain ⟨p, t, m, ts, rfl, _⟩ := h
    rfl
  · obtain ⟨p, t, m, ts, rfl, hP, ht, hT, hm, q⟩ := h
    have hu := hu_of hr
    refine ⟨_, (pss_cons (ps_set (i := 2) sc__law_keys.nd rfl (.inl rfl) pe_dnewK)
  (pss_cons (ps_for PassesOwn.never rfl (pi_list (pe_callTy (T := "list")  (call_listD rfl) (by rfl) T.z_list (by decide +kernel) (pa_cons (pv 1) pa_nil))) (pg_name (i := 3) sc__law_keys.nd rfl (.inl rfl))
    (pss_one (ps_if (PW.pt (pw_and (pt_cmpR op_gt (pe_dget (hu_of hr) (pv 1) (pv 3) (fun _ _ => rfl)) pe_int (nomark _)) (pw_and1 (pt_cmpR op_eq (pe_call G29 (hr.mono (by decide)) (by rfl) T.g29 T.F29.kp T.b29 .nil pass0 (pa_cons (pv 0) (pa_cons pe_int pa_nil))) pe_int (nomark _)))))
        (pss_one (ps_dput (hu_of hr) (pv 2) (pv 3) (pe_call G32 (hr.mono (by decide)) (by rfl) T.g32 T.F32.kp T.b32 .nil pass0 (pa_cons (pv 0) (pa_cons (pe_dget (hu_of hr) (pv 1) (pv 3) (fun _ _ => rfl)) (pa_cons pe_int (pa_cons (pe_op op_sub (pe_dget (hu_of hr) (pv 1) (pv 3) (fun _ _ => rfl)) pe_int) pa_nil))))) rfl))
        pss_nil)))
  (pss_one (ps_ret (pv 2))))), ?_⟩
    intro k hk
    have nt : t ≠ p := pool_ne hP ht (by intro _ z; cases z)
    have nk : k ≠ p := Chg.ne hP hk
    have ntk : t ≠ k := ne_of_none ht hk
    have C0 : Chg p H (upd H k (.dK [])) := (Chg.refl hP).new hk
    have e0 : (tabK ts).map (fun kv => kV kv.1) = (ts.map (·.1)).map V.str := by
      unfold tabK
      rw [List.map_map, List.map_map]
      rfl
    refine ⟨_, rfl, t, tabK ts, rfl, .inl (C0.at nt ht), fun l hl => ⟨l, rfl, ?_⟩⟩
    rw [e0]
    have nl : l ≠ p := Chg.ne C0.1 hl
    have nkl : k ≠ l := ne_of_none upd_same hl
    have C1 := C0.new (o := .lst ((ts.map (·.1)).map V.str)) hl
    refine ⟨⟨_, .of upd_same⟩, for_list (K := K) (a := l) (xs := (ts.map (·.1)).map V.str) (fun i σ H' => ∃ (ks : List KeyE) (y3 : Option V), σ = [some (.ref p), some (.ref t), some (.ref k), y3] ∧ H' k = some (.dK (keyK ks)) ∧ H' l = some (.lst ((ts.map (·.1)).map V.str)) ∧ (ks.map (·.1)).Sublist ((ts.map (·.1)).take i) ∧ (∀ b ∈ ks, H' b.2.1 = some (.tup (b.2.2.map V.int))) ∧
        (∀ b ∈ ks, ∃ w, (b.1, w) ∈ ts ∧ Cols b.2.2 w ∧ 1 ≤ b.2.2.length ∧ (b.2.2.length : Int) < w) ∧ Chg p H H')
      ⟨[], none, rfl, ?_, upd_same, List.nil_sublist _, (fun b hb => by cases hb), (fun b hb => by cases hb), C1⟩ (fun i σ H' _ hp => ?_) (fun i y σ H' hy hp => ?_) (fun σ H' hp => ?_)⟩
    · rw [upd_ne nkl]
      exact upd_same
    · obtain ⟨ks, y3, rfl, _, hl', _⟩ := hp
      exact .of hl'
    · obtain ⟨ks, y3, rfl, hk', hl', hsub, hat, hok, hc⟩ := hp
      obtain ⟨n, hn, rfl⟩ := map_at hy
      obtain ⟨b, hb, rfl⟩ := map_at hn
      obtain ⟨n, w⟩ := b
      have hmem : (n, w) ∈ ts := List.mem_of_getElem? hb
      have hw := hT.wd _ hmem
      have tk : (ts.map (·.1)).take (i + 1) = (ts.map (·.1)).take i ++ [n] := by
        rw [List.take_add_one, hn]
        rfl
      have hsub' : (ks.map (·.1)).Sublist ((ts.map (·.1)).take (i + 1)) := by
        rw [tk]
        exact hsub.trans (List.sublist_append_left _ _)
      have hlen : ks.length ≤ 26 := by
        have e1 := hsub.length_le
        rw [List.length_map, List.length_take] at e1
        have e2 := hT.nm.len
        omega
      have g : ∀ H2 : Hp, H2 t = some (.dK (tabK ts)) → DGet H2 t (.str n) (some (.int w)) := fun H2 e => tab_at e hT.nm.nd hmem
      have ht' := hc.at nt ht
      refine ⟨_, rfl, _, rfl, t, _, rfl, g _ ht', _, _, rfl, rfl, _, rfl, ite_d (fun h1 => ?_) (fun h1 => ⟨ks, _, rfl, hk', hl', hsub', hat, hok, hc⟩)⟩
      refine ⟨_, rfl, p, 3, rfl, hc.1, by decide, by decide, fun r H2 r0 r1 C2 => ⟨rfl, _, rfl, ite_eqI (fun h2 => ?_) (fun h2 => ?_)⟩⟩
      · refine ⟨_, rfl, _, rfl, _, rfl, t, _, rfl, g _ (C2.at nt ht'), _, rfl, _, rfl, t, _, rfl, g _ (C2.at nt ht'), _, _, rfl, rfl, p, w, 1, (w - 1).toNat, ?_, C2.1, by omega, by omega, by decide, fun c cs H3 c0 c1 c2 c3 c4 C3 => ?_⟩
        · rw [Int.toNat_of_nonneg (by omega)]
          rfl
        have C23 := C2.trans C3
        have hk3 := C23.at nk hk'
        have nc : ∀ o, H3 k = some o → c ≠ k := fun o e => ne_of c1 hk3 (by intro z; cases z)
        refine ⟨_, rfl, _, rfl, k, _, rfl, DPut.k (k := Sum.inr n) hk3 ?_, ks ++ [(n, c, cs)], _, rfl, ?_, ?_, ?_, fun b hb => ?_, fun b hb => ?_, (hc.trans C23).mut hk nk⟩
        · unfold keyK
          rw [List.length_map]
          exact Nat.lt_of_le_of_lt hlen (by decide)
        · unfold keyK
          rw [snoc_map]
          refine Eq.trans upd_same (congrArg (fun x => some (HO.dK x)) (putK_new _ (valV_no ?_)))
          have e := keys_key ks
          unfold keyK at e
          rw [e]
          exact inr_no fun hm => nd_take hT.nm.nd hn (hsub.subset hm)
        · rw [upd_ne nkl.symm]
          exact C23.at nl hl'
        · rw [snoc_map, tk]
          exact hsub.append (List.Sublist.refl _)
        · rcases List.mem_append.mp hb with h | h
          · exact upd_tup hk3 (by intro _ z; cases z) _ _ (chg_tup hc.1 C23 _ _ (hat b h))
          · rw [List.mem_singleton.mp h]
            exact upd_tup hk3 (by intro _ z; cases z) _ _ c1
        · rcases List.mem_append.mp hb with h | h
          · exact hok b h
          · rw [List.mem_singleton.mp h]
            have h5 := c4 rfl (by omega)
            exact ⟨w, hmem, c2, h5, by show (cs.length : Int) < w; omega⟩
      · exact ⟨ks, _, rfl, C2.at nk hk', C2.at nl hl', hsub', fun b hb => chg_tup hc.1 C2 _ _ (hat b hb), hok, hc.trans C2⟩
    · obtain ⟨ks, y3, rfl, hk', hl', hsub, hat, hok, hc⟩ := hp
      rw [List.length_map, List.take_length] at hsub
      exact ⟨_, rfl, q k ks H' hk hk' ⟨hT.nm.nd.sublist hsub, by have := hsub.length_le; rw [List.length_map, List.length_map] at this; exact this, hat, hok⟩ hc⟩
/-! ### _law_is_whole -/
theorem valV_mem {κ : Type} [DecidableEq κ] {k : κ} {v : V} : ∀ {kvs : List (κ × V)}, valV kvs k = some v → (k, v) ∈ kvs
  | [], h => by cases h
  | p :: r, h => by
    by_cases e : p.1 = k
    · rw [valV_pos e] at h
      have : p = (k, v) := by rw [← e, ← Option.some.inj h]
      rw [this]
      exact List.mem_cons_self ..
    · rw [valV_neg e] at h
      exact List.mem_cons_of_mem _ (valV_mem h)
theorem perm_nd {κ : Type} {a b : List (κ × V)} (p : a.Perm b) (nd : (b.map (·.1)).Nodup) : (a.map (·.1)).Nodup := (p.map (·.1)).nodup_iff.mpr nd
theorem valV_perm {κ : Type} [DecidableEq κ] {a b : List (κ × V)} (p : a.Perm b) (nd : (b.map (·.1)).Nodup) (k : κ) : valV a k = valV b k := by
  cases h : valV b k with
  | some v => exact val_nodup (perm_nd p nd) (k, v) (p.mem_iff.mpr (valV_mem h))
  | none =>
    cases h' : valV a k with
    | none => rfl
    | some v =>
      rw [val_nodup nd (k, v) (p.mem_iff.mp (valV_mem h'))] at h
      cases h
/-- a dict at t with these pairs, in any order -/
def DctAt (H : Hp) (t : Addr) (kvs : List (Key × V)) : Prop := ∃ ks, H t = some (.dK ks) ∧ ks.Perm kvs
theorem DctAt.of {H : Hp} {t : Addr} {kvs : List (Key × V)} (h : H t = some (.dK kvs)) : DctAt H t kvs := ⟨kvs, h, .refl _⟩
theorem DctAt.same {H H' : Hp} {t : Addr} {kvs : List (Key × V)} (h : DctAt H t kvs) (s : Same H H') : DctAt H' t kvs := by
  obtain ⟨ks, e, p⟩ := h
  exact ⟨ks, s _ _ e, p⟩
theorem DctAt.get {H : Hp} {t : Addr} {kvs : List (Key × V)} (h : DctAt H t kvs) (nd : (kvs.map (·.1)).Nodup) (k : Key) : DGet H t (kV k) (valV kvs k) := by
  obtain ⟨ks, e, p⟩ := h
  have g := DGet.k (k := k) e
  rw [valV_perm p nd] at g
  exact g
theorem tab_nd {ts : List (Str × Int)} {m : Nat} {wm : Int} (h : Tabs ts m wm) : ((tabK ts).map (·.1)).Nodup := by
  rw [keys_tab]
  exact inr_nd h.nm.nd
theorem tab_val {ts : List (Str × Int)} {m : Nat} {wm : Int} {n : Str} {w : Int} (h : Tabs ts m wm) (hm : (n, w) ∈ ts) : valV (tabK ts) (Sum.inr n) = some (.int w) :=
  val_nodup (kvs := tabK ts) (tab_nd h) (Sum.inr n, V.int w) (List.mem_map.mpr ⟨(n, w), hm, rfl⟩)
theorem key_nd {H : Hp} {ts : List (Str × Int)} {ks : List KeyE} {m : Nat} {wm : Int} (hT : Tabs ts m wm) (h : Keys H ts ks) : ((keyK ks).map (·.1)).Nodup := by
  rw [keys_key]
  exact inr_nd h.nd
theorem DctAt.at_ {H : Hp} {t : Addr} {kvs : List (Key × V)} {n : Str} {v : V} (h : DctAt H t kvs) (nd : (kvs.map (·.1)).Nodup) (e : valV kvs (Sum.inr n) = some v) : DGet H t (.str n) (some v) := by
  have g := h.get nd (Sum.inr n)
  rw [e] at g
  exact g
def capV : Option Int → V
  | none => .non
  | some i => .int i
theorem capV_none (c : Option Int) : decide (capV c = .non) = c.isNone := by
  cases c <;> rfl
def keyAt (ks : List KeyE) (n : Str) : Option KeyE := ks.find? fun b => decide (b.1 = n)
theorem keyAt_val (n : Str) : ∀ ks : List KeyE, valV (keyK ks) (Sum.inr n) = (keyAt ks n).map fun b => V.ref b.2.1
  | [] => rfl
  | b :: ks => by
    have ih := keyAt_val n ks
    unfold keyAt keyK at ih ⊢
    rw [List.map_cons]
    by_cases e : b.1 = n
    · rw [valV_pos (by rw [e])]
      simp [e]
    · rw [valV_neg (fun z => e (Sum.inr.inj z)), ih]
      simp [e]
theorem keyAt_mem {ks : List KeyE} {n : Str} {b : KeyE} (h : keyAt ks n = some b) : b ∈ ks ∧ b.1 = n := by
  unfold keyAt at h
  exact ⟨List.mem_of_find?_eq_some h, by simpa using List.find?_some h⟩
def isWh (w : Int) (ks : List KeyE) (n : Str) (cols : List Int) (cap : Option Int) : Bool :=
  cap.isNone || (decide ((cols.length : Int) = w) || match keyAt ks n with
    | none => false
    | some b => b.2.2.all fun x => decide (x ∈ cols))
theorem inV_ints (c : Int) (xs : List Int) : inV (.int c) (xs.map V.int) = decide (c ∈ xs) := by
  unfold inV
  rw [List.any_map]
  apply Bool.eq_iff_iff.mpr
  rw [List.any_eq_true, decide_eq_true_iff]
  constructor
  · rintro ⟨x, hx, e⟩
    have e' : decide (x = c) = true := e
    rw [← of_decide_eq_true e']
    exact hx
  · intro h
    exact ⟨c, h, decide_eq_true rfl⟩
theorem flat_ints (xs : List Int) : (xs.map V.int).all flatV = true := by
  rw [List.all_map, List.all_eq_true]
  intro _ _
  rfl
theorem dp_ints {K : PySem.W.Frag} {H : Hp} : ∀ ns : List Int, DpAll K H (ns.map V.int) (ns.map PyData.int)
  | [] => .nil
  | n :: ns => .cons (.int n) (dp_ints ns)
theorem lay_ints : ∀ ns : List Int, PyData.canLayAll0 (ns.map PyData.int) = true ∧ PyData.depthAll (ns.map PyData.int) = 0
  | [] => by simp [PyData.canLayAll0, PyData.depthAll]
  | n :: ns => by
    obtain ⟨h1, h2⟩ := lay_ints ns
    simp only [List.map_cons, PyData.canLayAll0, PyData.depthAll, PyData.canLay0, PyData.depth, h1, h2, Bool.and_self, true_and]
    rfl
theorem ints_shaped (ns : List Int) : SeqAt.shaped (.list (ns.map PyData.int)) = true := by
  obtain ⟨h1, h2⟩ := lay_ints ns
  show ((PyData.list (ns.map PyData.int)).canLay0 && decide ((PyData.list (ns.map PyData.int)).depth ≤ 64)) = true
  simp only [PyData.canLay0, PyData.depth, h1, h2]
  decide
theorem eqv_nilL (ds : List PyData) : PyData.eqv (.list ds) (.list []) = ds.isEmpty := by
  cases ds <;> simp [PyData.eqv, PyData.eqvAll]
theorem filter_empty (cs xs : List Int) : ((cs.filter fun c => !decide (c ∈ xs)).map PyData.int).isEmpty = cs.all fun c => decide (c ∈ xs) := by
  induction cs with
  | nil => rfl
  | cons c cs ih =>
    by_cases h : c ∈ xs
    · rw [List.filter_cons_of_neg (by simp [h]), ih, List.all_cons, decide_eq_true h, Bool.true_and]
    · rw [List.filter_cons_of_pos (by simp [h]), List.all_cons, decide_eq_false h, Bool.false_and]
      rfl
structure Told (H : Hp) (v : Addr) (n : Str) (ga : Addr) (cols : List Int) (cap : Option Int) : Prop where
  tup : H v = some (.tup [.str n, .ref ga, capV cap])
  cols : H ga = some (.tup (cols.map V.int))
theorem Told.mono {H H' : Hp} {v : Addr} {n : Str} {ga : Addr} {cols : List Int} {cap : Option Int} (h : Told H v n ga cols cap) (m : ∀ b xs, H b = some (.tup xs) → H' b = some (.tup xs)) : Told H' v n ga cols cap := ⟨m _ _ h.tup, m _ _ h.cols⟩
def spWhole : Sp := fun vs H Q _ => ∃ (t k v ga : Addr) (m : Nat) (ts : List (Str × Int)) (ks : List KeyE) (n : Str) (w : Int) (cols : List Int) (cap : Option Int), vs = [.ref t, .ref k, .ref v] ∧ DctAt H t (tabK ts) ∧ DctAt H k (keyK ks) ∧ Tabs ts m 100 ∧ Keys H ts ks ∧
  Told H v n ga cols cap ∧ (n, w) ∈ ts ∧ cols.length ≤ 100 ∧ ∀ H', Same H H' → Q (.bl (isWh w ks n cols cap)) H'
theorem ok_is_whole (T : Txt K mg a d) : FnOk P w K mg base CX0 3 (a 35) (d 35) ["_law_tables_here", "_law_keys_here", "_law_told"] spWhole := by
  refine T.F35.ok sc__law_is_whole (fun vs H Q E h => ?_) (fun cdv A outer s H vs Q E hr h => ?_)
  · obtain ⟨t, k, v, ga, m, ts, ks, n, w, cols, cap, rfl, _⟩ := h
    rfl
  · obtain ⟨t, k, v, ga, m, ts, ks, n, w, cols, cap, rfl, ht, hk, hT, hK, hv, hm, hc, q⟩ := h
    refine ⟨_, (pss_cons (ps_asg (pv 2) (pg_tup rfl (pgs_cons (pg_name (i := 3) sc__law_is_whole.nd rfl (.inl rfl)) (pgs_cons (pg_name (i := 4) sc__law_is_whole.nd rfl (.inr rfl)) (pgs_cons (pg_name (i := 5) sc__law_is_whole.nd rfl (.inl rfl)) pgs_nil)))))
  (pss_cons (ps_if (PW.pt (pw_or (pt_cmpR op_isN (pv 5) pe_non (nomark _)) (pw_or1 (pt_cmpR op_eq (pe_callB (id := "len")  call_len_seq (by rfl) T.z_len (by decide +kernel) (pa_cons (pv 4) pa_nil)) (pe_dget (hu_of hr) (pv 0) (pv 3) (fun _ _ => rfl)) (nomark _)))))
    (pss_one (ps_ret pe_bl))
    pss_nil)
  (pss_cons (ps_if (pt_cmp (pc_dnotin (hu_of hr) (pv 3) (pv 1)))
    (pss_one (ps_ret pe_bl))
    pss_nil)
  (pss_one (ps_ret (pe_cmpR (op_eqD (hu_of64 hr)) (pe_lc (own := [("_law_column", 6)]) rfl sc__law_is_whole.nd (pi_tup (pe_dget (hu_of hr) (pv 1) (pv 3) (fun _ _ => rfl))) (blkOk_by (N := ["_law_tables_here", "_law_keys_here", "_law_told", "_law_table", "_law_given", "_law_cap", "_law_column"]) (sc := defScope s__law_is_whole) (by decide +kernel)) (fun _ _ _ _ _ => pg_name (i := 6) sc__law_is_whole.nd rfl (.inl rfl)) (fun _ _ _ _ _ => (pts_one (pt_cmpR (r := rIn K true) op_notIn_seq (pv 6) (pv 4) (by rfl)))) (fun _ _ _ _ _ => (pv 6))) (pe_lst pa_nil) (nomark _))))))), ?_⟩
    refine ⟨_, rfl, v, _, rfl, .of hv.tup, rfl, _, _, rfl, _, _, rfl, _, _, rfl, rfl, ?_⟩
    have fin : ∀ b : Bool, b = isWh w ks n cols cap → ∀ H', Same H H' → Q (.bl b) H' := fun b e H' s => by
      rw [e]
      exact q H' s
    refine ⟨_, rfl, rfl, _, rfl, ?_⟩
    rw [capV_none]
    cases e1 : cap.isNone with
    | true => exact fin true (by unfold isWh; rw [e1]; rfl) H (fun _ _ e => e)
    | false =>
      refine ⟨_, rfl, _, _, rfl, .inr (.of hv.cols), _, rfl, _, rfl, t, _, rfl, ht.at_ (tab_nd hT) (tab_val hT hm), rfl, _, rfl, ?_⟩
      rw [List.length_map]
      refine ite_eqI (fun e2 => ?_) (fun e2 => ?_)
      · exact fin true (by unfold isWh; rw [e1, decide_eq_true e2]; rfl) H (fun _ _ e => e)
      · refine ⟨_, rfl, _, rfl, k, _, rfl, hk.get (key_nd hT hK) (Sum.inr n), _, rfl, ?_⟩
        rw [keyAt_val]
        cases e3 : keyAt ks n with
        | none => exact fin false (by unfold isWh; rw [e1, decide_eq_false e2, e3]; rfl) H (fun _ _ e => e)
        | some b =>
          obtain ⟨bm, bn⟩ := keyAt_mem e3
          have hb := hK.at_ b bm
          obtain ⟨w', hw', hcols', hl1, hl2⟩ := hK.ok b bm
          have hw2 := (hT.wd _ hw').2
          have dg := hk.get (key_nd hT hK) (Sum.inr n)
          rw [keyAt_val, e3] at dg
          refine ⟨_, rfl, _, rfl, k, _, rfl, dg, b.2.1, rfl, ⟨_, .of hb⟩, fun D hD => ?_⟩
          refine lc_tup (K := K) (a := b.2.1) (xs := b.2.2.map V.int) (fun i H' => H' D = some (.lst (((b.2.2.take i).filter fun c => !decide (c ∈ cols)).map V.int)) ∧ Same H H') ⟨upd_same, same_upd hD⟩ (fun i H' _ hp => .of (hp.2 _ _ hb)) (fun i x H' hx hp => ?_) (fun H' hp => ?_)
          · obtain ⟨h1, h2⟩ := hp
            obtain ⟨c, hcx, rfl⟩ := map_at hx
            have hi : i < b.2.2.length := (List.getElem?_eq_some_iff.mp hcx).1
            refine ⟨rfl, _, rfl, _, rfl, ga, _, rfl, .inr (.of (h2 _ _ hv.cols)), rfl, flat_ints _, _, rfl, ?_⟩
            show if (!inV (.int c) (cols.map V.int)) = true then _ else _
            rw [inV_ints]
            have tk : (b.2.2.take (i + 1)).filter (fun c => !decide (c ∈ cols)) = (b.2.2.take i).filter (fun c => !decide (c ∈ cols)) ++ ([c].filter fun c => !decide (c ∈ cols)) := by
              rw [List.take_add_one, hcx, List.filter_append]
              rfl
            refine ite_nd (fun e => ?_) (fun e => ?_)
            · refine ⟨_, rfl, _, h1, ?_, ?_, ?_⟩
              · rw [List.length_map]
                have l1 := List.length_filter_le (fun c => !decide (c ∈ cols)) (b.2.2.take i)
                rw [List.length_take] at l1
                exact Nat.lt_of_le_of_lt (by omega : _ ≤ 100) (by decide)
              · rw [tk, List.map_append, List.filter_cons_of_pos (by simp [e])]
                exact upd_same
              · intro x o ex
                rw [upd_ne (ne_of_none ex hD)]
                exact h2 x o ex
            · refine ⟨?_, h2⟩
              rw [tk, List.filter_cons_of_neg (by simp [e])]
              simpa using h1
          · obtain ⟨h1, h2⟩ := hp
            rw [List.length_map, List.take_length] at h1
            refine ⟨Nat.zero_le _, fun p hp => ⟨_, .list [], .lst (.of (same_upd hp _ _ h1)) (dp_ints _), .lst (.of upd_same) .nil, ints_shaped _, by decide, ?_⟩⟩
            rw [eqv_nilL, filter_empty]
            exact fin _ (by unfold isWh; rw [e1, decide_eq_false e2, e3]; rfl) _ (h2.trans (same_upd hp))
/-! ### _law_services -/
structure SvE where
  name : Str
  at_ : Addr
  tab : Str
  ga : Addr
  cols : List Int
  cap : Option Int
def svK (ss : List SvE) : List (Key × V) := ss.map fun b => (Sum.inr b.name, V.ref b.at_)
theorem keys_sv (ss : List SvE) : (svK ss).map (·.1) = (ss.map (·.name)).map Sum.inr := by
  unfold svK
  rw [List.map_map, List.map_map]
  rfl
def widthAt (ts : List (Str × Int)) (n : Str) : Int := ((ts.find? fun b => decide (b.1 = n)).map (·.2)).getD 0
theorem widthAt_mem {n : Str} {w : Int} : ∀ {ts : List (Str × Int)}, (ts.map (·.1)).Nodup → (n, w) ∈ ts → widthAt ts n = w
  | b :: ts, nd, h => by
    rw [List.map_cons] at nd
    have nd' := List.nodup_cons.mp nd
    unfold widthAt
    by_cases e : b.1 = n
    · rcases List.mem_cons.mp h with h' | h'
      · rw [← h']
        simp
      · exact absurd (by rw [e]; exact List.mem_map.mpr ⟨_, h', rfl⟩) nd'.1
    · rcases List.mem_cons.mp h with h' | h'
      · exact absurd (by rw [← h']) e
      · have ih := widthAt_mem nd'.2 h'
        unfold widthAt at ih
        simpa [e] using ih
/-- is the service whole -/
def whE (ts : List (Str × Int)) (ks : List KeyE) (b : SvE) : Bool := isWh (widthAt ts b.tab) ks b.tab b.cols b.cap
def fillE (ts : List (Str × Int)) (ks : List KeyE) (ss : List SvE) : List Str := (ss.filter fun b => !whE ts ks b).map (·.tab)
theorem fillE_snoc (ts : List (Str × Int)) (ks : List KeyE) (ss : List SvE) (b : SvE) : fillE ts ks (ss ++ [b]) = fillE ts ks ss ++ (if whE ts ks b = true then [] else [b.tab]) := by
  unfold fillE
  rw [List.filter_append, List.map_append]
  cases e : whE ts ks b <;> simp [e]
structure SvOk (H : Hp) (ts : List (Str × Int)) (b : SvE) : Prop where
  told : Told H b.at_ b.tab b.ga b.cols b.cap
  ok : ∃ w, (b.tab, w) ∈ ts ∧ Cols b.cols w ∧ b.cols.length ≤ 4
  cap : ∀ c, b.cap = some c → 1 ≤ c ∧ c ≤ 4
theorem SvOk.mono {H H' : Hp} {ts : List (Str × Int)} {b : SvE} (h : SvOk H ts b) (m : ∀ b xs, H b = some (.tup xs) → H' b = some (.tup xs)) : SvOk H' ts b := ⟨h.told.mono m, h.ok, h.cap⟩
structure Svcs (H : Hp) (ts : List (Str × Int)) (ks : List KeyE) (ss : List SvE) (n : Nat) : Prop where
  nm : Nms (ss.map (·.name)) n
  ok : ∀ b ∈ ss, SvOk H ts b
  one : (fillE ts ks ss).Nodup
theorem Svcs.mono {H H' : Hp} {ts : List (Str × Int)} {ks : List KeyE} {ss : List SvE} {n : Nat} (h : Svcs H ts ks ss n) (m : ∀ b xs, H b = some (.tup xs) → H' b = some (.tup xs)) : Svcs H' ts ks ss n := ⟨h.nm, fun b hb => (h.ok b hb).mono m, h.one⟩
theorem inV_strs (n : Str) (xs : List Str) : inV (.str n) (xs.map V.str) = decide (n ∈ xs) := by
  unfold inV
  rw [List.any_map]
  apply Bool.eq_iff_iff.mpr
  rw [List.any_eq_true, decide_eq_true_iff]
  constructor
  · rintro ⟨x, hx, e⟩
    have e' : decide (x = n) = true := e
    rw [← of_decide_eq_true e']
    exact hx
  · intro h
    exact ⟨n, h, decide_eq_true rfl⟩
theorem flat_strs (xs : List Str) : (xs.map V.str).all flatV = true := by
  rw [List.all_map, List.all_eq_true]
  intro _ _
  rfl
/-- while the services are made -/
structure SvMade (p t k ca l1 l2 s f : Addr) (ts : List (Str × Int)) (ks : List KeyE) (cps : List (Option Int)) (ns : List Str) (H0 H : Hp) (ss : List SvE) (fl : List Str) : Prop where
  chg : Chg p H0 H
  sv : H s = some (.dK (svK ss))
  fil : H f = some (.lst (fl.map V.str))
  ord : H l1 = some (.lst ((ts.map (·.1)).map V.str))
  nam : H l2 = some (.lst (ns.map V.str))
  tabs : H t = some (.dK (tabK ts))
  keys : H k = some (.dK (keyK ks))
  caps : H ca = some (.lst (cps.map capV))
  kok : Keys H ts ks
  ok : ∀ b ∈ ss, SvOk H ts b
structure SvNe (p t k ca l1 l2 s f : Addr) (H0 : Hp) : Prop where
  s0 : H0 s = none
  f0 : H0 f = none
  sp : s ≠ p
  fp : f ≠ p
  cp : ca ≠ p
  p1 : l1 ≠ p
  p2 : l2 ≠ p
  f1 : l1 ≠ f
  f2 : l2 ≠ f
  fc : ca ≠ f
theorem SvMade.go {p t k ca l1 l2 s f : Addr} {ts : List (Str × Int)} {ks : List KeyE} {cps : List (Option Int)} {ns : List Str} {H0 H H' : Hp} {ss : List SvE} {fl : List Str} (h : SvMade p t k ca l1 l2 s f ts ks cps ns H0 H ss fl) (n : SvNe p t k ca l1 l2 s f H0) (c : Chg p H H') : SvMade p t k ca l1 l2 s f ts ks cps ns H0 H' ss fl := by
  have m := chg_tup h.chg.1 c
  have d : ∀ {b : Addr} {kvs : List (Key × V)}, H b = some (.dK kvs) → H' b = some (.dK kvs) := fun e => c.at (pool_ne h.chg.1 e (by intro _ z; cases z)) e
  exact ⟨h.chg.trans c, d h.sv, c.at n.fp h.fil, c.at n.p1 h.ord, c.at n.p2 h.nam, d h.tabs, d h.keys, c.at n.cp h.caps, h.kok.mono m, fun b hb => (h.ok b hb).mono m⟩
theorem SvMade.same {p t k ca l1 l2 s f : Addr} {ts : List (Str × Int)} {ks : List KeyE} {cps : List (Option Int)} {ns : List Str} {H0 H H' : Hp} {ss : List SvE} {fl : List Str} (h : SvMade p t k ca l1 l2 s f ts ks cps ns H0 H ss fl) (n : SvNe p t k ca l1 l2 s f H0) (c : Same H H') : SvMade p t k ca l1 l2 s f ts ks cps ns H0 H' ss fl :=
  h.go n ⟨h.chg.1.same c, fun b o _ e => c b o e⟩
theorem SvMade.fill {p t k ca l1 l2 s f : Addr} {ts : List (Str × Int)} {ks : List KeyE} {cps : List (Option Int)} {ns : List Str} {H0 H : Hp} {ss : List SvE} {fl gl : List Str} (h : SvMade p t k ca l1 l2 s f ts ks cps ns H0 H ss fl) (n : SvNe p t k ca l1 l2 s f H0) : SvMade p t k ca l1 l2 s f ts ks cps ns H0 (upd H f (.lst (gl.map V.str))) ss gl := by
  have m : ∀ b xs, H b = some (.tup xs) → upd H f (.lst (gl.map V.str)) b = some (.tup xs) := upd_tup h.fil (by intro _ z; cases z)
  have d : ∀ {b : Addr} {kvs : List (Key × V)}, H b = some (.dK kvs) → upd H f (.lst (gl.map V.str)) b = some (.dK kvs) := fun e => by
    rw [upd_ne (ne_of e h.fil (by intro z; cases z))]
    exact e
  exact ⟨h.chg.mut n.f0 n.fp, d h.sv, upd_same, by rw [upd_ne n.f1]; exact h.ord, by rw [upd_ne n.f2]; exact h.nam, d h.tabs, d h.keys, by rw [upd_ne n.fc]; exact h.caps, h.kok.mono m, fun b hb => (h.ok b hb).mono m⟩
theorem SvMade.put {p t k ca l1 l2 s f : Addr} {ts : List (Str × Int)} {ks : List KeyE} {cps : List (Option Int)} {ns : List Str} {H0 H : Hp} {ss : List SvE} {fl : List Str} {b : SvE} (h : SvMade p t k ca l1 l2 s f ts ks cps ns H0 H ss fl) (n : SvNe p t k ca l1 l2 s f H0) (ht : H0 t ≠ none) (hk : H0 k ≠ none) (hb : SvOk H ts b) :
    SvMade p t k ca l1 l2 s f ts ks cps ns H0 (upd H s (.dK (svK (ss ++ [b])))) (ss ++ [b]) fl := by
  have m : ∀ c xs, H c = some (.tup xs) → upd H s (.dK (svK (ss ++ [b]))) c = some (.tup xs) := upd_tup h.sv (by intro _ z; cases z)
  have l : ∀ {c : Addr} {xs : List V}, H c = some (.lst xs) → upd H s (.dK (svK (ss ++ [b]))) c = some (.lst xs) := fun e => by
    rw [upd_ne (ne_of e h.sv (by intro z; cases z))]
    exact e
  have nts : t ≠ s := fun e => ht (by rw [e]; exact n.s0)
  have nks : k ≠ s := fun e => hk (by rw [e]; exact n.s0)
  refine ⟨h.chg.mut n.s0 n.sp, upd_same, l h.fil, l h.ord, l h.nam, by rw [upd_ne nts]; exact h.tabs, by rw [upd_ne nks]; exact h.keys, l h.caps, h.kok.mono m, fun c hc => ?_⟩
  rcases List.mem_append.mp hc with e | e
  · exact (h.ok c e).mono m
  · rw [List.mem_singleton.mp e]
    exact hb.mono m
def spServices : Sp := fun vs H Q _ => ∃ (p t k ca : Addr) (m more : Nat) (ts : List (Str × Int)) (ks : List KeyE) (cps : List (Option Int)), vs = [.ref p, .ref t, .ref k, .ref ca, .int (more : Int)] ∧ PoolAt H p ∧ H t = some (.dK (tabK ts)) ∧ H k = some (.dK (keyK ks)) ∧ Tabs ts m 100 ∧ 1 ≤ m ∧ m + more ≤ 26 ∧ Keys H ts ks ∧
  H ca = some (.lst (cps.map capV)) ∧ ca ≠ p ∧ 1 ≤ cps.length ∧ cps.length ≤ 100 ∧ (∀ c, some c ∈ cps → 1 ≤ c ∧ c ≤ 4) ∧
  ∀ (s : Addr) (ss : List SvE) (H' : Hp), H s = none → H' s = some (.dK (svK ss)) → Svcs H' ts ks ss (m + more) → Chg p H H' → Q (.ref s) H'
theorem ok_services (T : Txt K mg a d) : FnOk P w K mg base CX0 5 (a 36) (d 36) ["_law_pool_here", "_law_tables_here", "_law_keys_here", "_law_caps", "_law_more"] spServices := by
  have G29 : FnOk P w K mg base CX0 2 (a 29) (d 29) ["_law_pool_here", "_law_many"] spDraw := ok_draw T
  have G31 : FnOk P w K mg base CX0 4 (a 31) (d 31) ["_law_pool_here", "_law_many"] spNames := ok_names T
  have G32 : FnOk P w K mg base CX0 3 (a 32) (d 32) ["_law_pool_here", "_law_width", "_law_low", "_law_high"] spCols := ok_columns T
  have G35 : FnOk P w K mg base CX0 3 (a 35) (d 35) ["_law_tables_here", "_law_keys_here", "_law_told"] spWhole := ok_is_whole T
  refine T.F36.ok sc__law_services (fun vs H Q E h => ?_) (fun cdv A outer s H vs Q E hr h => ?_)
  · obtain ⟨p, t, k, ca, m, more, ts, ks, cps, rfl, _⟩ := h
    rfl
  · obtain ⟨p, t, k, ca, m, more, ts, ks, cps, rfl, hP, ht, hk, hT, hm1, hm2, hK, hca, ncp, hc1, hc2, hcap, q⟩ := h
    refine ⟨_, (pss_cons (ps_set (i := 5) sc__law_services.nd rfl (.inl rfl) (pe_callTy (T := "list")  (call_listD rfl) (by rfl) T.z_list (by decide +kernel) (pa_cons (pv 1) pa_nil)))
  (pss_cons (ps_set (i := 6) sc__law_services.nd rfl (.inl rfl) (pe_call G31 (hr.mono (by decide)) (by rfl) T.g31 T.F31.kp T.b31 .nil pass0 (pa_cons (pv 0) (pa_cons (pe_op op_add (pe_callB (id := "len")  call_len_seq (by rfl) T.z_len (by decide +kernel) (pa_cons (pv 5) pa_nil)) (pv 4)) pa_nil))))
  (pss_cons (ps_set (i := 7) sc__law_services.nd rfl (.inl rfl) pe_dnewK)
  (pss_cons (ps_set (i := 8) sc__law_services.nd rfl (.inl rfl) (pe_lst pa_nil))
  (pss_cons (ps_for PassesOwn.never rfl (pi_range1 (by rfl) T.z_range (pa_cons (pe_callB (id := "len")  call_len_seq (by rfl) T.z_len (by decide +kernel) (pa_cons (pv 6) pa_nil)) pa_nil)) (pg_name (i := 9) sc__law_services.nd rfl (.inl rfl))
    (pss_cons (ps_set (i := 10) sc__law_services.nd rfl (.inl rfl) (pe_ix ix_list (pv 5) (pe_op op_mod (pv 9) (pe_callB (id := "len")  call_len_seq (by rfl) T.z_len (by decide +kernel) (pa_cons (pv 5) pa_nil))) (fun _ _ => rfl)))
      (pss_cons (ps_set (i := 11) sc__law_services.nd rfl (.inl rfl) (pe_ix ix_list (pv 3) (pe_call G29 (hr.mono (by decide)) (by rfl) T.g29 T.F29.kp T.b29 .nil pass0 (pa_cons (pv 0) (pa_cons (pe_callB (id := "len")  call_len_seq (by rfl) T.z_len (by decide +kernel) (pa_cons (pv 3) pa_nil)) pa_nil))) (fun _ _ => rfl)))
      (pss_cons (ps_set (i := 12) sc__law_services.nd rfl (.inl rfl) (pe_tup (pa_cons (pv 10) (pa_cons (pe_call G32 (hr.mono (by decide)) (by rfl) T.g32 T.F32.kp T.b32 .nil pass0 (pa_cons (pv 0) (pa_cons (pe_dget (hu_of hr) (pv 1) (pv 10) (fun _ _ => rfl)) (pa_cons pe_int (pa_cons pe_int pa_nil))))) (pa_cons (pv 11) pa_nil)))))
      (Evl.pss_cut (ps_if (pt_not (pt_val (pe_call G35 (hr.mono (by decide)) (by rfl) T.g35 T.F35.kp T.b35 .nil pass0 (pa_cons (pv 1) (pa_cons (pv 2) (pa_cons (pv 12) pa_nil))))))
        (pss_one (ps_if (pt_cmpR op_in_seq (pv 10) (pv 8) (by rfl))
            (pss_one (ps_set (i := 12) sc__law_services.nd rfl (.inl rfl) (pe_tup (pa_cons (pv 10) (pa_cons (pe_ix ix_tup (pv 12) pe_int (fun _ _ => rfl)) (pa_cons pe_non pa_nil))))))
            (pss_one (ps_expr (pe_bm PySem.F.plainAttrs_list PySem.F.slot_list_append PySem.F.type_list_append mt_append (pv 8) (pa_cons (pv 10) pa_nil))))))
        pss_nil)
      (pss_one (ps_dput (hu_of hr) (pv 7) (pe_ix ix_list (pv 6) (pv 9) (fun _ _ => rfl)) (pv 12) rfl)))))))
  (pss_one (ps_ret (pv 7)))))))), ?_⟩
    have e0 : (tabK ts).map (fun kv => kV kv.1) = (ts.map (·.1)).map V.str := by
      unfold tabK
      rw [List.map_map, List.map_map]
      rfl
    have lts : ((ts.map (·.1)).map V.str).length = m := by rw [List.length_map, hT.nm.len]
    refine ⟨_, rfl, t, tabK ts, rfl, .inl ht, fun l1 hl1 => ?_⟩
    rw [e0]
    have n1 : l1 ≠ p := Chg.ne hP hl1
    have C1 : Chg p H (upd H l1 (.lst ((ts.map (·.1)).map V.str))) := (Chg.refl hP).new hl1
    -- the names
    refine ⟨_, rfl, _, rfl, _, _, rfl, .inl (.of upd_same), _, rfl, _, _, rfl, rfl, p, m + more, ?_, C1.1, hm2, fun l2 ns H2 hl2 h2 hn C2 => ?_⟩
    · rw [lts]
      rfl
    have C02 := C1.trans C2
    have h1 := C2.at n1 upd_same
    have n2 : l2 ≠ p := fun e => by
      obtain ⟨p0, p1, p2, p3, r, e', c⟩ := C1.1
      rw [e, e'] at hl2
      cases hl2
    have nca : ca ≠ l1 := ne_of_none hca hl1
    have hca1 : upd H l1 (.lst ((ts.map (·.1)).map V.str)) ca = some (.lst (cps.map capV)) := C1.at ncp hca
    intro sv hsv
    have nsv : sv ≠ p := Chg.ne C2.1 hsv
    have C3 := C02.new (o := .dK []) hsv
    refine ⟨Nat.zero_le _, fun f hf => ?_⟩
    have nf : f ≠ p := Chg.ne C3.1 hf
    have C4 := C3.new (o := .lst []) hf
    have h14 : ∀ {b : Addr} {o : HO}, H2 b = some o → upd (upd H2 sv (.dK [])) f (.lst []) b = some o := fun e => (same_upd hf) _ _ ((same_upd hsv) _ _ e)
    have d4 : ∀ {b : Addr} {kvs : List (Key × V)}, H b = some (.dK kvs) → upd (upd H2 sv (.dK [])) f (.lst []) b = some (.dK kvs) := fun e => C4.at (pool_ne hP e (by intro _ z; cases z)) e
    have N : SvNe p t k ca l1 l2 sv f H := ⟨free_of C02 hP hsv, free_of C3 hP hf, nsv, nf, ncp, n1, n2, ne_of_none ((same_upd hsv) _ _ h1) hf, ne_of_none ((same_upd hsv) _ _ h2) hf, ne_of_none (C3.at ncp hca) hf⟩
    have M0 : SvMade p t k ca l1 l2 sv f ts ks cps ns H (upd (upd H2 sv (.dK [])) f (.lst [])) [] [] :=
      ⟨C4, (by rw [upd_ne (ne_of_none upd_same hf)]; exact upd_same), upd_same, h14 h1, h14 h2, d4 ht, d4 hk, C4.at ncp hca, hK.mono (chg_tup hP C4), fun b hb => by cases hb⟩
    have lns : ((ns.map V.str).length : Int) = ((m + more : Nat) : Int) := by rw [List.length_map, hn.len]
    refine ⟨_, rfl, _, _, rfl, .inl (.of M0.nam), _, rfl, by omega, by omega, ?_⟩
    rw [lns, Int.toNat_natCast]
    refine for_range (lo := 0) (n := m + more) (fun i σ H' => ∃ (ss : List SvE) (y9 y10 y11 y12 : Option V), σ = [some (.ref p), some (.ref t), some (.ref k), some (.ref ca), some (.int more), some (.ref l1), some (.ref l2), some (.ref sv), some (.ref f), y9, y10, y11, y12] ∧ SvMade p t k ca l1 l2 sv f ts ks cps ns H H' ss (fillE ts ks ss) ∧ ss.map (·.name) = ns.take i ∧ (fillE ts ks ss).Nodup)
      ⟨[], none, none, none, none, rfl, M0, rfl, List.nodup_nil⟩ (fun i σ H' hi hp => ?_) (fun σ H' hp => ?_)
    · obtain ⟨ss, y9, y10, y11, y12, rfl, M, hnm, hone⟩ := hp
      have hss : ss.length ≤ 26 := by
        have e := congrArg List.length hnm
        rw [List.length_map, List.length_take] at e
        have := hn.len
        omega
      have hfl : (fillE ts ks ss).length ≤ 26 := by
        unfold fillE
        rw [List.length_map]
        exact Nat.le_trans (List.length_filter_le _ _) hss
      -- table
      have hj : i % m < ts.length := by
        rw [hT.len]
        exact Nat.mod_lt _ (by omega)
      have hat : (ts.map (·.1))[i % m]? = some ts[i % m].1 := by rw [List.getElem?_map, List.getElem?_eq_getElem hj]; rfl
      generalize hb : ts[i % m] = b at hat
      obtain ⟨n, w⟩ := b
      have hmem : (n, w) ∈ ts := by
        rw [← hb]
        exact List.getElem_mem hj
      have hw := hT.wd _ hmem
      have hwa := widthAt_mem hT.nm.nd hmem
      refine ⟨_, rfl, _, rfl, _, rfl, _, _, rfl, .inl (.of M.ord), _, _, rfl, rfl, ?_, _, _, _, .str n, rfl, rfl, .of M.ord, at_g (j := i % m) ?_ (by rw [List.getElem?_map, hat]; rfl), ?_⟩
      · rw [lts]
        omega
      · rw [lts, Int.zero_add]
        exact (Int.natCast_emod i m).symm
      -- cap
      refine ⟨_, rfl, _, rfl, _, rfl, _, _, rfl, .inl (.of M.caps), p, _, rfl, M.chg.1, ?_, ?_, fun r H5 r0 r1 C5 => ?_⟩
      · rw [List.length_map]
        omega
      · rw [List.length_map]
        exact Nat.lt_of_le_of_lt (by omega : _ ≤ 100) (by decide)
      have M5 := M.go N C5
      obtain ⟨v, hv⟩ := at_some (xs := cps.map capV) r0 r1
      obtain ⟨cap, hcp, rfl⟩ := List.mem_map.mp (atI_mem hv)
      refine ⟨_, _, r, _, rfl, rfl, .of M5.caps, hv, ?_⟩
      -- told
      refine ⟨_, rfl, _, rfl, _, rfl, _, rfl, t, _, rfl, tab_at M5.tabs hT.nm.nd hmem, p, w, 0, 4, rfl, M5.chg.1, hw.1, hw.2, by decide, fun c cs H6 c0 c1 c2 c3 c4 C6 => ⟨_, rfl, by show 3 ≤ sizeLine; decide, fun v hv => ?_⟩⟩
      have M6 := (M5.go N C6).same N (same_upd (o := .tup [.str n, .ref c, capV cap]) hv)
      have told : Told (upd H6 v (.tup [.str n, .ref c, capV cap])) v n c cs cap := ⟨upd_same, same_upd hv _ _ c1⟩
      have hcapok : ∀ z, cap = some z → 1 ≤ z ∧ z ≤ 4 := fun z e => hcap z (e ▸ hcp)
      refine ⟨fun σ H' => ∃ (v : Addr) (cap capY : Option Int) (fl : List Str), σ = [some (.ref p), some (.ref t), some (.ref k), some (.ref ca), some (.int more), some (.ref l1), some (.ref l2), some (.ref sv), some (.ref f), some (.int ((0 : Int) + (i : Int))), some (.str n), some (capV capY), some (.ref v)] ∧ SvMade p t k ca l1 l2 sv f ts ks cps ns H H' ss fl ∧ Told H' v n c cs cap ∧ (∀ z, cap = some z → 1 ≤ z ∧ z ≤ 4) ∧ fl = fillE ts ks ss ++ (if isWh w ks n cs cap = true then [] else [n]) ∧ fl.Nodup, ?_, ?_⟩
      · refine ⟨_, rfl, _, rfl, _, rfl, t, k, v, c, m, ts, ks, n, w, cs, cap, rfl, .of M6.tabs, .of M6.keys, hT, M6.kok, told, hmem, by omega, fun H7 s7 => ⟨_, rfl, ?_⟩⟩
        have M7 := M6.same N s7
        have told7 := told.mono fun _ _ e => s7 _ _ e
        cases e : isWh w ks n cs cap with
        | true => exact ⟨v, cap, _, _, rfl, M7, told7, hcapok, by rw [e, if_pos rfl, List.append_nil], hone⟩
        | false =>
          refine ⟨_, rfl, _, rfl, f, _, rfl, .inl (.of M7.fil), rfl, flat_strs _, _, rfl, ?_⟩
          show if inV (.str n) ((fillE ts ks ss).map V.str) = true then _ else _
          rw [inV_strs]
          refine ite_d (fun h => ?_) (fun h => ?_)
          · refine ⟨_, rfl, _, rfl, _, _, _, _, rfl, rfl, .of told7.tup, atI_nat (j := 1) rfl, by show 3 ≤ sizeLine; decide, fun v2 hv2 => ?_⟩
            have s8 := same_upd (o := .tup [.str n, .ref c, .non]) hv2
            exact ⟨v2, none, _, _, rfl, M7.same N s8, ⟨upd_same, s8 _ _ told7.cols⟩, (fun z e => by cases e), by rw [show isWh w ks n cs none = true from rfl, if_pos rfl, List.append_nil], hone⟩
          · refine ⟨_, rfl, .inl ⟨rfl, _, .of M7.fil⟩, _, rfl, f, _, _, rfl, rfl, M7.fil, ?_, ?_⟩
            · rw [List.length_map]
              exact Nat.lt_of_le_of_lt hfl (by decide)
            · have M8 := M7.fill N (gl := fillE ts ks ss ++ [n])
              rw [List.map_append] at M8
              exact ⟨v, cap, _, _, rfl, M8, told7.mono (upd_tup M7.fil (by intro _ z; cases z)), hcapok, by rw [e, if_neg (by decide)], List.nodup_append.mpr ⟨hone, List.nodup_cons.mpr ⟨(fun z => by cases z), List.nodup_nil⟩, fun x hx y hy => fun z => h (by rw [← List.mem_singleton.mp hy, ← z]; exact hx)⟩⟩
      · rintro σ H8 ⟨v, cap, capY, fl, rfl, M8, told, hcapok, hfe, hnd⟩
        have hin : i < ns.length := by rw [hn.len]; exact hi
        refine ⟨_, rfl, _, rfl, _, rfl, _, rfl, _, _, _, .str ns[i], rfl, rfl, .of M8.nam, at_g (j := i) (by omega) (by rw [List.getElem?_map, List.getElem?_eq_getElem hin]; rfl), sv, _, rfl, DPut.k (k := Sum.inr ns[i]) M8.sv ?_, ss ++ [⟨ns[i], v, n, c, cs, cap⟩], _, _, _, _, rfl, ?_, ?_, ?_⟩
        · unfold svK
          rw [List.length_map]
          exact Nat.lt_of_le_of_lt hss (by decide)
        · have e : putK (svK ss) (Sum.inr ns[i]) (V.ref v) = svK (ss ++ [⟨ns[i], v, n, c, cs, cap⟩]) := by
            rw [putK_new _ (valV_no ?_)]
            · unfold svK
              rw [snoc_map]
            · rw [keys_sv, hnm]
              exact inr_no (nd_take hn.nd (List.getElem?_eq_getElem hin))
          rw [e]
          have hf2 : fillE ts ks (ss ++ [⟨ns[i], v, n, c, cs, cap⟩]) = fl := by
            rw [fillE_snoc, hfe]
            unfold whE
            rw [hwa]
          rw [hf2]
          exact M8.put N (by rw [ht]; intro z; cases z) (by rw [hk]; intro z; cases z) ⟨told, ⟨w, hmem, c2, c3⟩, hcapok⟩
        · rw [snoc_map, hnm, List.take_add_one, List.getElem?_eq_getElem hin]
          rfl
        · have hf2 : fillE ts ks (ss ++ [⟨ns[i], v, n, c, cs, cap⟩]) = fl := by
            rw [fillE_snoc, hfe]
            unfold whE
            rw [hwa]
          rw [hf2]
          exact hnd
    · obtain ⟨ss, y9, y10, y11, y12, rfl, M, hnm, hone⟩ := hp
      rw [← hn.len, List.take_length] at hnm
      exact ⟨_, rfl, q sv ss H' N.s0 M.sv ⟨by rw [hnm]; exact hn, M.ok, hone⟩ M.chg⟩
end
theorem lc_str {x : Str} {g : TG} {tt : TT} {te : TE} {vs : List Nat} {σ : L2.St} {H1 : Hp} {D : Addr} {Qd : Hp → Prop} (Pv : Nat → Hp → Prop) (h0 : Pv 0 (upd H1 D (.lst [])))
    (hs : ∀ i c H, x.cps[i]? = some c → Pv i H → g (.str ⟨#[c]⟩) (wipe σ vs) H fun σ2 H2 => wipe σ2 vs = wipe σ vs ∧ tt σ2 H2 fun b H3 =>
      if b = true then te σ2 H3 fun y H4 => ∃ acc, H4 D = some (.lst acc) ∧ acc.length < sizeLine ∧ Pv (i + 1) (upd H4 D (.lst (acc ++ [y]))) else Pv (i + 1) H3) (hd : ∀ H, Pv x.cps.size H → Qd H) :
    ∃ W : Nat → Nat → Hp → Prop, (∃ m, W 0 m (upd H1 D (.lst []))) ∧ ∀ i m H, W i m H →
      ((Its x).stop i H ∧ Qd H) ∨ ((Its x).go i H ∧ ∃ Nx : Hp → Prop, (∀ H', Nx H' → ∃ m', m' < m ∧ W (i + 1) m' H') ∧ ∀ v H', (Its x).yld i H v H' → g v (wipe σ vs) H' fun σ2 H2 => wipe σ2 vs = wipe σ vs ∧ tt σ2 H2 fun b H3 =>
        if b = true then te σ2 H3 fun y H4 => ∃ acc, H4 D = some (.lst acc) ∧ acc.length < sizeLine ∧ Nx (upd H4 D (.lst (acc ++ [y]))) else Nx H3) := by
  refine ⟨fun i m H => m = x.cps.size - i ∧ i ≤ x.cps.size ∧ Pv i H, ⟨x.cps.size, by simp, Nat.zero_le _, h0⟩, ?_⟩
  rintro i m H ⟨rfl, hi, p⟩
  by_cases hlt : i < x.cps.size
  · refine .inr ⟨hlt, Pv (i + 1), fun H' p' => ⟨x.cps.size - (i + 1), by omega, rfl, hlt, p'⟩, fun v H' y => ?_⟩
    obtain ⟨e, c, hc, ev⟩ := y
    subst e
    subst ev
    exact hs i c _ hc p
  · have e : i = x.cps.size := by omega
    subst e
    exact .inl ⟨Nat.le_refl _, hd H p⟩
/-! ### words and values -/
def okC (c : Nat) : Bool := decide (97 ≤ c ∧ c ≤ 122)
def wordB (s : Str) : Bool := decide (1 ≤ s.length ∧ s.length ≤ 8) && s.cps.toList.all okC
def wordV : V → Bool
  | .str s => wordB s
  | _ => false
def valV' : V → Bool
  | .int i => decide (-999999999999999999999999999999 ≤ i ∧ i ≤ 999999999999999999999999999999)
  | .str s => wordB s
  | _ => false
inductive Thg (H : Hp) : V → Prop
  | int (i : Int) : Thg H (.int i)
  | bl (b : Bool) : Thg H (.bl b)
  | non : Thg H .non
  | str (s : Str) (h : s.length ≤ 1000) (hc : ∀ c ∈ s.cps.toList, c < 128) : Thg H (.str s)
  | lst {a : Addr} {xs : List V} (e : H a = some (.lst xs)) : Thg H (.ref a)
  | tup {a : Addr} {xs : List V} (e : H a = some (.tup xs)) : Thg H (.ref a)
theorem Thg.same {H H' : Hp} {v : V} (h : Thg H v) (s : Same H H') : Thg H' v := by
  cases h with
  | int i => exact .int i
  | bl b => exact .bl b
  | non => exact .non
  | str s h hc => exact .str s h hc
  | lst e => exact .lst (s _ _ e)
  | tup e => exact .tup (s _ _ e)
def tyInt : V → Bool
  | .int _ => true
  | .bl _ => true
  | _ => false
def tyBool : V → Bool
  | .bl _ => true
  | _ => false
def plainV (v : V) : Bool := tyInt v && !tyBool v
def tyStr : V → Bool
  | .str _ => true
  | _ => false
section
variable {K : PySem.W.Frag} {H : Hp} {v : V} {Q : VK}
theorem Thg.ty (h : Thg H v) : ∃ n, TyX K H v (.type n) ∧ kitB n "int" = some (tyInt v) ∧ kitB n "bool" = some (tyBool v) ∧ kitB n "str" = some (tyStr v) := by
  cases h with
  | int i => exact ⟨_, .base (.int _), show kitB "int" "int" = some true by decide +kernel, show kitB "int" "bool" = some false by decide +kernel, show kitB "int" "str" = some false by decide +kernel⟩
  | bl b => exact ⟨_, .base (.bl _), show kitB "bool" "int" = some true by decide +kernel, show kitB "bool" "bool" = some true by decide +kernel, show kitB "bool" "str" = some false by decide +kernel⟩
  | non => exact ⟨_, .base .non, show kitB "NoneType" "int" = some false by decide +kernel, show kitB "NoneType" "bool" = some false by decide +kernel, show kitB "NoneType" "str" = some false by decide +kernel⟩
  | str s => exact ⟨_, .base (.str _), show kitB "str" "int" = some false by decide +kernel, show kitB "str" "bool" = some false by decide +kernel, show kitB "str" "str" = some true by decide +kernel⟩
  | lst e => exact ⟨_, .base (.lst e), show kitB "list" "int" = some false by decide +kernel, show kitB "list" "bool" = some false by decide +kernel, show kitB "list" "str" = some false by decide +kernel⟩
  | tup e => exact ⟨_, .base (.tup e), show kitB "tuple" "int" = some false by decide +kernel, show kitB "tuple" "bool" = some false by decide +kernel, show kitB "tuple" "str" = some false by decide +kernel⟩
end
def spB (f : V → Bool) : Sp := fun vs H Q _ => ∃ v : V, vs = [v] ∧ Thg H v ∧ ∀ H', Same H H' → Q (.bl (f v)) H'
theorem sgn_le {c : Nat} : ((!decide (([c] : List Nat) < [97])) && (!decide (([122] : List Nat) < [c]))) = okC c := by
  have h1 : (([c] : List Nat) < [97]) ↔ c < 97 := by rw [List.cons_lt_cons_iff]; simp
  have h2 : (([122] : List Nat) < [c]) ↔ 122 < c := by rw [List.cons_lt_cons_iff]; simp
  unfold okC
  simp only [h1, h2]
  by_cases a : c < 97 <;> by_cases b : 122 < c <;> simp [a, b] <;> omega
theorem sgn_in : ∀ {c : Nat}, decide (c ∈ ("abcdefghijklmnopqrstuvwxyz" : Str).cps.toList) = okC c := by
  intro c
  by_cases h : c < 128
  · exact (show ∀ c : Nat, c < 128 → decide (c ∈ ("abcdefghijklmnopqrstuvwxyz" : Str).cps.toList) = okC c by decide +kernel) c h
  · have e1 : okC c = false := by
      unfold okC
      exact decide_eq_false (by omega)
    rw [e1]
    refine decide_eq_false fun hm => ?_
    have := (show ∀ c ∈ ("abcdefghijklmnopqrstuvwxyz" : Str).cps.toList, c < 128 by decide +kernel) c hm
    omega
section
variable {P : Program} {w : World} {K : PySem.W.Frag} {mg : Str → Option Value} {base : Heap} {a : Nat → Addr} {d : Nat → FuncData}
theorem ok_plain (T : Txt K mg a d) : FnOk P w K mg base CX0 1 (a 7) (d 7) ["thing"] (spB plainV) := by
  refine T.F7.ok sc_is_plain_int (fun vs H Q E h => ?_) (fun cdv A outer s H vs Q E hr h => ?_)
  · obtain ⟨v, rfl, _⟩ := h
    rfl
  · obtain ⟨v, rfl, hv, q⟩ := h
    refine ⟨_, (pss_one (ps_ret (pe_and (pe_callB (id := "isinstance")  call_isi (by rfl) T.z_isinstance (by decide +kernel) (pa_cons (pv 0) (pa_cons (pe_bltn (v := .ty "int") (by rfl) T.z_int (by decide +kernel) rfl) pa_nil))) (pe_one (pe_not (pe_callB (id := "isinstance")  call_isi (by rfl) T.z_isinstance (by decide +kernel) (pa_cons (pv 0) (pa_cons (pe_bltn (v := .ty "bool") (by rfl) T.z_bool (by decide +kernel) rfl) pa_nil)))))))), ?_⟩
    obtain ⟨n, ht, k1, k2, k3⟩ := hv.ty (K := K)
    refine ⟨_, rfl, _, _, _, _, _, rfl, .ty _, ht, kit_ty k1, _, rfl, ?_⟩
    have q : Q (.bl (tyInt v && !tyBool v)) H := q H (Same.refl H)
    refine ite2 (fun e => ?_) (fun e => ?_)
    · rw [e] at q
      exact ⟨_, rfl, _, _, _, _, _, rfl, .ty _, ht, kit_ty k2, _, rfl, q⟩
    · rw [Bool.eq_false_iff.mpr e] at q
      exact q
theorem ok_is_word (T : Txt K mg a d) : FnOk P w K mg base CX0 1 (a 8) (d 8) ["thing"] (spB wordV) := by
  refine T.F8.ok sc_is_word (fun vs H Q E h => ?_) (fun cdv A outer s H vs Q E hr h => ?_)
  · obtain ⟨v, rfl, _⟩ := h
    rfl
  · obtain ⟨v, rfl, hv, q⟩ := h
    obtain ⟨t8, h_LONGEST_WORD⟩ := T.c_LONGEST_WORD
    refine ⟨_, (pss_cons (ps_if (PW.pt (pw_or (pt_not (pt_val (pe_callB (id := "isinstance")  call_isi (by rfl) T.z_isinstance (by decide +kernel) (pa_cons (pv 0) (pa_cons (pe_bltn (v := .ty "str") (by rfl) T.z_str (by decide +kernel) rfl) pa_nil))))) (pw_or1 (pt_not (pt_chain op_le op_le pe_int (pe_callB (id := "len")  call_len_str (by rfl) T.z_len (by decide +kernel) (pa_cons (pv 0) pa_nil)) (pe_glob (v := .int (8)) rfl h_LONGEST_WORD ⟨_, rfl⟩))))))
    (pss_one (ps_ret pe_bl))
    pss_nil)
  (pss_one (ps_ret (pe_callB (id := "all")  (cr_all rfl) (by rfl) T.z_all (by decide +kernel) (pa_cons (pe_lc (own := [("letter", 1)]) rfl sc_is_word.nd (pi_str (pv 0)) (blkOk_by (N := ["thing", "letter"]) (sc := defScope s_is_word) (by decide +kernel)) (fun _ _ _ _ _ => pg_name (i := 1) sc_is_word.nd rfl (.inl rfl)) (fun _ _ _ _ _ => pts_nil) (fun _ _ _ _ _ => (pe_chain op_le_str op_le_str pe_str (pv 1) pe_str))) pa_nil))))), ?_⟩
    obtain ⟨n, ht, k1, k2, k3⟩ := hv.ty (K := K)
    refine ⟨_, rfl, _, _, _, _, _, rfl, .ty _, ht, kit_ty k3, _, rfl, ?_⟩
    cases hv with
    | int i => exact q H (Same.refl H)
    | bl i => exact q H (Same.refl H)
    | non => exact q H (Same.refl H)
    | lst e => exact q H (Same.refl H)
    | tup e => exact q H (Same.refl H)
    | str s hl hc =>
      have q : ∀ H', Same H H' → Q (.bl (decide (1 ≤ s.length ∧ s.length ≤ 8) && s.cps.toList.all okC)) H' := q
      refine ⟨_, rfl, _, rfl, small1000' hl, _, _, rfl, rfl, _, rfl, ?_⟩
      refine ite_d (fun h1 => ?_) (fun h1 => ?_)
      · refine ⟨_, _, rfl, rfl, _, rfl, ?_⟩
        refine ite_nd (fun h2 => ?_) (fun h2 => ?_)
        · have e : decide (1 ≤ s.length ∧ s.length ≤ 8) = false := decide_eq_false (by omega)
          rw [e] at q
          exact q H (Same.refl H)
        · have e : decide (1 ≤ s.length ∧ s.length ≤ 8) = true := decide_eq_true (by omega)
          rw [e] at q
          refine ⟨_, rfl, _, rfl, fun D hD => ?_⟩
          refine lc_str (fun i H' => H' D = some (.lst (((s.cps.toList.take i).map okC).map V.bl)) ∧ Same H H') ⟨upd_same, same_upd hD⟩ (fun i c H' hx hp => ?_) (fun H' hp => ?_)
          · have hx' : s.cps.toList[i]? = some c := by rw [Array.getElem?_toList]; exact hx
            have hsz : (((s.cps.toList.take i).map okC).map V.bl).length < sizeLine := by
              rw [List.length_map, List.length_map, List.length_take]
              have : s.cps.toList.length = s.length := Array.length_toList
              exact small1000 (by omega)
            have step : ∀ b, b = okC c → ∀ H3, H3 = H' → (upd H3 D (.lst (((s.cps.toList.take i).map okC).map V.bl ++ [.bl b]))) D = some (.lst (((s.cps.toList.take (i + 1)).map okC).map V.bl)) ∧ Same H (upd H3 D (.lst (((s.cps.toList.take i).map okC).map V.bl ++ [.bl b]))) := fun b eb H3 e3 => by
              subst e3
              refine ⟨?_, fun x o ex => ?_⟩
              · rw [map_take hx', List.map_append, ← eb]
                exact upd_same
              · rw [upd_ne (ne_of_none ex hD)]
                exact hp.2 x o ex
            have e0 : ("a" : Str).cps.toList = [97] := by decide +kernel
            have e9 : ("z" : Str).cps.toList = [122] := by decide +kernel
            have eo := sgn_le (c := c)
            refine ⟨rfl, ?_⟩
            refine ⟨_, rfl, _, _, rfl, rfl, _, rfl, ?_⟩
            refine ite_nd (fun h3 => ?_) (fun h3 => ?_)
            · rw [e0] at h3
              have h3' : ¬ ([c] : List Nat) < [97] := h3
              rw [decide_eq_false h3'] at eo
              refine ⟨_, _, rfl, rfl, _, hp.1, hsz, step _ ?_ _ rfl⟩
              rw [e9]
              exact eo
            · rw [e0] at h3
              have h3' : ([c] : List Nat) < [97] := h3
              rw [decide_eq_true h3'] at eo
              exact ⟨_, hp.1, hsz, step _ eo _ rfl⟩
          · obtain ⟨h3, h4⟩ := hp
            have et : s.cps.toList.take s.cps.size = s.cps.toList := List.take_of_length_le (Nat.le_of_eq Array.length_toList)
            rw [et] at h3
            refine ⟨D, _, rfl, .of h3, ?_⟩
            have ea : ((s.cps.toList.map okC).all id) = s.cps.toList.all okC := by rw [List.all_map]; rfl
            rw [ea]
            exact q H' h4
      · have e : decide (1 ≤ s.length ∧ s.length ≤ 8) = false := decide_eq_false (by omega)
        rw [e] at q
        exact ⟨_, rfl, q H (Same.refl H)⟩
end
theorem nd_sub {α : Type} [DecidableEq α] : ∀ {xs ys : List α}, xs.Nodup → (∀ x ∈ xs, x ∈ ys) → xs.length ≤ ys.length ∧ (ys.length ≤ xs.length → ∀ y ∈ ys, y ∈ xs)
  | [], ys, _, _ => ⟨Nat.zero_le _, fun h y hy => by
    have : ys = [] := List.length_eq_zero_iff.mp (Nat.le_zero.mp h)
    rw [this] at hy
    exact hy⟩
  | x :: xs, ys, nd, sub => by
    obtain ⟨n1, n2⟩ := List.nodup_cons.mp nd
    have hx := sub x List.mem_cons_self
    have hl := List.length_erase_of_mem hx
    have hpos : 0 < ys.length := List.length_pos_of_mem hx
    have ih := nd_sub (ys := ys.erase x) n2 fun z hz => (List.mem_erase_of_ne (fun e => n1 (by rw [← e]; exact hz))).mpr (sub z (List.mem_cons_of_mem _ hz))
    refine ⟨by rw [List.length_cons]; omega, fun h y hy => ?_⟩
    rw [List.length_cons] at h
    by_cases e : y = x
    · rw [e]
      exact List.mem_cons_self
    · exact List.mem_cons_of_mem _ (ih.2 (by omega) y ((List.mem_erase_of_ne e).mpr hy))
theorem same_mut {H H1 : Hp} {D : Addr} {o : HO} (s : Same H H1) (h : H D = none) : Same H (upd H1 D o) := fun b u e => by
  rw [upd_ne (ne_of_none e h)]
  exact s b u e
theorem sv_nd {H : Hp} {ts : List (Str × Int)} {ks : List KeyE} {ss : List SvE} {n : Nat} (h : Svcs H ts ks ss n) : ((svK ss).map (·.1)).Nodup := by
  rw [keys_sv]
  exact inr_nd h.nm.nd
theorem Tabs.up {ts : List (Str × Int)} {m : Nat} {w v : Int} (h : Tabs ts m w) (hv : w ≤ v) : Tabs ts m v := ⟨h.nm, fun p hp => ⟨(h.wd p hp).1, Int.le_trans (h.wd p hp).2 hv⟩⟩
theorem wd_b {s : Str} (h : Wd s) : wordB s = true := by
  unfold wordB
  rw [decide_eq_true (show 1 ≤ s.length ∧ s.length ≤ 8 from ⟨h.1, h.2.1⟩), Bool.true_and, List.all_eq_true]
  intro c hc
  unfold okC
  exact decide_eq_true (h.2.2 c hc)
theorem wd_thg {H : Hp} {s : Str} (h : Wd s) : Thg H (.str s) := .str s (by have := h.2.1; omega) fun c hc => by have := (h.2.2 c hc).2; omega
theorem capV_none' {cap : Option Int} (h : cap.isNone = true) : capV cap = .non := by
  cases cap with
  | none => rfl
  | some c => cases h
theorem all_bls (bs : List Bool) : (bs.all id) = bs.all fun b => b := rfl
def spIsWh : Sp := fun vs H Q _ => ∃ (v t k ga : Addr) (n : Str) (cs : List Int) (cap : Option Int) (w : Int) (ts : List (Str × Int)) (ks : List KeyE) (m : Nat), vs = [.ref v, .ref t, .ref k] ∧ Told H v n ga cs cap ∧ DctAt H t (tabK ts) ∧ DctAt H k (keyK ks) ∧ Tabs ts m 4 ∧ Keys H ts ks ∧ (n, w) ∈ ts ∧ cs.length ≤ 100 ∧
  ∀ H', Same H H' → Q (.bl (isWh w ks n cs cap)) H'
section
variable {P : Program} {w : World} {K : PySem.W.Frag} {mg : Str → Option Value} {base : Heap} {a : Nat → Addr} {d : Nat → FuncData}
theorem ok_is_wh (T : Txt K mg a d) : FnOk P w K mg base CX0 1 (a 19) (d 19) ["service", "tables", "keys"] spIsWh := by
  refine T.F19.ok sc__is_whole_service (fun vs H Q E h => ?_) (fun cdv A outer s H vs Q E hr h => ?_)
  · obtain ⟨v, t, k, ga, n, cs, cap, w, ts, ks, m, rfl, _⟩ := h
    rfl
  · obtain ⟨v, t, k, ga, n, cs, cap, w, ts, ks, m, rfl, hv, ht, hk, hT, hK, hm, hl, q⟩ := h
    have fin : ∀ b : Bool, b = isWh w ks n cs cap → ∀ H', Same H H' → Q (.bl b) H' := fun b e H' s => by
      rw [e]
      exact q H' s
    have g := ht.get (tab_nd hT) (Sum.inr n)
    rw [tab_val hT hm] at g
    have gk := fun (H' : Hp) (s : Same H H') => (hk.same s).get (key_nd hT hK) (Sum.inr n)
    rw [keyAt_val] at gk
    refine ⟨_, (pss_cons (ps_asg (pv 0) (pg_tup rfl (pgs_cons (pg_name (i := 3) sc__is_whole_service.nd rfl (.inl rfl)) (pgs_cons (pg_name (i := 4) sc__is_whole_service.nd rfl (.inr rfl)) (pgs_cons (pg_name (i := 5) sc__is_whole_service.nd rfl (.inl rfl)) pgs_nil)))))
  (pss_cons (ps_if (PW.pt (pw_or (pt_cmpR op_isN (pv 5) pe_non (nomark _)) (pw_or1 (pt_cmpR op_eq (pe_callB (id := "len")  call_len_seq (by rfl) T.z_len (by decide +kernel) (pa_cons (pv 4) pa_nil)) (pe_dget (hu_of hr) (pv 1) (pv 3) (fun _ _ => rfl)) (nomark _)))))
    (pss_one (ps_ret pe_bl))
    pss_nil)
  (pss_one (ps_ret (pe_and (pe_cmp (pc_din (hu_of hr) (pv 3) (pv 2)) rfl) (pe_one (pe_callB (id := "all")  (cr_all rfl) (by rfl) T.z_all (by decide +kernel) (pa_cons (pe_lc (own := [("column", 6)]) rfl sc__is_whole_service.nd (pi_tup (pe_dget (hu_of hr) (pv 2) (pv 3) (fun _ _ => rfl))) (blkOk_by (N := ["service", "tables", "keys", "table", "given", "cap", "column"]) (sc := defScope s__is_whole_service) (by decide +kernel)) (fun _ _ _ _ _ => pg_name (i := 6) sc__is_whole_service.nd rfl (.inl rfl)) (fun _ _ _ _ _ => pts_nil) (fun _ _ _ _ _ => (pe_cmpR (r := rIn K false) op_in_seq (pv 6) (pv 4) (by rfl)))) pa_nil)))))))), ?_⟩
    refine ⟨_, rfl, v, _, rfl, .of hv.tup, rfl, _, _, rfl, _, _, rfl, _, _, rfl, rfl, ?_⟩
    refine ⟨_, rfl, rfl, _, rfl, ?_⟩
    rw [capV_none]
    cases e1 : cap.isNone with
    | true => exact fin true (by unfold isWh; rw [e1]; rfl) H (fun _ _ e => e)
    | false =>
      refine ⟨_, rfl, _, _, rfl, .inr (.of hv.cols), _, rfl, _, rfl, t, _, rfl, g, rfl, _, rfl, ?_⟩
      rw [List.length_map]
      refine ite_eqI (fun e2 => ?_) (fun e2 => ?_)
      · exact fin true (by unfold isWh; rw [e1, decide_eq_true e2]; rfl) H (fun _ _ e => e)
      · refine ⟨_, rfl, _, rfl, k, _, rfl, gk H (Same.refl H), _, rfl, ?_⟩
        cases e3 : keyAt ks n with
        | none => exact fin false (by unfold isWh; rw [e1, decide_eq_false e2, e3]; rfl) H (fun _ _ e => e)
        | some b =>
          rw [e3] at gk
          obtain ⟨bm, bn⟩ := keyAt_mem e3
          have hb := hK.at_ b bm
          obtain ⟨w', hw', hcols', hl1, hl2⟩ := hK.ok b bm
          have hw2 := (hT.wd _ hw').2
          refine ⟨_, rfl, _, rfl, k, _, rfl, gk H (Same.refl H), b.2.1, rfl, ⟨_, .of hb⟩, fun D hD => ?_⟩
          refine lc_tup (K := K) (a := b.2.1) (xs := b.2.2.map V.int) (fun i H' => H' D = some (.lst (((b.2.2.take i).map fun c => decide (c ∈ cs)).map V.bl)) ∧ Same H H') ⟨upd_same, same_upd hD⟩ (fun i H' _ hp => .of (hp.2 _ _ hb)) (fun i x H' hx hp => ?_) (fun H' hp => ?_)
          · obtain ⟨h1, h2⟩ := hp
            obtain ⟨c, hcx, rfl⟩ := map_at hx
            have hi : i < b.2.2.length := (List.getElem?_eq_some_iff.mp hcx).1
            refine ⟨rfl, ?_⟩
            refine ⟨_, rfl, _, rfl, ga, _, rfl, .inr (.of (h2 _ _ hv.cols)), rfl, flat_ints _, _, h1, ?_, ?_, ?_⟩
            · rw [List.length_map, List.length_map, List.length_take]
              exact Nat.lt_of_le_of_lt (by omega : _ ≤ 100) (by decide)
            · rw [map_take hcx, List.map_append]
              refine Eq.trans upd_same ?_
              show some (HO.lst (_ ++ [V.bl (inV (.int c) (cs.map V.int))])) = _
              rw [inV_ints]
              rfl
            · intro x o ex
              rw [upd_ne (ne_of_none ex hD)]
              exact h2 x o ex
          · obtain ⟨h1, h2⟩ := hp
            rw [List.length_map, List.take_length] at h1
            refine ⟨D, _, rfl, .of h1, ?_⟩
            refine fin _ ?_ _ h2
            unfold isWh
            rw [e1, decide_eq_false e2, e3, List.all_map]
            rfl
end
theorem perm_map_ex {α β : Type} {f : α → β} {ys zs : List β} (h : ys.Perm zs) : ∀ xs : List α, zs = xs.map f → ∃ L : List α, L.Perm xs ∧ L.map f = ys := by
  induction h with
  | nil =>
    intro xs e
    cases xs with
    | nil => exact ⟨[], .refl _, rfl⟩
    | cons x xs => cases e
  | cons y p ih =>
    intro xs e
    cases xs with
    | nil => cases e
    | cons x xs =>
      rw [List.map_cons] at e
      injection e with e1 e2
      obtain ⟨L, h1, h2⟩ := ih xs e2
      exact ⟨x :: L, h1.cons x, by rw [List.map_cons, h2, e1]⟩
  | swap y z l =>
    intro xs e
    cases xs with
    | nil => cases e
    | cons x xs =>
      cases xs with
      | nil => cases e
      | cons x' xs =>
        rw [List.map_cons, List.map_cons] at e
        injection e with e1 e2
        injection e2 with e2 e3
        exact ⟨x' :: x :: xs, .swap _ _ _, by rw [List.map_cons, List.map_cons, e1, e2, e3]⟩
  | trans p q ih1 ih2 =>
    intro xs e
    obtain ⟨L, h1, h2⟩ := ih2 xs e
    obtain ⟨M, h3, h4⟩ := ih1 L h2.symm
    exact ⟨M, h3.trans h1, h4⟩
/-- what sorted(d) is asked and gives -/
theorem DctAt.names {α : Type} {H : Hp} {t : Addr} {xs : List α} {g : α → Key × V} {f : α → Str} (h : DctAt H t (xs.map g)) (hg : ∀ x, (g x).1 = Sum.inr (f x)) (hl : xs.length < 64) :
    ∃ ks zs, H t = some (.dK ks) ∧ ks.length = xs.length ∧ ks.map (·.1) = zs.map Sum.inr ∧ zs.length < 64 ∧ zs.Perm (xs.map f) ∧ ∀ ys : List Str, ys.Perm zs → ∃ L : List α, L.Perm xs ∧ L.map f = ys := by
  obtain ⟨ks, e, p⟩ := h
  obtain ⟨L, h1, h2⟩ := perm_map_ex p xs rfl
  refine ⟨ks, L.map f, e, ?_, ?_, ?_, h1.map f, fun ys hy => ?_⟩
  · rw [← h2, List.length_map, h1.length_eq]
  · rw [← h2, List.map_map, List.map_map]
    exact List.map_congr_left fun x _ => hg x
  · rw [List.length_map, h1.length_eq]
    exact hl
  · obtain ⟨M, h3, h4⟩ := perm_map_ex hy L rfl
    exact ⟨M, h3.trans h1, h4⟩
theorem key_val {H : Hp} {ts : List (Str × Int)} {ks : List KeyE} {m : Nat} {wm : Int} (hT : Tabs ts m wm) (h : Keys H ts ks) {b : KeyE} (hb : b ∈ ks) : valV (keyK ks) (Sum.inr b.1) = some (.ref b.2.1) :=
  val_nodup (kvs := keyK ks) (key_nd hT h) (Sum.inr b.1, V.ref b.2.1) (List.mem_map.mpr ⟨b, hb, rfl⟩)
theorem sv_val {H : Hp} {ts : List (Str × Int)} {ks : List KeyE} {ss : List SvE} {n : Nat} (h : Svcs H ts ks ss n) {b : SvE} (hb : b ∈ ss) : valV (svK ss) (Sum.inr b.name) = some (.ref b.at_) :=
  val_nodup (kvs := svK ss) (sv_nd h) (Sum.inr b.name, V.ref b.at_) (List.mem_map.mpr ⟨b, hb, rfl⟩)
theorem fillE_perm {ts : List (Str × Int)} {ks : List KeyE} {a b : List SvE} (p : a.Perm b) : (fillE ts ks a).Perm (fillE ts ks b) := (p.filter _).map _
theorem fillE_take {ts : List (Str × Int)} {ks : List KeyE} (L : List SvE) (i : Nat) : (fillE ts ks (L.take i)).Sublist (fillE ts ks L) := ((List.take_sublist i L).filter _).map _
theorem rising_pw : ∀ (l : List Str) (p : Str), PyProof.Rows.risingS p l = true → (p :: l).Pairwise fun a b => a.cps.toList ≤ b.cps.toList
  | [], p, _ => List.pairwise_singleton _ _
  | x :: r, p, h => by
    have h' : (!PySem.Spec.ltCps x.cps.toList p.cps.toList && PyProof.Rows.risingS x r) = true := h
    rw [Bool.and_eq_true] at h'
    obtain ⟨h1, h2⟩ := h'
    have ih := rising_pw r x h2
    have hpx : p.cps.toList ≤ x.cps.toList := by
      rw [PyProof.Rows.ltCps_eq] at h1
      have h3 : ¬ x.cps.toList < p.cps.toList := by simpa using h1
      exact h3
    refine List.pairwise_cons.mpr ⟨fun y hy => ?_, ih⟩
    rcases List.mem_cons.mp hy with rfl | hy
    · exact hpx
    · exact List.le_trans hpx ((List.pairwise_cons.mp ih).1 y hy)
theorem sorted_pw {l : List Str} (h : PyProof.Rows.sortedS l = true) : l.Pairwise fun a b => a.cps.toList ≤ b.cps.toList := by
  cases l with
  | nil => exact .nil
  | cons x r => exact rising_pw r x h
theorem sorted_uniq {a b : List Str} (p : a.Perm b) (ha : PyProof.Rows.sortedS a = true) (hb : PyProof.Rows.sortedS b = true) : a = b := by
  refine List.Perm.eq_of_pairwise (le := fun a b : Str => a.cps.toList ≤ b.cps.toList) (fun x y _ _ h1 h2 => ?_) (sorted_pw ha) (sorted_pw hb) p
  have e := List.le_antisymm h1 h2
  cases x
  cases y
  congr
  exact Array.toList_inj.mp e
theorem dc_list {K : PySem.W.Frag} {a : Addr} {xs : List V} {g : TG} {tt : TT} {tk tv : TE} {vs : List Nat} {σ : L2.St} {H1 : Hp} {D : Addr} {Qd : Hp → Prop} (Pv : Nat → Hp → Prop) (h0 : Pv 0 (upd H1 D (.dK []))) (hl : ∀ i H, i ≤ xs.length → Pv i H → SqL K H a xs)
    (hs : ∀ i x H, xs[i]? = some x → Pv i H → g x (wipe σ vs) H fun σ2 H2 => wipe σ2 vs = wipe σ vs ∧ tt σ2 H2 fun b H3 =>
      if b = true then tk σ2 H3 fun y H4 => tv σ2 H4 fun z H5 => ∃ kvs k, y = kV k ∧ H5 D = some (.dK kvs) ∧ kvs.length < sizeLine ∧ Pv (i + 1) (upd H5 D (.dK (putK kvs k z))) else Pv (i + 1) H3) (hd : ∀ H, Pv xs.length H → Qd H) :
    ∃ W : Nat → Nat → Hp → Prop, (∃ m, W 0 m (upd H1 D (.dK []))) ∧ ∀ i m H, W i m H →
      ((Itl K a).stop i H ∧ Qd H) ∨ ((Itl K a).go i H ∧ ∃ Nx : Hp → Prop, (∀ H', Nx H' → ∃ m', m' < m ∧ W (i + 1) m' H') ∧ ∀ x H', (Itl K a).yld i H x H' → g x (wipe σ vs) H' fun σ2 H2 => wipe σ2 vs = wipe σ vs ∧ tt σ2 H2 fun b H3 =>
        if b = true then tk σ2 H3 fun y H4 => tv σ2 H4 fun z H5 => ∃ kvs k, y = kV k ∧ H5 D = some (.dK kvs) ∧ kvs.length < sizeLine ∧ Nx (upd H5 D (.dK (putK kvs k z))) else Nx H3) := by
  refine ⟨fun i m H => m = xs.length - i ∧ i ≤ xs.length ∧ Pv i H, ⟨xs.length, by simp, Nat.zero_le _, h0⟩, ?_⟩
  rintro i m H ⟨rfl, hi, p⟩
  have q := hl i H hi p
  rcases Nat.lt_or_ge i xs.length with lt | ge
  · refine .inr ⟨⟨xs, xs[i], q, by simp [lt]⟩, Pv (i + 1), fun H' p' => ⟨xs.length - (i + 1), by omega, rfl, lt, p'⟩, fun x H' y => ?_⟩
    obtain ⟨e, y⟩ := y
    subst e
    exact hs i x _ (y xs q) p
  · obtain rfl : i = xs.length := by omega
    exact .inl ⟨⟨xs, q, Nat.le_refl _⟩, hd H p⟩
def spCopied : Sp := fun vs H Q _ => ∃ (t : Addr) (kvs : List (Key × V)) (names : List Str), vs = [.ref t] ∧ DctAt H t kvs ∧ kvs.map (·.1) = names.map Sum.inr ∧ names.Nodup ∧ names.length < 64 ∧ ∀ D H', H D = none → DctAt H' D kvs → Same H H' → Q (.ref D) H'
section
variable {P : Program} {w : World} {K : PySem.W.Frag} {mg : Str → Option Value} {base : Heap} {a : Nat → Addr} {d : Nat → FuncData}
theorem ok_copied (T : Txt K mg a d) : FnOk P w K mg base CX0 1 (a 24) (d 24) ["things"] spCopied := by
  refine T.F24.ok sc__copied (fun vs H Q E h => ?_) (fun cdv A outer s H vs Q E hr h => ?_)
  · obtain ⟨t, kvs, names, rfl, _⟩ := h
    rfl
  · obtain ⟨t, kvs, names, rfl, ht, hk, hnd, h64, q⟩ := h
    have nd : (kvs.map (·.1)).Nodup := by
      rw [hk]
      exact inr_nd hnd
    obtain ⟨kd, e, pk⟩ := id ht
    have pk' := pk.map (·.1)
    rw [hk] at pk'
    obtain ⟨zs, z1, z2⟩ := perm_map_ex pk' names rfl
    refine ⟨_, (pss_one (ps_ret (pe_dc (own := [("name", 1)]) rfl sc__copied.nd (pi_list (pe_callB (id := "sorted")  (call_sortedD rfl) (by rfl) T.z_sorted (by decide +kernel) (pa_cons (pv 0) pa_nil))) (blkOk_by (N := ["things", "name"]) (sc := defScope s__copied) (by decide +kernel)) (fun _ _ _ _ _ => pg_name (i := 1) sc__copied.nd rfl (.inl rfl)) (fun _ _ _ _ _ => pts_nil) (fun _ _ _ _ _ => (pv 1)) (fun _ _ _ _ _ => (pe_dget (hu_of hr) (pv 0) (pv 1) (fun _ _ => rfl)))))), ?_⟩
    refine ⟨_, rfl, t, kd, zs, rfl, .inl e, z2.symm, by rw [z1.length_eq]; exact h64, fun ys p yp _ hp => ⟨p, rfl, ?_⟩⟩
    have s0 := same_upd (o := .lst (ys.map V.str)) hp
    have yn : ys.Perm names := yp.trans z1
    have ynd : ys.Nodup := yn.nodup_iff.mpr hnd
    have yl : ys.length < 64 := by rw [yn.length_eq]; exact h64
    refine ⟨⟨_, .of upd_same⟩, fun D hD => ?_⟩
    have hD0 : H D = none := s0.free hD
    have npD : p ≠ D := ne_of_none upd_same hD
    have pairs : ∀ zs : List Str, zs.Perm names → (zs.map fun n => ((Sum.inr n : Key), (valV kvs (Sum.inr n)).getD .non)).Perm kvs := fun zs hz => by
      refine (hz.map _).trans (List.Perm.of_eq ?_)
      have e1 : (names.map fun n => ((Sum.inr n : Key), (valV kvs (Sum.inr n)).getD .non)) = (kvs.map (·.1)).map fun k => (k, (valV kvs k).getD .non) := by
        rw [hk, List.map_map]
        rfl
      rw [e1, List.map_map]
      refine Eq.trans (List.map_congr_left (g := id) fun x hx => ?_) (List.map_id _)
      show (x.1, (valV kvs x.1).getD .non) = x
      rw [val_nodup nd x hx]
      rfl
    refine dc_list (K := K) (a := p) (xs := ys.map V.str) (fun i H' => H' D = some (.dK ((ys.take i).map fun n => ((Sum.inr n : Key), (valV kvs (Sum.inr n)).getD .non))) ∧ Same (upd H p (.lst (ys.map V.str))) H') ⟨upd_same, same_upd hD⟩ (fun i H' _ hp => .of (hp.2 _ _ upd_same)) (fun i x H' hx hp => ?_) (fun H' hp => ?_)
    · obtain ⟨h1, h2⟩ := hp
      obtain ⟨n, hn, rfl⟩ := map_at hx
      have hmem : n ∈ names := yn.mem_iff.mp (List.mem_of_getElem? hn)
      have hv : ∃ v, valV kvs (Sum.inr n) = some v := by
        have : (Sum.inr n : Key) ∈ kvs.map (·.1) := by
          rw [hk]
          exact List.mem_map.mpr ⟨n, hmem, rfl⟩
        obtain ⟨x, hx, e⟩ := List.mem_map.mp this
        exact ⟨x.2, by rw [← e]; exact val_nodup nd x hx⟩
      obtain ⟨v, hv⟩ := hv
      refine ⟨rfl, _, rfl, _, rfl, _, rfl, t, v, rfl, (ht.same (s0.trans h2)).at_ nd hv, _, Sum.inr n, rfl, h1, ?_, ?_, ?_⟩
      · rw [List.length_map, List.length_take]
        exact small1000 (by omega)
      · rw [map_take hn, hv]
        refine Eq.trans upd_same (congrArg (fun x => some (HO.dK x)) ?_)
        rw [putK_new _ (valV_no ?_)]
        · rfl
        · rw [List.map_map]
          exact inr_no (nd_take ynd hn)
      · intro x o ex
        rw [upd_ne (ne_of_none ex hD)]
        exact h2 x o ex
    · obtain ⟨h1, h2⟩ := hp
      rw [List.length_map, List.take_length] at h1
      exact q D H' hD0 ⟨_, h1, pairs ys yn⟩ (s0.trans h2)
end
def fldsS (d1 d2 d3 : Addr) : List (Str × V) := putF "_services" (.ref d3) (putF "_keys" (.ref d2) (putF "_tables" (.ref d1) []))
theorem flds_t (d1 d2 d3 : Addr) : (fldsS d1 d2 d3).lookup ("_tables" : Str) = some (V.ref d1) := by
  unfold fldsS
  rw [lookup_putF, if_neg (by decide +kernel), lookup_putF, if_neg (by decide +kernel), lookup_putF, if_pos rfl]
theorem flds_k (d1 d2 d3 : Addr) : (fldsS d1 d2 d3).lookup ("_keys" : Str) = some (V.ref d2) := by
  unfold fldsS
  rw [lookup_putF, if_neg (by decide +kernel), lookup_putF, if_pos rfl]
theorem flds_s (d1 d2 d3 : Addr) : (fldsS d1 d2 d3).lookup ("_services" : Str) = some (V.ref d3) := by
  unfold fldsS
  rw [lookup_putF, if_pos rfl]
theorem flds_no (d1 d2 d3 : Addr) {m : Str} (h1 : ¬ m = "_services") (h2 : ¬ m = "_keys") (h3 : ¬ m = "_tables") : (fldsS d1 d2 d3).lookup m = none := by
  unfold fldsS
  rw [lookup_putF, if_neg h1, lookup_putF, if_neg h2, lookup_putF, if_neg h3]
  rfl
theorem DctAt.but {H H' : Hp} {t p : Addr} {kvs : List (Key × V)} {C dx : Addr} {fs : List (Str × V)} (h : DctAt H t kvs) (hp : H p = some (.ins C dx fs)) (s : ∀ b o, b ≠ p → H b = some o → H' b = some o) : DctAt H' t kvs := by
  obtain ⟨ks, e, q⟩ := h
  exact ⟨ks, s _ _ (ne_of e hp (by intro z; cases z)) e, q⟩
/-! ### dicts with the same pairs in any order -/
section
variable {P : Program} {w : World} {K : PySem.W.Frag} {mg : Str → Option Value} {base : Heap} {a : Nat → Addr} {d : Nat → FuncData}
/-! ### the small ones -/
def spCount : Sp := fun vs H Q _ => ∃ (i m : Int), vs = [.int i, .int m] ∧ ∀ H', Same H H' → Q (.bl (decide (1 ≤ i ∧ i ≤ m))) H'
theorem ok_count (T : Txt K mg a d) : FnOk P w K mg base CX0 2 (a 14) (d 14) ["thing", "most"] spCount := by
  have G7 : FnOk P w K mg base CX0 1 (a 7) (d 7) ["thing"] (spB plainV) := ok_plain T
  refine T.F14.ok sc__is_count (fun vs H Q E h => ?_) (fun cdv A outer s H vs Q E hr h => ?_)
  · obtain ⟨i, m, rfl, _⟩ := h
    rfl
  · obtain ⟨i, m, rfl, q⟩ := h
    refine ⟨_, (pss_one (ps_ret (pe_and (pe_call G7 (hr.mono (by decide)) (by rfl) T.g7 T.F7.kp T.b7 .nil pass0 (pa_cons (pv 0) pa_nil)) (pe_one (pe_chain op_le op_le pe_int (pv 0) (pv 1)))))), ?_⟩
    refine ⟨_, rfl, _, rfl, .int i, fun H1 s1 => ⟨_, rfl, ?_⟩⟩
    refine ⟨_, rfl, _, _, rfl, rfl, _, rfl, ite_d (fun h1 => ?_) (fun h1 => ?_)⟩
    · refine ⟨_, rfl, _, _, rfl, rfl, ?_⟩
      have := q H1 s1
      show Q (.bl (decide (i ≤ m))) H1
      by_cases h2 : i ≤ m
      · rw [decide_eq_true (show 1 ≤ i ∧ i ≤ m from ⟨h1, h2⟩)] at this
        rw [decide_eq_true h2]
        exact this
      · rw [decide_eq_false (fun z : 1 ≤ i ∧ i ≤ m => h2 z.2)] at this
        rw [decide_eq_false h2]
        exact this
    · have := q H1 s1
      rw [decide_eq_false (fun z : 1 ≤ i ∧ i ≤ m => h1 z.1)] at this
      exact this
def spNameIn : Sp := fun vs H Q _ => ∃ (n : Str) (t : Addr) (kvs : List (Key × V)), vs = [.str n, .ref t] ∧ DctAt H t kvs ∧ (kvs.map (·.1)).Nodup ∧ Q (.bl (valV kvs (Sum.inr n)).isSome) H
theorem ok_name_in (T : Txt K mg a d) : FnOk P w K mg base CX0 1 (a 15) (d 15) ["thing", "names"] spNameIn := by
  refine T.F15.ok sc__is_name_in (fun vs H Q E h => ?_) (fun cdv A outer s H vs Q E hr h => ?_)
  · obtain ⟨n, t, kvs, rfl, _⟩ := h
    rfl
  · obtain ⟨n, t, kvs, rfl, ht, nd, q⟩ := h
    refine ⟨_, (pss_one (ps_ret (pe_and (pe_callB (id := "isinstance")  call_isi (by rfl) T.z_isinstance (by decide +kernel) (pa_cons (pv 0) (pa_cons (pe_bltn (v := .ty "str") (by rfl) T.z_str (by decide +kernel) rfl) pa_nil))) (pe_one (pe_cmp (pc_din (hu_of hr) (pv 0) (pv 1)) rfl))))), ?_⟩
    refine ⟨_, rfl, _, _, _, _, _, rfl, .ty _, .base (.str n), kit_ty (show kitB "str" "str" = some true by decide +kernel), _, rfl, ?_⟩
    exact ⟨_, rfl, _, rfl, t, _, rfl, ht.get nd (Sum.inr n), q⟩
def spAreCols : Sp := fun vs H Q _ => ∃ (c : Addr) (cs : List Int) (w : Int), vs = [.ref c, .int w] ∧ H c = some (.tup (cs.map V.int)) ∧ Cols cs w ∧ cs.length ≤ 100 ∧ ∀ H', Same H H' → Q (.bl true) H'
theorem ok_are_columns (T : Txt K mg a d) : FnOk P w K mg base CX0 2 (a 16) (d 16) ["thing", "width"] spAreCols := by
  have G7 : FnOk P w K mg base CX0 1 (a 7) (d 7) ["thing"] (spB plainV) := ok_plain T
  refine T.F16.ok sc__are_columns (fun vs H Q E h => ?_) (fun cdv A outer s H vs Q E hr h => ?_)
  · obtain ⟨c, cs, w, rfl, _⟩ := h
    rfl
  · obtain ⟨c, cs, w, rfl, hc, hcs, hl, q⟩ := h
    refine ⟨_, (pss_cons (ps_if (pt_not (pt_val (pe_callB (id := "isinstance")  call_isi (by rfl) T.z_isinstance (by decide +kernel) (pa_cons (pv 0) (pa_cons (pe_bltn (v := .ty "tuple") (by rfl) T.z_tuple (by decide +kernel) rfl) pa_nil)))))
    (pss_one (ps_ret pe_bl))
    pss_nil)
  (pss_cons (ps_set (i := 2) sc__are_columns.nd rfl (.inl rfl) pe_int)
  (pss_cons (ps_for PassesOwn.never rfl (pi_tup (pv 0)) (pg_name (i := 3) sc__are_columns.nd rfl (.inl rfl))
    (pss_cons (ps_if (PW.pt (pw_or (pt_not (pt_val (pe_call G7 (hr.mono (by decide)) (by rfl) T.g7 T.F7.kp T.b7 .nil pass0 (pa_cons (pv 3) pa_nil)))) (pw_or1 (pt_not (pt_chain op_le op_lt (pv 2) (pv 3) (pv 1))))))
        (pss_one (ps_ret pe_bl))
        pss_nil)
      (pss_one (ps_set (i := 2) sc__are_columns.nd rfl (.inl rfl) (pe_op op_add (pv 3) pe_int)))))
  (pss_one (ps_ret pe_bl))))), ?_⟩
    refine ⟨_, rfl, _, _, _, _, _, rfl, .ty _, .base (.tup hc), kit_ty (show kitB "tuple" "tuple" = some true by decide +kernel), _, rfl, ?_⟩
    refine ⟨_, rfl, c, rfl, ⟨_, .of hc⟩, for_tup (K := K) (a := c) (xs := cs.map V.int) (fun i σ H' => ∃ (l : Int) (y3 : Option V), σ = [some (.ref c), some (.int w), some (.int l), y3] ∧ Same H H' ∧ (∀ j x, i ≤ j → cs[j]? = some x → l ≤ x)) ⟨0, none, rfl, Same.refl H, fun j x _ e => (hcs.2 x (List.mem_of_getElem? e)).1⟩ (fun i σ H' _ hp => ?_) (fun i y σ H' hy hp => ?_) (fun σ H' hp => ?_)⟩
    · obtain ⟨l, y3, rfl, s1, _⟩ := hp
      exact .of (s1 _ _ hc)
    · obtain ⟨l, y3, rfl, s1, hlow⟩ := hp
      obtain ⟨x, hx, rfl⟩ := map_at hy
      have hb := hcs.2 x (List.mem_of_getElem? hx)
      have h1 := hlow i x (Nat.le_refl _) hx
      refine ⟨_, rfl, _, rfl, .int x, fun H1 s2 => ⟨_, rfl, ?_⟩⟩
      refine ⟨_, rfl, _, rfl, _, _, rfl, rfl, _, rfl, ite_d (fun _ => ?_) (fun z => absurd h1 z)⟩
      refine ⟨_, rfl, _, _, rfl, rfl, _, rfl, ?_⟩
      rw [decide_eq_true hb.2]
      refine ⟨_, rfl, _, _, rfl, rfl, _, _, rfl, s1.trans s2, fun j z hj e => ?_⟩
      have hij : i < j := hj
      obtain ⟨hi', ei⟩ := List.getElem?_eq_some_iff.mp hx
      obtain ⟨hj', ej⟩ := List.getElem?_eq_some_iff.mp e
      have := List.pairwise_iff_getElem.mp hcs.1 i j hi' hj' hij
      rw [ei, ej] at this
      omega
    · obtain ⟨l, y3, rfl, s1, _⟩ := hp
      exact q H' s1
/-! ### keys and services that are right -/
def spIsKey : Sp := fun vs H Q _ => ∃ (c : Addr) (cs : List Int) (w : Int), vs = [.ref c, .int w] ∧ H c = some (.tup (cs.map V.int)) ∧ Cols cs w ∧ cs.length ≤ 100 ∧ 1 ≤ cs.length ∧ (cs.length : Int) < w ∧ ∀ H', Same H H' → Q (.bl true) H'
theorem ok_is_key (T : Txt K mg a d) : FnOk P w K mg base CX0 3 (a 17) (d 17) ["thing", "width"] spIsKey := by
  have G16 : FnOk P w K mg base CX0 2 (a 16) (d 16) ["thing", "width"] spAreCols := ok_are_columns T
  refine T.F17.ok sc__is_key (fun vs H Q E h => ?_) (fun cdv A outer s H vs Q E hr h => ?_)
  · obtain ⟨c, cs, w, rfl, _⟩ := h
    rfl
  · obtain ⟨c, cs, w, rfl, hc, hcs, hl, h1, h2, q⟩ := h
    refine ⟨_, (pss_one (ps_ret (pe_and (pe_call G16 (hr.mono (by decide)) (by rfl) T.g16 T.F16.kp T.b16 .nil pass0 (pa_cons (pv 0) (pa_cons (pv 1) pa_nil))) (pe_one (pe_chain op_lt op_lt pe_int (pe_callB (id := "len")  call_len_seq (by rfl) T.z_len (by decide +kernel) (pa_cons (pv 0) pa_nil)) (pv 1)))))), ?_⟩
    refine ⟨_, rfl, _, rfl, c, cs, w, rfl, hc, hcs, hl, fun H1 s1 => ⟨_, rfl, ?_⟩⟩
    have lc : ((cs.map V.int).length : Int) = cs.length := by rw [List.length_map]
    refine ⟨_, rfl, _, _, rfl, .inr (.of (s1 _ _ hc)), _, _, rfl, rfl, _, rfl, ite_d (fun _ => ?_) (fun z => absurd (by omega) z)⟩
    refine ⟨_, rfl, _, _, rfl, rfl, ?_⟩
    show Q (.bl (decide (((cs.map V.int).length : Int) < w))) H1
    rw [lc, decide_eq_true h2]
    exact q H1 s1
def spIsSvc : Sp := fun vs H Q _ => ∃ (v t ga : Addr) (n : Str) (cs : List Int) (cap : Option Int) (w : Int) (ts : List (Str × Int)) (m : Nat), vs = [.ref v, .ref t] ∧ Told H v n ga cs cap ∧ DctAt H t (tabK ts) ∧ Tabs ts m 4 ∧ (n, w) ∈ ts ∧ Cols cs w ∧ cs.length ≤ 4 ∧ (∀ z, cap = some z → 1 ≤ z ∧ z ≤ 4) ∧ ∀ H', Same H H' → Q (.bl true) H'
theorem ok_is_service (T : Txt K mg a d) : FnOk P w K mg base CX0 3 (a 18) (d 18) ["thing", "tables"] spIsSvc := by
  have G16 : FnOk P w K mg base CX0 2 (a 16) (d 16) ["thing", "width"] spAreCols := ok_are_columns T
  have G15 : FnOk P w K mg base CX0 1 (a 15) (d 15) ["thing", "names"] spNameIn := ok_name_in T
  have G14 : FnOk P w K mg base CX0 2 (a 14) (d 14) ["thing", "most"] spCount := ok_count T
  refine T.F18.ok sc__is_service (fun vs H Q E h => ?_) (fun cdv A outer s H vs Q E hr h => ?_)
  · obtain ⟨v, t, ga, n, cs, cap, w, ts, m, rfl, _⟩ := h
    rfl
  · obtain ⟨v, t, ga, n, cs, cap, w, ts, m, rfl, hv, ht, hT, hm, hcs, hl, hcap, q⟩ := h
    obtain ⟨t9, h_MOST_CAP⟩ := T.c_MOST_CAP
    have tv := tab_val hT hm
    have g := fun (H' : Hp) (s : Same H H') => (ht.same s).get (tab_nd hT) (Sum.inr n)
    rw [tv] at g
    refine ⟨_, (pss_cons (ps_if (PW.pt (pw_or (pt_not (pt_val (pe_callB (id := "isinstance")  call_isi (by rfl) T.z_isinstance (by decide +kernel) (pa_cons (pv 0) (pa_cons (pe_bltn (v := .ty "tuple") (by rfl) T.z_tuple (by decide +kernel) rfl) pa_nil))))) (pw_or1 (pt_cmpR op_ne (pe_callB (id := "len")  call_len_seq (by rfl) T.z_len (by decide +kernel) (pa_cons (pv 0) pa_nil)) pe_int (nomark _)))))
    (pss_one (ps_ret pe_bl))
    pss_nil)
  (pss_cons (ps_asg (pv 0) (pg_tup rfl (pgs_cons (pg_name (i := 2) sc__is_service.nd rfl (.inl rfl)) (pgs_cons (pg_name (i := 3) sc__is_service.nd rfl (.inl rfl)) (pgs_cons (pg_name (i := 4) sc__is_service.nd rfl (.inl rfl)) pgs_nil)))))
  (pss_cons (ps_if (PW.pt (pw_or (pt_not (pt_val (pe_call G15 (hr.mono (by decide)) (by rfl) T.g15 T.F15.kp T.b15 .nil pass0 (pa_cons (pv 2) (pa_cons (pv 1) pa_nil))))) (pw_or1 (pt_not (pt_val (pe_call G16 (hr.mono (by decide)) (by rfl) T.g16 T.F16.kp T.b16 .nil pass0 (pa_cons (pv 3) (pa_cons (pe_dget (hu_of hr) (pv 1) (pv 2) (fun _ _ => rfl)) pa_nil))))))))
    (pss_one (ps_ret pe_bl))
    pss_nil)
  (pss_one (ps_ret (pe_or (pe_cmpR op_isN (pv 4) pe_non (nomark _)) (pe_one (pe_call G14 (hr.mono (by decide)) (by rfl) T.g14 T.F14.kp T.b14 .nil pass0 (pa_cons (pv 4) (pa_cons (pe_glob (v := .int (4)) rfl h_MOST_CAP ⟨_, rfl⟩) pa_nil)))))))))), ?_⟩
    refine ⟨_, rfl, _, _, _, _, _, rfl, .ty _, .base (.tup hv.tup), kit_ty (show kitB "tuple" "tuple" = some true by decide +kernel), _, rfl, ?_⟩
    refine ⟨_, rfl, _, _, rfl, .inr (.of hv.tup), rfl, _, rfl, ?_⟩
    refine ⟨_, rfl, v, _, rfl, .of hv.tup, rfl, _, _, rfl, _, _, rfl, _, _, rfl, rfl, ?_⟩
    refine ⟨_, rfl, _, rfl, n, t, tabK ts, rfl, ht, tab_nd hT, ?_⟩
    rw [tv]
    refine ⟨_, rfl, _, rfl, _, rfl, _, rfl, t, _, rfl, g H (Same.refl H), ga, cs, w, rfl, hv.cols, hcs, by omega, fun H1 s1 => ⟨_, rfl, ?_⟩⟩
    refine ⟨_, rfl, rfl, _, rfl, ?_⟩
    rw [capV_none]
    cases e : cap.isNone with
    | true => exact q H1 s1
    | false =>
      cases cap with
      | none => cases e
      | some z =>
        have hz := hcap z rfl
        refine ⟨_, rfl, z, 4, rfl, fun H2 s2 => ?_⟩
        rw [decide_eq_true hz]
        exact q H2 (s1.trans s2)
end
/-! ### a dict whose names are sorted -/
section
variable {P : Program} {w : World} {K : PySem.W.Frag} {mg : Str → Option Value} {base : Heap} {a : Nat → Addr} {d : Nat → FuncData}
def spChkT : Sp := fun vs H Q _ => ∃ (t : Addr) (ts : List (Str × Int)) (m : Nat), vs = [.ref t] ∧ DctAt H t (tabK ts) ∧ Tabs ts m 4 ∧ 1 ≤ m ∧ m ≤ 5 ∧ ∀ H', Same H H' → Q .non H'
theorem ok_check_tables (T : Txt K mg a d) : FnOk P w K mg base CX0 3 (a 20) (d 20) ["tables"] spChkT := by
  have G8 : FnOk P w K mg base CX0 1 (a 8) (d 8) ["thing"] (spB wordV) := ok_is_word T
  have G14 : FnOk P w K mg base CX0 2 (a 14) (d 14) ["thing", "most"] spCount := ok_count T
  refine T.F20.ok sc__check_tables (fun vs H Q E h => ?_) (fun cdv A outer s H vs Q E hr h => ?_)
  · obtain ⟨t, ts, m, rfl, _⟩ := h
    rfl
  · obtain ⟨t, ts, m, rfl, ht, hT, hm1, hm2, q⟩ := h
    obtain ⟨t8, h_MOST_TABLES⟩ := T.c_MOST_TABLES
    obtain ⟨t9, h_MOST_WIDTH⟩ := T.c_MOST_WIDTH
    have hlen := hT.len
    obtain ⟨ks, zs, e, kl, ek, z64, _, hL⟩ := DctAt.names (f := (·.1)) ht (fun _ => rfl) (by omega)
    refine ⟨_, (pss_cons (ps_if (pt_not (pt_chain op_le op_le pe_int (pe_callB (id := "len")  call_lenD (by rfl) T.z_len (by decide +kernel) (pa_cons (pv 0) pa_nil)) (pe_glob (v := .int (5)) rfl h_MOST_TABLES ⟨_, rfl⟩)))
    (pss_one ps_never)
    pss_nil)
  (pss_one (ps_for PassesOwn.never rfl (pi_list (pe_callB (id := "sorted")  (call_sortedD rfl) (by rfl) T.z_sorted (by decide +kernel) (pa_cons (pv 0) pa_nil))) (pg_name (i := 1) sc__check_tables.nd rfl (.inl rfl))
    (pss_one (ps_if (PW.pt (pw_or (pt_not (pt_val (pe_call G8 (hr.mono (by decide)) (by rfl) T.g8 T.F8.kp T.b8 .nil pass0 (pa_cons (pv 1) pa_nil)))) (pw_or1 (pt_not (pt_val (pe_call G14 (hr.mono (by decide)) (by rfl) T.g14 T.F14.kp T.b14 .nil pass0 (pa_cons (pe_dget (hu_of hr) (pv 0) (pv 1) (fun _ _ => rfl)) (pa_cons (pe_glob (v := .int (4)) rfl h_MOST_WIDTH ⟨_, rfl⟩) pa_nil))))))))
        (pss_one ps_never)
        pss_nil))))), ?_⟩
    refine ⟨_, rfl, t, ks, rfl, e, _, _, rfl, rfl, _, rfl, ite_d (fun _ => ?_) (fun z => absurd (by omega) z)⟩
    refine ⟨_, _, rfl, rfl, _, rfl, ?_⟩
    show if (!decide ((ks.length : Int) ≤ 5)) = true then _ else _
    rw [decide_eq_true (by omega)]
    refine ⟨_, rfl, t, ks, zs, rfl, .inl e, ek, z64, fun ys p yp _ hp => ⟨p, rfl, ?_⟩⟩
    obtain ⟨L, hLp, rfl⟩ := hL ys yp
    have s0 := same_upd (o := .lst ((L.map (·.1)).map V.str)) hp
    refine ⟨⟨_, .of upd_same⟩, for_list (K := K) (a := p) (xs := (L.map (·.1)).map V.str) (fun i σ H' => ∃ y1 : Option V, σ = [some (.ref t), y1] ∧ Same (upd H p (.lst ((L.map (·.1)).map V.str))) H') ⟨none, rfl, Same.refl _⟩ (fun i σ H' _ hp => ?_) (fun i y σ H' hy hp => ?_) (fun σ H' hp => ?_)⟩
    · obtain ⟨y1, rfl, s1⟩ := hp
      exact .of (s1 _ _ upd_same)
    · obtain ⟨y1, rfl, s1⟩ := hp
      obtain ⟨n, hn, rfl⟩ := map_at hy
      obtain ⟨b, hb, rfl⟩ := map_at hn
      have hm : (b.1, b.2) ∈ ts := hLp.mem_iff.mp (List.mem_of_getElem? hb)
      have hw := hT.wd _ hm
      have hwd := hT.nm.wd b.1 (List.mem_map.mpr ⟨_, hm, rfl⟩)
      refine ⟨_, rfl, .str b.1, rfl, wd_thg hwd, fun H1 s2 => ⟨_, rfl, ?_⟩⟩
      show if (!wordB b.1) = true then _ else _
      rw [wd_b hwd]
      refine ⟨_, rfl, _, rfl, t, _, rfl, (ht.same ((s0.trans s1).trans s2)).at_ (tab_nd hT) (tab_val hT hm), b.2, 4, rfl, fun H2 s3 => ⟨_, rfl, ?_⟩⟩
      rw [decide_eq_true hw]
      exact ⟨_, rfl, (s1.trans s2).trans s3⟩
    · obtain ⟨y1, rfl, s1⟩ := hp
      exact q H' (s0.trans s1)
def spChkK : Sp := fun vs H Q _ => ∃ (k t : Addr) (ts : List (Str × Int)) (ks : List KeyE) (m : Nat), vs = [.ref k, .ref t] ∧ DctAt H k (keyK ks) ∧ DctAt H t (tabK ts) ∧ Tabs ts m 4 ∧ Keys H ts ks ∧ m ≤ 5 ∧ ∀ H', Same H H' → Q .non H'
theorem ok_check_keys (T : Txt K mg a d) : FnOk P w K mg base CX0 4 (a 21) (d 21) ["keys", "tables"] spChkK := by
  have G17 : FnOk P w K mg base CX0 3 (a 17) (d 17) ["thing", "width"] spIsKey := ok_is_key T
  refine T.F21.ok sc__check_keys (fun vs H Q E h => ?_) (fun cdv A outer s H vs Q E hr h => ?_)
  · obtain ⟨k, t, ts, ks, m, rfl, _⟩ := h
    rfl
  · obtain ⟨k, t, ts, ks, m, rfl, hk, ht, hT, hK, hm2, q⟩ := h
    have hlen := hT.len
    have hkl : ks.length ≤ 5 := by
      have := hK.le
      omega
    obtain ⟨kd, zs, e, kl, ek, z64, _, hL⟩ := DctAt.names (f := (·.1)) hk (fun _ => rfl) (by omega)
    refine ⟨_, (pss_one (ps_for PassesOwn.never rfl (pi_list (pe_callB (id := "sorted")  (call_sortedD rfl) (by rfl) T.z_sorted (by decide +kernel) (pa_cons (pv 0) pa_nil))) (pg_name (i := 2) sc__check_keys.nd rfl (.inl rfl))
    (pss_one (ps_if (PW.pt (pw_or (pt_cmp (pc_dnotin (hu_of hr) (pv 2) (pv 1))) (pw_or1 (pt_not (pt_val (pe_call G17 (hr.mono (by decide)) (by rfl) T.g17 T.F17.kp T.b17 .nil pass0 (pa_cons (pe_dget (hu_of hr) (pv 0) (pv 2) (fun _ _ => rfl)) (pa_cons (pe_dget (hu_of hr) (pv 1) (pv 2) (fun _ _ => rfl)) pa_nil))))))))
        (pss_one ps_never)
        pss_nil)))), ?_⟩
    refine ⟨_, rfl, k, kd, zs, rfl, .inl e, ek, z64, fun ys p yp _ hp => ⟨p, rfl, ?_⟩⟩
    obtain ⟨L, hLp, rfl⟩ := hL ys yp
    have s0 := same_upd (o := .lst ((L.map (·.1)).map V.str)) hp
    refine ⟨⟨_, .of upd_same⟩, for_list (K := K) (a := p) (xs := (L.map (·.1)).map V.str) (fun i σ H' => ∃ y1 : Option V, σ = [some (.ref k), some (.ref t), y1] ∧ Same (upd H p (.lst ((L.map (·.1)).map V.str))) H') ⟨none, rfl, Same.refl _⟩ (fun i σ H' _ hp => ?_) (fun i y σ H' hy hp => ?_) (fun σ H' hp => ?_)⟩
    · obtain ⟨y1, rfl, s1⟩ := hp
      exact .of (s1 _ _ upd_same)
    · obtain ⟨y1, rfl, s1⟩ := hp
      obtain ⟨n, hn, rfl⟩ := map_at hy
      obtain ⟨b, hb, rfl⟩ := map_at hn
      have hm : b ∈ ks := hLp.mem_iff.mp (List.mem_of_getElem? hb)
      obtain ⟨w', hw', hcols, hl1, hl2⟩ := hK.ok b hm
      have hwd := hT.wd _ hw'
      have s2 := s0.trans s1
      have gt := (ht.same s2).at_ (tab_nd hT) (tab_val hT hw')
      refine ⟨_, rfl, _, rfl, t, _, rfl, gt, _, rfl, ?_⟩
      refine ⟨_, rfl, _, rfl, k, _, rfl, (hk.same s2).at_ (key_nd hT hK) (key_val hT hK hm), _, rfl, _, rfl, t, _, rfl, gt, b.2.1, b.2.2, w', rfl, s2 _ _ (hK.at_ b hm), hcols, by omega, hl1, hl2, fun H1 s3 => ⟨_, rfl, ?_⟩⟩
      exact ⟨_, rfl, s1.trans s3⟩
    · obtain ⟨y1, rfl, s1⟩ := hp
      exact q H' (s0.trans s1)
def spChkS : Sp := fun vs H Q _ => ∃ (v t : Addr) (ts : List (Str × Int)) (ks : List KeyE) (ss : List SvE) (m n : Nat), vs = [.ref v, .ref t] ∧ DctAt H v (svK ss) ∧ DctAt H t (tabK ts) ∧ Tabs ts m 4 ∧ Svcs H ts ks ss n ∧ 1 ≤ n ∧ n ≤ 8 ∧ ∀ H', Same H H' → Q .non H'
theorem ok_check_services (T : Txt K mg a d) : FnOk P w K mg base CX0 4 (a 22) (d 22) ["services", "tables"] spChkS := by
  have G8 : FnOk P w K mg base CX0 1 (a 8) (d 8) ["thing"] (spB wordV) := ok_is_word T
  have G18 : FnOk P w K mg base CX0 3 (a 18) (d 18) ["thing", "tables"] spIsSvc := ok_is_service T
  refine T.F22.ok sc__check_services (fun vs H Q E h => ?_) (fun cdv A outer s H vs Q E hr h => ?_)
  · obtain ⟨v, t, ts, ks, ss, m, n, rfl, _⟩ := h
    rfl
  · obtain ⟨v, t, ts, ks, ss, m, n, rfl, hv, ht, hT, hS, hm1, hm2, q⟩ := h
    obtain ⟨t8, h_MOST_SERVICES⟩ := T.c_MOST_SERVICES
    have hlen : ss.length = n := by rw [← hS.nm.len, List.length_map]
    obtain ⟨kd, zs, e, kl, ek, z64, _, hL⟩ := DctAt.names (f := (·.name)) hv (fun _ => rfl) (by omega)
    refine ⟨_, (pss_cons (ps_if (pt_not (pt_chain op_le op_le pe_int (pe_callB (id := "len")  call_lenD (by rfl) T.z_len (by decide +kernel) (pa_cons (pv 0) pa_nil)) (pe_glob (v := .int (8)) rfl h_MOST_SERVICES ⟨_, rfl⟩)))
    (pss_one ps_never)
    pss_nil)
  (pss_one (ps_for PassesOwn.never rfl (pi_list (pe_callB (id := "sorted")  (call_sortedD rfl) (by rfl) T.z_sorted (by decide +kernel) (pa_cons (pv 0) pa_nil))) (pg_name (i := 2) sc__check_services.nd rfl (.inl rfl))
    (pss_one (ps_if (PW.pt (pw_or (pt_not (pt_val (pe_call G8 (hr.mono (by decide)) (by rfl) T.g8 T.F8.kp T.b8 .nil pass0 (pa_cons (pv 2) pa_nil)))) (pw_or1 (pt_not (pt_val (pe_call G18 (hr.mono (by decide)) (by rfl) T.g18 T.F18.kp T.b18 .nil pass0 (pa_cons (pe_dget (hu_of hr) (pv 0) (pv 2) (fun _ _ => rfl)) (pa_cons (pv 1) pa_nil))))))))
        (pss_one ps_never)
        pss_nil))))), ?_⟩
    refine ⟨_, rfl, v, kd, rfl, e, _, _, rfl, rfl, _, rfl, ite_d (fun _ => ?_) (fun z => absurd (by omega) z)⟩
    refine ⟨_, _, rfl, rfl, _, rfl, ?_⟩
    show if (!decide ((kd.length : Int) ≤ 8)) = true then _ else _
    rw [decide_eq_true (by omega)]
    refine ⟨_, rfl, v, kd, zs, rfl, .inl e, ek, z64, fun ys p yp _ hp => ⟨p, rfl, ?_⟩⟩
    obtain ⟨L, hLp, rfl⟩ := hL ys yp
    have s0 := same_upd (o := .lst ((L.map (·.name)).map V.str)) hp
    refine ⟨⟨_, .of upd_same⟩, for_list (K := K) (a := p) (xs := (L.map (·.name)).map V.str) (fun i σ H' => ∃ y1 : Option V, σ = [some (.ref v), some (.ref t), y1] ∧ Same (upd H p (.lst ((L.map (·.name)).map V.str))) H') ⟨none, rfl, Same.refl _⟩ (fun i σ H' _ hp => ?_) (fun i y σ H' hy hp => ?_) (fun σ H' hp => ?_)⟩
    · obtain ⟨y1, rfl, s1⟩ := hp
      exact .of (s1 _ _ upd_same)
    · obtain ⟨y1, rfl, s1⟩ := hp
      obtain ⟨nm, hn, rfl⟩ := map_at hy
      obtain ⟨b, hb, rfl⟩ := map_at hn
      have hm : b ∈ ss := hLp.mem_iff.mp (List.mem_of_getElem? hb)
      have hwd := hS.nm.wd b.name (List.mem_map.mpr ⟨_, hm, rfl⟩)
      obtain ⟨htold, ⟨w', hw', hcols, hcl⟩, hcap⟩ := hS.ok b hm
      refine ⟨_, rfl, .str b.name, rfl, wd_thg hwd, fun H1 s2 => ⟨_, rfl, ?_⟩⟩
      have s3 := (s0.trans s1).trans s2
      show if (!wordB b.name) = true then _ else _
      rw [wd_b hwd]
      refine ⟨_, rfl, _, rfl, v, _, rfl, (hv.same s3).at_ (sv_nd hS) (sv_val hS hm), _, rfl, b.at_, t, b.ga, b.tab, b.cols, b.cap, w', ts, m, rfl, htold.mono fun _ _ e => s3 _ _ e, ht.same s3, hT, hw', hcols, hcl, hcap, fun H2 s4 => ⟨_, rfl, ?_⟩⟩
      exact ⟨_, rfl, (s1.trans s2).trans s4⟩
    · obtain ⟨y1, rfl, s1⟩ := hp
      exact q H' (s0.trans s1)
end
/-! ### the order of names -/
section
variable {P : Program} {w : World} {K : PySem.W.Frag} {mg : Str → Option Value} {base : Heap} {a : Nat → Addr} {d : Nat → FuncData}
def spChkC : Sp := fun vs H Q _ => ∃ (v t k : Addr) (ts : List (Str × Int)) (ks : List KeyE) (ss : List SvE) (m n : Nat), vs = [.ref v, .ref t, .ref k] ∧ DctAt H v (svK ss) ∧ DctAt H t (tabK ts) ∧ DctAt H k (keyK ks) ∧ Tabs ts m 4 ∧ Keys H ts ks ∧ Svcs H ts ks ss n ∧ n ≤ 8 ∧ ∀ H', Same H H' → Q .non H'
theorem ok_check_capped (T : Txt K mg a d) : FnOk P w K mg base CX0 2 (a 23) (d 23) ["services", "tables", "keys"] spChkC := by
  have G19 : FnOk P w K mg base CX0 1 (a 19) (d 19) ["service", "tables", "keys"] spIsWh := ok_is_wh T
  refine T.F23.ok sc__check_capped (fun vs H Q E h => ?_) (fun cdv A outer s H vs Q E hr h => ?_)
  · obtain ⟨v, t, k, ts, ks, ss, m, n, rfl, _⟩ := h
    rfl
  · obtain ⟨v, t, k, ts, ks, ss, m, n, rfl, hv, ht, hk, hT, hK, hS, hn, q⟩ := h
    have hlen : ss.length = n := by rw [← hS.nm.len, List.length_map]
    obtain ⟨kd, zs, e, kl, ek, z64, _, hL⟩ := DctAt.names (f := (·.name)) hv (fun _ => rfl) (by omega)
    refine ⟨_, (pss_cons (ps_set (i := 3) sc__check_capped.nd rfl (.inl rfl) (pe_lst pa_nil))
  (pss_one (ps_for PassesOwn.never rfl (pi_list (pe_callB (id := "sorted")  (call_sortedD rfl) (by rfl) T.z_sorted (by decide +kernel) (pa_cons (pv 0) pa_nil))) (pg_name (i := 4) sc__check_capped.nd rfl (.inl rfl))
    (pss_cons (ps_set (i := 5) sc__check_capped.nd rfl (.inl rfl) (pe_dget (hu_of hr) (pv 0) (pv 4) (fun _ _ => rfl)))
      (pss_one (ps_if (pt_not (pt_val (pe_call G19 (hr.mono (by decide)) (by rfl) T.g19 T.F19.kp T.b19 .nil pass0 (pa_cons (pv 5) (pa_cons (pv 1) (pa_cons (pv 2) pa_nil))))))
        (pss_cons (ps_if (pt_cmpR op_in_seq (pe_ix ix_tup (pv 5) pe_int (fun _ _ => rfl)) (pv 3) (by rfl))
            (pss_one ps_never)
            pss_nil)
          (pss_one (ps_expr (pe_bm PySem.F.plainAttrs_list PySem.F.slot_list_append PySem.F.type_list_append mt_append (pv 3) (pa_cons (pe_ix ix_tup (pv 5) pe_int (fun _ _ => rfl)) pa_nil)))))
        pss_nil)))))), ?_⟩
    refine ⟨Nat.zero_le _, fun f hf => ?_⟩
    have s0 := same_upd (o := .lst []) hf
    refine ⟨_, rfl, v, kd, zs, rfl, .inl (s0 _ _ e), ek, z64, fun ys p yp _ hp => ⟨p, rfl, ?_⟩⟩
    obtain ⟨L, hLp, rfl⟩ := hL ys yp
    have s1 := same_upd (o := .lst ((L.map (·.name)).map V.str)) hp
    have nfp : f ≠ p := ne_of_none upd_same hp
    have nd : (fillE ts ks L).Nodup := (fillE_perm hLp).nodup_iff.mpr hS.one
    have lL : L.length ≤ 8 := by rw [hLp.length_eq]; omega
    refine ⟨⟨_, .of upd_same⟩, for_list (K := K) (a := p) (xs := (L.map (·.name)).map V.str) (fun i σ H' => ∃ y4 y5 : Option V, σ = [some (.ref v), some (.ref t), some (.ref k), some (.ref f), y4, y5] ∧ H' p = some (.lst ((L.map (·.name)).map V.str)) ∧ H' f = some (.lst ((fillE ts ks (L.take i)).map V.str)) ∧ Same H H')
      ⟨none, none, rfl, upd_same, s1 _ _ upd_same, s0.trans s1⟩ (fun i σ H' _ hp => ?_) (fun i y σ H' hy hp => ?_) (fun σ H' hp => ?_)⟩
    · obtain ⟨y4, y5, rfl, hp', _⟩ := hp
      exact .of hp'
    · obtain ⟨y4, y5, rfl, hp', hf', sm⟩ := hp
      obtain ⟨nm, hn', rfl⟩ := map_at hy
      obtain ⟨b, hb, rfl⟩ := map_at hn'
      have hm : b ∈ ss := hLp.mem_iff.mp (List.mem_of_getElem? hb)
      obtain ⟨htold, ⟨w', hw', hcols, hcl⟩, hcap⟩ := hS.ok b hm
      have hw2 := widthAt_mem hT.nm.nd hw'
      have tk : L.take (i + 1) = L.take i ++ [b] := by
        rw [List.take_add_one, hb]
        rfl
      have fs := fillE_snoc ts ks (L.take i) b
      rw [← tk] at fs
      have we : whE ts ks b = isWh w' ks b.tab b.cols b.cap := by
        unfold whE
        rw [hw2]
      refine ⟨_, rfl, _, rfl, v, _, rfl, (hv.same sm).at_ (sv_nd hS) (sv_val hS hm), ?_⟩
      refine ⟨_, rfl, _, rfl, _, rfl, b.at_, t, k, b.ga, b.tab, b.cols, b.cap, w', ts, ks, m, rfl, htold.mono fun _ _ e => sm _ _ e, ht.same sm, hk.same sm, hT, hK.mono fun _ _ e => sm _ _ e, hw', by omega, fun H2 s2 => ⟨_, rfl, ?_⟩⟩
      have sm2 := sm.trans s2
      cases ew : isWh w' ks b.tab b.cols b.cap with
      | true =>
        rw [we, ew, if_pos rfl, List.append_nil] at fs
        refine ⟨_, _, rfl, s2 _ _ hp', ?_, sm2⟩
        rw [fs]
        exact s2 _ _ hf'
      | false =>
        rw [we, ew, if_neg (by decide)] at fs
        have hno : b.tab ∉ fillE ts ks (L.take i) := fun hx => by
          have nd2 : (fillE ts ks (L.take (i + 1))).Nodup := nd.sublist (fillE_take L (i + 1))
          rw [fs] at nd2
          exact (List.nodup_append.mp nd2).2.2 b.tab hx b.tab (by simp) rfl
        have hat := htold.tup
        refine ⟨_, rfl, _, _, _, _, rfl, rfl, .of (sm2 _ _ hat), atI_nat (j := 0) rfl, _, rfl, f, _, rfl, .inl (.of (s2 _ _ hf')), rfl, flat_strs _, _, rfl, ?_⟩
        show if inV (.str b.tab) ((fillE ts ks (L.take i)).map V.str) = true then _ else _
        rw [inV_strs, decide_eq_false hno]
        refine ⟨_, rfl, .inl ⟨rfl, _, .of (s2 _ _ hf')⟩, _, rfl, _, _, _, _, rfl, rfl, .of (sm2 _ _ hat), atI_nat (j := 0) rfl, f, _, _, rfl, rfl, s2 _ _ hf', ?_, _, _, rfl, ?_, ?_, ?_⟩
        · rw [List.length_map]
          unfold fillE
          rw [List.length_map]
          have l1 := List.length_filter_le (fun b => !whE ts ks b) (L.take i)
          rw [List.length_take] at l1
          exact Nat.lt_of_le_of_lt (by omega : _ ≤ 8) (by decide)
        · rw [upd_ne nfp.symm]
          exact s2 _ _ hp'
        · rw [fs, List.map_append]
          exact upd_same
        · intro x o ex
          rw [upd_ne (ne_of_none ex hf)]
          exact sm2 x o ex
    · obtain ⟨y4, y5, rfl, hp', hf', sm⟩ := hp
      exact q H' sm
end
/-! ### the class -/
/-- a Schema at p -/
structure SchO (C p dx d1 d2 d3 : Addr) (H : Hp) (ts : List (Str × Int)) (ks : List KeyE) (ss : List SvE) (m n : Nat) : Prop where
  ob : H p = some (.ins C dx (fldsS d1 d2 d3))
  tb : DctAt H d1 (tabK ts)
  ky : DctAt H d2 (keyK ks)
  sv : DctAt H d3 (svK ss)
  hT : Tabs ts m 4
  hK : Keys H ts ks
  hS : Svcs H ts ks ss n
  m5 : m ≤ 5
  n8 : n ≤ 8
def SchAt (C p : Addr) (H : Hp) (ts : List (Str × Int)) (ks : List KeyE) (ss : List SvE) (m n : Nat) : Prop := ∃ dx d1 d2 d3, SchO C p dx d1 d2 d3 H ts ks ss m n
theorem SchO.same {C p dx d1 d2 d3 : Addr} {H H' : Hp} {ts : List (Str × Int)} {ks : List KeyE} {ss : List SvE} {m n : Nat} (h : SchO C p dx d1 d2 d3 H ts ks ss m n) (s : Same H H') : SchO C p dx d1 d2 d3 H' ts ks ss m n :=
  ⟨s _ _ h.ob, h.tb.same s, h.ky.same s, h.sv.same s, h.hT, h.hK.mono fun _ _ e => s _ _ e, h.hS.mono fun _ _ e => s _ _ e, h.m5, h.n8⟩
theorem SchAt.same {C p : Addr} {H H' : Hp} {ts : List (Str × Int)} {ks : List KeyE} {ss : List SvE} {m n : Nat} (h : SchAt C p H ts ks ss m n) (s : Same H H') : SchAt C p H' ts ks ss m n := by
  obtain ⟨dx, d1, d2, d3, o⟩ := h
  exact ⟨dx, d1, d2, d3, o.same s⟩
section
variable {P : Program} {w : World} {K : PySem.W.Frag} {mg : Str → Option Value} {base : Heap} {a : Nat → Addr} {d : Nat → FuncData}
def spSInit (C : Addr) : Sp := fun vs H Q _ => ∃ (p dx t k v : Addr) (ts : List (Str × Int)) (ks : List KeyE) (ss : List SvE) (m n : Nat), vs = [.ref p, .ref t, .ref k, .ref v] ∧ H p = some (.ins C dx []) ∧ DctAt H t (tabK ts) ∧ DctAt H k (keyK ks) ∧ DctAt H v (svK ss) ∧ Tabs ts m 4 ∧ Keys H ts ks ∧ Svcs H ts ks ss n ∧ 1 ≤ m ∧ m ≤ 5 ∧ 1 ≤ n ∧ n ≤ 8 ∧
  ∀ H' d1 d2 d3, SchO C p dx d1 d2 d3 H' ts ks ss m n → H d1 = none → H d2 = none → H d3 = none → (∀ b o, b ≠ p → H b = some o → H' b = some o) → Q .non H'
theorem ok_sinit (T : Txt K mg a d) : FnOk P w K mg base CX0 5 (a 3500) (d 3500) ["self", "tables", "keys", "services"] (spSInit (a 25)) := by
  have G20 : FnOk P w K mg base CX0 3 (a 20) (d 20) ["tables"] spChkT := ok_check_tables T
  have G21 : FnOk P w K mg base CX0 4 (a 21) (d 21) ["keys", "tables"] spChkK := ok_check_keys T
  have G22 : FnOk P w K mg base CX0 4 (a 22) (d 22) ["services", "tables"] spChkS := ok_check_services T
  have G23 : FnOk P w K mg base CX0 2 (a 23) (d 23) ["services", "tables", "keys"] spChkC := ok_check_capped T
  have G24 : FnOk P w K mg base CX0 1 (a 24) (d 24) ["things"] spCopied := ok_copied T
  refine T.F3500.ok sc_Schema___init__ (fun vs H Q E h => ?_) (fun cdv A outer s H vs Q E hr h => ?_)
  · obtain ⟨p, dx, t, k, v, ts, ks, ss, m, n, rfl, _⟩ := h
    rfl
  · obtain ⟨p, dx, t, k, v, ts, ks, ss, m, n, rfl, hp, ht, hk, hv, hT, hK, hS, hm1, hm2, hn1, hn2, q⟩ := h
    have lt : ts.length = m := hT.len
    have lk : ks.length ≤ 5 := by
      have := hK.le
      omega
    have ls : ss.length = n := by rw [← hS.nm.len, List.length_map]
    refine ⟨_, (pss_cons (ps_expr (pe_call G20 (hr.mono (by decide)) (by rfl) T.g20 T.F20.kp T.b20 .nil pass0 (pa_cons (pv 1) pa_nil)))
  (pss_cons (ps_expr (pe_call G21 (hr.mono (by decide)) (by rfl) T.g21 T.F21.kp T.b21 .nil pass0 (pa_cons (pv 2) (pa_cons (pv 1) pa_nil))))
  (pss_cons (ps_expr (pe_call G22 (hr.mono (by decide)) (by rfl) T.g22 T.F22.kp T.b22 .nil pass0 (pa_cons (pv 3) (pa_cons (pv 1) pa_nil))))
  (pss_cons (ps_expr (pe_call G23 (hr.mono (by decide)) (by rfl) T.g23 T.F23.kp T.b23 .nil pass0 (pa_cons (pv 3) (pa_cons (pv 1) (pa_cons (pv 2) pa_nil)))))
  (pss_cons (ps_fld (pv 0) (pe_call G24 (hr.mono (by decide)) (by rfl) T.g24 T.F24.kp T.b24 .nil pass0 (pa_cons (pv 1) pa_nil)) rfl)
  (pss_cons (ps_fld (pv 0) (pe_call G24 (hr.mono (by decide)) (by rfl) T.g24 T.F24.kp T.b24 .nil pass0 (pa_cons (pv 2) pa_nil)) rfl)
  (pss_one (ps_fld (pv 0) (pe_call G24 (hr.mono (by decide)) (by rfl) T.g24 T.F24.kp T.b24 .nil pass0 (pa_cons (pv 3) pa_nil)) rfl)))))))), ?_⟩
    refine ⟨_, rfl, t, ts, m, rfl, ht, hT, hm1, hm2, fun H1 s1 => ?_⟩
    refine ⟨_, rfl, _, rfl, k, t, ts, ks, m, rfl, hk.same s1, ht.same s1, hT, hK.mono fun _ _ e => s1 _ _ e, hm2, fun H2 s2 => ?_⟩
    have s12 := s1.trans s2
    refine ⟨_, rfl, _, rfl, v, t, ts, ks, ss, m, n, rfl, hv.same s12, ht.same s12, hT, hS.mono fun _ _ e => s12 _ _ e, hn1, hn2, fun H3 s3 => ?_⟩
    have s13 := s12.trans s3
    refine ⟨_, rfl, _, rfl, _, rfl, v, t, k, ts, ks, ss, m, n, rfl, hv.same s13, ht.same s13, hk.same s13, hT, hK.mono fun _ _ e => s13 _ _ e, hS.mono fun _ _ e => s13 _ _ e, hn2, fun H4 s4 => ?_⟩
    have s14 := s13.trans s4
    -- the three copies
    refine ⟨_, rfl, t, tabK ts, ts.map (·.1), rfl, ht.same s14, keys_tab ts, hT.nm.nd, by rw [List.length_map]; omega, fun d1 H5 f1 D1 s5 => ?_⟩
    have hp5 := (s14.trans s5) _ _ hp
    refine ⟨_, rfl, p, _, dx, _, rfl, hp5, T.cl_25, T.no_25__tables, by show 0 < 1000; decide, ?_⟩
    generalize hH6 : upd H5 p _ = H6
    have hp6 : H6 p = some (.ins (a 25) dx (putF "_tables" (.ref d1) [])) := by rw [← hH6]; exact upd_same
    have o6 : ∀ b o, b ≠ p → H5 b = some o → H6 b = some o := fun b o n e => by rw [← hH6, upd_ne n]; exact e
    have o06 : ∀ b o, b ≠ p → H b = some o → H6 b = some o := fun b o n e => o6 b o n ((s14.trans s5) _ _ e)
    have kn : ((keyK ks).map (·.1)) = (ks.map (·.1)).map Sum.inr := keys_key ks
    refine ⟨_, rfl, k, keyK ks, ks.map (·.1), rfl, hk.but hp o06, kn, hK.nd, by rw [List.length_map]; omega, fun d2 H7 f2 D2 s7 => ?_⟩
    have hp7 := s7 _ _ hp6
    refine ⟨_, rfl, p, _, dx, _, rfl, hp7, T.cl_25, T.no_25__keys, by show 1 < 1000; decide, ?_⟩
    generalize hH8 : upd H7 p _ = H8
    have hp8 : H8 p = some (.ins (a 25) dx (putF "_keys" (.ref d2) (putF "_tables" (.ref d1) []))) := by rw [← hH8]; exact upd_same
    have o8 : ∀ b o, b ≠ p → H7 b = some o → H8 b = some o := fun b o n e => by rw [← hH8, upd_ne n]; exact e
    have o68 : ∀ b o, b ≠ p → H6 b = some o → H8 b = some o := fun b o n e => o8 b o n (s7 _ _ e)
    have o08 : ∀ b o, b ≠ p → H b = some o → H8 b = some o := fun b o n e => o68 b o n (o06 b o n e)
    refine ⟨_, rfl, v, svK ss, ss.map (·.name), rfl, hv.but hp o08, keys_sv ss, hS.nm.nd, by rw [List.length_map]; omega, fun d3 H9 f3 D3 s9 => ?_⟩
    have hp9 := s9 _ _ hp8
    have l2 : ∀ d1 d2 : Addr, (putF "_keys" (.ref d2) (putF "_tables" (.ref d1) ([] : List (Str × V)))).length < 1000 := fun d1 d2 => by
      have e : putF "_keys" (.ref d2) (putF "_tables" (.ref d1) ([] : List (Str × V))) = [(("_tables" : Str), V.ref d1), (("_keys" : Str), V.ref d2)] := by
        show (if ("_tables" : Str) = "_keys" then _ else (("_tables" : Str), V.ref d1) :: putF "_keys" (.ref d2) []) = _
        rw [if_neg (by decide +kernel)]
        rfl
      rw [e]
      show 2 < 1000
      decide
    refine ⟨_, rfl, p, _, dx, _, rfl, hp9, T.cl_25, T.no_25__services, l2 _ _, ?_⟩
    generalize hH : upd H9 p _ = Hz
    have hpz : Hz p = some (.ins (a 25) dx (fldsS d1 d2 d3)) := by rw [← hH]; exact upd_same
    have oz : ∀ b o, b ≠ p → H9 b = some o → Hz b = some o := fun b o n e => by rw [← hH, upd_ne n]; exact e
    have o0z : ∀ b o, b ≠ p → H b = some o → Hz b = some o := fun b o n e => oz b o n (s9 _ _ (o08 b o n e))
    have tz : ∀ b xs, H b = some (.tup xs) → Hz b = some (.tup xs) := fun b xs e => o0z b _ (ne_of e hp (by intro z; cases z)) e
    have free : ∀ {x : Addr} {G : Hp} {o : HO}, G p = some o → (∀ b o, b ≠ p → H b = some o → G b = some o) → G x = none → H x = none := fun {x G o} hG k e => by
      cases e' : H x with
      | none => rfl
      | some u =>
        by_cases n : x = p
        · rw [n, hG] at e
          cases e
        · rw [k x u n e'] at e
          cases e
    refine q Hz d1 d2 d3 ⟨hpz, (((D1.but hp5 o6).same s7).but hp7 o8 |>.same s9).but hp9 oz, ((D2.but hp7 o8).same s9).but hp9 oz, D3.but hp9 oz, hT, hK.mono tz, hS.mono tz, hm2, hn2⟩ (s14.free f1) (free hp6 o06 f2) (free hp8 o08 f3) o0z
/-! ### its properties and lists of names -/
def spProp (C : Addr) (f : List (Str × Int) → List KeyE → List SvE → List (Key × V)) : Sp := fun vs H Q _ => ∃ (p : Addr) (ts : List (Str × Int)) (ks : List KeyE) (ss : List SvE) (m n : Nat), vs = [.ref p] ∧ SchAt C p H ts ks ss m n ∧ ∀ D H', H D = none → DctAt H' D (f ts ks ss) → Same H H' → Q (.ref D) H'
theorem ok_p_tables (T : Txt K mg a d) : FnOk P w K mg base CX0 1 (a 3501) (d 3501) ["self"] (spProp (a 25) fun ts _ _ => tabK ts) := by
  refine T.F3501.ok sc_Schema_tables (fun vs H Q E h => ?_) (fun cdv A outer s H vs Q E hr h => ?_)
  · obtain ⟨p, ts, ks, ss, m, n, rfl, _⟩ := h
    rfl
  · obtain ⟨p, ts, ks, ss, m, n, rfl, ⟨dx, d1, d2, d3, o⟩, q⟩ := h
    obtain ⟨kd, e, pk⟩ := o.tb
    exact ⟨_, (pss_one (ps_ret (pe_callTy (T := "dict")  call_dictD (by rfl) T.z_dict (by decide +kernel) (pa_cons (pe_fld (pv 0) rfl) pa_nil)))), _, rfl, p, _, dx, _, _, rfl, o.ob, T.cl_25, T.no_25__tables, flds_t _ _ _, d1, kd, rfl, .inl e, fun D hD => q D _ hD ⟨kd, upd_same, pk⟩ (same_upd hD)⟩
theorem ok_p_keys (T : Txt K mg a d) : FnOk P w K mg base CX0 1 (a 3502) (d 3502) ["self"] (spProp (a 25) fun _ ks _ => keyK ks) := by
  refine T.F3502.ok sc_Schema_key_columns (fun vs H Q E h => ?_) (fun cdv A outer s H vs Q E hr h => ?_)
  · obtain ⟨p, ts, ks, ss, m, n, rfl, _⟩ := h
    rfl
  · obtain ⟨p, ts, ks, ss, m, n, rfl, ⟨dx, d1, d2, d3, o⟩, q⟩ := h
    obtain ⟨kd, e, pk⟩ := o.ky
    exact ⟨_, (pss_one (ps_ret (pe_callTy (T := "dict")  call_dictD (by rfl) T.z_dict (by decide +kernel) (pa_cons (pe_fld (pv 0) rfl) pa_nil)))), _, rfl, p, _, dx, _, _, rfl, o.ob, T.cl_25, T.no_25__keys, flds_k _ _ _, d2, kd, rfl, .inl e, fun D hD => q D _ hD ⟨kd, upd_same, pk⟩ (same_upd hD)⟩
theorem ok_p_services (T : Txt K mg a d) : FnOk P w K mg base CX0 1 (a 3503) (d 3503) ["self"] (spProp (a 25) fun _ _ ss => svK ss) := by
  refine T.F3503.ok sc_Schema_services (fun vs H Q E h => ?_) (fun cdv A outer s H vs Q E hr h => ?_)
  · obtain ⟨p, ts, ks, ss, m, n, rfl, _⟩ := h
    rfl
  · obtain ⟨p, ts, ks, ss, m, n, rfl, ⟨dx, d1, d2, d3, o⟩, q⟩ := h
    obtain ⟨kd, e, pk⟩ := o.sv
    exact ⟨_, (pss_one (ps_ret (pe_callTy (T := "dict")  call_dictD (by rfl) T.z_dict (by decide +kernel) (pa_cons (pe_fld (pv 0) rfl) pa_nil)))), _, rfl, p, _, dx, _, _, rfl, o.ob, T.cl_25, T.no_25__services, flds_s _ _ _, d3, kd, rfl, .inl e, fun D hD => q D _ hD ⟨kd, upd_same, pk⟩ (same_upd hD)⟩
def spNms (C : Addr) (f : List (Str × Int) → List SvE → List Str) : Sp := fun vs H Q _ => ∃ (p : Addr) (ts : List (Str × Int)) (ks : List KeyE) (ss : List SvE) (m n : Nat), vs = [.ref p] ∧ SchAt C p H ts ks ss m n ∧ ∀ l ys H', H l = none → H' l = some (.lst (ys.map V.str)) → ys.Perm (f ts ss) → PyProof.Rows.sortedS ys = true → Same H H' → Q (.ref l) H'
theorem ok_table_names (T : Txt K mg a d) : FnOk P w K mg base CX0 1 (a 3505) (d 3505) ["self"] (spNms (a 25) fun ts _ => ts.map (·.1)) := by
  refine T.F3505.ok sc_Schema_table_names (fun vs H Q E h => ?_) (fun cdv A outer s H vs Q E hr h => ?_)
  · obtain ⟨p, ts, ks, ss, m, n, rfl, _⟩ := h
    rfl
  · obtain ⟨p, ts, ks, ss, m, n, rfl, ⟨dx, d1, d2, d3, o⟩, q⟩ := h
    obtain ⟨kd, zs, e, kl, ek, z64, zp, _⟩ := DctAt.names (f := (·.1)) o.tb (fun _ => rfl) (by have := o.hT.len; have := o.m5; omega)
    exact ⟨_, (pss_one (ps_ret (pe_callB (id := "sorted")  (call_sortedD rfl) (by rfl) T.z_sorted (by decide +kernel) (pa_cons (pe_fld (pv 0) rfl) pa_nil)))), _, rfl, p, _, dx, _, _, rfl, o.ob, T.cl_25, T.no_25__tables, flds_t _ _ _, d1, kd, zs, rfl, .inl e, ek, z64, fun ys l yp so hl => q l ys _ hl upd_same (yp.trans zp) so (same_upd hl)⟩
theorem ok_service_names (T : Txt K mg a d) : FnOk P w K mg base CX0 1 (a 3506) (d 3506) ["self"] (spNms (a 25) fun _ ss => ss.map (·.name)) := by
  refine T.F3506.ok sc_Schema_service_names (fun vs H Q E h => ?_) (fun cdv A outer s H vs Q E hr h => ?_)
  · obtain ⟨p, ts, ks, ss, m, n, rfl, _⟩ := h
    rfl
  · obtain ⟨p, ts, ks, ss, m, n, rfl, ⟨dx, d1, d2, d3, o⟩, q⟩ := h
    have ls : ss.length = n := by rw [← o.hS.nm.len, List.length_map]
    obtain ⟨kd, zs, e, kl, ek, z64, zp, _⟩ := DctAt.names (f := (·.name)) o.sv (fun _ => rfl) (by have := o.n8; omega)
    exact ⟨_, (pss_one (ps_ret (pe_callB (id := "sorted")  (call_sortedD rfl) (by rfl) T.z_sorted (by decide +kernel) (pa_cons (pe_fld (pv 0) rfl) pa_nil)))), _, rfl, p, _, dx, _, _, rfl, o.ob, T.cl_25, T.no_25__services, flds_s _ _ _, d3, kd, zs, rfl, .inl e, ek, z64, fun ys l yp so hl => q l ys _ hl upd_same (yp.trans zp) so (same_upd hl)⟩
end
section
variable {P : Program} {w : World} {K : PySem.W.Frag} {mg : Str → Option Value} {base : Heap} {a : Nat → Addr} {d : Nat → FuncData}
/-! ### an unknown name -/
def spUInit (C : Addr) : Sp := fun vs H Q _ => ∃ (x : Addr) (v : V), vs = [.ref x, v] ∧ H x = some (exo x C none) ∧ ∀ dx, H dx = none → dx ≠ x → Q .non (upd (upd H dx (exd dx [(("name" : Str), v)])) x (exo x C (some dx)))
theorem ok_uinit (T : Txt K mg a d) : FnOk P w K mg base CX0 1 (a 1300) (d 1300) ["self", "name"] (spUInit (a 3)) := by
  refine T.F1300.ok sc_UnknownName___init__ (fun vs H Q E h => ?_) (fun cdv A outer s H vs Q E hr h => ?_)
  · obtain ⟨x, v, rfl, _⟩ := h
    rfl
  · obtain ⟨x, v, rfl, hx, q⟩ := h
    exact ⟨_, (pss_one (ps_ost (pv 0) (pv 1))), _, rfl, _, rfl, x, _, rfl, T.x_3, T.no_3_name, .inl ⟨hx, fun dx hdx ne => q dx hdx ne⟩⟩
/-- how an UnknownName(v) goes out: its dict dx, new -/
def Unk (C : Addr) (v : V) (H : Hp) (E : XK) : Prop := ∀ dx H', H dx = none → H' dx = some (.xd [(("name" : Str), v)]) → Same H H' → E (.ref C) (some dx) H'
theorem unk_raise {C : Addr} {v : V} {H : Hp} {E : XK} (k : Unk C v H E) : ([v] : List V).length ≤ 1000 ∧ ∀ x, H x = none → spUInit C (.ref x :: ([v] ++ [])) (upd H x (exo x C none))
    (fun u H2 => u = .non ∧ ∃ (dd : Addr) (fs : List (Str × V)), H2 x = some (exo x C (some dd)) ∧ H2 dd = some (exd dd fs) ∧ H dd = none ∧ E (.ref C) (some dd) (upd (del H2 x) dd (.xd fs))) (fun _ _ _ => False) := by
  refine ⟨by show 1 ≤ 1000; decide, fun x hx => ⟨x, v, rfl, upd_same, fun dx hdx ne => ⟨rfl, dx, _, upd_same, by rw [upd_ne ne]; exact upd_same, ?_, ?_⟩⟩⟩
  · rw [upd_ne ne] at hdx
    exact hdx
  · rw [upd_ne ne] at hdx
    refine k dx _ hdx upd_same fun b o e => ?_
    have nb : b ≠ x := ne_of_none e hx
    have nd : b ≠ dx := ne_of_none e hdx
    rw [upd_ne nd, del_ne nb, upd_ne nb, upd_ne nd, upd_ne nb]
    exact e
/-- what is asked of a name: told, or unknown -/
def spAsk (C CU : Addr) (f g : List (Str × Int) → List KeyE → List SvE → Str → Option V) : Sp := fun vs H Q E => ∃ (p : Addr) (n : Str) (ts : List (Str × Int)) (ks : List KeyE) (ss : List SvE) (mt ms : Nat), vs = [.ref p, .str n] ∧ SchAt C p H ts ks ss mt ms ∧
  (∀ v, f ts ks ss n = some v → ∃ u, g ts ks ss n = some u ∧ Q u H) ∧ (f ts ks ss n = none → Unk CU (.str n) H E)
theorem ok_width_of (T : Txt K mg a d) : FnOk P w K mg base (L2.CX P w) 4 (a 3508) (d 3508) ["self", "table"] (spAsk (a 25) (a 3) (fun ts _ _ n => valV (tabK ts) (Sum.inr n)) (fun ts _ _ n => valV (tabK ts) (Sum.inr n))) := by
  have G15 : FnOk P w K mg base CX0 1 (a 15) (d 15) ["thing", "names"] spNameIn := ok_name_in T
  have G1300 : FnOk P w K mg base CX0 1 (a 1300) (d 1300) ["self", "name"] (spUInit (a 3)) := ok_uinit T
  refine T.F3508.okX sc_Schema_width_of (fun vs H Q E h => ?_) (fun cdv A outer s H vs Q E hr h => ?_)
  · obtain ⟨p, n, ts, ks, ss, mt, ms, rfl, _⟩ := h
    rfl
  · obtain ⟨p, n, ts, ks, ss, mt, ms, rfl, ⟨dx, d1, d2, d3, o⟩, q1, q2⟩ := h
    refine ⟨_, (pss_cons (ps_if (pt_not (pt_val (pe_call G15 (hr.mono (by decide)) (by rfl) T.g15 T.F15.kp T.b15 .nil pass0 (pa_cons (pv 1) (pa_cons (pe_fld (pv 0) rfl) pa_nil)))))
    (pss_one (ps_raise rfl (takes_of rfl rfl rfl rfl) (pmk_oex T.x_3 T.in_3 T.ti_3 G1300 (hr.mono (by decide)) T.b1300 .nil pass0 (by rfl) T.cg_3 (pa_cons (pv 1) pa_nil))))
    pss_nil)
  (pss_one (ps_ret (pe_dget (hu_of hr) (pe_fld (pv 0) rfl) (pv 1) (fun _ _ => rfl))))), ?_⟩
    refine ⟨_, rfl, _, rfl, p, _, dx, _, _, rfl, o.ob, T.cl_25, T.no_25__tables, flds_t _ _ _, n, d1, tabK ts, rfl, o.tb, tab_nd o.hT, ?_⟩
    cases e : valV (tabK ts) (Sum.inr n) with
    | none => exact ⟨_, rfl, _, rfl, unk_raise (q2 e)⟩
    | some v =>
      obtain ⟨u, hu, q⟩ := q1 v e
      exact ⟨_, rfl, _, rfl, p, _, dx, _, _, rfl, o.ob, T.cl_25, T.no_25__tables, flds_t _ _ _, _, rfl, d1, u, rfl, o.tb.at_ (tab_nd o.hT) hu, q⟩
theorem ok_key_of (T : Txt K mg a d) : FnOk P w K mg base (L2.CX P w) 4 (a 3509) (d 3509) ["self", "table"] (spAsk (a 25) (a 3) (fun ts _ _ n => valV (tabK ts) (Sum.inr n)) (fun _ ks _ n => some ((valV (keyK ks) (Sum.inr n)).getD .non))) := by
  have G15 : FnOk P w K mg base CX0 1 (a 15) (d 15) ["thing", "names"] spNameIn := ok_name_in T
  have G1300 : FnOk P w K mg base CX0 1 (a 1300) (d 1300) ["self", "name"] (spUInit (a 3)) := ok_uinit T
  refine T.F3509.okX sc_Schema_key_of (fun vs H Q E h => ?_) (fun cdv A outer s H vs Q E hr h => ?_)
  · obtain ⟨p, n, ts, ks, ss, mt, ms, rfl, _⟩ := h
    rfl
  · obtain ⟨p, n, ts, ks, ss, mt, ms, rfl, ⟨dx, d1, d2, d3, o⟩, q1, q2⟩ := h
    refine ⟨_, (pss_cons (ps_if (pt_not (pt_val (pe_call G15 (hr.mono (by decide)) (by rfl) T.g15 T.F15.kp T.b15 .nil pass0 (pa_cons (pv 1) (pa_cons (pe_fld (pv 0) rfl) pa_nil)))))
    (pss_one (ps_raise rfl (takes_of rfl rfl rfl rfl) (pmk_oex T.x_3 T.in_3 T.ti_3 G1300 (hr.mono (by decide)) T.b1300 .nil pass0 (by rfl) T.cg_3 (pa_cons (pv 1) pa_nil))))
    pss_nil)
  (pss_one (ps_ret (pe_dget1 (hu_of hr) (pe_fld (pv 0) rfl) (pv 1) ⟨rfl, rfl, rfl, rfl⟩)))), ?_⟩
    refine ⟨_, rfl, _, rfl, p, _, dx, _, _, rfl, o.ob, T.cl_25, T.no_25__tables, flds_t _ _ _, n, d1, tabK ts, rfl, o.tb, tab_nd o.hT, ?_⟩
    cases e : valV (tabK ts) (Sum.inr n) with
    | none => exact ⟨_, rfl, _, rfl, unk_raise (q2 e)⟩
    | some v =>
      obtain ⟨u, hu, q⟩ := q1 v e
      cases hu
      obtain ⟨kd, ek, pk⟩ := id o.ky
      exact ⟨_, rfl, _, rfl, p, _, dx, _, _, rfl, o.ob, T.cl_25, T.no_25__keys, flds_k _ _ _, d2, rfl, .inl ⟨kd, .inl ek⟩, _, rfl, _, o.ky.get (key_nd o.hT o.hK) (Sum.inr n), q⟩
theorem ok_service_of (T : Txt K mg a d) : FnOk P w K mg base (L2.CX P w) 4 (a 3510) (d 3510) ["self", "name"] (spAsk (a 25) (a 3) (fun _ _ ss n => valV (svK ss) (Sum.inr n)) (fun _ _ ss n => valV (svK ss) (Sum.inr n))) := by
  have G15 : FnOk P w K mg base CX0 1 (a 15) (d 15) ["thing", "names"] spNameIn := ok_name_in T
  have G1300 : FnOk P w K mg base CX0 1 (a 1300) (d 1300) ["self", "name"] (spUInit (a 3)) := ok_uinit T
  refine T.F3510.okX sc_Schema_service_of (fun vs H Q E h => ?_) (fun cdv A outer s H vs Q E hr h => ?_)
  · obtain ⟨p, n, ts, ks, ss, mt, ms, rfl, _⟩ := h
    rfl
  · obtain ⟨p, n, ts, ks, ss, mt, ms, rfl, ⟨dx, d1, d2, d3, o⟩, q1, q2⟩ := h
    refine ⟨_, (pss_cons (ps_if (pt_not (pt_val (pe_call G15 (hr.mono (by decide)) (by rfl) T.g15 T.F15.kp T.b15 .nil pass0 (pa_cons (pv 1) (pa_cons (pe_fld (pv 0) rfl) pa_nil)))))
    (pss_one (ps_raise rfl (takes_of rfl rfl rfl rfl) (pmk_oex T.x_3 T.in_3 T.ti_3 G1300 (hr.mono (by decide)) T.b1300 .nil pass0 (by rfl) T.cg_3 (pa_cons (pv 1) pa_nil))))
    pss_nil)
  (pss_one (ps_ret (pe_dget (hu_of hr) (pe_fld (pv 0) rfl) (pv 1) (fun _ _ => rfl))))), ?_⟩
    refine ⟨_, rfl, _, rfl, p, _, dx, _, _, rfl, o.ob, T.cl_25, T.no_25__services, flds_s _ _ _, n, d3, svK ss, rfl, o.sv, sv_nd o.hS, ?_⟩
    cases e : valV (svK ss) (Sum.inr n) with
    | none => exact ⟨_, rfl, _, rfl, unk_raise (q2 e)⟩
    | some v =>
      obtain ⟨u, hu, q⟩ := q1 v e
      exact ⟨_, rfl, _, rfl, p, _, dx, _, _, rfl, o.ob, T.cl_25, T.no_25__services, flds_s _ _ _, _, rfl, d3, u, rfl, o.sv.at_ (sv_nd o.hS) hu, q⟩
/-! ### is_whole, capped_names -/
def svAt (ss : List SvE) (n : Str) : Option SvE := ss.find? fun b => decide (b.name = n)
theorem svAt_val (n : Str) : ∀ ss : List SvE, valV (svK ss) (Sum.inr n) = (svAt ss n).map fun b => V.ref b.at_
  | [] => rfl
  | b :: ks => by
    have ih := svAt_val n ks
    unfold svAt svK at ih ⊢
    rw [List.map_cons]
    by_cases e : b.name = n
    · rw [valV_pos (by rw [e])]
      simp [e]
    · rw [valV_neg (fun z => e (Sum.inr.inj z)), ih]
      simp [e]
theorem svAt_mem {ss : List SvE} {n : Str} {b : SvE} (h : svAt ss n = some b) : b ∈ ss ∧ b.name = n := by
  unfold svAt at h
  exact ⟨List.mem_of_find?_eq_some h, by simpa using List.find?_some h⟩
def spAskW (C CU : Addr) : Sp := fun vs H Q E => ∃ (p : Addr) (n : Str) (ts : List (Str × Int)) (ks : List KeyE) (ss : List SvE) (mt ms : Nat), vs = [.ref p, .str n] ∧ SchAt C p H ts ks ss mt ms ∧
  (∀ b, svAt ss n = some b → ∀ H', Same H H' → Q (.bl (whE ts ks b)) H') ∧ (svAt ss n = none → Unk CU (.str n) H E)
theorem ok_is_whole_m (T : Txt K mg a d) : FnOk P w K mg base (L2.CX P w) 5 (a 3511) (d 3511) ["self", "name"] (spAskW (a 25) (a 3)) := by
  have G19 : FnOk P w K mg base CX0 1 (a 19) (d 19) ["service", "tables", "keys"] spIsWh := ok_is_wh T
  have G3510 : FnOk P w K mg base (L2.CX P w) 4 (a 3510) (d 3510) ["self", "name"] (spAsk (a 25) (a 3) (fun _ _ ss n => valV (svK ss) (Sum.inr n)) (fun _ _ ss n => valV (svK ss) (Sum.inr n))) := ok_service_of T
  refine T.F3511.okX sc_Schema_is_whole (fun vs H Q E h => ?_) (fun cdv A outer s H vs Q E hr h => ?_)
  · obtain ⟨p, n, ts, ks, ss, mt, ms, rfl, _⟩ := h
    rfl
  · obtain ⟨p, n, ts, ks, ss, mt, ms, rfl, ⟨dx, d1, d2, d3, o⟩, q1, q2⟩ := h
    refine ⟨_, (pss_one (ps_ret (pe_call G19 (hr.mono (by decide)) (by rfl) T.g19 T.F19.kp T.b19 .nil pass0 (pa_cons (pe_meth (pv 0) T.cl_25 T.m_3510 G3510 (hr.mono (by decide)) T.b3510 .nil (passes_call (takes_of rfl rfl rfl rfl) (fun _ _ _ _ h => h)) (pa_cons (pv 1) pa_nil)) (pa_cons (pe_fld (pv 0) rfl) (pa_cons (pe_fld (pv 0) rfl) pa_nil)))))), ?_⟩
    refine ⟨_, rfl, p, dx, _, rfl, o.ob, flds_no _ _ _ (by decide +kernel) (by decide +kernel) (by decide +kernel), _, rfl, p, n, ts, ks, ss, mt, ms, rfl, ⟨dx, d1, d2, d3, o⟩, fun v hv => ?_, fun e => ?_⟩
    · refine ⟨v, hv, ?_⟩
      have hv : valV (svK ss) (Sum.inr n) = some v := hv
      rw [svAt_val] at hv
      cases e : svAt ss n with
      | none =>
        rw [e] at hv
        cases hv
      | some b =>
        rw [e] at hv
        obtain rfl : V.ref b.at_ = v := Option.some.inj hv
        obtain ⟨bm, _⟩ := svAt_mem e
        obtain ⟨htold, ⟨w', hw', hcols, hcl⟩, hcap⟩ := o.hS.ok b bm
        refine ⟨_, rfl, p, _, dx, _, _, rfl, o.ob, T.cl_25, T.no_25__tables, flds_t _ _ _, _, rfl, p, _, dx, _, _, rfl, o.ob, T.cl_25, T.no_25__keys, flds_k _ _ _, b.at_, d1, d2, b.ga, b.tab, b.cols, b.cap, w', ts, ks, mt, rfl, htold, o.tb, o.ky, o.hT, o.hK, hw', by omega, fun H' s' => ?_⟩
        have q := q1 b e H' s'
        unfold whE at q
        rw [widthAt_mem o.hT.nm.nd hw'] at q
        exact q
    · have e : valV (svK ss) (Sum.inr n) = none := e
      rw [svAt_val] at e
      cases e2 : svAt ss n with
      | none => exact q2 e2
      | some b =>
        rw [e2] at e
        cases e
end
section
variable {P : Program} {w : World} {K : PySem.W.Frag} {mg : Str → Option Value} {base : Heap} {a : Nat → Addr} {d : Nat → FuncData}
/-! ### capped_names -/
def whN (ts : List (Str × Int)) (ks : List KeyE) (ss : List SvE) (n : Str) : Bool := match svAt ss n with
  | some b => whE ts ks b
  | none => false
theorem svAt_some {ss : List SvE} {n : Str} (h : n ∈ ss.map (·.name)) : ∃ b, svAt ss n = some b := by
  obtain ⟨b, hb, e⟩ := List.mem_map.mp h
  cases q : svAt ss n with
  | some b => exact ⟨b, rfl⟩
  | none =>
    unfold svAt at q
    have := List.find?_eq_none.mp q b hb
    simp [e] at this
def spCap (C : Addr) : Sp := fun vs H Q _ => ∃ (p : Addr) (ts : List (Str × Int)) (ks : List KeyE) (ss : List SvE) (m n : Nat), vs = [.ref p] ∧ SchAt C p H ts ks ss m n ∧ ∀ l ys H', H l = none → H' l = some (.lst ((ys.filter fun n => !whN ts ks ss n).map V.str)) → ys.Perm (ss.map (·.name)) → PyProof.Rows.sortedS ys = true → Same H H' → Q (.ref l) H'
theorem ok_capped_names (T : Txt K mg a d) : FnOk P w K mg base CX0 6 (a 3507) (d 3507) ["self"] (spCap (a 25)) := by
  have G3506 : FnOk P w K mg base CX0 1 (a 3506) (d 3506) ["self"] (spNms (a 25) fun _ ss => ss.map (·.name)) := ok_service_names T
  have G3511 : FnOk P w K mg base (L2.CX P w) 5 (a 3511) (d 3511) ["self", "name"] (spAskW (a 25) (a 3)) := ok_is_whole_m T
  refine T.F3507.ok sc_Schema_capped_names (fun vs H Q E h => ?_) (fun cdv A outer s H vs Q E hr h => ?_)
  · obtain ⟨p, ts, ks, ss, m, n, rfl, _⟩ := h
    rfl
  · obtain ⟨p, ts, ks, ss, m, n, rfl, ⟨dx, d1, d2, d3, o⟩, q⟩ := h
    refine ⟨_, (pss_one (ps_ret (pe_lc (own := [("name", 1)]) rfl sc_Schema_capped_names.nd (pi_list (pe_meth0 (pv 0) T.cl_25 T.m_3506 G3506 (hr.mono (by decide)) T.b3506 .nil pass0)) (blkOk_by (N := ["self", "name"]) (sc := defScope s_Schema_capped_names) (by decide +kernel)) (fun _ _ _ _ _ => pg_name (i := 1) sc_Schema_capped_names.nd rfl (.inl rfl)) (fun _ _ _ _ _ => (pts_one (pt_not (pt_val (pe_meth (pv 0) T.cl_25 T.m_3511 G3511 (hr.mono (by decide)) T.b3511 .nil (passN rfl) (pa_cons (pv 1) pa_nil)))))) (fun _ _ _ _ _ => (pv 1))))), ?_⟩
    refine ⟨_, rfl, p, dx, _, rfl, o.ob, flds_no _ _ _ (by decide +kernel) (by decide +kernel) (by decide +kernel), p, ts, ks, ss, m, n, rfl, ⟨dx, d1, d2, d3, o⟩, fun l ys H1 hl hly yp so s1 => ⟨l, rfl, ⟨_, .of hly⟩, fun D hD => ?_⟩⟩
    have hD0 : H D = none := s1.free hD
    have ylen : ys.length ≤ 8 := by
      rw [yp.length_eq, o.hS.nm.len]
      exact o.n8
    refine lc_list (K := K) (a := l) (xs := ys.map V.str) (fun i H' => H' D = some (.lst (((ys.take i).filter fun n => !whN ts ks ss n).map V.str)) ∧ Same H1 H') ⟨upd_same, same_upd hD⟩ (fun i H' _ hp => .of (hp.2 _ _ hly)) (fun i x H' hx hp => ?_) (fun H' hp => ?_)
    · obtain ⟨h1, h2⟩ := hp
      obtain ⟨nm, hn, rfl⟩ := map_at hx
      obtain ⟨b, hb⟩ := svAt_some (yp.mem_iff.mp (List.mem_of_getElem? hn))
      have sm := s1.trans h2
      have ow := o.same sm
      have hwn : whN ts ks ss nm = whE ts ks b := by
        unfold whN
        rw [hb]
      have tk : (ys.take (i + 1)).filter (fun n => !whN ts ks ss n) = (ys.take i).filter (fun n => !whN ts ks ss n) ++ ([nm].filter fun n => !whN ts ks ss n) := by
        rw [List.take_add_one, hn, List.filter_append]
        rfl
      refine ⟨rfl, _, rfl, p, dx, _, rfl, ow.ob, flds_no _ _ _ (by decide +kernel) (by decide +kernel) (by decide +kernel), _, rfl, p, nm, ts, ks, ss, m, n, rfl, ⟨dx, d1, d2, d3, ow⟩, fun b' hb' H2 s2 => ⟨_, rfl, ?_⟩, fun e => ?_⟩
      · rw [hb] at hb'
        cases hb'
        cases ew : whE ts ks b with
        | true =>
          refine ⟨?_, h2.trans s2⟩
          rw [tk, List.filter_cons_of_neg (by rw [hwn, ew]; decide), List.filter_nil, List.append_nil]
          exact s2 _ _ h1
        | false =>
          refine ⟨_, rfl, _, s2 _ _ h1, ?_, ?_, ?_⟩
          · rw [List.length_map]
            have l1 := List.length_filter_le (fun n => !whN ts ks ss n) (ys.take i)
            rw [List.length_take] at l1
            exact Nat.lt_of_le_of_lt (by omega : _ ≤ 8) (by decide)
          · rw [tk, List.map_append, List.filter_cons_of_pos (by rw [hwn, ew]; decide)]
            exact upd_same
          · intro x o ex
            rw [upd_ne (ne_of_none ex hD)]
            exact s2 _ _ (h2 x o ex)
      · rw [hb] at e
        cases e
    · obtain ⟨h1, h2⟩ := hp
      rw [List.length_map, List.take_length] at h1
      exact q D ys H' hD0 h1 yp so (s1.trans h2)
end
def Low (s : Str) : Prop := ∀ c ∈ s.cps.toList, c < 128
theorem low_ok {s : Str} (h : Low s) : PyData.strOk s = true := by
  unfold PyData.strOk
  rw [Array.all_eq_true']
  intro c hc
  have := h c (by simpa using hc)
  exact decide_eq_true (by omega)
theorem dp_strs {K : PySem.W.Frag} {H : Hp} : ∀ ns : List Str, DpAll K H (ns.map V.str) (ns.map PyData.str)
  | [] => .nil
  | n :: ns => .cons (.str n) (dp_strs ns)
theorem lay_strs : ∀ ns : List Str, (∀ s ∈ ns, Low s) → PyData.canLayAll0 (ns.map PyData.str) = true ∧ PyData.depthAll (ns.map PyData.str) = 0
  | [], _ => by simp [PyData.canLayAll0, PyData.depthAll]
  | n :: ns, h => by
    obtain ⟨h1, h2⟩ := lay_strs ns fun x hx => h x (List.mem_cons_of_mem _ hx)
    simp only [List.map_cons, PyData.canLayAll0, PyData.depthAll, PyData.canLay0, PyData.depth, low_ok (h n List.mem_cons_self), h1, h2, Bool.and_self, true_and]
    rfl
theorem strs_data {K : PySem.W.Frag} {H : Hp} {ns : List Str} (h : ∀ s ∈ ns, Low s) : ∃ dd, (∀ r, H r = some (.lst (ns.map V.str)) → Dp K H (.ref r) dd) ∧ SeqAt.shaped dd = true ∧ PyData.eqv dd dd = true := by
  obtain ⟨h1, h2⟩ := lay_strs ns h
  have hc : (PyData.list (ns.map PyData.str)).canLay0 = true := by simp only [PyData.canLay0, h1]
  refine ⟨.list (ns.map PyData.str), fun r hr => .lst (.of hr) (dp_strs ns), ?_, PySem.SeqAt.eqv_refl _ hc⟩
  unfold SeqAt.shaped
  rw [hc, Bool.true_and]
  exact decide_eq_true (by simp only [PyData.depth, h2]; omega)
theorem wd_low {s : Str} (h : Wd s) : Low s := fun c hc => by
  have := (h.2.2 c hc).2
  omega
theorem str_shaped {x : Str} (h : Low x) : SeqAt.shaped (.str x) = true := by
  unfold SeqAt.shaped
  simp only [PyData.canLay0, PyData.depth, low_ok h]
  rfl
theorem strs_shapedL {ns : List Str} (h : ∀ s ∈ ns, Low s) : SeqAt.shaped (.list (ns.map PyData.str)) = true := by
  obtain ⟨h1, h2⟩ := lay_strs ns h
  unfold SeqAt.shaped
  simp only [PyData.canLay0, PyData.depth, h1, h2]
  decide
section
variable {P : Program} {w : World} {K : PySem.W.Frag} {mg : Str → Option Value} {base : Heap} {a : Nat → Addr} {d : Nat → FuncData}
/-! ### what is asked of a name -/
def dueV (ts : List (Str × Int)) (ks : List KeyE) (ss : List SvE) (n : Str) (i : Int) : List V :=
  if i < 2 then match valV (tabK ts) (Sum.inr n) with
    | none => [.str "unknown", .str n, .bl true]
    | some u => if i = 0 then [.str "told", u] else [.str "told", (valV (keyK ks) (Sum.inr n)).getD .non]
  else match svAt ss n with
    | none => [.str "unknown", .str n, .bl true]
    | some b => if i = 2 then [.str "told", .ref b.at_] else [.str "told", .bl (whE ts ks b)]
def spAsked (C : Addr) : Sp := fun vs H Q _ => ∃ (p : Addr) (n : Str) (i : Int) (ts : List (Str × Int)) (ks : List KeyE) (ss : List SvE) (mt ms : Nat), vs = [.ref p, .str n, .int i] ∧ 0 ≤ i ∧ i < 4 ∧ SchAt C p H ts ks ss mt ms ∧
  ∀ r H', H' r = some (.tup (dueV ts ks ss n i)) → Same H H' → Q (.ref r) H'
theorem ok_asked (T : Txt K mg a d) : FnOk P w K mg base CX0 6 (a 37) (d 37) ["_law_schema", "_law_name", "_law_which"] (spAsked (a 25)) := by
  have G3508 : FnOk P w K mg base (L2.CX P w) 4 (a 3508) (d 3508) ["self", "table"] (spAsk (a 25) (a 3) (fun ts _ _ n => valV (tabK ts) (Sum.inr n)) (fun ts _ _ n => valV (tabK ts) (Sum.inr n))) := ok_width_of T
  have G3509 : FnOk P w K mg base (L2.CX P w) 4 (a 3509) (d 3509) ["self", "table"] (spAsk (a 25) (a 3) (fun ts _ _ n => valV (tabK ts) (Sum.inr n)) (fun _ ks _ n => some ((valV (keyK ks) (Sum.inr n)).getD .non))) := ok_key_of T
  have G3510 : FnOk P w K mg base (L2.CX P w) 4 (a 3510) (d 3510) ["self", "name"] (spAsk (a 25) (a 3) (fun _ _ ss n => valV (svK ss) (Sum.inr n)) (fun _ _ ss n => valV (svK ss) (Sum.inr n))) := ok_service_of T
  have G3511 : FnOk P w K mg base (L2.CX P w) 5 (a 3511) (d 3511) ["self", "name"] (spAskW (a 25) (a 3)) := ok_is_whole_m T
  refine T.F37.ok sc__law_asked (fun vs H Q E h => ?_) (fun cdv A outer s H vs Q E hr h => ?_)
  · obtain ⟨p, n, i, ts, ks, ss, mt, ms, rfl, _⟩ := h
    rfl
  · obtain ⟨p, n, i, ts, ks, ss, mt, ms, rfl, i0, i4, ⟨dx, d1, d2, d3, o⟩, q⟩ := h
    refine ⟨_, (pss_one (ps_try_as (i := 3) (Wout := fun _ _ _ _ => False) rfl rfl sc__law_asked.nd rfl rfl ⟨rfl, by decide, Or.inl T.cg_3⟩ takes0
    (fun W pn xe tk po => (pss_cons (ps_if (pt_cmpR op_eq (pv 2) pe_int (nomark _))
        (pss_one (ps_ret (pe_tup (pa_cons pe_str (pa_cons (pe_methX (pv 0) T.cl_25 T.m_3508 G3508 (hr.mono (by decide)) T.b3508 (fun σ => passAt tk σ) (pa_cons (pv 1) pa_nil)) pa_nil)))))
        pss_nil)
      (pss_cons (ps_if (pt_cmpR op_eq (pv 2) pe_int (nomark _))
        (pss_one (ps_ret (pe_tup (pa_cons pe_str (pa_cons (pe_methX (pv 0) T.cl_25 T.m_3509 G3509 (hr.mono (by decide)) T.b3509 (fun σ => passAt tk σ) (pa_cons (pv 1) pa_nil)) pa_nil)))))
        pss_nil)
      (pss_cons (ps_if (pt_cmpR op_eq (pv 2) pe_int (nomark _))
        (pss_one (ps_ret (pe_tup (pa_cons pe_str (pa_cons (pe_methX (pv 0) T.cl_25 T.m_3510 G3510 (hr.mono (by decide)) T.b3510 (fun σ => passAt tk σ) (pa_cons (pv 1) pa_nil)) pa_nil)))))
        pss_nil)
      (pss_one (ps_ret (pe_tup (pa_cons pe_str (pa_cons (pe_methX (pv 0) T.cl_25 T.m_3511 G3511 (hr.mono (by decide)) T.b3511 (fun σ => passAt tk σ) (pa_cons (pv 1) pa_nil)) pa_nil)))))))))
    (fun ea oe cls ed pn hz hf => (pss_one (ps_ret (pe_tup (pa_cons pe_str (pa_cons (pe_xf T.xf_3 T.no_3_name hz hf (pv 3)) (pa_cons (pe_callB (id := "isinstance")  (call_isX T.xi_3 hz hf) (by rfl) T.z_isinstance (by decide +kernel) (pa_cons (pv 3) (pa_cons (pe_glob (v := .ref (a 2)) (by rfl) T.cg_2 rfl) pa_nil))) pa_nil))))))))), ?_⟩
    have unk : ∀ {X : List V}, dueV ts ks ss n i = [.str "unknown", .str n, .bl true] → ∀ (dd : Addr) (H' : Hp), H' dd = some (.xd [(("name" : Str), .str n)]) → Same H H' → ∀ r, H' r = none → Q (.ref r) (upd H' r (.tup [.str "unknown", .str n, .bl true])) := fun e dd H' hd s' r hr => q r _ (by rw [e]; exact upd_same) (s'.trans (same_upd hr))
    refine ⟨_, rfl, rfl, _, rfl, ite_eqI (fun h0 => ?_) (fun h0 => ?_)⟩
    · refine ⟨_, rfl, p, dx, _, rfl, o.ob, flds_no _ _ _ (by decide +kernel) (by decide +kernel) (by decide +kernel), _, rfl, p, n, ts, ks, ss, mt, ms, rfl, ⟨dx, d1, d2, d3, o⟩, fun v hv => ⟨v, hv, by show 2 ≤ sizeLine; decide, fun r hr => ?_⟩, fun e dd H' hdd hd s' => ⟨true, T.exm_3_3, fun _ ea hea => ?_, fun z => Bool.noConfusion z⟩⟩
      · refine q r _ ?_ (same_upd hr)
        have hv : valV (tabK ts) (Sum.inr n) = some v := hv
        unfold dueV
        rw [if_pos (by omega), hv]
        show _ = some (HO.tup (if i = 0 then _ else _))
        rw [if_pos h0]
        exact upd_same
      · have e : valV (tabK ts) (Sum.inr n) = none := e
        refine ⟨_, rfl, rfl, rfl, dd, _, _, rfl, hd, rfl, _, rfl, dd, _, _, _, true, rfl, rfl, hd, rfl, fun u hu => hu, T.kit_3_2, by show 3 ≤ sizeLine; decide, fun r hr => unk (X := []) ?_ dd H' hd s' r hr⟩
        unfold dueV
        rw [if_pos (by omega), e]
    refine ⟨_, rfl, rfl, _, rfl, ite_eqI (fun h1 => ?_) (fun h1 => ?_)⟩
    · refine ⟨_, rfl, p, dx, _, rfl, o.ob, flds_no _ _ _ (by decide +kernel) (by decide +kernel) (by decide +kernel), _, rfl, p, n, ts, ks, ss, mt, ms, rfl, ⟨dx, d1, d2, d3, o⟩, fun v hv => ⟨_, rfl, by show 2 ≤ sizeLine; decide, fun r hr => ?_⟩, fun e dd H' hdd hd s' => ⟨true, T.exm_3_3, fun _ ea hea => ?_, fun z => Bool.noConfusion z⟩⟩
      · refine q r _ ?_ (same_upd hr)
        have hv : valV (tabK ts) (Sum.inr n) = some v := hv
        unfold dueV
        rw [if_pos (by omega), hv]
        show _ = some (HO.tup (if i = 0 then _ else _))
        rw [if_neg h0]
        exact upd_same
      · have e : valV (tabK ts) (Sum.inr n) = none := e
        refine ⟨_, rfl, rfl, rfl, dd, _, _, rfl, hd, rfl, _, rfl, dd, _, _, _, true, rfl, rfl, hd, rfl, fun u hu => hu, T.kit_3_2, by show 3 ≤ sizeLine; decide, fun r hr => unk (X := []) ?_ dd H' hd s' r hr⟩
        unfold dueV
        rw [if_pos (by omega), e]
    refine ⟨_, rfl, rfl, _, rfl, ite_eqI (fun h2 => ?_) (fun h2 => ?_)⟩
    · refine ⟨_, rfl, p, dx, _, rfl, o.ob, flds_no _ _ _ (by decide +kernel) (by decide +kernel) (by decide +kernel), _, rfl, p, n, ts, ks, ss, mt, ms, rfl, ⟨dx, d1, d2, d3, o⟩, fun v hv => ⟨v, hv, by show 2 ≤ sizeLine; decide, fun r hr => ?_⟩, fun e dd H' hdd hd s' => ⟨true, T.exm_3_3, fun _ ea hea => ?_, fun z => Bool.noConfusion z⟩⟩
      · refine q r _ ?_ (same_upd hr)
        have hv : valV (svK ss) (Sum.inr n) = some v := hv
        rw [svAt_val] at hv
        unfold dueV
        rw [if_neg (by omega)]
        cases e : svAt ss n with
        | none =>
          rw [e] at hv
          cases hv
        | some b =>
          rw [e] at hv
          cases hv
          show _ = some (HO.tup (if i = 2 then _ else _))
          rw [if_pos h2]
          exact upd_same
      · have e : valV (svK ss) (Sum.inr n) = none := e
        rw [svAt_val] at e
        refine ⟨_, rfl, rfl, rfl, dd, _, _, rfl, hd, rfl, _, rfl, dd, _, _, _, true, rfl, rfl, hd, rfl, fun u hu => hu, T.kit_3_2, by show 3 ≤ sizeLine; decide, fun r hr => unk (X := []) ?_ dd H' hd s' r hr⟩
        unfold dueV
        rw [if_neg (by omega)]
        cases e2 : svAt ss n with
        | none => rfl
        | some b =>
          rw [e2] at e
          cases e
    · refine ⟨_, rfl, p, dx, _, rfl, o.ob, flds_no _ _ _ (by decide +kernel) (by decide +kernel) (by decide +kernel), _, rfl, p, n, ts, ks, ss, mt, ms, rfl, ⟨dx, d1, d2, d3, o⟩, fun b hb H1 s1 => ⟨by show 2 ≤ sizeLine; decide, fun r hr => ?_⟩, fun e dd H' hdd hd s' => ⟨true, T.exm_3_3, fun _ ea hea => ?_, fun z => Bool.noConfusion z⟩⟩
      · refine q r _ ?_ (s1.trans (same_upd hr))
        unfold dueV
        rw [if_neg (by omega), hb]
        show _ = some (HO.tup (if i = 2 then _ else _))
        rw [if_neg h2]
        exact upd_same
      · refine ⟨_, rfl, rfl, rfl, dd, _, _, rfl, hd, rfl, _, rfl, dd, _, _, _, true, rfl, rfl, hd, rfl, fun u hu => hu, T.kit_3_2, by show 3 ≤ sizeLine; decide, fun r hr => unk (X := []) ?_ dd H' hd s' r hr⟩
        unfold dueV
        rw [if_neg (by omega), e]
def spDue : Sp := fun vs H Q _ => ∃ (t k v : Addr) (n : Str) (i : Int) (ts : List (Str × Int)) (ks : List KeyE) (ss : List SvE) (mt ms : Nat), vs = [.ref t, .ref k, .ref v, .str n, .int i] ∧ 0 ≤ i ∧ i < 4 ∧ H t = some (.dK (tabK ts)) ∧ H k = some (.dK (keyK ks)) ∧ H v = some (.dK (svK ss)) ∧ Tabs ts mt 4 ∧ Keys H ts ks ∧ Svcs H ts ks ss ms ∧
  ∀ r H', H' r = some (.tup (dueV ts ks ss n i)) → Same H H' → Q (.ref r) H'
theorem ok_due (T : Txt K mg a d) : FnOk P w K mg base CX0 4 (a 38) (d 38) ["_law_tables_here", "_law_keys_here", "_law_services_here", "_law_name", "_law_which"] spDue := by
  have G35 : FnOk P w K mg base CX0 3 (a 35) (d 35) ["_law_tables_here", "_law_keys_here", "_law_told"] spWhole := ok_is_whole T
  refine T.F38.ok sc__law_due (fun vs H Q E h => ?_) (fun cdv A outer s H vs Q E hr h => ?_)
  · obtain ⟨t, k, v, n, i, ts, ks, ss, mt, ms, rfl, _⟩ := h
    rfl
  · obtain ⟨t, k, v, n, i, ts, ks, ss, mt, ms, rfl, i0, i4, ht, hk, hv, hT, hK, hS, q⟩ := h
    refine ⟨_, (pss_cons (ps_if (pt_cmpR op_lt (pv 4) pe_int (nomark _))
    (pss_cons (ps_if (pt_cmp (pc_dnotin (hu_of hr) (pv 3) (pv 0)))
        (pss_one (ps_ret (pe_tup (pa_cons pe_str (pa_cons (pv 3) (pa_cons pe_bl pa_nil))))))
        pss_nil)
      (pss_cons (ps_if (pt_cmpR op_eq (pv 4) pe_int (nomark _))
        (pss_one (ps_ret (pe_tup (pa_cons pe_str (pa_cons (pe_dget (hu_of hr) (pv 0) (pv 3) (fun _ _ => rfl)) pa_nil)))))
        pss_nil)
      (pss_one (ps_ret (pe_tup (pa_cons pe_str (pa_cons (pe_dget1 (hu_of hr) (pv 1) (pv 3) ⟨rfl, rfl, rfl, rfl⟩) pa_nil)))))))
    pss_nil)
  (pss_cons (ps_if (pt_cmp (pc_dnotin (hu_of hr) (pv 3) (pv 2)))
    (pss_one (ps_ret (pe_tup (pa_cons pe_str (pa_cons (pv 3) (pa_cons pe_bl pa_nil))))))
    pss_nil)
  (pss_cons (ps_if (pt_cmpR op_eq (pv 4) pe_int (nomark _))
    (pss_one (ps_ret (pe_tup (pa_cons pe_str (pa_cons (pe_dget (hu_of hr) (pv 2) (pv 3) (fun _ _ => rfl)) pa_nil)))))
    pss_nil)
  (pss_one (ps_ret (pe_tup (pa_cons pe_str (pa_cons (pe_call G35 (hr.mono (by decide)) (by rfl) T.g35 T.F35.kp T.b35 .nil pass0 (pa_cons (pv 0) (pa_cons (pv 1) (pa_cons (pe_dget (hu_of hr) (pv 2) (pv 3) (fun _ _ => rfl)) pa_nil)))) pa_nil)))))))), ?_⟩
    have fin : ∀ xs, dueV ts ks ss n i = xs → ∀ H', Same H H' → ∀ r, H' r = none → Q (.ref r) (upd H' r (.tup xs)) := fun xs e H' s' r hr => q r _ (by rw [e]; exact upd_same) (s'.trans (same_upd hr))
    refine ⟨_, rfl, _, _, rfl, rfl, _, rfl, ite_d (fun h2 => ?_) (fun h2 => ?_)⟩
    · refine ⟨_, rfl, _, rfl, t, _, rfl, DGet.k (k := Sum.inr n) ht, _, rfl, ?_⟩
      cases e : valV (tabK ts) (Sum.inr n) with
      | none => exact ⟨_, rfl, by show 3 ≤ sizeLine; decide, fun r hr => fin _ (by unfold dueV; rw [if_pos h2, e]) H (Same.refl H) r hr⟩
      | some u =>
        have g := DGet.k (k := Sum.inr n) ht
        rw [e] at g
        refine ⟨_, rfl, rfl, _, rfl, ite_eqI (fun h0 => ?_) (fun h0 => ?_)⟩
        · exact ⟨_, rfl, _, rfl, t, u, rfl, g, by show 2 ≤ sizeLine; decide, fun r hr => fin _ (by unfold dueV; rw [if_pos h2, e]; exact if_pos h0) H (Same.refl H) r hr⟩
        · exact ⟨_, rfl, k, rfl, .inl ⟨_, .inl hk⟩, _, rfl, _, DGet.k (k := Sum.inr n) hk, by show 2 ≤ sizeLine; decide, fun r hr => fin _ (by unfold dueV; rw [if_pos h2, e]; exact if_neg h0) H (Same.refl H) r hr⟩
    · refine ⟨_, rfl, _, rfl, v, _, rfl, DGet.k (k := Sum.inr n) hv, _, rfl, ?_⟩
      rw [svAt_val]
      cases e : svAt ss n with
      | none => exact ⟨_, rfl, by show 3 ≤ sizeLine; decide, fun r hr => fin _ (by unfold dueV; rw [if_neg h2, e]) H (Same.refl H) r hr⟩
      | some b =>
        have g := DGet.k (k := Sum.inr n) hv
        rw [svAt_val, e] at g
        obtain ⟨bm, _⟩ := svAt_mem e
        obtain ⟨htold, ⟨w', hw', hcols, hcl⟩, hcap⟩ := hS.ok b bm
        refine ⟨_, rfl, rfl, _, rfl, ite_eqI (fun h0 => ?_) (fun h0 => ?_)⟩
        · refine ⟨_, rfl, _, rfl, v, _, rfl, g, by show 2 ≤ sizeLine; decide, fun r hr => fin _ ?_ H (Same.refl H) r hr⟩
          unfold dueV
          rw [if_neg h2, e]
          exact if_pos h0
        · refine ⟨_, rfl, _, rfl, _, rfl, _, rfl, v, _, rfl, g, t, k, b.at_, b.ga, mt, ts, ks, b.tab, w', b.cols, b.cap, rfl, .of ht, .of hk, hT.up (by decide), hK, htold, hw', by omega, fun H1 s1 => ⟨by show 2 ≤ sizeLine; decide, fun r hr => fin _ ?_ H1 s1 r hr⟩⟩
          unfold dueV
          rw [if_neg h2, e]
          refine (if_neg h0).trans ?_
          unfold whE
          rw [widthAt_mem hT.nm.nd hw']
end
/-! ### data -/
def DV (K : PySem.W.Frag) (H : Hp) (v : V) : Prop := ∃ dd, Dp K H v dd ∧ dd.canLay0 = true ∧ dd.depth ≤ 2
theorem dv_str {K : PySem.W.Frag} {H : Hp} {s : Str} (h : Low s) : DV K H (.str s) := ⟨.str s, .str s, by simp only [PyData.canLay0]; exact low_ok h, by simp [PyData.depth]⟩
theorem dv_int {K : PySem.W.Frag} {H : Hp} (i : Int) : DV K H (.int i) := ⟨.int i, .int i, rfl, by simp [PyData.depth]⟩
theorem dv_bl {K : PySem.W.Frag} {H : Hp} (b : Bool) : DV K H (.bl b) := ⟨.bool b, .bl b, rfl, by simp [PyData.depth]⟩
theorem dv_non {K : PySem.W.Frag} {H : Hp} : DV K H .non := ⟨.none, .non, rfl, by simp [PyData.depth]⟩
theorem dv_cols {K : PySem.W.Frag} {H : Hp} {c : Addr} {cs : List Int} (h : H c = some (.tup (cs.map V.int))) : DV K H (.ref c) := by
  obtain ⟨h1, h2⟩ := lay_ints cs
  exact ⟨.tuple (cs.map PyData.int), .tup (.of h) (dp_ints cs), by simp only [PyData.canLay0, h1], by simp only [PyData.depth, h2]; omega⟩
theorem dv_told {K : PySem.W.Frag} {H : Hp} {v : Addr} {n : Str} {ga : Addr} {cs : List Int} {cap : Option Int} (h : Told H v n ga cs cap) (hn : Low n) : DV K H (.ref v) := by
  obtain ⟨h1, h2⟩ := lay_ints cs
  obtain ⟨cd, c1, c2, c3⟩ : ∃ cd, Dp K H (capV cap) cd ∧ cd.canLay0 = true ∧ cd.depth = 0 := by
    cases cap with
    | none => exact ⟨.none, .non, rfl, by simp [PyData.depth]⟩
    | some z => exact ⟨.int z, .int z, rfl, by simp [PyData.depth]⟩
  refine ⟨.tuple [.str n, .tuple (cs.map PyData.int), cd], .tup (.of h.tup) (.cons (.str n) (.cons (.tup (.of h.cols) (dp_ints cs)) (.cons c1 .nil))), ?_, ?_⟩
  · simp only [PyData.canLay0, PyData.canLayAll0, h1, c2, low_ok hn, Bool.and_self]
  · simp only [PyData.depth, PyData.depthAll, h2, c3]
    omega
theorem dvs {K : PySem.W.Frag} {H : Hp} : ∀ xs : List V, (∀ v ∈ xs, DV K H v) → ∃ ds, DpAll K H xs ds ∧ PyData.canLayAll0 ds = true ∧ PyData.depthAll ds ≤ 2
  | [], _ => ⟨[], .nil, by simp [PyData.canLayAll0], by simp [PyData.depthAll]⟩
  | v :: xs, h => by
    obtain ⟨dd, a1, a2, a3⟩ := h v List.mem_cons_self
    obtain ⟨ds, b1, b2, b3⟩ := dvs xs fun x hx => h x (List.mem_cons_of_mem _ hx)
    refine ⟨dd :: ds, .cons a1 b1, by simp only [PyData.canLayAll0, a2, b2, Bool.and_self], ?_⟩
    simp only [PyData.depthAll]
    omega
theorem tup_data {K : PySem.W.Frag} {H : Hp} {xs : List V} (h : ∀ v ∈ xs, DV K H v) : ∃ dd, (∀ r, H r = some (.tup xs) → Dp K H (.ref r) dd) ∧ SeqAt.shaped dd = true ∧ PyData.eqv dd dd = true := by
  obtain ⟨ds, b1, b2, b3⟩ := dvs xs h
  have hc : (PyData.tuple ds).canLay0 = true := by simp only [PyData.canLay0, b2]
  refine ⟨.tuple ds, fun r hr => .tup (.of hr) b1, ?_, PySem.SeqAt.eqv_refl _ hc⟩
  unfold SeqAt.shaped
  rw [hc, Bool.true_and]
  exact decide_eq_true (by simp only [PyData.depth]; omega)
theorem due_data {K : PySem.W.Frag} {H : Hp} {ts : List (Str × Int)} {ks : List KeyE} {ss : List SvE} {n : Str} {i : Int} {mt ms : Nat} (hT : Tabs ts mt 4) (hK : Keys H ts ks) (hS : Svcs H ts ks ss ms) (hn : Low n) : ∀ v ∈ dueV ts ks ss n i, DV K H v := by
  have ha : ∀ (l : List V), (∀ v ∈ l, DV K H v) → ∀ (x : V), DV K H x → ∀ v ∈ x :: l, DV K H v := fun l hl x hx v hv => by
    rcases List.mem_cons.mp hv with rfl | h
    · exact hx
    · exact hl v h
  have h0 : ∀ v ∈ ([] : List V), DV K H v := fun v hv => by cases hv
  have hunk : ∀ v ∈ ([.str "unknown", .str n, .bl true] : List V), DV K H v := ha _ (ha _ (ha _ h0 _ (dv_bl _)) _ (dv_str hn)) _ (dv_str (by unfold Low; decide +kernel))
  have htold : ∀ u, DV K H u → ∀ v ∈ ([.str "told", u] : List V), DV K H v := fun u hu => ha _ (ha _ h0 _ hu) _ (dv_str (by unfold Low; decide +kernel))
  unfold dueV
  by_cases h2 : i < 2
  · rw [if_pos h2]
    cases e : valV (tabK ts) (Sum.inr n) with
    | none => exact hunk
    | some u =>
      show ∀ v ∈ (if i = 0 then _ else _), _
      by_cases h3 : i = 0
      · rw [if_pos h3]
        obtain ⟨b, _, eb⟩ := List.mem_map.mp (valV_mem e)
        have eu : V.int b.2 = u := congrArg Prod.snd eb
        rw [← eu]
        exact htold _ (dv_int _)
      · rw [if_neg h3]
        refine htold _ ?_
        rw [keyAt_val]
        cases e4 : keyAt ks n with
        | none => exact dv_non
        | some b => exact dv_cols (hK.at_ b (keyAt_mem e4).1)
  · rw [if_neg h2]
    cases e : svAt ss n with
    | none => exact hunk
    | some b =>
      show ∀ v ∈ (if i = 2 then _ else _), _
      obtain ⟨ht, ⟨w', hw', _⟩, _⟩ := hS.ok b (svAt_mem e).1
      by_cases h3 : i = 2
      · rw [if_pos h3]
        exact htold _ (dv_told ht (wd_low (hT.nm.wd b.tab (List.mem_map.mpr ⟨_, hw', rfl⟩))))
      · rw [if_neg h3]
        exact htold _ (dv_bl _)
theorem same_dct {H : Hp} {D t : Addr} {kvs : List (Key × V)} (hD : DctAt H D kvs) (ht : H t = some (.dK kvs)) (nd : (kvs.map (·.1)).Nodup) (hs : ∀ p ∈ kvs, sameB p.2 = true) :
    ∃ ks, H D = some (.dK ks) ∧ ks.length = kvs.length ∧ ∀ p ∈ ks, valV kvs p.1 = some p.2 ∧ sameB p.2 = true := by
  obtain ⟨ks, e, p⟩ := hD
  exact ⟨ks, e, p.length_eq, fun q hq => ⟨val_nodup nd q (p.mem_iff.mp hq), hs q (p.mem_iff.mp hq)⟩⟩
theorem tab_same (ts : List (Str × Int)) : ∀ p ∈ tabK ts, sameB p.2 = true := fun p hp => by
  obtain ⟨b, _, rfl⟩ := List.mem_map.mp hp
  rfl
theorem key_same (ks : List KeyE) : ∀ p ∈ keyK ks, sameB p.2 = true := fun p hp => by
  obtain ⟨b, _, rfl⟩ := List.mem_map.mp hp
  rfl
theorem sv_same (ss : List SvE) : ∀ p ∈ svK ss, sameB p.2 = true := fun p hp => by
  obtain ⟨b, _, rfl⟩ := List.mem_map.mp hp
  rfl
theorem tab_strs (ts : List (Str × Int)) : (tabK ts).map (fun kv => kV kv.1) = (ts.map (·.1)).map V.str := by
  unfold tabK
  rw [List.map_map, List.map_map]
  rfl
theorem sv_strs (ss : List SvE) : (svK ss).map (fun kv => kV kv.1) = (ss.map (·.name)).map V.str := by
  unfold svK
  rw [List.map_map, List.map_map]
  rfl
section
variable {P : Program} {w : World} {K : PySem.W.Frag} {mg : Str → Option Value} {base : Heap} {a : Nat → Addr} {d : Nat → FuncData}
def spHolds (C : Addr) : Sp := fun vs H Q _ => ∃ (p t k v o : Addr) (ts : List (Str × Int)) (ks : List KeyE) (ss : List SvE) (mt ms : Nat) (others : List Str), vs = [.ref p, .ref t, .ref k, .ref v, .ref o] ∧ SchAt C p H ts ks ss mt ms ∧ H t = some (.dK (tabK ts)) ∧ H k = some (.dK (keyK ks)) ∧ H v = some (.dK (svK ss)) ∧
  H o = some (.lst (others.map V.str)) ∧ others.length ≤ 2 ∧ (∀ s ∈ others, Low s) ∧ ∀ H', Same H H' → Q (.bl true) H'
theorem ok_holds (T : Txt K mg a d) : FnOk P w K mg base CX0 7 (a 39) (d 39) ["_law_schema", "_law_tables_here", "_law_keys_here", "_law_services_here", "_law_others"] (spHolds (a 25)) := by
  have G3501 : FnOk P w K mg base CX0 1 (a 3501) (d 3501) ["self"] (spProp (a 25) fun ts _ _ => tabK ts) := ok_p_tables T
  have G3502 : FnOk P w K mg base CX0 1 (a 3502) (d 3502) ["self"] (spProp (a 25) fun _ ks _ => keyK ks) := ok_p_keys T
  have G3503 : FnOk P w K mg base CX0 1 (a 3503) (d 3503) ["self"] (spProp (a 25) fun _ _ ss => svK ss) := ok_p_services T
  have G3505 : FnOk P w K mg base CX0 1 (a 3505) (d 3505) ["self"] (spNms (a 25) fun ts _ => ts.map (·.1)) := ok_table_names T
  have G3506 : FnOk P w K mg base CX0 1 (a 3506) (d 3506) ["self"] (spNms (a 25) fun _ ss => ss.map (·.name)) := ok_service_names T
  have G3507 : FnOk P w K mg base CX0 6 (a 3507) (d 3507) ["self"] (spCap (a 25)) := ok_capped_names T
  have G3511 : FnOk P w K mg base (L2.CX P w) 5 (a 3511) (d 3511) ["self", "name"] (spAskW (a 25) (a 3)) := ok_is_whole_m T
  have G35 : FnOk P w K mg base CX0 3 (a 35) (d 35) ["_law_tables_here", "_law_keys_here", "_law_told"] spWhole := ok_is_whole T
  have G37 : FnOk P w K mg base CX0 6 (a 37) (d 37) ["_law_schema", "_law_name", "_law_which"] (spAsked (a 25)) := ok_asked T
  have G38 : FnOk P w K mg base CX0 4 (a 38) (d 38) ["_law_tables_here", "_law_keys_here", "_law_services_here", "_law_name", "_law_which"] spDue := ok_due T
  refine T.F39.ok sc__law_holds (fun vs H Q E h => ?_) (fun cdv A outer s H vs Q E hr h => ?_)
  · obtain ⟨p, t, k, v, o, ts, ks, ss, mt, ms, others, rfl, _⟩ := h
    rfl
  · obtain ⟨p, t, k, v, o, ts, ks, ss, mt, ms, others, rfl, ⟨dx, d1, d2, d3, O⟩, ht, hk, hv, ho, hol, hlow, q⟩ := h
    have no : ∀ {m : Str}, ¬ m = "_services" → ¬ m = "_keys" → ¬ m = "_tables" → (fldsS d1 d2 d3).lookup m = none := fun h1 h2 h3 => flds_no _ _ _ h1 h2 h3
    have lts := O.hT.len
    have lss : ss.length = ms := by rw [← O.hS.nm.len, List.length_map]
    have m5 := O.m5
    have n8 := O.n8
    refine ⟨_, (pss_cons (ps_if (PW.pt (pw_or (pt_cmpR (op_neS (hu_of hr)) (pe_prop (pv 0) T.cl_25 T.p_3501 G3501 (hr.mono (by decide)) T.b3501 .nil pass0 rfl) (pv 1) (nomark _)) (pw_or (pt_cmpR (op_neS (hu_of hr)) (pe_prop (pv 0) T.cl_25 T.p_3502 G3502 (hr.mono (by decide)) T.b3502 .nil pass0 rfl) (pv 2) (nomark _)) (pw_or1 (pt_cmpR (op_neS (hu_of hr)) (pe_prop (pv 0) T.cl_25 T.p_3503 G3503 (hr.mono (by decide)) T.b3503 .nil pass0 rfl) (pv 3) (nomark _))))))
    (pss_one (ps_ret pe_bl))
    pss_nil)
  (pss_cons (ps_if (PW.pt (pw_or (pt_cmpR (op_neD (hu_of64 hr)) (pe_meth0 (pv 0) T.cl_25 T.m_3505 G3505 (hr.mono (by decide)) T.b3505 .nil pass0) (pe_callB (id := "sorted")  cr_sortedS (by rfl) T.z_sorted (by decide +kernel) (pa_cons (pe_callTy (T := "list")  (call_listD rfl) (by rfl) T.z_list (by decide +kernel) (pa_cons (pv 1) pa_nil)) pa_nil)) (nomark _)) (pw_or1 (pt_cmpR (op_neD (hu_of64 hr)) (pe_meth0 (pv 0) T.cl_25 T.m_3506 G3506 (hr.mono (by decide)) T.b3506 .nil pass0) (pe_callB (id := "sorted")  cr_sortedS (by rfl) T.z_sorted (by decide +kernel) (pa_cons (pe_callTy (T := "list")  (call_listD rfl) (by rfl) T.z_list (by decide +kernel) (pa_cons (pv 3) pa_nil)) pa_nil)) (nomark _)))))
    (pss_one (ps_ret pe_bl))
    pss_nil)
  (pss_cons (ps_setLc (i := 5) (own := [("_law_name", 6)]) rfl sc__law_holds.nd rfl rfl (sw_true rfl rfl rfl (by decide +kernel)) (pi_list (pe_callB (id := "sorted")  cr_sortedS (by rfl) T.z_sorted (by decide +kernel) (pa_cons (pe_callTy (T := "list")  (call_listD rfl) (by rfl) T.z_list (by decide +kernel) (pa_cons (pv 3) pa_nil)) pa_nil))) (blkOk_by (N := ["_law_schema", "_law_tables_here", "_law_keys_here", "_law_services_here", "_law_others", "_law_due_here", "_law_name", "_law_which"]) (sc := defScope s__law_holds) (by decide +kernel)) (fun _ _ _ _ _ => pg_name (i := 6) sc__law_holds.nd rfl (.inl rfl)) (fun _ _ _ _ _ => (pts_one (pt_not (pt_val (pe_call G35 (hr.mono (by decide)) (by rfl) T.g35 T.F35.kp T.b35 .nil pass0 (pa_cons (pv 1) (pa_cons (pv 2) (pa_cons (pe_dget (hu_of hr) (pv 3) (pv 6) (fun _ _ => rfl)) pa_nil)))))))) (fun _ _ _ _ _ => (pv 6)))
  (pss_cons (ps_if (pt_cmpR (op_neD (hu_of64 hr)) (pe_meth0 (pv 0) T.cl_25 T.m_3507 G3507 (hr.mono (by decide)) T.b3507 .nil pass0) (pv 5) (nomark _))
    (pss_one (ps_ret pe_bl))
    pss_nil)
  (pss_cons (ps_for PassesOwn.never rfl (pi_list (pe_op op_cat (pe_op op_cat (pe_callTy (T := "list")  (call_listD rfl) (by rfl) T.z_list (by decide +kernel) (pa_cons (pv 1) pa_nil)) (pe_callTy (T := "list")  (call_listD rfl) (by rfl) T.z_list (by decide +kernel) (pa_cons (pv 3) pa_nil))) (pv 4))) (pg_name (i := 6) sc__law_holds.nd rfl (.inl rfl))
    (pss_one (ps_for PassesOwn.never rfl (pi_range1 (by rfl) T.z_range (pa_cons pe_int pa_nil)) (pg_name (i := 7) sc__law_holds.nd rfl (.inl rfl))
        (pss_cons (ps_if (pt_cmpR (op_neD (hu_of64 hr)) (pe_call G37 (hr.mono (by decide)) (by rfl) T.g37 T.F37.kp T.b37 .nil pass0 (pa_cons (pv 0) (pa_cons (pv 6) (pa_cons (pv 7) pa_nil)))) (pe_call G38 (hr.mono (by decide)) (by rfl) T.g38 T.F38.kp T.b38 .nil pass0 (pa_cons (pv 1) (pa_cons (pv 2) (pa_cons (pv 3) (pa_cons (pv 6) (pa_cons (pv 7) pa_nil)))))) (nomark _))
            (pss_one (ps_ret pe_bl))
            pss_nil)
          (pss_one (ps_if (PW.pt (pw_and (pt_cmpR op_eq (pv 7) pe_int (nomark _)) (pw_and (pt_cmp (pc_din (hu_of hr) (pv 6) (pv 3))) (pw_and1 (pt_not (pt_val (pe_callB (id := "isinstance")  call_isi (by rfl) T.z_isinstance (by decide +kernel) (pa_cons (pe_meth (pv 0) T.cl_25 T.m_3511 G3511 (hr.mono (by decide)) T.b3511 .nil (passN rfl) (pa_cons (pv 6) pa_nil)) (pa_cons (pe_bltn (v := .ty "bool") (by rfl) T.z_bool (by decide +kernel) rfl) pa_nil)))))))))
            (pss_one (ps_ret pe_bl))
            pss_nil))))))
  (pss_one (ps_ret pe_bl))))))), ?_⟩
    -- the three dicts
    refine ⟨_, rfl, p, dx, _, rfl, O.ob, p, ts, ks, ss, mt, ms, rfl, ⟨dx, d1, d2, d3, O⟩, fun D1 H1 f1 D1a s1 => ?_⟩
    obtain ⟨kd1, e1, l1, a1⟩ := same_dct D1a (s1 _ _ ht) (tab_nd O.hT) (tab_same ts)
    refine ⟨_, rfl, D1, t, kd1, _, rfl, rfl, e1, s1 _ _ ht, l1, a1, _, rfl, ?_⟩
    have O1 := O.same s1
    refine ⟨_, rfl, p, dx, _, rfl, O1.ob, p, ts, ks, ss, mt, ms, rfl, ⟨dx, d1, d2, d3, O1⟩, fun D2 H2 f2 D2a s2 => ?_⟩
    have s02 := s1.trans s2
    obtain ⟨kd2, e2, l2, a2⟩ := same_dct D2a (s02 _ _ hk) (key_nd O.hT O.hK) (key_same ks)
    refine ⟨_, rfl, D2, k, kd2, _, rfl, rfl, e2, s02 _ _ hk, l2, a2, _, rfl, ?_⟩
    have O2 := O1.same s2
    refine ⟨_, rfl, p, dx, _, rfl, O2.ob, p, ts, ks, ss, mt, ms, rfl, ⟨dx, d1, d2, d3, O2⟩, fun D3 H3 f3 D3a s3 => ?_⟩
    have s03 := s02.trans s3
    obtain ⟨kd3, e3, l3, a3⟩ := same_dct D3a (s03 _ _ hv) (sv_nd O.hS) (sv_same ss)
    refine ⟨_, rfl, D3, v, kd3, _, rfl, rfl, e3, s03 _ _ hv, l3, a3, _, rfl, ?_⟩
    have O3 := O2.same s3
    -- table_names
    have lowT : ∀ x ∈ ts.map (·.1), Low x := fun x hx => wd_low (O.hT.nm.wd x hx)
    have lowS : ∀ x ∈ ss.map (·.name), Low x := fun x hx => wd_low (O.hS.nm.wd x hx)
    refine ⟨_, rfl, p, dx, _, rfl, O3.ob, no (by decide +kernel) (by decide +kernel) (by decide +kernel), p, ts, ks, ss, mt, ms, rfl, ⟨dx, d1, d2, d3, O3⟩, fun la ya H4 _ hla yap yas s4 => ?_⟩
    have s04 := s03.trans s4
    refine ⟨_, rfl, t, _, rfl, .inl (s04 _ _ ht), fun lb hlb => ?_⟩
    rw [tab_strs]
    refine ⟨lb, _, rfl, .of upd_same, by rw [List.length_map]; omega, fun yb lc ybp ybs hlc => ?_⟩
    have eab : ya = yb := sorted_uniq (yap.trans ybp.symm) yas ybs
    subst eab
    obtain ⟨dd, g1, g2, g3⟩ := strs_data (K := K) (H := upd (upd H4 lb (.lst ((ts.map (·.1)).map V.str))) lc (.lst (ya.map V.str))) (ns := ya) fun x hx => lowT x (yap.mem_iff.mp hx)
    have s5 := (same_upd (o := .lst ((ts.map (·.1)).map V.str)) hlb).trans (same_upd (o := .lst (ya.map V.str)) hlc)
    refine ⟨dd, dd, g1 la (s5 _ _ hla), g1 lc upd_same, g2, g2, _, rfl, ?_⟩
    rw [g3]
    have s05 := s04.trans s5
    have O5 := O.same s05
    -- service_names
    refine ⟨_, rfl, p, dx, _, rfl, O5.ob, no (by decide +kernel) (by decide +kernel) (by decide +kernel), p, ts, ks, ss, mt, ms, rfl, ⟨dx, d1, d2, d3, O5⟩, fun la6 ya6 H6 _ hla6 yap6 yas6 s6 => ?_⟩
    have s06 := s05.trans s6
    refine ⟨_, rfl, v, _, rfl, .inl (s06 _ _ hv), fun lb6 hlb6 => ?_⟩
    rw [sv_strs]
    refine ⟨lb6, _, rfl, .of upd_same, by rw [List.length_map]; omega, fun yb6 lc6 ybp6 ybs6 hlc6 => ?_⟩
    have eab6 : ya6 = yb6 := sorted_uniq (yap6.trans ybp6.symm) yas6 ybs6
    subst eab6
    obtain ⟨dd6, g61, g62, g63⟩ := strs_data (K := K) (H := upd (upd H6 lb6 (.lst ((ss.map (·.name)).map V.str))) lc6 (.lst (ya6.map V.str))) (ns := ya6) fun x hx => lowS x (yap6.mem_iff.mp hx)
    have s7 := (same_upd (o := .lst ((ss.map (·.name)).map V.str)) hlb6).trans (same_upd (o := .lst (ya6.map V.str)) hlc6)
    refine ⟨dd6, dd6, g61 la6 (s7 _ _ hla6), g61 lc6 upd_same, g62, g62, _, rfl, ?_⟩
    rw [g63]
    have s07 := s06.trans s7
    -- due_here
    refine ⟨_, rfl, v, _, rfl, .inl (s07 _ _ hv), fun lb8 hlb8 => ?_⟩
    rw [sv_strs]
    refine ⟨lb8, _, rfl, .of upd_same, by rw [List.length_map]; omega, fun yd ld ydp yds hld => ⟨ld, rfl, ⟨_, .of upd_same⟩, fun D hD => ?_⟩⟩
    have s8 := (same_upd (o := .lst ((ss.map (·.name)).map V.str)) hlb8).trans (same_upd (o := .lst (yd.map V.str)) hld)
    have s08 := s07.trans s8
    have ylen : yd.length ≤ 8 := by
      rw [ydp.length_eq, List.length_map]
      omega
    generalize hH9 : upd (upd _ lb8 (.lst ((ss.map (·.name)).map V.str))) ld (.lst (yd.map V.str)) = H9 at hD s08
    have hld9 : H9 ld = some (.lst (yd.map V.str)) := by rw [← hH9]; exact upd_same
    refine lc_list (K := K) (a := ld) (xs := yd.map V.str) (fun i H' => H' D = some (.lst (((yd.take i).filter fun n => !whN ts ks ss n).map V.str)) ∧ Same H9 H') ⟨upd_same, same_upd hD⟩ (fun i H' _ hp => .of (hp.2 _ _ hld9)) (fun i x H' hx hp => ?_) (fun H10 hp => ?_)
    · obtain ⟨h1, h2⟩ := hp
      obtain ⟨nm, hn, rfl⟩ := map_at hx
      obtain ⟨b, hb⟩ := svAt_some (ydp.mem_iff.mp (List.mem_of_getElem? hn))
      have sm := s08.trans h2
      have Ow := O.same sm
      have hwn : whN ts ks ss nm = whE ts ks b := by
        unfold whN
        rw [hb]
      have tk : (yd.take (i + 1)).filter (fun n => !whN ts ks ss n) = (yd.take i).filter (fun n => !whN ts ks ss n) ++ ([nm].filter fun n => !whN ts ks ss n) := by
        rw [List.take_add_one, hn, List.filter_append]
        rfl
      have g := DGet.k (k := Sum.inr nm) (sm _ _ hv)
      rw [svAt_val, hb] at g
      obtain ⟨bm, _⟩ := svAt_mem hb
      obtain ⟨htold, ⟨w', hw', hcols, hcl⟩, hcap⟩ := Ow.hS.ok b bm
      refine ⟨rfl, _, rfl, _, rfl, _, rfl, _, rfl, v, _, rfl, g, t, k, b.at_, b.ga, mt, ts, ks, b.tab, w', b.cols, b.cap, rfl, .of (sm _ _ ht), .of (sm _ _ hk), O.hT.up (by decide), Ow.hK, htold, hw', by omega, fun H2 s2 => ⟨_, rfl, ?_⟩⟩
      have ew' : isWh w' ks b.tab b.cols b.cap = whE ts ks b := by
        unfold whE
        rw [widthAt_mem O.hT.nm.nd hw']
      rw [ew']
      cases ew : whE ts ks b with
      | true =>
        refine ⟨?_, h2.trans s2⟩
        rw [tk, List.filter_cons_of_neg (by rw [hwn, ew]; decide), List.filter_nil, List.append_nil]
        exact s2 _ _ h1
      | false =>
        refine ⟨_, rfl, _, s2 _ _ h1, ?_, ?_, ?_⟩
        · rw [List.length_map]
          have l1 := List.length_filter_le (fun n => !whN ts ks ss n) (yd.take i)
          rw [List.length_take] at l1
          exact Nat.lt_of_le_of_lt (by omega : _ ≤ 8) (by decide)
        · rw [tk, List.map_append, List.filter_cons_of_pos (by rw [hwn, ew]; decide)]
          exact upd_same
        · intro x o ex
          rw [upd_ne (ne_of_none ex hD)]
          exact s2 _ _ (h2 x o ex)
    obtain ⟨hdl, h2⟩ := hp
    rw [List.length_map, List.take_length] at hdl
    have s10 := s08.trans h2
    have O10 := O.same s10
    -- capped_names
    refine ⟨_, rfl, p, dx, _, rfl, O10.ob, no (by decide +kernel) (by decide +kernel) (by decide +kernel), p, ts, ks, ss, mt, ms, rfl, ⟨dx, d1, d2, d3, O10⟩, fun lx yx H11 _ hlx yxp yxs s11 => ?_⟩
    have exd : yx = yd := sorted_uniq (yxp.trans ydp.symm) yxs yds
    subst exd
    have s011 := s10.trans s11
    obtain ⟨ddc, gc1, gc2, gc3⟩ := strs_data (K := K) (H := H11) (ns := yx.filter fun n => !whN ts ks ss n) fun x hx => lowS x (yxp.mem_iff.mp (List.mem_filter.mp hx).1)
    refine ⟨_, rfl, ddc, ddc, gc1 lx hlx, gc1 D (s11 _ _ hdl), gc2, gc2, _, rfl, ?_⟩
    rw [gc3]
    -- every name
    refine ⟨_, rfl, t, _, rfl, .inl (s011 _ _ ht), fun r1 hr1 => ?_⟩
    rw [tab_strs]
    have s12 := s011.trans (same_upd (o := .lst ((ts.map (·.1)).map V.str)) hr1)
    refine ⟨_, rfl, v, _, rfl, .inl (s12 _ _ hv), fun r2 hr2 => ?_⟩
    rw [sv_strs]
    have s13 := s12.trans (same_upd (o := .lst ((ss.map (·.name)).map V.str)) hr2)
    refine ⟨r1, r2, _, _, rfl, rfl, same_upd hr2 _ _ upd_same, upd_same, ?_, fun r3 hr3 => ?_⟩
    · rw [List.length_map, List.length_map, List.length_map, List.length_map]
      exact small1000' (by omega)
    have s14 := s13.trans (same_upd (o := .lst ((ts.map (·.1)).map V.str ++ (ss.map (·.name)).map V.str)) hr3)
    refine ⟨_, rfl, r3, o, _, _, rfl, rfl, upd_same, s14 _ _ ho, ?_, fun r4 hr4 => ⟨r4, rfl, ?_⟩⟩
    · rw [List.length_append, List.length_map, List.length_map, List.length_map, List.length_map, List.length_map]
      exact small1000' (by omega)
    have en : (ts.map (·.1)).map V.str ++ (ss.map (·.name)).map V.str ++ others.map V.str = (ts.map (·.1) ++ ss.map (·.name) ++ others).map V.str := by rw [List.map_append, List.map_append]
    rw [en]
    have s15 := s14.trans (same_upd (o := .lst ((ts.map (·.1) ++ ss.map (·.name) ++ others).map V.str)) hr4)
    generalize hH15 : upd _ r4 (.lst ((ts.map (·.1) ++ ss.map (·.name) ++ others).map V.str)) = H15 at s15
    have h15 : H15 r4 = some (.lst ((ts.map (·.1) ++ ss.map (·.name) ++ others).map V.str)) := by rw [← hH15]; exact upd_same
    refine ⟨⟨_, .of h15⟩, for_list (K := K) (a := r4) (xs := (ts.map (·.1) ++ ss.map (·.name) ++ others).map V.str) (fun i σ H' => ∃ (y6 y7 : Option V), σ = [some (.ref p), some (.ref t), some (.ref k), some (.ref v), some (.ref o), some (.ref D), y6, y7] ∧ Same H15 H') ⟨none, none, rfl, Same.refl _⟩ (fun i σ H' _ hp => ?_) (fun i y σ H' hy hp => ?_) (fun σ H' hp => ?_)⟩
    · obtain ⟨y6, y7, rfl, sm⟩ := hp
      exact .of (sm _ _ h15)
    · obtain ⟨y6, y7, rfl, sm⟩ := hp
      obtain ⟨n, hn, rfl⟩ := map_at hy
      have hnlow : Low n := by
        rcases List.mem_append.mp (List.mem_of_getElem? hn) with h | h
        · rcases List.mem_append.mp h with h | h
          · exact lowT n h
          · exact lowS n h
        · exact hlow n h
      refine ⟨_, rfl, by decide, by decide, ?_⟩
      refine for_range (lo := 0) (n := 4) (fun j σ H' => ∃ (y7 : Option V), σ = [some (.ref p), some (.ref t), some (.ref k), some (.ref v), some (.ref o), some (.ref D), some (.str n), y7] ∧ Same H15 H') ⟨y7, rfl, sm⟩ (fun j σ H' hj hp => ?_) (fun σ H' hp => ?_)
      · obtain ⟨y7, rfl, sm⟩ := hp
        have sa := s15.trans sm
        have Oa := O.same sa
        refine ⟨_, rfl, _, rfl, _, rfl, p, n, 0 + (j : Int), ts, ks, ss, mt, ms, rfl, by omega, by omega, ⟨dx, d1, d2, d3, Oa⟩, fun ra Ha hra sb => ?_⟩
        have sc := sa.trans sb
        have Oc := O.same sc
        refine ⟨_, rfl, _, rfl, _, rfl, _, rfl, _, rfl, t, k, v, n, 0 + (j : Int), ts, ks, ss, mt, ms, rfl, by omega, by omega, sc _ _ ht, sc _ _ hk, sc _ _ hv, O.hT, Oc.hK, Oc.hS, fun rb Hb hrb sd => ?_⟩
        have se := sc.trans sd
        have Oe := O.same se
        obtain ⟨ddt, gt1, gt2, gt3⟩ := tup_data (K := K) (H := Hb) (due_data (i := 0 + (j : Int)) Oe.hT Oe.hK Oe.hS hnlow)
        refine ⟨ddt, ddt, gt1 ra (sd _ _ hra), gt1 rb hrb, gt2, gt2, _, rfl, ?_⟩
        rw [gt3]
        have sm2 := (sm.trans sb).trans sd
        refine ⟨_, rfl, rfl, _, rfl, ite_eqI (fun h3 => ?_) (fun h3 => ⟨_, rfl, sm2⟩)⟩
        refine ⟨_, rfl, _, rfl, v, _, rfl, DGet.k (k := Sum.inr n) (se _ _ hv), _, rfl, ?_⟩
        rw [svAt_val]
        cases eb : svAt ss n with
        | none => exact ⟨_, rfl, sm2⟩
        | some b =>
          refine ⟨_, rfl, p, dx, _, rfl, Oe.ob, no (by decide +kernel) (by decide +kernel) (by decide +kernel), _, rfl, p, n, ts, ks, ss, mt, ms, rfl, ⟨dx, d1, d2, d3, Oe⟩, fun b' hb' Hf sf => ?_, fun e => ?_⟩
          · exact ⟨_, _, _, _, _, rfl, .ty _, .base (.bl _), kit_ty (show kitB "bool" "bool" = some true by decide +kernel), _, rfl, _, rfl, sm2.trans sf⟩
          · rw [eb] at e
            cases e
      · obtain ⟨y7, rfl, sm⟩ := hp
        exact ⟨_, _, rfl, sm⟩
    · obtain ⟨y6, y7, rfl, sm⟩ := hp
      exact q H' (s15.trans sm)
end
/-! ### the law -/
theorem SchO.put {C p dx d1 d2 d3 b : Addr} {H : Hp} {ts : List (Str × Int)} {ks : List KeyE} {ss : List SvE} {m n : Nat} {k1 k2 : List (Key × V)} (h : SchO C p dx d1 d2 d3 H ts ks ss m n) (e : H b = some (.dK k1)) (n1 : d1 ≠ b) (n2 : d2 ≠ b) (n3 : d3 ≠ b) : SchO C p dx d1 d2 d3 (upd H b (.dK k2)) ts ks ss m n := by
  have tp : ∀ c xs, H c = some (.tup xs) → upd H b (.dK k2) c = some (.tup xs) := upd_tup e (by intro _ z; cases z)
  have dd : ∀ {c : Addr} {kvs : List (Key × V)}, c ≠ b → DctAt H c kvs → DctAt (upd H b (.dK k2)) c kvs := fun hn ⟨ks, e1, q⟩ => ⟨ks, by rw [upd_ne hn]; exact e1, q⟩
  exact ⟨by rw [upd_ne (ne_of h.ob e (by intro z; cases z))]; exact h.ob, dd n1 h.tb, dd n2 h.ky, dd n3 h.sv, h.hT, h.hK.mono tp, h.hS.mono tp, h.m5, h.n8⟩
theorem same_dcts {H : Hp} {D t : Addr} {kvs : List (Key × V)} (hD : H D = some (.dK kvs)) (ht : H t = some (.dK kvs)) (nd : (kvs.map (·.1)).Nodup) (hs : ∀ p ∈ kvs, sameB p.2 = true) : ∀ p ∈ kvs, valV kvs p.1 = some p.2 ∧ sameB p.2 = true := fun q hq => ⟨val_nodup nd q hq, hs q hq⟩
def spLaw (K : PySem.W.Frag) : Sp := fun vs H Q _ => ∃ (p : Addr) (ns : List Int), vs = [.ref p] ∧ SqL K H p (ns.map V.int) ∧ ns.length ≤ 63 ∧ ∀ H', Q (.bl true) H'
section
variable {P : Program} {w : World} {K : PySem.W.Frag} {mg : Str → Option Value} {base : Heap} {a : Nat → Addr} {d : Nat → FuncData}
theorem ok_law (T : Txt K mg a d) : FnOk P w K mg base CX0 9 (a 40) (d 40) ["_law_script"] (spLaw K) := by
  have G27 : FnOk P w K mg base CX0 1 (a 27) (d 27) ["_law_script"] (spPool K) := ok_pool T
  have G29 : FnOk P w K mg base CX0 2 (a 29) (d 29) ["_law_pool_here", "_law_many"] spDraw := ok_draw T
  have G30 : FnOk P w K mg base CX0 3 (a 30) (d 30) ["_law_pool_here", "_law_many"] spWord := ok_word T
  have G33 : FnOk P w K mg base CX0 5 (a 33) (d 33) ["_law_pool_here", "_law_many", "_law_widest"] spTables := ok_tables T
  have G34 : FnOk P w K mg base CX0 4 (a 34) (d 34) ["_law_pool_here", "_law_tables_here"] spKeys := ok_keys T
  have G36 : FnOk P w K mg base CX0 5 (a 36) (d 36) ["_law_pool_here", "_law_tables_here", "_law_keys_here", "_law_caps", "_law_more"] spServices := ok_services T
  have G3500 : FnOk P w K mg base CX0 5 (a 3500) (d 3500) ["self", "tables", "keys", "services"] (spSInit (a 25)) := ok_sinit T
  have G39 : FnOk P w K mg base CX0 7 (a 39) (d 39) ["_law_schema", "_law_tables_here", "_law_keys_here", "_law_services_here", "_law_others"] (spHolds (a 25)) := ok_holds T
  have G3501 : FnOk P w K mg base CX0 1 (a 3501) (d 3501) ["self"] (spProp (a 25) fun ts _ _ => tabK ts) := ok_p_tables T
  have G3502 : FnOk P w K mg base CX0 1 (a 3502) (d 3502) ["self"] (spProp (a 25) fun _ ks _ => keyK ks) := ok_p_keys T
  have G3503 : FnOk P w K mg base CX0 1 (a 3503) (d 3503) ["self"] (spProp (a 25) fun _ _ ss => svK ss) := ok_p_services T
  have G3505 : FnOk P w K mg base CX0 1 (a 3505) (d 3505) ["self"] (spNms (a 25) fun ts _ => ts.map (·.1)) := ok_table_names T
  have G3506 : FnOk P w K mg base CX0 1 (a 3506) (d 3506) ["self"] (spNms (a 25) fun _ ss => ss.map (·.name)) := ok_service_names T
  have G3507 : FnOk P w K mg base CX0 6 (a 3507) (d 3507) ["self"] (spCap (a 25)) := ok_capped_names T
  refine T.F40.ok sc_law (fun vs H Q E h => ?_) (fun cdv A outer s H vs Q E hr h => ?_)
  · obtain ⟨p, ns, rfl, _⟩ := h
    rfl
  · obtain ⟨p0, ns, rfl, hS0, hl0, q⟩ := h
    refine ⟨_, (pss_cons (ps_set (i := 1) sc_law.nd rfl (.inl rfl) (pe_call G27 (hr.mono (by decide)) (by rfl) T.g27 T.F27.kp T.b27 .nil pass0 (pa_cons (pv 0) pa_nil)))
  (pss_cons (ps_set (i := 2) sc_law.nd rfl (.inl rfl) (pe_call G33 (hr.mono (by decide)) (by rfl) T.g33 T.F33.kp T.b33 .nil pass0 (pa_cons (pv 1) (pa_cons (pe_op op_add pe_int (pe_call G29 (hr.mono (by decide)) (by rfl) T.g29 T.F29.kp T.b29 .nil pass0 (pa_cons (pv 1) (pa_cons pe_int pa_nil)))) (pa_cons pe_int pa_nil)))))
  (pss_cons (ps_set (i := 3) sc_law.nd rfl (.inl rfl) (pe_call G34 (hr.mono (by decide)) (by rfl) T.g34 T.F34.kp T.b34 .nil pass0 (pa_cons (pv 1) (pa_cons (pv 2) pa_nil))))
  (pss_cons (ps_set (i := 4) sc_law.nd rfl (.inl rfl) (pe_call G36 (hr.mono (by decide)) (by rfl) T.g36 T.F36.kp T.b36 .nil pass0 (pa_cons (pv 1) (pa_cons (pv 2) (pa_cons (pv 3) (pa_cons (pe_lst (pa_cons pe_non (pa_cons pe_int (pa_cons pe_int (pa_cons pe_int (pa_cons pe_int pa_nil)))))) (pa_cons (pe_call G29 (hr.mono (by decide)) (by rfl) T.g29 T.F29.kp T.b29 .nil pass0 (pa_cons (pv 1) (pa_cons (pe_op op_sub pe_int (pe_callB (id := "len")  call_lenD (by rfl) T.z_len (by decide +kernel) (pa_cons (pv 2) pa_nil))) pa_nil))) pa_nil)))))))
  (pss_cons (ps_set (i := 5) sc_law.nd rfl (.inl rfl) (pe_lst (pa_cons (pe_call G30 (hr.mono (by decide)) (by rfl) T.g30 T.F30.kp T.b30 .nil pass0 (pa_cons (pv 1) (pa_cons (pe_op op_add pe_int (pe_call G29 (hr.mono (by decide)) (by rfl) T.g29 T.F29.kp T.b29 .nil pass0 (pa_cons (pv 1) (pa_cons pe_int pa_nil)))) pa_nil))) (pa_cons pe_str pa_nil))))
  (pss_cons (ps_set (i := 6) sc_law.nd rfl (.inl rfl) (pe_callTy (T := "dict")  call_dictD (by rfl) T.z_dict (by decide +kernel) (pa_cons (pv 2) pa_nil)))
  (pss_cons (ps_set (i := 7) sc_law.nd rfl (.inl rfl) (pe_callTy (T := "dict")  call_dictD (by rfl) T.z_dict (by decide +kernel) (pa_cons (pv 3) pa_nil)))
  (pss_cons (ps_set (i := 8) sc_law.nd rfl (.inl rfl) (pe_callTy (T := "dict")  call_dictD (by rfl) T.z_dict (by decide +kernel) (pa_cons (pv 4) pa_nil)))
  (pss_cons (ps_set (i := 9) sc_law.nd rfl (.inl rfl) (pe_make T.M_25 G3500 (hr.mono (by decide)) (by rfl) T.cg_25 T.b3500 .nil pass0 (pa_cons (pv 6) (pa_cons (pv 7) (pa_cons (pv 8) pa_nil)))))
  (pss_cons (ps_if (PW.pt (pw_or (pt_cmpR (op_neS (hu_of hr)) (pv 6) (pv 2) (nomark _)) (pw_or (pt_cmpR (op_neS (hu_of hr)) (pv 7) (pv 3) (nomark _)) (pw_or1 (pt_cmpR (op_neS (hu_of hr)) (pv 8) (pv 4) (nomark _))))))
    (pss_one (ps_ret pe_bl))
    pss_nil)
  (pss_cons (ps_dput (hu_of hr) (pv 6) pe_str pe_int rfl)
  (pss_cons (ps_expr (pe_bm0 PySem.F.plainAttrs_dict PySem.F.slot_dict_clear PySem.F.type_dict_clear mtd_clear (pv 7)))
  (pss_cons (ps_expr (pe_bm0 PySem.F.plainAttrs_dict PySem.F.slot_dict_clear PySem.F.type_dict_clear mtd_clear (pv 8)))
  (pss_cons (ps_if (pt_not (pt_val (pe_call G39 (hr.mono (by decide)) (by rfl) T.g39 T.F39.kp T.b39 .nil pass0 (pa_cons (pv 9) (pa_cons (pv 2) (pa_cons (pv 3) (pa_cons (pv 4) (pa_cons (pv 5) pa_nil))))))))
    (pss_one (ps_ret pe_bl))
    pss_nil)
  (pss_cons (ps_set (i := 10) sc_law.nd rfl (.inl rfl) (pe_prop (pv 9) T.cl_25 T.p_3501 G3501 (hr.mono (by decide)) T.b3501 .nil pass0 rfl))
  (pss_cons (ps_expr (pe_bm0 PySem.F.plainAttrs_dict PySem.F.slot_dict_clear PySem.F.type_dict_clear mtd_clear (pv 10)))
  (pss_cons (ps_set (i := 10) sc_law.nd rfl (.inl rfl) (pe_prop (pv 9) T.cl_25 T.p_3502 G3502 (hr.mono (by decide)) T.b3502 .nil pass0 rfl))
  (pss_cons (ps_dput (hu_of hr) (pv 10) pe_str (pe_tup (pa_cons pe_int pa_nil)) rfl)
  (pss_cons (ps_set (i := 10) sc_law.nd rfl (.inl rfl) (pe_prop (pv 9) T.cl_25 T.p_3503 G3503 (hr.mono (by decide)) T.b3503 .nil pass0 rfl))
  (pss_cons (ps_expr (pe_bm0 PySem.F.plainAttrs_dict PySem.F.slot_dict_clear PySem.F.type_dict_clear mtd_clear (pv 10)))
  (pss_cons (ps_expr (pe_bm0 PySem.F.plainAttrs_list PySem.F.slot_list_clear PySem.F.type_list_clear mt_clear (pe_meth0 (pv 9) T.cl_25 T.m_3505 G3505 (hr.mono (by decide)) T.b3505 .nil pass0)))
  (pss_cons (ps_expr (pe_bm PySem.F.plainAttrs_list PySem.F.slot_list_append PySem.F.type_list_append mt_append (pe_meth0 (pv 9) T.cl_25 T.m_3506 G3506 (hr.mono (by decide)) T.b3506 .nil pass0) (pa_cons pe_str pa_nil)))
  (pss_cons (ps_expr (pe_bm PySem.F.plainAttrs_list PySem.F.slot_list_append PySem.F.type_list_append mt_append (pe_meth0 (pv 9) T.cl_25 T.m_3507 G3507 (hr.mono (by decide)) T.b3507 .nil pass0) (pa_cons pe_str pa_nil)))
  (pss_one (ps_ret (pe_call G39 (hr.mono (by decide)) (by rfl) T.g39 T.F39.kp T.b39 .nil pass0 (pa_cons (pv 9) (pa_cons (pv 2) (pa_cons (pv 3) (pa_cons (pv 4) (pa_cons (pv 5) pa_nil))))))))))))))))))))))))))))))), ?_⟩
    refine ⟨_, rfl, p0, ns, rfl, hS0, hl0, fun pl H1 np hP s1 => ?_⟩
    -- tables
    refine ⟨_, rfl, _, rfl, pl, 5, rfl, hP, by decide, by decide, fun m H2 m0 m1 C2 => ⟨_, _, rfl, rfl, pl, (1 + m).toNat, 4, by rw [Int.toNat_of_nonneg (by omega)]; rfl, C2.1, by omega, by decide, by decide, fun t ts H3 t0 ht hT C3 => ?_⟩⟩
    have ltab : (tabK ts).length = (1 + m).toNat := by
      unfold tabK
      rw [List.length_map, hT.len]
    -- keys
    refine ⟨_, rfl, _, rfl, pl, t, _, ts, rfl, C3.1, ht, hT.up (by decide), by omega, fun k ks H4 k0 hk hK C4 => ?_⟩
    have nt : t ≠ pl := pool_ne C3.1 ht (by intro _ z; cases z)
    have ht4 := C4.at nt ht
    have nk : k ≠ pl := pool_ne C4.1 hk (by intro _ z; cases z)
    -- services
    refine ⟨_, rfl, _, rfl, _, rfl, by show 5 ≤ sizeLine; decide, fun ca hca => ?_⟩
    have s5 := same_upd (o := .lst [.non, .int 1, .int 2, .int 3, .int 4]) hca
    have P5 := C4.1.same s5
    have nca : ca ≠ pl := Chg.ne C4.1 hca
    refine ⟨_, rfl, _, rfl, t, tabK ts, rfl, s5 _ _ ht4, _, _, rfl, rfl, pl, 9 - ((tabK ts).length : Int), rfl, P5, by omega, Nat.lt_of_le_of_lt (by omega : _ ≤ 100) (by decide), fun mo H6 o0 o1 C6 => ?_⟩
    have s6t := chg_tup P5 C6
    refine ⟨pl, t, k, ca, (1 + m).toNat, mo.toNat, ts, ks, [none, some 1, some 2, some 3, some 4], by rw [Int.toNat_of_nonneg o0]; rfl, C6.1, C6.at nt (s5 _ _ ht4), C6.at nk (s5 _ _ hk), hT.up (by decide), by omega, by omega, (hK.mono fun _ _ e => s5 _ _ e).mono s6t, C6.at nca upd_same, nca, by decide, by decide, fun c hc => ?_, fun v ss H7 v0 hv hSv C7 => ?_⟩
    · simp only [List.mem_cons, List.not_mem_nil, or_false, reduceCtorEq, false_or, Option.some.injEq] at hc
      omega
    have hn8 : (1 + m).toNat + mo.toNat ≤ 8 := by omega
    have ht7 := C7.at nt (C6.at nt (s5 _ _ ht4))
    have hk7 := C7.at nk (C6.at nk (s5 _ _ hk))
    have hK7 : Keys H7 ts ks := ((hK.mono fun _ _ e => s5 _ _ e).mono s6t).mono (chg_tup C6.1 C7)
    have nv : v ≠ pl := pool_ne C7.1 hv (by intro _ z; cases z)
    -- others
    refine ⟨_, rfl, _, rfl, pl, 8, rfl, C7.1, by decide, by decide, fun r H8 r0 r1 C8 => ⟨_, _, rfl, rfl, pl, (1 + r).toNat, by rw [Int.toNat_of_nonneg (by omega)]; rfl, C8.1, by omega, fun sx H9 hsx C9 => ⟨by show 2 ≤ sizeLine; decide, fun o ho => ?_⟩⟩⟩
    have C79 := C8.trans C9
    have so := same_upd (o := .lst [.str sx, .str ""]) ho
    have hta := so _ _ (C79.at nt ht7)
    have hka := so _ _ (C79.at nk hk7)
    have hva := so _ _ (C79.at nv hv)
    have hKa : Keys (upd H9 o (.lst [.str sx, .str ""])) ts ks := (hK7.mono (chg_tup C7.1 C79)).mono fun _ _ e => so _ _ e
    have hSa : Svcs (upd H9 o (.lst [.str sx, .str ""])) ts ks ss ((1 + m).toNat + mo.toNat) := (hSv.mono (chg_tup C7.1 C79)).mono fun _ _ e => so _ _ e
    generalize hHa : upd H9 o (.lst [.str sx, .str ""]) = Ha at hta hka hva hKa hSa
    have hoa : Ha o = some (.lst [.str sx, .str ""]) := by rw [← hHa]; exact upd_same
    -- the copies
    refine ⟨_, rfl, t, tabK ts, rfl, .inl hta, fun d1 f1 => ?_⟩
    have sb := same_upd (o := .dK (tabK ts)) f1
    refine ⟨_, rfl, k, keyK ks, rfl, .inl (sb _ _ hka), fun d2 f2 => ?_⟩
    have sc := same_upd (o := .dK (keyK ks)) f2
    refine ⟨_, rfl, v, svK ss, rfl, .inl (sc _ _ (sb _ _ hva)), fun d3 f3 => ?_⟩
    have sd := same_upd (o := .dK (svK ss)) f3
    have sac := (sb.trans sc).trans sd
    have e1 : upd (upd (upd Ha d1 (.dK (tabK ts))) d2 (.dK (keyK ks))) d3 (.dK (svK ss)) d1 = some (.dK (tabK ts)) := sd _ _ (sc _ _ upd_same)
    have e2 : upd (upd (upd Ha d1 (.dK (tabK ts))) d2 (.dK (keyK ks))) d3 (.dK (svK ss)) d2 = some (.dK (keyK ks)) := sd _ _ upd_same
    have e3 : upd (upd (upd Ha d1 (.dK (tabK ts))) d2 (.dK (keyK ks))) d3 (.dK (svK ss)) d3 = some (.dK (svK ss)) := upd_same
    have n12 : d1 ≠ d2 := ne_of_none upd_same f2
    have n13 : d1 ≠ d3 := ne_of_none (sc _ _ upd_same) f3
    have n23 : d2 ≠ d3 := ne_of_none upd_same f3
    have t1 : ∀ {b : Addr} {u : HO}, Ha b = some u → b ≠ d1 ∧ b ≠ d2 ∧ b ≠ d3 := fun e => ⟨ne_of_none e f1, ne_of_none (sb _ _ e) f2, ne_of_none (sc _ _ (sb _ _ e)) f3⟩
    generalize hHd : upd (upd (upd Ha d1 (.dK (tabK ts))) d2 (.dK (keyK ks))) d3 (.dK (svK ss)) = Hd at sac e1 e2 e3
    -- the schema
    refine ⟨_, rfl, _, rfl, _, rfl, fun x dx fx fdx ndx => ?_⟩
    have sx1 := same_upd (o := .own x) fdx
    have fx1 : upd Hd dx (.own x) x = none := by rw [upd_ne ndx.symm]; exact fx
    have sxx := sx1.trans (same_upd (o := .ins (a 25) dx []) fx1)
    have hK8 : Keys (upd (upd Hd dx (.own x)) x (.ins (a 25) dx [])) ts ks := hKa.mono fun _ _ e => sxx _ _ (sac _ _ e)
    have hS8 : Svcs (upd (upd Hd dx (.own x)) x (.ins (a 25) dx [])) ts ks ss ((1 + m).toNat + mo.toNat) := hSa.mono fun _ _ e => sxx _ _ (sac _ _ e)
    refine ⟨x, dx, d1, d2, d3, ts, ks, ss, (1 + m).toNat, (1 + m).toNat + mo.toNat, rfl, upd_same, .of (sxx _ _ e1), .of (sxx _ _ e2), .of (sxx _ _ e3), hT, hK8, hS8, by omega, by omega, by omega, hn8, fun He g1 g2 g3 O f4 f5 f6 keep => ⟨rfl, ?_⟩⟩
    have k1 : ∀ b u, Hd b = some u → He b = some u := fun b u e => keep b u (ne_of_none e fx) (sxx b u e)
    have gne : ∀ {g b : Addr} {u : HO}, upd (upd Hd dx (.own x)) x (.ins (a 25) dx []) g = none → Hd b = some u → g ≠ b := fun hg hb => (ne_of_none (sxx _ _ hb) hg).symm
    have hte := k1 _ _ (sac _ _ hta)
    have hke := k1 _ _ (sac _ _ hka)
    have hve := k1 _ _ (sac _ _ hva)
    have hoe := k1 _ _ (sac _ _ hoa)
    have ndT := tab_nd hT
    have ndK := key_nd hT hKa
    have ndS := sv_nd hSa
    refine ⟨_, rfl, _, rfl, d1, t, _, _, rfl, rfl, k1 _ _ e1, hte, rfl, same_dcts (k1 _ _ e1) hte ndT (tab_same ts), _, rfl, ?_⟩
    refine ⟨_, rfl, _, rfl, d2, k, _, _, rfl, rfl, k1 _ _ e2, hke, rfl, same_dcts (k1 _ _ e2) hke ndK (key_same ks), _, rfl, ?_⟩
    refine ⟨_, rfl, _, rfl, d3, v, _, _, rfl, rfl, k1 _ _ e3, hve, rfl, same_dcts (k1 _ _ e3) hve ndS (sv_same ss), _, rfl, ?_⟩
    -- the copies are changed
    obtain ⟨t11, t12, t13⟩ := t1 hta
    obtain ⟨t21, t22, t23⟩ := t1 hka
    obtain ⟨t31, t32, t33⟩ := t1 hva
    obtain ⟨t41, t42, t43⟩ := t1 hoa
    refine ⟨_, rfl, d1, _, rfl, DPut.k (k := Sum.inr "zz") (k1 _ _ e1) ?_, ?_⟩
    · rw [ltab]
      exact small1000 (by omega)
    have O1 := O.put (k2 := putK (tabK ts) (Sum.inr "zz") (.int 1)) (k1 _ _ e1) (gne f4 e1) (gne f5 e1) (gne f6 e1)
    have c2 : upd He d1 (.dK (putK (tabK ts) (Sum.inr "zz") (.int 1))) d2 = some (.dK (keyK ks)) := by rw [upd_ne n12.symm]; exact k1 _ _ e2
    refine ⟨_, rfl, .inr (.inr (.inl ⟨rfl, .inl ⟨_, c2⟩⟩)), d2, _, rfl, rfl, c2, ?_⟩
    have O2 := O1.put (k2 := []) c2 (gne f4 e2) (gne f5 e2) (gne f6 e2)
    have c3 : upd (upd He d1 (.dK (putK (tabK ts) (Sum.inr "zz") (.int 1)))) d2 (.dK []) d3 = some (.dK (svK ss)) := by rw [upd_ne n23.symm, upd_ne n13.symm]; exact k1 _ _ e3
    refine ⟨_, rfl, .inr (.inr (.inl ⟨rfl, .inl ⟨_, c3⟩⟩)), d3, _, rfl, rfl, c3, ?_⟩
    have O3 := O2.put (k2 := []) c3 (gne f4 e3) (gne f5 e3) (gne f6 e3)
    have stay : ∀ {b : Addr} {u : HO}, b ≠ d1 → b ≠ d2 → b ≠ d3 → He b = some u → upd (upd (upd He d1 (.dK (putK (tabK ts) (Sum.inr "zz") (.int 1)))) d2 (.dK [])) d3 (.dK []) b = some u := fun a1 a2 a3 e => by
      rw [upd_ne a3, upd_ne a2, upd_ne a1]
      exact e
    have htf := stay t11 t12 t13 hte
    have hkf := stay t21 t22 t23 hke
    have hvf := stay t31 t32 t33 hve
    have hof := stay t41 t42 t43 hoe
    generalize hHf : upd (upd (upd He d1 (.dK (putK (tabK ts) (Sum.inr "zz") (.int 1)))) d2 (.dK [])) d3 (.dK []) = Hf at O3 htf hkf hvf hof
    have hlow : ∀ s ∈ [sx, ""], Low s := fun s hs => by
      rcases List.mem_cons.mp hs with rfl | hs
      · intro c hc
        have := (hsx.2 c hc).2
        omega
      · rw [List.mem_singleton.mp hs]
        intro c hc
        cases hc
    refine ⟨_, rfl, _, rfl, _, rfl, _, rfl, _, rfl, x, t, k, v, o, ts, ks, ss, _, _, [sx, ""], rfl, ⟨dx, g1, g2, g3, O3⟩, htf, hkf, hvf, hof, Nat.le_refl 2, hlow, fun Hg sg => ⟨_, rfl, ?_⟩⟩
    -- what was returned is changed
    have O4 := O3.same sg
    refine ⟨_, rfl, x, dx, _, rfl, O4.ob, x, ts, ks, ss, _, _, rfl, ⟨dx, g1, g2, g3, O4⟩, fun D Hh fD ⟨kd, eD, _⟩ sh => ?_⟩
    refine ⟨_, rfl, .inr (.inr (.inl ⟨rfl, .inl ⟨_, eD⟩⟩)), D, _, rfl, rfl, eD, ?_⟩
    have si := sg.trans (same_mut (o := .dK []) sh fD)
    generalize hHi : upd Hh D (.dK []) = Hi at si
    have O5 := O3.same si
    refine ⟨_, rfl, x, dx, _, rfl, O5.ob, x, ts, ks, ss, _, _, rfl, ⟨dx, g1, g2, g3, O5⟩, fun D' Hj fD' ⟨kd', eD', pk'⟩ sj => ?_⟩
    refine ⟨by show 1 ≤ sizeLine; decide, fun c hc => ⟨_, rfl, D', _, rfl, DPut.k (k := Sum.inr "zz") (same_upd hc _ _ eD') ?_, ?_⟩⟩
    · rw [pk'.length_eq]
      unfold keyK
      rw [List.length_map]
      have := hK.le
      rw [hT.len] at this
      exact small1000 (by omega)
    have sk := si.trans (same_mut (o := .dK (putK kd' (Sum.inr "zz") (.ref c))) (sj.trans (same_upd (o := .tup [.int 0]) hc)) fD')
    generalize hHk : upd (upd Hj c (.tup [.int 0])) D' (.dK (putK kd' (Sum.inr "zz") (.ref c))) = Hk at sk
    have O6 := O3.same sk
    refine ⟨_, rfl, x, dx, _, rfl, O6.ob, x, ts, ks, ss, _, _, rfl, ⟨dx, g1, g2, g3, O6⟩, fun D'' Hl fD'' ⟨kd'', eD'', _⟩ sl => ?_⟩
    refine ⟨_, rfl, .inr (.inr (.inl ⟨rfl, .inl ⟨_, eD''⟩⟩)), D'', _, rfl, rfl, eD'', ?_⟩
    have sm := sk.trans (same_mut (o := .dK []) sl fD'')
    generalize hHm : upd Hl D'' (.dK []) = Hm at sm
    have O7 := O3.same sm
    have no : ∀ {m : Str}, ¬ m = "_services" → ¬ m = "_keys" → ¬ m = "_tables" → (fldsS g1 g2 g3).lookup m = none := fun h1 h2 h3 => flds_no _ _ _ h1 h2 h3
    refine ⟨_, rfl, x, dx, _, rfl, O7.ob, no (by decide +kernel) (by decide +kernel) (by decide +kernel), x, ts, ks, ss, _, _, rfl, ⟨dx, g1, g2, g3, O7⟩, fun l ys Hn fl el _ _ sn => ⟨.inl ⟨rfl, _, .of el⟩, l, _, rfl, rfl, el, ?_⟩⟩
    have so2 := sm.trans (same_mut (o := .lst []) sn fl)
    generalize hHo : upd Hn l (.lst []) = Ho at so2
    have O8 := O3.same so2
    refine ⟨_, rfl, x, dx, _, rfl, O8.ob, no (by decide +kernel) (by decide +kernel) (by decide +kernel), x, ts, ks, ss, _, _, rfl, ⟨dx, g1, g2, g3, O8⟩, fun l' ys' Hp fl' el' yp' _ sp => ⟨.inl ⟨rfl, _, .of el'⟩, l', _, _, rfl, rfl, el', ?_, ?_⟩⟩
    · rw [List.length_map, yp'.length_eq, hSv.nm.len]
      exact small1000 (by omega)
    have sq := so2.trans (same_mut (o := .lst (ys'.map V.str ++ [.str "zz"])) sp fl')
    generalize hHq : upd Hp l' (.lst (ys'.map V.str ++ [.str "zz"])) = Hq at sq
    have O9 := O3.same sq
    refine ⟨_, rfl, x, dx, _, rfl, O9.ob, no (by decide +kernel) (by decide +kernel) (by decide +kernel), x, ts, ks, ss, _, _, rfl, ⟨dx, g1, g2, g3, O9⟩, fun l'' ys'' Hr fl'' el'' yp'' _ sr => ⟨.inl ⟨rfl, _, .of el''⟩, l'', _, _, rfl, rfl, el'', ?_, ?_⟩⟩
    · rw [List.length_map]
      have l1 := List.length_filter_le (fun n => !whN ts ks ss n) ys''
      rw [yp''.length_eq, hSv.nm.len] at l1
      exact small1000 (by omega)
    have st := sq.trans (same_mut (o := .lst ((ys''.filter fun n => !whN ts ks ss n).map V.str ++ [.str "zz"])) sr fl'')
    generalize hHs : upd Hr l'' (.lst ((ys''.filter fun n => !whN ts ks ss n).map V.str ++ [.str "zz"])) = Hs at st
    have O10 := O3.same st
    exact ⟨_, rfl, _, rfl, _, rfl, _, rfl, _, rfl, x, t, k, v, o, ts, ks, ss, _, _, [sx, ""], rfl, ⟨dx, g1, g2, g3, O10⟩, st _ _ htf, st _ _ hkf, st _ _ hvf, st _ _ hof, Nat.le_refl 2, hlow, fun Ht _ => q Ht⟩
end
theorem all_mk {P : Program} {w : World} {K : PySem.W.Frag} {h : Heap} {mg : Str → Option Value} {fa : Addr} (X : K.In h) (G : h.Ns mainGlobals mg) (hfa : mg "law" = some (.ref fa))
    {f1300 : Addr} {od1300 an1300 : Option Addr} {sl1300 : Array (Option Value)} {oc1300 kV1300 dc1300 pm1300 cd1300 ct1300 : Value}
    {f7 : Addr} {od7 an7 : Option Addr} {sl7 : Array (Option Value)} {oc7 kV7 dc7 pm7 cd7 ct7 : Value}
    {f8 : Addr} {od8 an8 : Option Addr} {sl8 : Array (Option Value)} {oc8 kV8 dc8 pm8 cd8 ct8 : Value}
    {f14 : Addr} {od14 an14 : Option Addr} {sl14 : Array (Option Value)} {oc14 kV14 dc14 pm14 cd14 ct14 : Value}
    {f15 : Addr} {od15 an15 : Option Addr} {sl15 : Array (Option Value)} {oc15 kV15 dc15 pm15 cd15 ct15 : Value}
    {f16 : Addr} {od16 an16 : Option Addr} {sl16 : Array (Option Value)} {oc16 kV16 dc16 pm16 cd16 ct16 : Value}
    {f17 : Addr} {od17 an17 : Option Addr} {sl17 : Array (Option Value)} {oc17 kV17 dc17 pm17 cd17 ct17 : Value}
    {f18 : Addr} {od18 an18 : Option Addr} {sl18 : Array (Option Value)} {oc18 kV18 dc18 pm18 cd18 ct18 : Value}
    {f19 : Addr} {od19 an19 : Option Addr} {sl19 : Array (Option Value)} {oc19 kV19 dc19 pm19 cd19 ct19 : Value}
    {f20 : Addr} {od20 an20 : Option Addr} {sl20 : Array (Option Value)} {oc20 kV20 dc20 pm20 cd20 ct20 : Value}
    {f21 : Addr} {od21 an21 : Option Addr} {sl21 : Array (Option Value)} {oc21 kV21 dc21 pm21 cd21 ct21 : Value}
    {f22 : Addr} {od22 an22 : Option Addr} {sl22 : Array (Option Value)} {oc22 kV22 dc22 pm22 cd22 ct22 : Value}
    {f23 : Addr} {od23 an23 : Option Addr} {sl23 : Array (Option Value)} {oc23 kV23 dc23 pm23 cd23 ct23 : Value}
    {f24 : Addr} {od24 an24 : Option Addr} {sl24 : Array (Option Value)} {oc24 kV24 dc24 pm24 cd24 ct24 : Value}
    {f3500 : Addr} {od3500 an3500 : Option Addr} {sl3500 : Array (Option Value)} {oc3500 kV3500 dc3500 pm3500 cd3500 ct3500 : Value}
    {f3501 : Addr} {od3501 an3501 : Option Addr} {sl3501 : Array (Option Value)} {oc3501 kV3501 dc3501 pm3501 cd3501 ct3501 : Value}
    {f3502 : Addr} {od3502 an3502 : Option Addr} {sl3502 : Array (Option Value)} {oc3502 kV3502 dc3502 pm3502 cd3502 ct3502 : Value}
    {f3503 : Addr} {od3503 an3503 : Option Addr} {sl3503 : Array (Option Value)} {oc3503 kV3503 dc3503 pm3503 cd3503 ct3503 : Value}
    {f3505 : Addr} {od3505 an3505 : Option Addr} {sl3505 : Array (Option Value)} {oc3505 kV3505 dc3505 pm3505 cd3505 ct3505 : Value}
    {f3506 : Addr} {od3506 an3506 : Option Addr} {sl3506 : Array (Option Value)} {oc3506 kV3506 dc3506 pm3506 cd3506 ct3506 : Value}
    {f3507 : Addr} {od3507 an3507 : Option Addr} {sl3507 : Array (Option Value)} {oc3507 kV3507 dc3507 pm3507 cd3507 ct3507 : Value}
    {f3508 : Addr} {od3508 an3508 : Option Addr} {sl3508 : Array (Option Value)} {oc3508 kV3508 dc3508 pm3508 cd3508 ct3508 : Value}
    {f3509 : Addr} {od3509 an3509 : Option Addr} {sl3509 : Array (Option Value)} {oc3509 kV3509 dc3509 pm3509 cd3509 ct3509 : Value}
    {f3510 : Addr} {od3510 an3510 : Option Addr} {sl3510 : Array (Option Value)} {oc3510 kV3510 dc3510 pm3510 cd3510 ct3510 : Value}
    {f3511 : Addr} {od3511 an3511 : Option Addr} {sl3511 : Array (Option Value)} {oc3511 kV3511 dc3511 pm3511 cd3511 ct3511 : Value}
    {f27 : Addr} {od27 an27 : Option Addr} {sl27 : Array (Option Value)} {oc27 kV27 dc27 pm27 cd27 ct27 : Value}
    {f28 : Addr} {od28 an28 : Option Addr} {sl28 : Array (Option Value)} {oc28 kV28 dc28 pm28 cd28 ct28 : Value}
    {f29 : Addr} {od29 an29 : Option Addr} {sl29 : Array (Option Value)} {oc29 kV29 dc29 pm29 cd29 ct29 : Value}
    {f30 : Addr} {od30 an30 : Option Addr} {sl30 : Array (Option Value)} {oc30 kV30 dc30 pm30 cd30 ct30 : Value}
    {f31 : Addr} {od31 an31 : Option Addr} {sl31 : Array (Option Value)} {oc31 kV31 dc31 pm31 cd31 ct31 : Value}
    {f32 : Addr} {od32 an32 : Option Addr} {sl32 : Array (Option Value)} {oc32 kV32 dc32 pm32 cd32 ct32 : Value}
    {f33 : Addr} {od33 an33 : Option Addr} {sl33 : Array (Option Value)} {oc33 kV33 dc33 pm33 cd33 ct33 : Value}
    {f34 : Addr} {od34 an34 : Option Addr} {sl34 : Array (Option Value)} {oc34 kV34 dc34 pm34 cd34 ct34 : Value}
    {f35 : Addr} {od35 an35 : Option Addr} {sl35 : Array (Option Value)} {oc35 kV35 dc35 pm35 cd35 ct35 : Value}
    {f36 : Addr} {od36 an36 : Option Addr} {sl36 : Array (Option Value)} {oc36 kV36 dc36 pm36 cd36 ct36 : Value}
    {f37 : Addr} {od37 an37 : Option Addr} {sl37 : Array (Option Value)} {oc37 kV37 dc37 pm37 cd37 ct37 : Value}
    {f38 : Addr} {od38 an38 : Option Addr} {sl38 : Array (Option Value)} {oc38 kV38 dc38 pm38 cd38 ct38 : Value}
    {f39 : Addr} {od39 an39 : Option Addr} {sl39 : Array (Option Value)} {oc39 kV39 dc39 pm39 cd39 ct39 : Value}
    {f40 : Addr} {od40 an40 : Option Addr} {sl40 : Array (Option Value)} {oc40 kV40 dc40 pm40 cd40 ct40 : Value}
    {f2 : Addr}
    {nm_2 qn_2 : Str} {N_2 : Addr} {bs_2 : List Value} {sn_2 : List Str} {sub_2 : List Value} {ab_2 : Bool} {col_2 : Option Bool} {dd_2 : Option Addr} {m0_2 m1_2 m2_2 m3_2 m5_2 : Option Value}
    {f3 : Addr}
    {nm_3 qn_3 : Str} {N_3 : Addr} {bs_3 : List Value} {sn_3 : List Str} {sub_3 : List Value} {ab_3 : Bool} {col_3 : Option Bool} {dd_3 : Option Addr} {m0_3 m1_3 m2_3 m3_3 m5_3 : Option Value}
    {f25 : Addr}
    {f53501 : Addr} {rest3501 : List Value}
    {f53502 : Addr} {rest3502 : List Value}
    {f53503 : Addr} {rest3503 : List Value}
    (ac_2 : PySem.W.nsIn K mainGlobals "CappedError" = some (some (.ref f2)))
    (ac_3 : PySem.W.nsIn K mainGlobals "UnknownName" = some (some (.ref f3)))
    (ac_25 : PySem.W.nsIn K mainGlobals "Schema" = some (some (.ref f25)))
    (fi_3 : PySem.W.findIn K (.ref f3) "__init__" = some (some (.ref f1300)))
    (fi_25 : PySem.W.findIn K (.ref f25) "__init__" = some (some (.ref f3500)))
    (ma_3505 : PySem.W.findIn K (.ref f25) "table_names" = some (some (.ref f3505)))
    (ma_3506 : PySem.W.findIn K (.ref f25) "service_names" = some (some (.ref f3506)))
    (ma_3507 : PySem.W.findIn K (.ref f25) "capped_names" = some (some (.ref f3507)))
    (ma_3508 : PySem.W.findIn K (.ref f25) "width_of" = some (some (.ref f3508)))
    (ma_3509 : PySem.W.findIn K (.ref f25) "key_of" = some (some (.ref f3509)))
    (ma_3510 : PySem.W.findIn K (.ref f25) "service_of" = some (some (.ref f3510)))
    (ma_3511 : PySem.W.findIn K (.ref f25) "is_whole" = some (some (.ref f3511)))
    (pa_3501 : PySem.W.findIn K (.ref f25) "tables" = some (some (.ref f53501)))
    (pa_3502 : PySem.W.findIn K (.ref f25) "key_columns" = some (some (.ref f53502)))
    (pa_3503 : PySem.W.findIn K (.ref f25) "services" = some (some (.ref f53503)))
    (pd_3501 : PySem.W.recIn K f53501 "property" = some (.ref f3501 :: rest3501))
    (pd_3502 : PySem.W.recIn K f53502 "property" = some (.ref f3502 :: rest3502))
    (pd_3503 : PySem.W.recIn K f53503 "property" = some (.ref f3503 :: rest3503))
    (l1300 : K.lookup f1300 = some ⟨oc1300, od1300, .func (PySem.W.fnOf "__init__" "UnknownName.__init__" (defArgs s_UnknownName___init__) (defBody s_UnknownName___init__) (defScope s_UnknownName___init__) .none kV1300 dc1300 pm1300 an1300 cd1300 ct1300), sl1300⟩) (c1300 : PySem.W.codeIn K cd1300 "UnknownName.__init__" = true) (k1300 : PySem.W.keepIn K (.ref f1300) = true)
    (a7 : PySem.W.nsIn K mainGlobals "is_plain_int" = some (some (.ref f7))) (l7 : K.lookup f7 = some ⟨oc7, od7, .func (PySem.W.fnOf "is_plain_int" "is_plain_int" (defArgs s_is_plain_int) (defBody s_is_plain_int) (defScope s_is_plain_int) .none kV7 dc7 pm7 an7 cd7 ct7), sl7⟩) (c7 : PySem.W.codeIn K cd7 "is_plain_int" = true) (k7 : PySem.W.keepIn K (.ref f7) = true)
    (a8 : PySem.W.nsIn K mainGlobals "is_word" = some (some (.ref f8))) (l8 : K.lookup f8 = some ⟨oc8, od8, .func (PySem.W.fnOf "is_word" "is_word" (defArgs s_is_word) (defBody s_is_word) (defScope s_is_word) .none kV8 dc8 pm8 an8 cd8 ct8), sl8⟩) (c8 : PySem.W.codeIn K cd8 "is_word" = true) (k8 : PySem.W.keepIn K (.ref f8) = true)
    (a14 : PySem.W.nsIn K mainGlobals "_is_count" = some (some (.ref f14))) (l14 : K.lookup f14 = some ⟨oc14, od14, .func (PySem.W.fnOf "_is_count" "_is_count" (defArgs s__is_count) (defBody s__is_count) (defScope s__is_count) .none kV14 dc14 pm14 an14 cd14 ct14), sl14⟩) (c14 : PySem.W.codeIn K cd14 "_is_count" = true) (k14 : PySem.W.keepIn K (.ref f14) = true)
    (a15 : PySem.W.nsIn K mainGlobals "_is_name_in" = some (some (.ref f15))) (l15 : K.lookup f15 = some ⟨oc15, od15, .func (PySem.W.fnOf "_is_name_in" "_is_name_in" (defArgs s__is_name_in) (defBody s__is_name_in) (defScope s__is_name_in) .none kV15 dc15 pm15 an15 cd15 ct15), sl15⟩) (c15 : PySem.W.codeIn K cd15 "_is_name_in" = true) (k15 : PySem.W.keepIn K (.ref f15) = true)
    (a16 : PySem.W.nsIn K mainGlobals "_are_columns" = some (some (.ref f16))) (l16 : K.lookup f16 = some ⟨oc16, od16, .func (PySem.W.fnOf "_are_columns" "_are_columns" (defArgs s__are_columns) (defBody s__are_columns) (defScope s__are_columns) .none kV16 dc16 pm16 an16 cd16 ct16), sl16⟩) (c16 : PySem.W.codeIn K cd16 "_are_columns" = true) (k16 : PySem.W.keepIn K (.ref f16) = true)
    (a17 : PySem.W.nsIn K mainGlobals "_is_key" = some (some (.ref f17))) (l17 : K.lookup f17 = some ⟨oc17, od17, .func (PySem.W.fnOf "_is_key" "_is_key" (defArgs s__is_key) (defBody s__is_key) (defScope s__is_key) .none kV17 dc17 pm17 an17 cd17 ct17), sl17⟩) (c17 : PySem.W.codeIn K cd17 "_is_key" = true) (k17 : PySem.W.keepIn K (.ref f17) = true)
    (a18 : PySem.W.nsIn K mainGlobals "_is_service" = some (some (.ref f18))) (l18 : K.lookup f18 = some ⟨oc18, od18, .func (PySem.W.fnOf "_is_service" "_is_service" (defArgs s__is_service) (defBody s__is_service) (defScope s__is_service) .none kV18 dc18 pm18 an18 cd18 ct18), sl18⟩) (c18 : PySem.W.codeIn K cd18 "_is_service" = true) (k18 : PySem.W.keepIn K (.ref f18) = true)
    (a19 : PySem.W.nsIn K mainGlobals "_is_whole_service" = some (some (.ref f19))) (l19 : K.lookup f19 = some ⟨oc19, od19, .func (PySem.W.fnOf "_is_whole_service" "_is_whole_service" (defArgs s__is_whole_service) (defBody s__is_whole_service) (defScope s__is_whole_service) .none kV19 dc19 pm19 an19 cd19 ct19), sl19⟩) (c19 : PySem.W.codeIn K cd19 "_is_whole_service" = true) (k19 : PySem.W.keepIn K (.ref f19) = true)
    (a20 : PySem.W.nsIn K mainGlobals "_check_tables" = some (some (.ref f20))) (l20 : K.lookup f20 = some ⟨oc20, od20, .func (PySem.W.fnOf "_check_tables" "_check_tables" (defArgs s__check_tables) (defBody s__check_tables) (defScope s__check_tables) .none kV20 dc20 pm20 an20 cd20 ct20), sl20⟩) (c20 : PySem.W.codeIn K cd20 "_check_tables" = true) (k20 : PySem.W.keepIn K (.ref f20) = true)
    (a21 : PySem.W.nsIn K mainGlobals "_check_keys" = some (some (.ref f21))) (l21 : K.lookup f21 = some ⟨oc21, od21, .func (PySem.W.fnOf "_check_keys" "_check_keys" (defArgs s__check_keys) (defBody s__check_keys) (defScope s__check_keys) .none kV21 dc21 pm21 an21 cd21 ct21), sl21⟩) (c21 : PySem.W.codeIn K cd21 "_check_keys" = true) (k21 : PySem.W.keepIn K (.ref f21) = true)
    (a22 : PySem.W.nsIn K mainGlobals "_check_services" = some (some (.ref f22))) (l22 : K.lookup f22 = some ⟨oc22, od22, .func (PySem.W.fnOf "_check_services" "_check_services" (defArgs s__check_services) (defBody s__check_services) (defScope s__check_services) .none kV22 dc22 pm22 an22 cd22 ct22), sl22⟩) (c22 : PySem.W.codeIn K cd22 "_check_services" = true) (k22 : PySem.W.keepIn K (.ref f22) = true)
    (a23 : PySem.W.nsIn K mainGlobals "_check_capped" = some (some (.ref f23))) (l23 : K.lookup f23 = some ⟨oc23, od23, .func (PySem.W.fnOf "_check_capped" "_check_capped" (defArgs s__check_capped) (defBody s__check_capped) (defScope s__check_capped) .none kV23 dc23 pm23 an23 cd23 ct23), sl23⟩) (c23 : PySem.W.codeIn K cd23 "_check_capped" = true) (k23 : PySem.W.keepIn K (.ref f23) = true)
    (a24 : PySem.W.nsIn K mainGlobals "_copied" = some (some (.ref f24))) (l24 : K.lookup f24 = some ⟨oc24, od24, .func (PySem.W.fnOf "_copied" "_copied" (defArgs s__copied) (defBody s__copied) (defScope s__copied) .none kV24 dc24 pm24 an24 cd24 ct24), sl24⟩) (c24 : PySem.W.codeIn K cd24 "_copied" = true) (k24 : PySem.W.keepIn K (.ref f24) = true)
    (l3500 : K.lookup f3500 = some ⟨oc3500, od3500, .func (PySem.W.fnOf "__init__" "Schema.__init__" (defArgs s_Schema___init__) (defBody s_Schema___init__) (defScope s_Schema___init__) .none kV3500 dc3500 pm3500 an3500 cd3500 ct3500), sl3500⟩) (c3500 : PySem.W.codeIn K cd3500 "Schema.__init__" = true) (k3500 : PySem.W.keepIn K (.ref f3500) = true)
    (l3501 : K.lookup f3501 = some ⟨oc3501, od3501, .func (PySem.W.fnOf "tables" "Schema.tables" (defArgs s_Schema_tables) (defBody s_Schema_tables) (defScope s_Schema_tables) .none kV3501 dc3501 pm3501 an3501 cd3501 ct3501), sl3501⟩) (c3501 : PySem.W.codeIn K cd3501 "Schema.tables" = true) (k3501 : PySem.W.keepIn K (.ref f3501) = true)
    (l3502 : K.lookup f3502 = some ⟨oc3502, od3502, .func (PySem.W.fnOf "key_columns" "Schema.key_columns" (defArgs s_Schema_key_columns) (defBody s_Schema_key_columns) (defScope s_Schema_key_columns) .none kV3502 dc3502 pm3502 an3502 cd3502 ct3502), sl3502⟩) (c3502 : PySem.W.codeIn K cd3502 "Schema.key_columns" = true) (k3502 : PySem.W.keepIn K (.ref f3502) = true)
    (l3503 : K.lookup f3503 = some ⟨oc3503, od3503, .func (PySem.W.fnOf "services" "Schema.services" (defArgs s_Schema_services) (defBody s_Schema_services) (defScope s_Schema_services) .none kV3503 dc3503 pm3503 an3503 cd3503 ct3503), sl3503⟩) (c3503 : PySem.W.codeIn K cd3503 "Schema.services" = true) (k3503 : PySem.W.keepIn K (.ref f3503) = true)
    (l3505 : K.lookup f3505 = some ⟨oc3505, od3505, .func (PySem.W.fnOf "table_names" "Schema.table_names" (defArgs s_Schema_table_names) (defBody s_Schema_table_names) (defScope s_Schema_table_names) .none kV3505 dc3505 pm3505 an3505 cd3505 ct3505), sl3505⟩) (c3505 : PySem.W.codeIn K cd3505 "Schema.table_names" = true) (k3505 : PySem.W.keepIn K (.ref f3505) = true)
    (l3506 : K.lookup f3506 = some ⟨oc3506, od3506, .func (PySem.W.fnOf "service_names" "Schema.service_names" (defArgs s_Schema_service_names) (defBody s_Schema_service_names) (defScope s_Schema_service_names) .none kV3506 dc3506 pm3506 an3506 cd3506 ct3506), sl3506⟩) (c3506 : PySem.W.codeIn K cd3506 "Schema.service_names" = true) (k3506 : PySem.W.keepIn K (.ref f3506) = true)
    (l3507 : K.lookup f3507 = some ⟨oc3507, od3507, .func (PySem.W.fnOf "capped_names" "Schema.capped_names" (defArgs s_Schema_capped_names) (defBody s_Schema_capped_names) (defScope s_Schema_capped_names) .none kV3507 dc3507 pm3507 an3507 cd3507 ct3507), sl3507⟩) (c3507 : PySem.W.codeIn K cd3507 "Schema.capped_names" = true) (k3507 : PySem.W.keepIn K (.ref f3507) = true)
    (l3508 : K.lookup f3508 = some ⟨oc3508, od3508, .func (PySem.W.fnOf "width_of" "Schema.width_of" (defArgs s_Schema_width_of) (defBody s_Schema_width_of) (defScope s_Schema_width_of) .none kV3508 dc3508 pm3508 an3508 cd3508 ct3508), sl3508⟩) (c3508 : PySem.W.codeIn K cd3508 "Schema.width_of" = true) (k3508 : PySem.W.keepIn K (.ref f3508) = true)
    (l3509 : K.lookup f3509 = some ⟨oc3509, od3509, .func (PySem.W.fnOf "key_of" "Schema.key_of" (defArgs s_Schema_key_of) (defBody s_Schema_key_of) (defScope s_Schema_key_of) .none kV3509 dc3509 pm3509 an3509 cd3509 ct3509), sl3509⟩) (c3509 : PySem.W.codeIn K cd3509 "Schema.key_of" = true) (k3509 : PySem.W.keepIn K (.ref f3509) = true)
    (l3510 : K.lookup f3510 = some ⟨oc3510, od3510, .func (PySem.W.fnOf "service_of" "Schema.service_of" (defArgs s_Schema_service_of) (defBody s_Schema_service_of) (defScope s_Schema_service_of) .none kV3510 dc3510 pm3510 an3510 cd3510 ct3510), sl3510⟩) (c3510 : PySem.W.codeIn K cd3510 "Schema.service_of" = true) (k3510 : PySem.W.keepIn K (.ref f3510) = true)
    (l3511 : K.lookup f3511 = some ⟨oc3511, od3511, .func (PySem.W.fnOf "is_whole" "Schema.is_whole" (defArgs s_Schema_is_whole) (defBody s_Schema_is_whole) (defScope s_Schema_is_whole) .none kV3511 dc3511 pm3511 an3511 cd3511 ct3511), sl3511⟩) (c3511 : PySem.W.codeIn K cd3511 "Schema.is_whole" = true) (k3511 : PySem.W.keepIn K (.ref f3511) = true)
    (a27 : PySem.W.nsIn K mainGlobals "_law_pool" = some (some (.ref f27))) (l27 : K.lookup f27 = some ⟨oc27, od27, .func (PySem.W.fnOf "_law_pool" "_law_pool" (defArgs s__law_pool) (defBody s__law_pool) (defScope s__law_pool) .none kV27 dc27 pm27 an27 cd27 ct27), sl27⟩) (c27 : PySem.W.codeIn K cd27 "_law_pool" = true) (k27 : PySem.W.keepIn K (.ref f27) = true)
    (a28 : PySem.W.nsIn K mainGlobals "_law_mixed" = some (some (.ref f28))) (l28 : K.lookup f28 = some ⟨oc28, od28, .func (PySem.W.fnOf "_law_mixed" "_law_mixed" (defArgs s__law_mixed) (defBody s__law_mixed) (defScope s__law_mixed) .none kV28 dc28 pm28 an28 cd28 ct28), sl28⟩) (c28 : PySem.W.codeIn K cd28 "_law_mixed" = true) (k28 : PySem.W.keepIn K (.ref f28) = true)
    (a29 : PySem.W.nsIn K mainGlobals "_law_draw" = some (some (.ref f29))) (l29 : K.lookup f29 = some ⟨oc29, od29, .func (PySem.W.fnOf "_law_draw" "_law_draw" (defArgs s__law_draw) (defBody s__law_draw) (defScope s__law_draw) .none kV29 dc29 pm29 an29 cd29 ct29), sl29⟩) (c29 : PySem.W.codeIn K cd29 "_law_draw" = true) (k29 : PySem.W.keepIn K (.ref f29) = true)
    (a30 : PySem.W.nsIn K mainGlobals "_law_word" = some (some (.ref f30))) (l30 : K.lookup f30 = some ⟨oc30, od30, .func (PySem.W.fnOf "_law_word" "_law_word" (defArgs s__law_word) (defBody s__law_word) (defScope s__law_word) .none kV30 dc30 pm30 an30 cd30 ct30), sl30⟩) (c30 : PySem.W.codeIn K cd30 "_law_word" = true) (k30 : PySem.W.keepIn K (.ref f30) = true)
    (a31 : PySem.W.nsIn K mainGlobals "_law_names" = some (some (.ref f31))) (l31 : K.lookup f31 = some ⟨oc31, od31, .func (PySem.W.fnOf "_law_names" "_law_names" (defArgs s__law_names) (defBody s__law_names) (defScope s__law_names) .none kV31 dc31 pm31 an31 cd31 ct31), sl31⟩) (c31 : PySem.W.codeIn K cd31 "_law_names" = true) (k31 : PySem.W.keepIn K (.ref f31) = true)
    (a32 : PySem.W.nsIn K mainGlobals "_law_columns" = some (some (.ref f32))) (l32 : K.lookup f32 = some ⟨oc32, od32, .func (PySem.W.fnOf "_law_columns" "_law_columns" (defArgs s__law_columns) (defBody s__law_columns) (defScope s__law_columns) .none kV32 dc32 pm32 an32 cd32 ct32), sl32⟩) (c32 : PySem.W.codeIn K cd32 "_law_columns" = true) (k32 : PySem.W.keepIn K (.ref f32) = true)
    (a33 : PySem.W.nsIn K mainGlobals "_law_tables" = some (some (.ref f33))) (l33 : K.lookup f33 = some ⟨oc33, od33, .func (PySem.W.fnOf "_law_tables" "_law_tables" (defArgs s__law_tables) (defBody s__law_tables) (defScope s__law_tables) .none kV33 dc33 pm33 an33 cd33 ct33), sl33⟩) (c33 : PySem.W.codeIn K cd33 "_law_tables" = true) (k33 : PySem.W.keepIn K (.ref f33) = true)
    (a34 : PySem.W.nsIn K mainGlobals "_law_keys" = some (some (.ref f34))) (l34 : K.lookup f34 = some ⟨oc34, od34, .func (PySem.W.fnOf "_law_keys" "_law_keys" (defArgs s__law_keys) (defBody s__law_keys) (defScope s__law_keys) .none kV34 dc34 pm34 an34 cd34 ct34), sl34⟩) (c34 : PySem.W.codeIn K cd34 "_law_keys" = true) (k34 : PySem.W.keepIn K (.ref f34) = true)
    (a35 : PySem.W.nsIn K mainGlobals "_law_is_whole" = some (some (.ref f35))) (l35 : K.lookup f35 = some ⟨oc35, od35, .func (PySem.W.fnOf "_law_is_whole" "_law_is_whole" (defArgs s__law_is_whole) (defBody s__law_is_whole) (defScope s__law_is_whole) .none kV35 dc35 pm35 an35 cd35 ct35), sl35⟩) (c35 : PySem.W.codeIn K cd35 "_law_is_whole" = true) (k35 : PySem.W.keepIn K (.ref f35) = true)
    (a36 : PySem.W.nsIn K mainGlobals "_law_services" = some (some (.ref f36))) (l36 : K.lookup f36 = some ⟨oc36, od36, .func (PySem.W.fnOf "_law_services" "_law_services" (defArgs s__law_services) (defBody s__law_services) (defScope s__law_services) .none kV36 dc36 pm36 an36 cd36 ct36), sl36⟩) (c36 : PySem.W.codeIn K cd36 "_law_services" = true) (k36 : PySem.W.keepIn K (.ref f36) = true)
    (a37 : PySem.W.nsIn K mainGlobals "_law_asked" = some (some (.ref f37))) (l37 : K.lookup f37 = some ⟨oc37, od37, .func (PySem.W.fnOf "_law_asked" "_law_asked" (defArgs s__law_asked) (defBody s__law_asked) (defScope s__law_asked) .none kV37 dc37 pm37 an37 cd37 ct37), sl37⟩) (c37 : PySem.W.codeIn K cd37 "_law_asked" = true) (k37 : PySem.W.keepIn K (.ref f37) = true)
    (a38 : PySem.W.nsIn K mainGlobals "_law_due" = some (some (.ref f38))) (l38 : K.lookup f38 = some ⟨oc38, od38, .func (PySem.W.fnOf "_law_due" "_law_due" (defArgs s__law_due) (defBody s__law_due) (defScope s__law_due) .none kV38 dc38 pm38 an38 cd38 ct38), sl38⟩) (c38 : PySem.W.codeIn K cd38 "_law_due" = true) (k38 : PySem.W.keepIn K (.ref f38) = true)
    (a39 : PySem.W.nsIn K mainGlobals "_law_holds" = some (some (.ref f39))) (l39 : K.lookup f39 = some ⟨oc39, od39, .func (PySem.W.fnOf "_law_holds" "_law_holds" (defArgs s__law_holds) (defBody s__law_holds) (defScope s__law_holds) .none kV39 dc39 pm39 an39 cd39 ct39), sl39⟩) (c39 : PySem.W.codeIn K cd39 "_law_holds" = true) (k39 : PySem.W.keepIn K (.ref f39) = true)
    (a40 : PySem.W.nsIn K mainGlobals "law" = some (some (.ref f40))) (l40 : K.lookup f40 = some ⟨oc40, od40, .func (PySem.W.fnOf "law" "law" (defArgs s_law) (defBody s_law) (defScope s_law) .none kV40 dc40 pm40 an40 cd40 ct40), sl40⟩) (c40 : PySem.W.codeIn K cd40 "law" = true) (k40 : PySem.W.keepIn K (.ref f40) = true)
    (xl_2 : K.lookup f2 = some (excClassObj nm_2 qn_2 f2 N_2 bs_2 [.type "ValueError", .type "Exception", .type "BaseException", .type "object"] true sn_2 sub_2 ab_2 col_2 dd_2 m0_2 m1_2 m2_2 m3_2 m5_2 "ValueError.__new__"))
    (xs_2 : PySem.W.findIn K (.ref f2) "__setattr__" = some (some (.builtin "object.__setattr__")))
    (xe_2 : PySem.W.subIn K (.ref f2) (.type "BaseException") = some true)
    (xt_2 : PySem.W.typeIn K (.ref f2) = some (.type "type"))
    (xk_2 : PySem.W.keepIn K (.ref f2) = true)
    (ya_2 : PySem.W.findIn K (.ref f2) "__getattribute__" = some (some (.builtin "BaseException.__getattribute__")))
    (yg_2 : PySem.W.findIn K (.ref f2) "__getattr__" = some none)
    (yh_2 : PySem.W.hasDictIn K f2 = true)
    (za_2 : PySem.W.findIn K (.ref f2) "__class__" = some (some (.builtin "object.__class__")))
    (zn_2 : PySem.W.specialIn K (.builtin "object.__class__") "__get__" = some (some (.builtin "getset_descriptor.__get__")))
    (zt_2 : PySem.W.takesIn K (.builtin "object.__class__") = some true)
    (zm_2 : PySem.W.mroIn K f2 (.type "object") = some true)
    (xl_3 : K.lookup f3 = some (excClassObj nm_3 qn_3 f3 N_3 bs_3 [.ref f2, .type "ValueError", .type "Exception", .type "BaseException", .type "object"] true sn_3 sub_3 ab_3 col_3 dd_3 m0_3 m1_3 m2_3 m3_3 m5_3 "ValueError.__new__"))
    (xs_3 : PySem.W.findIn K (.ref f3) "__setattr__" = some (some (.builtin "object.__setattr__")))
    (xe_3 : PySem.W.subIn K (.ref f3) (.type "BaseException") = some true)
    (xt_3 : PySem.W.typeIn K (.ref f3) = some (.type "type"))
    (xk_3 : PySem.W.keepIn K (.ref f3) = true)
    (ya_3 : PySem.W.findIn K (.ref f3) "__getattribute__" = some (some (.builtin "BaseException.__getattribute__")))
    (yg_3 : PySem.W.findIn K (.ref f3) "__getattr__" = some none)
    (yh_3 : PySem.W.hasDictIn K f3 = true)
    (za_3 : PySem.W.findIn K (.ref f3) "__class__" = some (some (.builtin "object.__class__")))
    (zn_3 : PySem.W.specialIn K (.builtin "object.__class__") "__get__" = some (some (.builtin "getset_descriptor.__get__")))
    (zt_3 : PySem.W.takesIn K (.builtin "object.__class__") = some true)
    (zm_3 : PySem.W.mroIn K f3 (.type "object") = some true)
    (ty_3 : PySem.W.typeIn K (.ref f1300) = some (.type "function"))
    (na_3_name : PySem.W.findIn K (.ref f3) "name" = some none)
    (pg_25 : PySem.W.plainGet K f25 Str.empty = true)
    (hd_25 : PySem.W.hasDictIn K f25 = true)
    (po_25 : PySem.W.plainOver K f25 = true)
    (sa_25 : PySem.W.findIn K (.ref f25) "__setattr__" = some (some (.builtin "object.__setattr__")))
    (mk_25 : PySem.W.makesIn K f25 = true)
    (is_3500 : PySem.W.isFn K (.ref f3500) = true)
    (kc_25 : PySem.W.keepIn K (.ref f25) = true)
    (na_25__tables : PySem.W.findIn K (.ref f25) "_tables" = some none)
    (na_25__keys : PySem.W.findIn K (.ref f25) "_keys" = some none)
    (na_25__services : PySem.W.findIn K (.ref f25) "_services" = some none)
    (es_3_2 : PySem.W.subIn K (.ref f3) (.ref f2) = some true)
    (es_3_3 : PySem.W.subIn K (.ref f3) (.ref f3) = some true)
    (pb_3501 : PySem.W.specialIn K (.ref f53501) "__get__" = some (some (.builtin "property.__get__")))
    (pc_3501 : PySem.W.takesIn K (.ref f53501) = some true)
    (pb_3502 : PySem.W.specialIn K (.ref f53502) "__get__" = some (some (.builtin "property.__get__")))
    (pc_3502 : PySem.W.takesIn K (.ref f53502) = some true)
    (pb_3503 : PySem.W.specialIn K (.ref f53503) "__get__" = some (some (.builtin "property.__get__")))
    (pc_3503 : PySem.W.takesIn K (.ref f53503) = some true)
    (mi_3505 : PySem.W.isFn K (.ref f3505) = true)
    (mi_3506 : PySem.W.isFn K (.ref f3506) = true)
    (mi_3507 : PySem.W.isFn K (.ref f3507) = true)
    (mi_3508 : PySem.W.isFn K (.ref f3508) = true)
    (mi_3509 : PySem.W.isFn K (.ref f3509) = true)
    (mi_3510 : PySem.W.isFn K (.ref f3510) = true)
    (mi_3511 : PySem.W.isFn K (.ref f3511) = true)
    (z_abs : PySem.W.nsIn K mainGlobals "abs" = some none)
    (z_all : PySem.W.nsIn K mainGlobals "all" = some none)
    (z_bool : PySem.W.nsIn K mainGlobals "bool" = some none)
    (z_dict : PySem.W.nsIn K mainGlobals "dict" = some none)
    (z_int : PySem.W.nsIn K mainGlobals "int" = some none)
    (z_isinstance : PySem.W.nsIn K mainGlobals "isinstance" = some none)
    (z_len : PySem.W.nsIn K mainGlobals "len" = some none)
    (z_list : PySem.W.nsIn K mainGlobals "list" = some none)
    (z_range : PySem.W.nsIn K mainGlobals "range" = some none)
    (z_sorted : PySem.W.nsIn K mainGlobals "sorted" = some none)
    (z_str : PySem.W.nsIn K mainGlobals "str" = some none)
    (z_tuple : PySem.W.nsIn K mainGlobals "tuple" = some none)
    {t_LONGEST_WORD : Tok} (v_LONGEST_WORD : PySem.W.nsIn K mainGlobals "LONGEST_WORD" = some (some (.int (8) t_LONGEST_WORD)))
    {t_MOST_TABLES : Tok} (v_MOST_TABLES : PySem.W.nsIn K mainGlobals "MOST_TABLES" = some (some (.int (5) t_MOST_TABLES)))
    {t_MOST_WIDTH : Tok} (v_MOST_WIDTH : PySem.W.nsIn K mainGlobals "MOST_WIDTH" = some (some (.int (4) t_MOST_WIDTH)))
    {t_MOST_SERVICES : Tok} (v_MOST_SERVICES : PySem.W.nsIn K mainGlobals "MOST_SERVICES" = some (some (.int (8) t_MOST_SERVICES)))
    {t_MOST_CAP : Tok} (v_MOST_CAP : PySem.W.nsIn K mainGlobals "MOST_CAP" = some (some (.int (4) t_MOST_CAP)))
    : ∃ fd : FuncData, (∀ (s : Shared) (v : Value), BindsTo s fd ⟨[v], []⟩ [("_law_script", v)]) ∧ ∀ base : Heap, K.In base → base.Ns mainGlobals mg → FnOk P w K mg base CX0 9 fa fd ["_law_script"] (spLaw K) := by
  have e := hfa.symm.trans (PySem.W.mg_of X G a40)
  cases e
  have F1300 := fun_mk (st := s_UnknownName___init__) l1300 c1300 k1300
  have b1300 := F1300.binds (ps := ["self", "name"]) fun _ _ _ _ _ _ us hl => match us, hl with | [_, _], _ => rfl
  have F7 := fun_mk (st := s_is_plain_int) l7 c7 k7
  have b7 := F7.binds (ps := ["thing"]) fun _ _ _ _ _ _ us hl => match us, hl with | [_], _ => rfl
  have F8 := fun_mk (st := s_is_word) l8 c8 k8
  have b8 := F8.binds (ps := ["thing"]) fun _ _ _ _ _ _ us hl => match us, hl with | [_], _ => rfl
  have F14 := fun_mk (st := s__is_count) l14 c14 k14
  have b14 := F14.binds (ps := ["thing", "most"]) fun _ _ _ _ _ _ us hl => match us, hl with | [_, _], _ => rfl
  have F15 := fun_mk (st := s__is_name_in) l15 c15 k15
  have b15 := F15.binds (ps := ["thing", "names"]) fun _ _ _ _ _ _ us hl => match us, hl with | [_, _], _ => rfl
  have F16 := fun_mk (st := s__are_columns) l16 c16 k16
  have b16 := F16.binds (ps := ["thing", "width"]) fun _ _ _ _ _ _ us hl => match us, hl with | [_, _], _ => rfl
  have F17 := fun_mk (st := s__is_key) l17 c17 k17
  have b17 := F17.binds (ps := ["thing", "width"]) fun _ _ _ _ _ _ us hl => match us, hl with | [_, _], _ => rfl
  have F18 := fun_mk (st := s__is_service) l18 c18 k18
  have b18 := F18.binds (ps := ["thing", "tables"]) fun _ _ _ _ _ _ us hl => match us, hl with | [_, _], _ => rfl
  have F19 := fun_mk (st := s__is_whole_service) l19 c19 k19
  have b19 := F19.binds (ps := ["service", "tables", "keys"]) fun _ _ _ _ _ _ us hl => match us, hl with | [_, _, _], _ => rfl
  have F20 := fun_mk (st := s__check_tables) l20 c20 k20
  have b20 := F20.binds (ps := ["tables"]) fun _ _ _ _ _ _ us hl => match us, hl with | [_], _ => rfl
  have F21 := fun_mk (st := s__check_keys) l21 c21 k21
  have b21 := F21.binds (ps := ["keys", "tables"]) fun _ _ _ _ _ _ us hl => match us, hl with | [_, _], _ => rfl
  have F22 := fun_mk (st := s__check_services) l22 c22 k22
  have b22 := F22.binds (ps := ["services", "tables"]) fun _ _ _ _ _ _ us hl => match us, hl with | [_, _], _ => rfl
  have F23 := fun_mk (st := s__check_capped) l23 c23 k23
  have b23 := F23.binds (ps := ["services", "tables", "keys"]) fun _ _ _ _ _ _ us hl => match us, hl with | [_, _, _], _ => rfl
  have F24 := fun_mk (st := s__copied) l24 c24 k24
  have b24 := F24.binds (ps := ["things"]) fun _ _ _ _ _ _ us hl => match us, hl with | [_], _ => rfl
  have F3500 := fun_mk (st := s_Schema___init__) l3500 c3500 k3500
  have b3500 := F3500.binds (ps := ["self", "tables", "keys", "services"]) fun _ _ _ _ _ _ us hl => match us, hl with | [_, _, _, _], _ => rfl
  have F3501 := fun_mk (st := s_Schema_tables) l3501 c3501 k3501
  have b3501 := F3501.binds (ps := ["self"]) fun _ _ _ _ _ _ us hl => match us, hl with | [_], _ => rfl
  have F3502 := fun_mk (st := s_Schema_key_columns) l3502 c3502 k3502
  have b3502 := F3502.binds (ps := ["self"]) fun _ _ _ _ _ _ us hl => match us, hl with | [_], _ => rfl
  have F3503 := fun_mk (st := s_Schema_services) l3503 c3503 k3503
  have b3503 := F3503.binds (ps := ["self"]) fun _ _ _ _ _ _ us hl => match us, hl with | [_], _ => rfl
  have F3505 := fun_mk (st := s_Schema_table_names) l3505 c3505 k3505
  have b3505 := F3505.binds (ps := ["self"]) fun _ _ _ _ _ _ us hl => match us, hl with | [_], _ => rfl
  have F3506 := fun_mk (st := s_Schema_service_names) l3506 c3506 k3506
  have b3506 := F3506.binds (ps := ["self"]) fun _ _ _ _ _ _ us hl => match us, hl with | [_], _ => rfl
  have F3507 := fun_mk (st := s_Schema_capped_names) l3507 c3507 k3507
  have b3507 := F3507.binds (ps := ["self"]) fun _ _ _ _ _ _ us hl => match us, hl with | [_], _ => rfl
  have F3508 := fun_mk (st := s_Schema_width_of) l3508 c3508 k3508
  have b3508 := F3508.binds (ps := ["self", "table"]) fun _ _ _ _ _ _ us hl => match us, hl with | [_, _], _ => rfl
  have F3509 := fun_mk (st := s_Schema_key_of) l3509 c3509 k3509
  have b3509 := F3509.binds (ps := ["self", "table"]) fun _ _ _ _ _ _ us hl => match us, hl with | [_, _], _ => rfl
  have F3510 := fun_mk (st := s_Schema_service_of) l3510 c3510 k3510
  have b3510 := F3510.binds (ps := ["self", "name"]) fun _ _ _ _ _ _ us hl => match us, hl with | [_, _], _ => rfl
  have F3511 := fun_mk (st := s_Schema_is_whole) l3511 c3511 k3511
  have b3511 := F3511.binds (ps := ["self", "name"]) fun _ _ _ _ _ _ us hl => match us, hl with | [_, _], _ => rfl
  have F27 := fun_mk (st := s__law_pool) l27 c27 k27
  have b27 := F27.binds (ps := ["_law_script"]) fun _ _ _ _ _ _ us hl => match us, hl with | [_], _ => rfl
  have F28 := fun_mk (st := s__law_mixed) l28 c28 k28
  have b28 := F28.binds (ps := ["_law_seed", "_law_count"]) fun _ _ _ _ _ _ us hl => match us, hl with | [_, _], _ => rfl
  have F29 := fun_mk (st := s__law_draw) l29 c29 k29
  have b29 := F29.binds (ps := ["_law_pool_here", "_law_many"]) fun _ _ _ _ _ _ us hl => match us, hl with | [_, _], _ => rfl
  have F30 := fun_mk (st := s__law_word) l30 c30 k30
  have b30 := F30.binds (ps := ["_law_pool_here", "_law_many"]) fun _ _ _ _ _ _ us hl => match us, hl with | [_, _], _ => rfl
  have F31 := fun_mk (st := s__law_names) l31 c31 k31
  have b31 := F31.binds (ps := ["_law_pool_here", "_law_many"]) fun _ _ _ _ _ _ us hl => match us, hl with | [_, _], _ => rfl
  have F32 := fun_mk (st := s__law_columns) l32 c32 k32
  have b32 := F32.binds (ps := ["_law_pool_here", "_law_width", "_law_low", "_law_high"]) fun _ _ _ _ _ _ us hl => match us, hl with | [_, _, _, _], _ => rfl
  have F33 := fun_mk (st := s__law_tables) l33 c33 k33
  have b33 := F33.binds (ps := ["_law_pool_here", "_law_many", "_law_widest"]) fun _ _ _ _ _ _ us hl => match us, hl with | [_, _, _], _ => rfl
  have F34 := fun_mk (st := s__law_keys) l34 c34 k34
  have b34 := F34.binds (ps := ["_law_pool_here", "_law_tables_here"]) fun _ _ _ _ _ _ us hl => match us, hl with | [_, _], _ => rfl
  have F35 := fun_mk (st := s__law_is_whole) l35 c35 k35
  have b35 := F35.binds (ps := ["_law_tables_here", "_law_keys_here", "_law_told"]) fun _ _ _ _ _ _ us hl => match us, hl with | [_, _, _], _ => rfl
  have F36 := fun_mk (st := s__law_services) l36 c36 k36
  have b36 := F36.binds (ps := ["_law_pool_here", "_law_tables_here", "_law_keys_here", "_law_caps", "_law_more"]) fun _ _ _ _ _ _ us hl => match us, hl with | [_, _, _, _, _], _ => rfl
  have F37 := fun_mk (st := s__law_asked) l37 c37 k37
  have b37 := F37.binds (ps := ["_law_schema", "_law_name", "_law_which"]) fun _ _ _ _ _ _ us hl => match us, hl with | [_, _, _], _ => rfl
  have F38 := fun_mk (st := s__law_due) l38 c38 k38
  have b38 := F38.binds (ps := ["_law_tables_here", "_law_keys_here", "_law_services_here", "_law_name", "_law_which"]) fun _ _ _ _ _ _ us hl => match us, hl with | [_, _, _, _, _], _ => rfl
  have F39 := fun_mk (st := s__law_holds) l39 c39 k39
  have b39 := F39.binds (ps := ["_law_schema", "_law_tables_here", "_law_keys_here", "_law_services_here", "_law_others"]) fun _ _ _ _ _ _ us hl => match us, hl with | [_, _, _, _, _], _ => rfl
  have F40 := fun_mk (st := s_law) l40 c40 k40
  have b40 := F40.binds (ps := ["_law_script"]) fun _ _ _ _ _ _ us hl => match us, hl with | [_], _ => rfl
  let aa : Nat → Addr := fun i => match i with
    | 2 => f2
    | 3 => f3
    | 7 => f7
    | 8 => f8
    | 14 => f14
    | 15 => f15
    | 16 => f16
    | 17 => f17
    | 18 => f18
    | 19 => f19
    | 20 => f20
    | 21 => f21
    | 22 => f22
    | 23 => f23
    | 24 => f24
    | 25 => f25
    | 27 => f27
    | 28 => f28
    | 29 => f29
    | 30 => f30
    | 31 => f31
    | 32 => f32
    | 33 => f33
    | 34 => f34
    | 35 => f35
    | 36 => f36
    | 37 => f37
    | 38 => f38
    | 39 => f39
    | 40 => fa
    | 1300 => f1300
    | 3500 => f3500
    | 3501 => f3501
    | 3502 => f3502
    | 3503 => f3503
    | 3505 => f3505
    | 3506 => f3506
    | 3507 => f3507
    | 3508 => f3508
    | 3509 => f3509
    | 3510 => f3510
    | 3511 => f3511
    | 53501 => f53501
    | 53502 => f53502
    | 53503 => f53503
    | _ => 0
  let dd : Nat → FuncData := fun i => match i with
    | 7 => PySem.W.fnOf "is_plain_int" "is_plain_int" (defArgs s_is_plain_int) (defBody s_is_plain_int) (defScope s_is_plain_int) .none kV7 dc7 pm7 an7 cd7 ct7
    | 8 => PySem.W.fnOf "is_word" "is_word" (defArgs s_is_word) (defBody s_is_word) (defScope s_is_word) .none kV8 dc8 pm8 an8 cd8 ct8
    | 14 => PySem.W.fnOf "_is_count" "_is_count" (defArgs s__is_count) (defBody s__is_count) (defScope s__is_count) .none kV14 dc14 pm14 an14 cd14 ct14
    | 15 => PySem.W.fnOf "_is_name_in" "_is_name_in" (defArgs s__is_name_in) (defBody s__is_name_in) (defScope s__is_name_in) .none kV15 dc15 pm15 an15 cd15 ct15
    | 16 => PySem.W.fnOf "_are_columns" "_are_columns" (defArgs s__are_columns) (defBody s__are_columns) (defScope s__are_columns) .none kV16 dc16 pm16 an16 cd16 ct16
    | 17 => PySem.W.fnOf "_is_key" "_is_key" (defArgs s__is_key) (defBody s__is_key) (defScope s__is_key) .none kV17 dc17 pm17 an17 cd17 ct17
    | 18 => PySem.W.fnOf "_is_service" "_is_service" (defArgs s__is_service) (defBody s__is_service) (defScope s__is_service) .none kV18 dc18 pm18 an18 cd18 ct18
    | 19 => PySem.W.fnOf "_is_whole_service" "_is_whole_service" (defArgs s__is_whole_service) (defBody s__is_whole_service) (defScope s__is_whole_service) .none kV19 dc19 pm19 an19 cd19 ct19
    | 20 => PySem.W.fnOf "_check_tables" "_check_tables" (defArgs s__check_tables) (defBody s__check_tables) (defScope s__check_tables) .none kV20 dc20 pm20 an20 cd20 ct20
    | 21 => PySem.W.fnOf "_check_keys" "_check_keys" (defArgs s__check_keys) (defBody s__check_keys) (defScope s__check_keys) .none kV21 dc21 pm21 an21 cd21 ct21
    | 22 => PySem.W.fnOf "_check_services" "_check_services" (defArgs s__check_services) (defBody s__check_services) (defScope s__check_services) .none kV22 dc22 pm22 an22 cd22 ct22
    | 23 => PySem.W.fnOf "_check_capped" "_check_capped" (defArgs s__check_capped) (defBody s__check_capped) (defScope s__check_capped) .none kV23 dc23 pm23 an23 cd23 ct23
    | 24 => PySem.W.fnOf "_copied" "_copied" (defArgs s__copied) (defBody s__copied) (defScope s__copied) .none kV24 dc24 pm24 an24 cd24 ct24
    | 27 => PySem.W.fnOf "_law_pool" "_law_pool" (defArgs s__law_pool) (defBody s__law_pool) (defScope s__law_pool) .none kV27 dc27 pm27 an27 cd27 ct27
    | 28 => PySem.W.fnOf "_law_mixed" "_law_mixed" (defArgs s__law_mixed) (defBody s__law_mixed) (defScope s__law_mixed) .none kV28 dc28 pm28 an28 cd28 ct28
    | 29 => PySem.W.fnOf "_law_draw" "_law_draw" (defArgs s__law_draw) (defBody s__law_draw) (defScope s__law_draw) .none kV29 dc29 pm29 an29 cd29 ct29
    | 30 => PySem.W.fnOf "_law_word" "_law_word" (defArgs s__law_word) (defBody s__law_word) (defScope s__law_word) .none kV30 dc30 pm30 an30 cd30 ct30
    | 31 => PySem.W.fnOf "_law_names" "_law_names" (defArgs s__law_names) (defBody s__law_names) (defScope s__law_names) .none kV31 dc31 pm31 an31 cd31 ct31
    | 32 => PySem.W.fnOf "_law_columns" "_law_columns" (defArgs s__law_columns) (defBody s__law_columns) (defScope s__law_columns) .none kV32 dc32 pm32 an32 cd32 ct32
    | 33 => PySem.W.fnOf "_law_tables" "_law_tables" (defArgs s__law_tables) (defBody s__law_tables) (defScope s__law_tables) .none kV33 dc33 pm33 an33 cd33 ct33
    | 34 => PySem.W.fnOf "_law_keys" "_law_keys" (defArgs s__law_keys) (defBody s__law_keys) (defScope s__law_keys) .none kV34 dc34 pm34 an34 cd34 ct34
    | 35 => PySem.W.fnOf "_law_is_whole" "_law_is_whole" (defArgs s__law_is_whole) (defBody s__law_is_whole) (defScope s__law_is_whole) .none kV35 dc35 pm35 an35 cd35 ct35
    | 36 => PySem.W.fnOf "_law_services" "_law_services" (defArgs s__law_services) (defBody s__law_services) (defScope s__law_services) .none kV36 dc36 pm36 an36 cd36 ct36
    | 37 => PySem.W.fnOf "_law_asked" "_law_asked" (defArgs s__law_asked) (defBody s__law_asked) (defScope s__law_asked) .none kV37 dc37 pm37 an37 cd37 ct37
    | 38 => PySem.W.fnOf "_law_due" "_law_due" (defArgs s__law_due) (defBody s__law_due) (defScope s__law_due) .none kV38 dc38 pm38 an38 cd38 ct38
    | 39 => PySem.W.fnOf "_law_holds" "_law_holds" (defArgs s__law_holds) (defBody s__law_holds) (defScope s__law_holds) .none kV39 dc39 pm39 an39 cd39 ct39
    | 40 => PySem.W.fnOf "law" "law" (defArgs s_law) (defBody s_law) (defScope s_law) .none kV40 dc40 pm40 an40 cd40 ct40
    | 1300 => PySem.W.fnOf "__init__" "UnknownName.__init__" (defArgs s_UnknownName___init__) (defBody s_UnknownName___init__) (defScope s_UnknownName___init__) .none kV1300 dc1300 pm1300 an1300 cd1300 ct1300
    | 3500 => PySem.W.fnOf "__init__" "Schema.__init__" (defArgs s_Schema___init__) (defBody s_Schema___init__) (defScope s_Schema___init__) .none kV3500 dc3500 pm3500 an3500 cd3500 ct3500
    | 3501 => PySem.W.fnOf "tables" "Schema.tables" (defArgs s_Schema_tables) (defBody s_Schema_tables) (defScope s_Schema_tables) .none kV3501 dc3501 pm3501 an3501 cd3501 ct3501
    | 3502 => PySem.W.fnOf "key_columns" "Schema.key_columns" (defArgs s_Schema_key_columns) (defBody s_Schema_key_columns) (defScope s_Schema_key_columns) .none kV3502 dc3502 pm3502 an3502 cd3502 ct3502
    | 3503 => PySem.W.fnOf "services" "Schema.services" (defArgs s_Schema_services) (defBody s_Schema_services) (defScope s_Schema_services) .none kV3503 dc3503 pm3503 an3503 cd3503 ct3503
    | 3505 => PySem.W.fnOf "table_names" "Schema.table_names" (defArgs s_Schema_table_names) (defBody s_Schema_table_names) (defScope s_Schema_table_names) .none kV3505 dc3505 pm3505 an3505 cd3505 ct3505
    | 3506 => PySem.W.fnOf "service_names" "Schema.service_names" (defArgs s_Schema_service_names) (defBody s_Schema_service_names) (defScope s_Schema_service_names) .none kV3506 dc3506 pm3506 an3506 cd3506 ct3506
    | 3507 => PySem.W.fnOf "capped_names" "Schema.capped_names" (defArgs s_Schema_capped_names) (defBody s_Schema_capped_names) (defScope s_Schema_capped_names) .none kV3507 dc3507 pm3507 an3507 cd3507 ct3507
    | 3508 => PySem.W.fnOf "width_of" "Schema.width_of" (defArgs s_Schema_width_of) (defBody s_Schema_width_of) (defScope s_Schema_width_of) .none kV3508 dc3508 pm3508 an3508 cd3508 ct3508
    | 3509 => PySem.W.fnOf "key_of" "Schema.key_of" (defArgs s_Schema_key_of) (defBody s_Schema_key_of) (defScope s_Schema_key_of) .none kV3509 dc3509 pm3509 an3509 cd3509 ct3509
    | 3510 => PySem.W.fnOf "service_of" "Schema.service_of" (defArgs s_Schema_service_of) (defBody s_Schema_service_of) (defScope s_Schema_service_of) .none kV3510 dc3510 pm3510 an3510 cd3510 ct3510
    | 3511 => PySem.W.fnOf "is_whole" "Schema.is_whole" (defArgs s_Schema_is_whole) (defBody s_Schema_is_whole) (defScope s_Schema_is_whole) .none kV3511 dc3511 pm3511 an3511 cd3511 ct3511
    | _ => PySem.W.fnOf "law" "law" (defArgs s_law) (defBody s_law) (defScope s_law) .none kV40 dc40 pm40 an40 cd40 ct40
  have T : Txt K mg aa dd := { F1300 := F1300, b1300 := b1300, F7 := F7, b7 := b7, g7 := PySem.W.mg_of X G a7, F8 := F8, b8 := b8, g8 := PySem.W.mg_of X G a8, F14 := F14, b14 := b14, g14 := PySem.W.mg_of X G a14, F15 := F15, b15 := b15, g15 := PySem.W.mg_of X G a15, F16 := F16, b16 := b16, g16 := PySem.W.mg_of X G a16, F17 := F17, b17 := b17, g17 := PySem.W.mg_of X G a17, F18 := F18, b18 := b18, g18 := PySem.W.mg_of X G a18, F19 := F19, b19 := b19, g19 := PySem.W.mg_of X G a19, F20 := F20, b20 := b20, g20 := PySem.W.mg_of X G a20, F21 := F21, b21 := b21, g21 := PySem.W.mg_of X G a21, F22 := F22, b22 := b22, g22 := PySem.W.mg_of X G a22, F23 := F23, b23 := b23, g23 := PySem.W.mg_of X G a23, F24 := F24, b24 := b24, g24 := PySem.W.mg_of X G a24, F3500 := F3500, b3500 := b3500, F3501 := F3501, b3501 := b3501, F3502 := F3502, b3502 := b3502, F3503 := F3503, b3503 := b3503, F3505 := F3505, b3505 := b3505, F3506 := F3506, b3506 := b3506, F3507 := F3507, b3507 := b3507, F3508 := F3508, b3508 := b3508, F3509 := F3509, b3509 := b3509, F3510 := F3510, b3510 := b3510, F3511 := F3511, b3511 := b3511, F27 := F27, b27 := b27, g27 := PySem.W.mg_of X G a27, F28 := F28, b28 := b28, g28 := PySem.W.mg_of X G a28, F29 := F29, b29 := b29, g29 := PySem.W.mg_of X G a29, F30 := F30, b30 := b30, g30 := PySem.W.mg_of X G a30, F31 := F31, b31 := b31, g31 := PySem.W.mg_of X G a31, F32 := F32, b32 := b32, g32 := PySem.W.mg_of X G a32, F33 := F33, b33 := b33, g33 := PySem.W.mg_of X G a33, F34 := F34, b34 := b34, g34 := PySem.W.mg_of X G a34, F35 := F35, b35 := b35, g35 := PySem.W.mg_of X G a35, F36 := F36, b36 := b36, g36 := PySem.W.mg_of X G a36, F37 := F37, b37 := b37, g37 := PySem.W.mg_of X G a37, F38 := F38, b38 := b38, g38 := PySem.W.mg_of X G a38, F39 := F39, b39 := b39, g39 := PySem.W.mg_of X G a39, F40 := F40, b40 := b40, g40 := PySem.W.mg_of X G a40, cg_2 := PySem.W.mg_of X G ac_2, x_2 := ⟨⟨_, _, _, _, _, _, _, _, _, _, _, _, _, _, _, xl_2, rfl⟩, xs_2, xe_2, xt_2, xk_2⟩, xf_2 := ⟨ya_2, yg_2, xe_2, yh_2⟩, xi_2 := ⟨ya_2, yg_2, xe_2, yh_2, za_2, zn_2, zt_2, zm_2⟩, cg_3 := PySem.W.mg_of X G ac_3, x_3 := ⟨⟨_, _, _, _, _, _, _, _, _, _, _, _, _, _, _, xl_3, rfl⟩, xs_3, xe_3, xt_3, xk_3⟩, xf_3 := ⟨ya_3, yg_3, xe_3, yh_3⟩, xi_3 := ⟨ya_3, yg_3, xe_3, yh_3, za_3, zn_3, zt_3, zm_3⟩, in_3 := fi_3, ti_3 := ty_3, no_3_name := na_3_name, cg_25 := PySem.W.mg_of X G ac_25, cl_25 := ⟨pg_25, hd_25, po_25, sa_25⟩, M_25 := ⟨mk_25, fi_25, is_3500, kc_25⟩, no_25__tables := na_25__tables, no_25__keys := na_25__keys, no_25__services := na_25__services, kit_3_2 := kit_ref yh_2 xt_2 es_3_2, exm_3_3 := PySem.W.exm_ref xe_3 yh_3 xt_3 es_3_3, p_3501 := ⟨pa_3501, pb_3501, pc_3501, ⟨_, pd_3501⟩⟩, p_3502 := ⟨pa_3502, pb_3502, pc_3502, ⟨_, pd_3502⟩⟩, p_3503 := ⟨pa_3503, pb_3503, pc_3503, ⟨_, pd_3503⟩⟩, m_3505 := ⟨ma_3505, mi_3505, k3505⟩, m_3506 := ⟨ma_3506, mi_3506, k3506⟩, m_3507 := ⟨ma_3507, mi_3507, k3507⟩, m_3508 := ⟨ma_3508, mi_3508, k3508⟩, m_3509 := ⟨ma_3509, mi_3509, k3509⟩, m_3510 := ⟨ma_3510, mi_3510, k3510⟩, m_3511 := ⟨ma_3511, mi_3511, k3511⟩, z_abs := PySem.W.mg_none_of X G z_abs, z_all := PySem.W.mg_none_of X G z_all, z_bool := PySem.W.mg_none_of X G z_bool, z_dict := PySem.W.mg_none_of X G z_dict, z_int := PySem.W.mg_none_of X G z_int, z_isinstance := PySem.W.mg_none_of X G z_isinstance, z_len := PySem.W.mg_none_of X G z_len, z_list := PySem.W.mg_none_of X G z_list, z_range := PySem.W.mg_none_of X G z_range, z_sorted := PySem.W.mg_none_of X G z_sorted, z_str := PySem.W.mg_none_of X G z_str, z_tuple := PySem.W.mg_none_of X G z_tuple, c_LONGEST_WORD := ⟨_, PySem.W.mg_of X G v_LONGEST_WORD⟩, c_MOST_TABLES := ⟨_, PySem.W.mg_of X G v_MOST_TABLES⟩, c_MOST_WIDTH := ⟨_, PySem.W.mg_of X G v_MOST_WIDTH⟩, c_MOST_SERVICES := ⟨_, PySem.W.mg_of X G v_MOST_SERVICES⟩, c_MOST_CAP := ⟨_, PySem.W.mg_of X G v_MOST_CAP⟩ }
  exact ⟨_, fun s v => .of_eq rfl, fun base _ _ => ok_law T⟩
end My
open PySem PySem.W PyProof.Rows
set_option maxRecDepth 100000 in
set_option maxHeartbeats 0 in
theorem PySem.Challenge.cw_cappedcalls_k03_schema_tells_its_parts_holds : PySem.Challenge.rw_cappedcalls_k03_schema_tells_its_parts.Holds := by
  w_on; o_law; k_head; (case hw => w_witness2)
  k_fill
  refine L2.walk_of (l := PySem.Challenge.rw_cappedcalls_k03_schema_tells_its_parts) (n := 63) (k := 9) (x := "_law_script") (CX := fun _ => L2.CX0) (sp := fun w => My.spLaw _) rfl (by decide) rfl ⟨rfl, by decide, by decide⟩ (fun w h Y => PySem.W.kIn_of Y) ?F (fun _ _ a ns hl _ hS => ⟨a, ns, rfl, hS, hl, fun _ => rfl⟩) (fun _ _ _ _ _ h => h)
  case F =>
    intro w mg fa h KX G hmg
    refine' My.all_mk KX G hmg ?ac_2 ?ac_3 ?ac_25 ?fi_3 ?fi_25 ?ma_3505 ?ma_3506 ?ma_3507 ?ma_3508 ?ma_3509 ?ma_3510 ?ma_3511 ?pa_3501 ?pa_3502 ?pa_3503 ?pd_3501 ?pd_3502 ?pd_3503 ?l1300 ?c1300 ?k1300 ?a7 ?l7 ?c7 ?k7 ?a8 ?l8 ?c8 ?k8 ?a14 ?l14 ?c14 ?k14 ?a15 ?l15 ?c15 ?k15 ?a16 ?l16 ?c16 ?k16 ?a17 ?l17 ?c17 ?k17 ?a18 ?l18 ?c18 ?k18 ?a19 ?l19 ?c19 ?k19 ?a20 ?l20 ?c20 ?k20 ?a21 ?l21 ?c21 ?k21 ?a22 ?l22 ?c22 ?k22 ?a23 ?l23 ?c23 ?k23 ?a24 ?l24 ?c24 ?k24 ?l3500 ?c3500 ?k3500 ?l3501 ?c3501 ?k3501 ?l3502 ?c3502 ?k3502 ?l3503 ?c3503 ?k3503 ?l3505 ?c3505 ?k3505 ?l3506 ?c3506 ?k3506 ?l3507 ?c3507 ?k3507 ?l3508 ?c3508 ?k3508 ?l3509 ?c3509 ?k3509 ?l3510 ?c3510 ?k3510 ?l3511 ?c3511 ?k3511 ?a27 ?l27 ?c27 ?k27 ?a28 ?l28 ?c28 ?k28 ?a29 ?l29 ?c29 ?k29 ?a30 ?l30 ?c30 ?k30 ?a31 ?l31 ?c31 ?k31 ?a32 ?l32 ?c32 ?k32 ?a33 ?l33 ?c33 ?k33 ?a34 ?l34 ?c34 ?k34 ?a35 ?l35 ?c35 ?k35 ?a36 ?l36 ?c36 ?k36 ?a37 ?l37 ?c37 ?k37 ?a38 ?l38 ?c38 ?k38 ?a39 ?l39 ?c39 ?k39 ?a40 ?l40 ?c40 ?k40 ?xl_2 ?xs_2 ?xe_2 ?xt_2 ?xk_2 ?ya_2 ?yg_2 ?yh_2 ?za_2 ?zn_2 ?zt_2 ?zm_2 ?xl_3 ?xs_3 ?xe_3 ?xt_3 ?xk_3 ?ya_3 ?yg_3 ?yh_3 ?za_3 ?zn_3 ?zt_3 ?zm_3 ?ty_3 ?na_3_name ?pg_25 ?hd_25 ?po_25 ?sa_25 ?mk_25 ?is_3500 ?kc_25 ?na_25__tables ?na_25__keys ?na_25__services ?es_3_2 ?es_3_3 ?pb_3501 ?pc_3501 ?pb_3502 ?pc_3502 ?pb_3503 ?pc_3503 ?mi_3505 ?mi_3506 ?mi_3507 ?mi_3508 ?mi_3509 ?mi_3510 ?mi_3511 ?z_abs ?z_all ?z_bool ?z_dict ?z_int ?z_isinstance ?z_len ?z_list ?z_range ?z_sorted ?z_str ?z_tuple ?v_LONGEST_WORD ?v_MOST_TABLES ?v_MOST_WIDTH ?v_MOST_SERVICES ?v_MOST_CAP
    (case ac_2 => k_is)
    (case ac_3 => k_is)
    (case ac_25 => k_is)
    (case fi_3 => k_is)
    (case fi_25 => k_is)
    (case ma_3505 => k_is)
    (case ma_3506 => k_is)
    (case ma_3507 => k_is)
    (case ma_3508 => k_is)
    (case ma_3509 => k_is)
    (case ma_3510 => k_is)
    (case ma_3511 => k_is)
    (case pa_3501 => k_is)
    (case pa_3502 => k_is)
    (case pa_3503 => k_is)
    (case pd_3501 => k_is)
    (case pd_3502 => k_is)
    (case pd_3503 => k_is)
    (case l1300 => k_is)
    (case c1300 => k_is)
    (case k1300 => k_is)
    (case a7 => k_is)
    (case l7 => k_is)
    (case c7 => k_is)
    (case k7 => k_is)
    (case a8 => k_is)
    (case l8 => k_is)
    (case c8 => k_is)
    (case k8 => k_is)
    (case a14 => k_is)
    (case l14 => k_is)
    (case c14 => k_is)
    (case k14 => k_is)
    (case a15 => k_is)
    (case l15 => k_is)
    (case c15 => k_is)
    (case k15 => k_is)
    (case a16 => k_is)
    (case l16 => k_is)
    (case c16 => k_is)
    (case k16 => k_is)
    (case a17 => k_is)
    (case l17 => k_is)
    (case c17 => k_is)
    (case k17 => k_is)
    (case a18 => k_is)
    (case l18 => k_is)
    (case c18 => k_is)
    (case k18 => k_is)
    (case a19 => k_is)
    (case l19 => k_is)
    (case c19 => k_is)
    (case k19 => k_is)
    (case a20 => k_is)
    (case l20 => k_is)
    (case c20 => k_is)
    (case k20 => k_is)
    (case a21 => k_is)
    (case l21 => k_is)
    (case c21 => k_is)
    (case k21 => k_is)
    (case a22 => k_is)
    (case l22 => k_is)
    (case c22 => k_is)
    (case k22 => k_is)
    (case a23 => k_is)
    (case l23 => k_is)
    (case c23 => k_is)
    (case k23 => k_is)
    (case a24 => k_is)
    (case l24 => k_is)
    (case c24 => k_is)
    (case k24 => k_is)
    (case l3500 => k_is)
    (case c3500 => k_is)
    (case k3500 => k_is)
    (case l3501 => k_is)
    (case c3501 => k_is)
    (case k3501 => k_is)
    (case l3502 => k_is)
    (case c3502 => k_is)
    (case k3502 => k_is)
    (case l3503 => k_is)
    (case c3503 => k_is)
    (case k3503 => k_is)
    (case l3505 => k_is)
    (case c3505 => k_is)
    (case k3505 => k_is)
    (case l3506 => k_is)
    (case c3506 => k_is)
    (case k3506 => k_is)
    (case l3507 => k_is)
    (case c3507 => k_is)
    (case k3507 => k_is)
    (case l3508 => k_is)
    (case c3508 => k_is)
    (case k3508 => k_is)
    (case l3509 => k_is)
    (case c3509 => k_is)
    (case k3509 => k_is)
    (case l3510 => k_is)
    (case c3510 => k_is)
    (case k3510 => k_is)
    (case l3511 => k_is)
    (case c3511 => k_is)
    (case k3511 => k_is)
    (case a27 => k_is)
    (case l27 => k_is)
    (case c27 => k_is)
    (case k27 => k_is)
    (case a28 => k_is)
    (case l28 => k_is)
    (case c28 => k_is)
    (case k28 => k_is)
    (case a29 => k_is)
    (case l29 => k_is)
    (case c29 => k_is)
    (case k29 => k_is)
    (case a30 => k_is)
    (case l30 => k_is)
    (case c30 => k_is)
    (case k30 => k_is)
    (case a31 => k_is)
    (case l31 => k_is)
    (case c31 => k_is)
    (case k31 => k_is)
    (case a32 => k_is)
    (case l32 => k_is)
    (case c32 => k_is)
    (case k32 => k_is)
    (case a33 => k_is)
    (case l33 => k_is)
    (case c33 => k_is)
    (case k33 => k_is)
    (case a34 => k_is)
    (case l34 => k_is)
    (case c34 => k_is)
    (case k34 => k_is)
    (case a35 => k_is)
    (case l35 => k_is)
    (case c35 => k_is)
    (case k35 => k_is)
    (case a36 => k_is)
    (case l36 => k_is)
    (case c36 => k_is)
    (case k36 => k_is)
    (case a37 => k_is)
    (case l37 => k_is)
    (case c37 => k_is)
    (case k37 => k_is)
    (case a38 => k_is)
    (case l38 => k_is)
    (case c38 => k_is)
    (case k38 => k_is)
    (case a39 => k_is)
    (case l39 => k_is)
    (case c39 => k_is)
    (case k39 => k_is)
    (case a40 => k_is)
    (case l40 => k_is)
    (case c40 => k_is)
    (case k40 => k_is)
    (case xl_2 => k_is)
    (case xs_2 => k_is)
    (case xe_2 => k_is)
    (case xt_2 => k_is)
    (case xk_2 => k_is)
    (case ya_2 => k_is)
    (case yg_2 => k_is)
    (case yh_2 => k_is)
    (case za_2 => k_is)
    (case zn_2 => k_is)
    (case zt_2 => k_is)
    (case zm_2 => k_is)
    (case xl_3 => k_is)
    (case xs_3 => k_is)
    (case xe_3 => k_is)
    (case xt_3 => k_is)
    (case xk_3 => k_is)
    (case ya_3 => k_is)
    (case yg_3 => k_is)
    (case yh_3 => k_is)
    (case za_3 => k_is)
    (case zn_3 => k_is)
    (case zt_3 => k_is)
    (case zm_3 => k_is)
    (case ty_3 => k_is)
    (case na_3_name => k_is)
    (case pg_25 => k_is)
    (case hd_25 => k_is)
    (case po_25 => k_is)
    (case sa_25 => k_is)
    (case mk_25 => k_is)
    (case is_3500 => k_is)
    (case kc_25 => k_is)
    (case na_25__tables => k_is)
    (case na_25__keys => k_is)
    (case na_25__services => k_is)
    (case es_3_2 => first | rfl | k_is)
    (case es_3_3 => first | rfl | k_is)
    (case pb_3501 => k_is)
    (case pc_3501 => k_is)
    (case pb_3502 => k_is)
    (case pc_3502 => k_is)
    (case pb_3503 => k_is)
    (case pc_3503 => k_is)
    (case mi_3505 => k_is)
    (case mi_3506 => k_is)
    (case mi_3507 => k_is)
    (case mi_3508 => k_is)
    (case mi_3509 => k_is)
    (case mi_3510 => k_is)
    (case mi_3511 => k_is)
    (case z_abs => k_is)
    (case z_all => k_is)
    (case z_bool => k_is)
    (case z_dict => k_is)
    (case z_int => k_is)
    (case z_isinstance => k_is)
    (case z_len => k_is)
    (case z_list => k_is)
    (case z_range => k_is)
    (case z_sorted => k_is)
    (case z_str => k_is)
    (case z_tuple => k_is)
    (case v_LONGEST_WORD => k_is)
    (case v_MOST_TABLES => k_is)
    (case v_MOST_WIDTH => k_is)
    (case v_MOST_SERVICES => k_is)
    (case v_MOST_CAP => k_is)

