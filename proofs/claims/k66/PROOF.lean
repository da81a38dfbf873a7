import PyProof.Rows.All
import Wide.All
import OpenK.AllK
import Wide.FinOn
import Lean
import PyProof.EqAt
import PyProof.EqKinds
import PyProof.TupleCall
import PySem.Challenge.RW_stuckwires_k66_tests_and_alike_ones
open List renaming length_map→yA,getElem?_eq_some_iff→yF,length_append→yI,mem_singleton→yK,getElem?_map→yL,map_append→yM,mem_cons→yN,length_cons→yO,getElem?_eq_getElem→yQ,mem_of_getElem?→yR,mem_append→yS,take_add_one→yT,length_take→yW,mem_append_right→qA,size_toArray→qB,mem_map→qE,take_length→qF,map_cons→qJ,length_singleton→qM,all_eq_true→qY,getElem?_append_right→jD,append_assoc→jF,getElem?_append_left→jJ,map_congr_left→jM,getElem?_of_mem→jR,length_eq_zero_iff→jT,getD_eq_getElem?_getD→jV,map_map→jX,getLast?_eq_some_getLast→jZ,take_of_length_le→xD,mem_cons_of_mem→xJ,range→xK,find?_cons→xM,lookup_cons→xO,mem_append_left→xT,getElem?_set_ne→xU,getLast?_concat→xV,filterMap_cons→vA,sum_cons→vC,filter_cons_of_neg→vD,getElem_mem→vG,filter_append→vN,map_singleton→vP,dropLast_concat_getLast→vQ,nodup_cons→vS,foldl_cons→vT,foldl_append→vV,nodup_append→vW,length_range→vX,mem_range→kA,mem_of_find?_eq_some→kI,cons_ne_nil→kP,range'→kY,mem_filter→wB,append_nil→wC,any_cons→wD,length_nil→wE,filter_cons_of_pos→wF,find?_eq_none→wG,contains_cons→wH,getElem?_cons_succ→wJ,getElem?_set_self→wM,lookup→wO,length→wP,nodup_nil→wQ,take_append_drop→wR,not_mem_nil→wW,cons_append→wX,getElem?_mapIdx→yaa,forIn_cons→yad,map_eq_nil_iff→yah,range_succ→yai,mem_cons_self→yam,getLast?_eq_getElem?→yar,getElem?_take_of_lt→yau,getElem?_replicate→yay,length_drop→yaF,find?_cons_of_pos→yaI,of_mem_zip→yaS,length_replicate→yaT,mem_mapIdx→yaW,length_filter_le→ya1,mem_of_mem_take→ya6,drop_zero→ya8,drop_left→ya9,take_left→yba,take_succ_cons→ybe,length_pos_iff→ybf,mem_filterMap→ybk,length_mapIdx→ybq,mapIdx_concat→ybr,reverse_cons→ybx,flatten_cons→ybD,map_nil→ybF,mem_flatMap→ybI,any_eq_true→ybJ,range'_succ→ybL,mem_reverse→ybM
open PySem.Str renaming ofString→yB,join→xE,empty→yat,length→ybv
open PySem.Challenge renaming rw_stuckwires_k66_tests_and_alike_ones→yC,pw_stuckwires_k66_tests_and_alike_ones→jQ
open PySem renaming wpAny_bind→yD,Data→yE,sizeLine→yH,wpAny_pure→yP,Pos→yX,Expr→qC,mainGlobals→qH,boot_len→qQ,ClassData→jG,NameKind→jI,Obj→jK,mem_of_lookup→vB,Stmt→wA,Const→yac,Arg→yaN,Within→yaP,evalArgs_none→ybb,Arguments→ybQ,ScopeKind→ybR,call→yb1
open PySem.Heap renaming get?_push_of_some→yG,lt_size→yU,get?_push_size→yZ,SameBut→jL,get?_update_other→vH,get?_none_of_le→wY
open Nat renaming le_refl→yJ,lt_of_lt_of_le→qK,ne_of_lt→qL,zero_le→qZ,le_trans→jA,pow_le_pow_right→jW,le_add_right→xP,lt_irrefl→xZ,two_pow_pos→wI,le_of_lt→wS,pow_succ→wU,strongRecOn→yae,testBit_two_pow_sub_one→yaf,le_add_left→yag,testBit_lt_two_pow→yaM,lt_of_le_of_lt→ybo,add_sub_cancel→ybs,and_one_is_mod→ybt,le_of_eq→ybE,lt_succ_self→ybG,zero_testBit→ybK,mod_eq_of_lt→ybP,testBit_xor→ybU,testBit_and→ybV,pow_add→ybW,min_eq_left→ybY,not_lt→yb2
open Option.some renaming inj→yV
open Array renaming length_toList→yY,toList_inj→xI,toList_append→vE,getElem?_eq_some_iff→vY,getElem?_eq_none→yaJ,append_assoc→ybi,size_append→ybB,all_toList→ybO
open Bool renaming false_ne_true→qG,and_eq_true→jE,eq_iff_iff→vR,false_eq_true→yao,eq_false_iff→yaw,and_eq_true_iff→ya7,or_false→ybm,not_eq_true'→yby,or_eq_true→ybZ
open PySem.Builtin.Int renaming intBits→qI
open PySem.F renaming excBase_ValueError→qN,plainAttrs_str→qU,plainAttrs_list→qW,slot_list_append→jB,type_list_append→jC,slot_dict_itemiterator_next→jN,attr_ValueError→jU,slot_str_join→xF,type_str_join→xG,slot_str_split→vK,type_str_split→vL,args_dict_itemiterator_next_1→vZ,entry_dict_itemiterator_next→kK,slot_dict_get→wT,slot_dict_items_iter→yab,slot_dict_getitem→yaq,args_tuple_add_2→yav,entry_tuple_add→yaz,args_dict_get_3→yaA,plainAttrs_dict→yaB,slot_dict_items→yaD,slot_tuple_add→yaG,entry_dict_get→yaH,args_list_ne_2→yaK,entry_list_ne→yaZ,slot_list_ne→ya5
open PySem.Builtin renaming bitAnd→qO,bitXor→qP,bitOr→qS,bitNot→jP
open PySem.Builtin.Str renaming occurrences→qR,strSub→jS,strKind→xA,partsBetween→xY,tooLong→ybc,glued→ybz
open PySem.PassesOwn renaming never→qT
open PyProof.Rows renaming boot_isinstance→qV,boot_str→jH,boot_int→xH,callWith_type1→xL,slot_tuple_getitem→xW,boot_tuple→wK,boot_list→wN,boot_all→wV
open Ne renaming symm→qX
open PySem.SeqAt renaming EqAt→jO,canLay_of_shaped→vJ,notIn_listAt→ybn
open List.cons renaming inj→jY
open Int renaming toNat_natCast→xB,zero_add→xQ,eq_ofNat_of_zero_le→vF,natCast_nonneg→vM,toNat_of_nonneg→kZ,fdiv_eq_ediv_of_nonneg→yak,le_refl→ybd
open Option renaming map_eq_some_iff→xC,isSome_map→ybw,getD_none→ybH
open False renaming elim→xN
open PySem.StrLaws renaming strSub_toList→xR,subAt_one→yax,partsBetween_eq→yaE,join_length_le→yaL,glued_eq_join→ya0,partsFrom→ybA,found_one→ybC,occ_head→ybN,occBody→ybX
open PySem.Builtin.Slice renaming slicePlaces→xS,sliceAdjust→kB,sliceApplied→yal
open PySem.Builtin.Tuple renaming tupleExact→xX
open PySem.Calls renaming callWith_builtin→vI,evalArgs_plain→wZ,Name_function_global→yaj,spliced_cons→yan,Constant_str→ybj,spliced_nil→ybu
open PySem.Builtin.Dict_items renaming ownsTuple→vO,ownedTupleFields→kQ,ownedTupleIsFree→kW,pairFromOwner→wL
open PySem.Paired renaming length→vU,snoc→ybT
open Decidable renaming byContradiction→kO
open PySem.Heap.SameBut renaming extBut→kX
open PySem.W.OpenRow renaming toRowW→yap
open Classical renaming byContradiction→yas
open PySem.Builtin.Dict renaming updateFrom→yaC,showsAll→yaY
open PySem.W.RowW renaming records→yaO
open PySem.Around renaming under→yaQ,under_plainId→ya4
open PySem.Code renaming isFrame→yaR,frames→ybS
open PySem.W renaming OpenLaw→yaU
open PySem.PyData renaming strOk→yaV,eqv→ya3
open Nat.succ renaming inj→yaX
open PySem.Obj renaming mapSeq→ya2
open PySem.SeqAt.EqAt renaming int_str→ybg,str_int→ybh
open PySem.Heap.IsSliceOf renaming new→ybl
open PySem.SeqAt.Reads renaming unique→ybp
open Prod.mk renaming inj→yb0
open PySem.Env renaming kindOf→yb3
open PyProof.Rows.IsTup renaming new→yb4
set_option Elab.async false
set_option linter.all false
set_option maxRecDepth 100000
set_option genSizeOf false
local macro_rules | `(tactic| omega)=>`(tactic| lia)
namespace L2
open PySem
noncomputable def zbj (s:Stmt):Arguments:=match s with
 | .FunctionDef _ a _ _ _ _ _ _ _ _=>a
 | _=>{posonlyargs:=[],args:=[],vararg:=none,kwonlyargs:=[],kw_defaults:=[],kwarg:=none,defaults:=[]}
noncomputable def za1 (s:Stmt):List Stmt:=match s with
 | .FunctionDef _ _ b _ _ _ _ _ _ _=>b
 | _=>[]
noncomputable def zak (s:Stmt):Scope:=match s with
 | .FunctionDef _ _ _ _ _ _ sc _ _ _=>sc
 | _=>{kind:=.function,names:=[],isGenerator:=false,isCoroutine:=false}
end L2
namespace My
open PySem L2
noncomputable def top (i:Nat):Stmt:=jQ.main.body.getD i (.Pass ⟨0,0,0,0⟩)
noncomputable def zpd (s:Stmt):List Stmt:=match s with
 | .ClassDef _ _ _ b .. =>b
 | _=>[]
noncomputable abbrev mt (i j:Nat):Stmt:=(zpd (top i)).getD j (.Pass ⟨0,0,0,0⟩)
noncomputable abbrev zdC:Stmt:=top 10
noncomputable abbrev zcy:Stmt:=top 11
noncomputable abbrev zea:Stmt:=top 12
noncomputable abbrev zbo:Stmt:=top 13
noncomputable abbrev zc1:Stmt:=top 16
noncomputable abbrev zbV:Stmt:=top 18
noncomputable abbrev zb8:Stmt:=top 20
noncomputable abbrev zbT:Stmt:=top 21
noncomputable abbrev zbB:Stmt:=top 22
noncomputable abbrev zcn:Stmt:=top 23
noncomputable abbrev zbq:Stmt:=top 24
noncomputable abbrev zbS:Stmt:=top 26
noncomputable abbrev zbN:Stmt:=top 27
noncomputable abbrev zbP:Stmt:=top 30
noncomputable abbrev zbt:Stmt:=top 31
noncomputable abbrev zcv:Stmt:=top 52
noncomputable abbrev zcU:Stmt:=top 54
noncomputable abbrev zct:Stmt:=top 72
noncomputable abbrev zcp:Stmt:=top 73
noncomputable abbrev zdK:Stmt:=top 75
noncomputable abbrev zcc:Stmt:=top 76
noncomputable abbrev zcu:Stmt:=top 79
noncomputable abbrev zb9:Stmt:=top 80
noncomputable abbrev zcX:Stmt:=top 81
noncomputable abbrev zd8:Stmt:=top 85
noncomputable abbrev zdD:Stmt:=top 86
noncomputable abbrev zhk:Stmt:=top 87
noncomputable abbrev zb6:Stmt:=top 89
noncomputable abbrev zdL:Stmt:=top 90
noncomputable abbrev zdF:Stmt:=top 91
noncomputable abbrev zdI:Stmt:=top 92
noncomputable abbrev zdE:Stmt:=top 93
noncomputable abbrev zcY:Stmt:=top 94
noncomputable abbrev zdw:Stmt:=top 96
noncomputable abbrev zcr:Stmt:=top 97
noncomputable abbrev zdz:Stmt:=top 99
noncomputable abbrev zdG:Stmt:=top 100
noncomputable abbrev zei:Stmt:=top 101
noncomputable abbrev zcb:Stmt:=top 102
noncomputable abbrev zcV:Stmt:=top 103
noncomputable abbrev zcT:Stmt:=top 104
noncomputable abbrev zc0:Stmt:=top 105
noncomputable abbrev zhy:Stmt:=top 106
noncomputable abbrev zbG:Stmt:=mt 84 0
noncomputable abbrev zdB:Stmt:=mt 84 1
noncomputable abbrev zbs:Stmt:=mt 84 2
end My
namespace My
open PySem PySem.W
noncomputable abbrev dE (P:Params) (x:Str) (n:Nat) (v:Value):DictEntry:=.mk (PyData.keyHash P x) (.str x n) v
noncomputable abbrev tO (vs:Array Value):Obj:=.mk (.type "tuple") none (.seq vs) #[]
noncomputable abbrev fO (x:Str) (s:Stmt) (dV kV doc pm:Value) (an:Option Addr) (cd ct:Value):Obj:=.mk (.type "function") none (.func (PySem.W.fnOf x x (L2.zbj s) (L2.za1 s) (L2.zak s) dV kV doc pm an cd ct)) #[]
noncomputable abbrev fM (x y:Str) (s:Stmt) (dV kV doc pm:Value) (an:Option Addr) (cd ct:Value):Obj:=.mk (.type "function") none (.func (PySem.W.fnOf x y (L2.zbj s) (L2.za1 s) (L2.zak s) dV kV doc pm an cd ct)) #[]
noncomputable abbrev fD (x:Str) (s:Stmt) (f:Str) (n c:Nat):Obj:=fO x s .none .none .none (.str f n) none (.ref c) .none
noncomputable abbrev cO (x:Str) (n:Nat) (l a:Int) (r:Nat) (u v:Value) (q:Nat) (t:Nat):Obj:=.mk (.type "code") none (.fields #[.str x n,.str x (n+1),.str "/claim/cut.py" (n+2),.int l 0,.int a 0,.int 0 0,.int 0 0,.int 3 0,.ref r,.bool true,.int 181 0,.ref (r+1),.none,u,v,.ref q,.int t 0,.int l 0,.str "/claim/cut.py" (t+1)]) #[]
noncomputable def part:Params→Frag:=fun P=>
 (nat_lit 3,jK.mk (.type "dict") none (yE.dict #[dE P "__name__" 165 (.str "law_stuckwires_k66_tests_and_alike_ones" 922),dE P "__doc__" 166 .none,dE P "__package__" 167 .none,dE P "__loader__" 168 (.builtin "__main__.__loader__#opaque"),dE P "__spec__" 169 .none,dE P "__annotations__" 170 (.ref 6),dE P "__builtins__" 171 (.ref 4),dE P "__file__" 173 (.str "/claim/cut.py" 172),dE P "__cached__" 174 .none,dE P "StuckError" 206 (.ref 24),dE P "NoWorks" 222 (.ref 37),dE P "NoRow" 238 (.ref 49),dE P "NoFault" 254 (.ref 61),dE P "NoText" 270 (.ref 73),dE P "NoOrder" 286 (.ref 85),dE P "TooMany" 302 (.ref 97),dE P "LEG_BOUNDS" 333 (.ref 100),dE P "works_of" 344 (.ref 114),dE P "check_gate" 354 (.ref 121),dE P "is_kind" 361 (.ref 128),dE P "are_wires_below" 367 (.ref 133),dE P "wire_worths" 373 (.ref 138),dE P "outputs_at" 379 (.ref 143),dE P "every_row" 385 (.ref 148),dE P "check_row" 391 (.ref 153),dE P "gate_worth" 403 (.ref 161),dE P "every_fault" 411 (.ref 166),dE P "stuck_places" 423 (.ref 173),dE P "worths_with" 430 (.ref 179),dE P "leg_worths" 436 (.ref 184),dE P "outputs_with" 443 (.ref 190),dE P "outputs_seen" 451 (.ref 195),dE P "rows_at_once" 457 (.ref 200),dE P "outputs_in" 463 (.ref 205),dE P "seen_of_each" 472 (.ref 212),dE P "first_unlike" 482 (.ref 219),dE P "unlike_numbers" 488 (.ref 224),dE P "finding_rows" 500 (.ref 231),dE P "MOST_INPUTS" 504 (.int 3 503),dE P "fewest_rows" 510 (.ref 236),dE P "check_inputs" 517 (.ref 243),dE P "meets_each" 523 (.ref 248),dE P "meet" 529 (.ref 253),dE P "fewest_numbers" 535 (.ref 258),dE P "longer_choices" 541 (.ref 263),dE P "WELL" 545 (.ref 264),dE P "what_fits" 553 (.ref 271),dE P "next_row" 563 (.ref 278),dE P "seen_of_fitting" 574 (.ref 285),dE P "seen_of_all" 582 (.ref 292),dE P "row_number" 591 (.ref 299),dE P "left_behind" 597 (.ref 304),dE P "next_number" 603 (.ref 309),dE P "parts_at" 615 (.ref 316),dE P "first_test" 625 (.ref 323),dE P "parted_at" 636 (.ref 330),dE P "CONSTANTS" 641 (.ref 331),dE P "is_spare" 650 (.ref 338),dE P "is_bare" 656 (.ref 343),dE P "made_less" 663 (.ref 350),dE P "gate_faults" 669 (.ref 355),dE P "wire_of" 677 (.ref 362),dE P "constants_stuck" 687 (.ref 369),dE P "stuck_unseen" 700 (.ref 376),dE P "stuck_for_good" 706 (.ref 381),dE P "leg_behind" 716 (.ref 388),dE P "wire_behind" 725 (.ref 395),dE P "without_unread" 731 (.ref 400),dE P "read_wires" 740 (.ref 407),dE P "FIGURES" 744 (.str "0123456789" 743),dE P "show_works" 750 (.ref 412),dE P "read_works" 756 (.ref 417),dE P "read_fault" 766 (.ref 424),dE P "shown_row" 772 (.ref 429),dE P "read_row" 778 (.ref 434),dE P "read_number" 787 (.ref 441),dE P "WORDS_ALONE" 795 (.ref 442),dE P "read_order" 803 (.ref 449),dE P "read_things" 809 (.ref 454),dE P "two_parts" 818 (.ref 461),dE P "read_worths" 824 (.ref 466),dE P "Desk" 898 (.ref 511),dE P "told_of" 907 (.ref 522),dE P "shown_or" 915 (.ref 529),dE P "shown" 921 (.ref 534),dE P "_law_cell_at" 931 (.ref 541),dE P "_law_stir" 940 (.ref 548),dE P "_law_deck" 947 (.ref 555),dE P "_law_take" 956 (.ref 562),dE P "_law_legs" 964 (.ref 569),dE P "_law_works" 970 (.ref 574),dE P "_law_copied" 977 (.ref 581),dE P "_law_gate" 983 (.ref 586),dE P "_law_worths" 1002 (.ref 593),dE P "_law_row" 1008 (.ref 598),dE P "_law_text" 1021 (.ref 605),dE P "_law_told" 1033 (.ref 612),dE P "_law_put" 1039 (.ref 617),dE P "_law_figures" 1045 (.ref 622),dE P "_law_fault" 1051 (.ref 627),dE P "_law_first" 1057 (.ref 632),dE P "_law_shown" 1063 (.ref 637),dE P "law" 1079 (.ref 644)] 103) #[])::
 (nat_lit 15,tO #[.type "ValueError"])::
 (nat_lit 22,tO #[])::
 (nat_lit 23,jK.mk (.type "dict") none (yE.dict #[dE P "__module__" 196 (.str "stuckwires.errors" 187),dE P "__firstlineno__" 200 (.int 2 199),dE P "__static_attributes__" 201 (.ref 22),dE P "__weakref__" 203 (.ref 25),dE P "__doc__" 204 .none] 3) #[])::
 (nat_lit 24,jK.mk (.type "type") none (yE.cls (jG.mk "StuckError" [.type "ValueError"] [.ref 24,.type "ValueError",.type "Exception",.type "BaseException",.type "object"] 23 "StuckError" Bool.true [] [.ref 37,.ref 49,.ref 61,.ref 73,.ref 85,.ref 97] Bool.false none Bool.false)) #[Option.some (.ref 15),none,Option.some (.str "StuckError" 189),Option.some (.str "StuckError" 197),Option.some (.builtin "ValueError.__new__"),Option.some (.bool Bool.true)])::
 (nat_lit 25,jK.mk (.type "getset_descriptor") none (yE.fields #[.str "__weakref__" 202,.ref 24,.builtin "ExceptionGroup.__weakref__",.none]) #[])::
 (nat_lit 28,tO #[.ref 24])::
 (nat_lit 35,tO #[])::
 (nat_lit 36,jK.mk (.type "dict") none (yE.dict #[dE P "__module__" 214 (.str "stuckwires.errors" 187),dE P "__firstlineno__" 218 (.int 4 217),dE P "__static_attributes__" 219 (.ref 35),dE P "__doc__" 220 .none] 2) #[])::
 (nat_lit 37,jK.mk (.type "type") none (yE.cls (jG.mk "NoWorks" [.ref 24] [.ref 37,.ref 24,.type "ValueError",.type "Exception",.type "BaseException",.type "object"] 36 "NoWorks" Bool.true [] [] Bool.false none Bool.false)) #[Option.some (.ref 28),none,Option.some (.str "NoWorks" 207),Option.some (.str "NoWorks" 215),Option.some (.builtin "ValueError.__new__"),Option.some (.bool Bool.true)])::
 (nat_lit 40,tO #[.ref 24])::
 (nat_lit 47,tO #[])::
 (nat_lit 48,jK.mk (.type "dict") none (yE.dict #[dE P "__module__" 230 (.str "stuckwires.errors" 187),dE P "__firstlineno__" 234 (.int 6 233),dE P "__static_attributes__" 235 (.ref 47),dE P "__doc__" 236 .none] 2) #[])::
 (nat_lit 49,jK.mk (.type "type") none (yE.cls (jG.mk "NoRow" [.ref 24] [.ref 49,.ref 24,.type "ValueError",.type "Exception",.type "BaseException",.type "object"] 48 "NoRow" Bool.true [] [] Bool.false none Bool.false)) #[Option.some (.ref 40),none,Option.some (.str "NoRow" 223),Option.some (.str "NoRow" 231),Option.some (.builtin "ValueError.__new__"),Option.some (.bool Bool.true)])::
 (nat_lit 52,tO #[.ref 24])::
 (nat_lit 59,tO #[])::
 (nat_lit 60,jK.mk (.type "dict") none (yE.dict #[dE P "__module__" 246 (.str "stuckwires.errors" 187),dE P "__firstlineno__" 250 (.int 8 249),dE P "__static_attributes__" 251 (.ref 59),dE P "__doc__" 252 .none] 2) #[])::
 (nat_lit 61,jK.mk (.type "type") none (yE.cls (jG.mk "NoFault" [.ref 24] [.ref 61,.ref 24,.type "ValueError",.type "Exception",.type "BaseException",.type "object"] 60 "NoFault" Bool.true [] [] Bool.false none Bool.false)) #[Option.some (.ref 52),none,Option.some (.str "NoFault" 239),Option.some (.str "NoFault" 247),Option.some (.builtin "ValueError.__new__"),Option.some (.bool Bool.true)])::
 (nat_lit 64,tO #[.ref 24])::
 (nat_lit 71,tO #[])::
 (nat_lit 72,jK.mk (.type "dict") none (yE.dict #[dE P "__module__" 262 (.str "stuckwires.errors" 187),dE P "__firstlineno__" 266 (.int 10 265),dE P "__static_attributes__" 267 (.ref 71),dE P "__doc__" 268 .none] 2) #[])::
 (nat_lit 73,jK.mk (.type "type") none (yE.cls (jG.mk "NoText" [.ref 24] [.ref 73,.ref 24,.type "ValueError",.type "Exception",.type "BaseException",.type "object"] 72 "NoText" Bool.true [] [] Bool.false none Bool.false)) #[Option.some (.ref 64),none,Option.some (.str "NoText" 255),Option.some (.str "NoText" 263),Option.some (.builtin "ValueError.__new__"),Option.some (.bool Bool.true)])::
 (nat_lit 76,tO #[.ref 24])::
 (nat_lit 83,tO #[])::
 (nat_lit 84,jK.mk (.type "dict") none (yE.dict #[dE P "__module__" 278 (.str "stuckwires.errors" 187),dE P "__firstlineno__" 282 (.int 12 281),dE P "__static_attributes__" 283 (.ref 83),dE P "__doc__" 284 .none] 2) #[])::
 (nat_lit 85,jK.mk (.type "type") none (yE.cls (jG.mk "NoOrder" [.ref 24] [.ref 85,.ref 24,.type "ValueError",.type "Exception",.type "BaseException",.type "object"] 84 "NoOrder" Bool.true [] [] Bool.false none Bool.false)) #[Option.some (.ref 76),none,Option.some (.str "NoOrder" 271),Option.some (.str "NoOrder" 279),Option.some (.builtin "ValueError.__new__"),Option.some (.bool Bool.true)])::
 (nat_lit 88,tO #[.ref 24])::
 (nat_lit 95,tO #[])::
 (nat_lit 96,jK.mk (.type "dict") none (yE.dict #[dE P "__module__" 294 (.str "stuckwires.errors" 187),dE P "__firstlineno__" 298 (.int 14 297),dE P "__static_attributes__" 299 (.ref 95),dE P "__doc__" 300 .none] 2) #[])::
 (nat_lit 97,jK.mk (.type "type") none (yE.cls (jG.mk "TooMany" [.ref 24] [.ref 97,.ref 24,.type "ValueError",.type "Exception",.type "BaseException",.type "object"] 96 "TooMany" Bool.true [] [] Bool.false none Bool.false)) #[Option.some (.ref 88),none,Option.some (.str "TooMany" 287),Option.some (.str "TooMany" 295),Option.some (.builtin "ValueError.__new__"),Option.some (.bool Bool.true)])::
 (nat_lit 100,jK.mk (.type "dict") none (yE.dict #[dE P "and" 305 (.ref 101),dE P "or" 308 (.ref 102),dE P "odd" 311 (.ref 103),dE P "not" 314 (.ref 104),dE P "choose" 317 (.ref 105),dE P "zero" 320 (.ref 106),dE P "one" 323 (.ref 107)] 7) #[])::
 (nat_lit 101,tO #[.int 2 306,.int 4 307])::
 (nat_lit 102,tO #[.int 2 309,.int 4 310])::
 (nat_lit 103,tO #[.int 2 312,.int 4 313])::
 (nat_lit 104,tO #[.int 1 315,.int 1 316])::
 (nat_lit 105,tO #[.int 3 318,.int 3 319])::
 (nat_lit 106,tO #[.int 0 321,.int 0 322])::
 (nat_lit 107,tO #[.int 0 324,.int 0 325])::
 (nat_lit 108,tO #[])::
 (nat_lit 110,tO #[.str "inputs" 337,.str "gates" 338,.str "outputs" 339,.str "gate" 340,.str "body" 341])::
 (nat_lit 111,tO #[])::
 (nat_lit 113,cO "works_of" 334 18 3 108 (.ref 110) (.ref 111) 112 342)::
 (nat_lit 114,fD "works_of" zdC "stuckwires.works" 303 113)::
 (nat_lit 115,tO #[])::
 (nat_lit 117,tO #[.str "kind" 348,.str "legs" 349,.str "own_wire" 350,.str "bounds" 351])::
 (nat_lit 118,tO #[])::
 (nat_lit 120,cO "check_gate" 345 28 3 115 (.ref 117) (.ref 118) 119 352)::
 (nat_lit 121,fD "check_gate" zcy "stuckwires.works" 303 120)::
 (nat_lit 122,tO #[])::
 (nat_lit 124,tO #[.str "word" 358])::
 (nat_lit 125,tO #[])::
 (nat_lit 127,cO "is_kind" 355 36 1 122 (.ref 124) (.ref 125) 126 359)::
 (nat_lit 128,fD "is_kind" zea "stuckwires.works" 303 127)::
 (nat_lit 129,tO #[])::
 (nat_lit 132,cO "are_wires_below" 362 38 2 129 .none .none 131 365)::
 (nat_lit 133,fD "are_wires_below" zbo "stuckwires.works" 303 132)::
 (nat_lit 144,tO #[])::
 (nat_lit 147,cO "every_row" 380 49 1 144 .none .none 146 383)::
 (nat_lit 148,fD "every_row" zc1 "stuckwires.works" 303 147)::
 (nat_lit 154,tO #[.int 1 392])::
 (nat_lit 155,tO #[])::
 (nat_lit 157,tO #[.str "kind" 396,.str "worths" 397,.str "ones" 398,.str "told" 399,.str "worth" 400])::
 (nat_lit 158,tO #[])::
 (nat_lit 160,cO "gate_worth" 393 59 3 155 (.ref 157) (.ref 158) 159 401)::
 (nat_lit 161,fO "gate_worth" zbV (.ref 154) .none .none (.str "stuckwires.works" 303) none (.ref 160) .none)::
 (nat_lit 162,tO #[])::
 (nat_lit 165,cO "every_fault" 406 74 1 162 .none .none 164 409)::
 (nat_lit 166,fD "every_fault" zb8 "stuckwires.faults" 404 165)::
 (nat_lit 167,tO #[])::
 (nat_lit 169,tO #[.str "works" 415,.str "faults" 416,.str "known_faults" 417,.str "stuck" 418,.str "fault" 419,.str "place" 420])::
 (nat_lit 170,tO #[])::
 (nat_lit 172,cO "stuck_places" 412 84 2 167 (.ref 169) (.ref 170) 171 421)::
 (nat_lit 173,fD "stuck_places" zbT "stuckwires.faults" 404 172)::
 (nat_lit 174,tO #[.int 1 424])::
 (nat_lit 175,tO #[])::
 (nat_lit 178,cO "worths_with" 425 95 4 175 .none .none 177 428)::
 (nat_lit 179,fO "worths_with" zbB (.ref 174) .none .none (.str "stuckwires.faults" 404) none (.ref 178) .none)::
 (nat_lit 180,tO #[])::
 (nat_lit 183,cO "leg_worths" 431 102 3 180 .none .none 182 434)::
 (nat_lit 184,fD "leg_worths" zcn "stuckwires.faults" 404 183)::
 (nat_lit 185,tO #[.int 1 437])::
 (nat_lit 186,tO #[])::
 (nat_lit 189,cO "outputs_with" 438 104 4 186 .none .none 188 441)::
 (nat_lit 190,fO "outputs_with" zbq (.ref 185) .none .none (.str "stuckwires.faults" 404) none (.ref 189) .none)::
 (nat_lit 191,tO #[])::
 (nat_lit 194,cO "outputs_seen" 446 108 2 191 .none .none 193 449)::
 (nat_lit 195,fD "outputs_seen" zbS "stuckwires.seen" 444 194)::
 (nat_lit 196,tO #[])::
 (nat_lit 199,cO "rows_at_once" 452 113 1 196 .none .none 198 455)::
 (nat_lit 200,fD "rows_at_once" zbN "stuckwires.seen" 444 199)::
 (nat_lit 213,tO #[])::
 (nat_lit 215,tO #[.str "works" 476,.str "stuck" 477,.str "others" 478,.str "numbers" 479])::
 (nat_lit 216,tO #[])::
 (nat_lit 218,cO "first_unlike" 473 128 3 213 (.ref 215) (.ref 216) 217 480)::
 (nat_lit 219,fD "first_unlike" zbP "stuckwires.seen" 444 218)::
 (nat_lit 220,tO #[])::
 (nat_lit 223,cO "unlike_numbers" 483 131 2 220 .none .none 222 486)::
 (nat_lit 224,fD "unlike_numbers" zbt "stuckwires.seen" 444 223)::
 (nat_lit 317,tO #[])::
 (nat_lit 319,tO #[.str "works" 621,.str "faults" 622])::
 (nat_lit 320,tO #[])::
 (nat_lit 322,cO "first_test" 618 212 2 317 (.ref 319) (.ref 320) 321 623)::
 (nat_lit 323,fD "first_test" zcv "stuckwires.findings" 616 322)::
 (nat_lit 324,tO #[])::
 (nat_lit 326,tO #[.str "works" 631,.str "faults" 632,.str "others" 633])::
 (nat_lit 327,tO #[])::
 (nat_lit 329,cO "parted_at" 628 215 3 324 (.ref 326) (.ref 327) 328 634)::
 (nat_lit 330,fD "parted_at" zcU "stuckwires.groups" 626 329)::
 (nat_lit 413,tO #[])::
 (nat_lit 416,cO "read_works" 751 294 1 413 .none .none 415 754)::
 (nat_lit 417,fD "read_works" zct "stuckwires.texts" 741 416)::
 (nat_lit 418,tO #[])::
 (nat_lit 420,tO #[.str "text" 760,.str "fault" 761,.str "word" 762,.str "numbers" 763])::
 (nat_lit 421,tO #[])::
 (nat_lit 423,cO "read_fault" 757 306 1 418 (.ref 420) (.ref 421) 422 764)::
 (nat_lit 424,fD "read_fault" zcp "stuckwires.texts" 741 423)::
 (nat_lit 430,tO #[])::
 (nat_lit 433,cO "read_row" 773 317 1 430 .none .none 432 776)::
 (nat_lit 434,fD "read_row" zdK "stuckwires.texts" 741 433)::
 (nat_lit 435,tO #[])::
 (nat_lit 437,tO #[.str "text" 782,.str "number" 783,.str "sign" 784])::
 (nat_lit 438,tO #[])::
 (nat_lit 440,cO "read_number" 779 320 1 435 (.ref 437) (.ref 438) 439 785)::
 (nat_lit 441,fD "read_number" zcc "stuckwires.texts" 741 440)::
 (nat_lit 442,tO #[.str "clear" 790,.str "fewest" 791,.str "bare" 792,.str "less" 793,.str "next" 794])::
 (nat_lit 443,tO #[])::
 (nat_lit 445,tO #[.str "row" 799,.str "parts" 800])::
 (nat_lit 446,tO #[])::
 (nat_lit 448,cO "read_order" 796 331 1 443 (.ref 445) (.ref 446) 447 801)::
 (nat_lit 449,fD "read_order" zcu "stuckwires.orders" 788 448)::
 (nat_lit 450,tO #[])::
 (nat_lit 453,cO "read_things" 804 340 2 450 .none .none 452 807)::
 (nat_lit 454,fD "read_things" zb9 "stuckwires.orders" 788 453)::
 (nat_lit 455,tO #[])::
 (nat_lit 457,tO #[.str "text" 813,.str "between" 814,.str "parts" 815])::
 (nat_lit 458,tO #[])::
 (nat_lit 460,cO "two_parts" 810 352 2 455 (.ref 457) (.ref 458) 459 816)::
 (nat_lit 461,fD "two_parts" zcX "stuckwires.orders" 788 460)::
 (nat_lit 474,tO #[])::
 (nat_lit 476,tO #[.str "self" 842])::
 (nat_lit 477,tO #[])::
 (nat_lit 479,jK.mk (.type "code") none (yE.fields #[.str "__init__" 839,.str "Desk.__init__" 840,.str "/claim/cut.py" 841,.int 364 0,.int 1 0,.int 0 0,.int 0 0,.int 3 0,.ref 474,.bool Bool.true,.int 181 0,.ref 475,.none,.ref 476,.ref 477,.ref 478,.int 843 0,.int 364 0,.str "/claim/cut.py" 844]) #[])::
 (nat_lit 480,fM "__init__" "Desk.__init__" zbG .none .none .none (.str "stuckwires.desk" 825) none (.ref 479) .none)::
 (nat_lit 481,tO #[])::
 (nat_lit 483,tO #[.str "self" 849,.str "row" 850,.str "order" 851,.str "word" 852,.str "works" 853])::
 (nat_lit 484,tO #[])::
 (nat_lit 486,jK.mk (.type "code") none (yE.fields #[.str "say" 846,.str "Desk.say" 847,.str "/claim/cut.py" 848,.int 368 0,.int 2 0,.int 0 0,.int 0 0,.int 3 0,.ref 481,.bool Bool.true,.int 181 0,.ref 482,.none,.ref 483,.ref 484,.ref 485,.int 854 0,.int 368 0,.str "/claim/cut.py" 855]) #[])::
 (nat_lit 487,fM "say" "Desk.say" zdB .none .none .none (.str "stuckwires.desk" 825) none (.ref 486) .none)::
 (nat_lit 488,tO #[])::
 (nat_lit 490,tO #[.str "self" 860,.str "rows" 861,.str "count" 862])::
 (nat_lit 491,tO #[])::
 (nat_lit 493,jK.mk (.type "code") none (yE.fields #[.str "keep_rows" 857,.str "Desk.keep_rows" 858,.str "/claim/cut.py" 859,.int 384 0,.int 2 0,.int 0 0,.int 0 0,.int 3 0,.ref 488,.bool Bool.true,.int 181 0,.ref 489,.none,.ref 490,.ref 491,.ref 492,.int 863 0,.int 384 0,.str "/claim/cut.py" 864]) #[])::
 (nat_lit 494,fM "keep_rows" "Desk.keep_rows" zbs .none .none .none (.str "stuckwires.desk" 825) none (.ref 493) .none)::
 (nat_lit 495,tO #[])::
 (nat_lit 497,tO #[.str "self" 869,.str "works" 870,.str "less" 871,.str "before" 872,.str "after" 873])::
 (nat_lit 498,tO #[])::
 (nat_lit 500,jK.mk (.type "code") none (yE.fields #[.str "keep_less" 866,.str "Desk.keep_less" 867,.str "/claim/cut.py" 868,.int 390 0,.int 2 0,.int 0 0,.int 0 0,.int 3 0,.ref 495,.bool Bool.true,.int 181 0,.ref 496,.none,.ref 497,.ref 498,.ref 499,.int 874 0,.int 390 0,.str "/claim/cut.py" 875]) #[])::
 (nat_lit 501,jK.mk (.type "function") none (yE.func (PySem.FuncData.mk "keep_less" "Desk.keep_less" (ybQ.mk [] [yaN.mk "self" none (yX.mk 390 18 390 22),yaN.mk "works" none (yX.mk 390 24 390 29)] none [] [] none []) (PySem.FuncBody.stmts [wA.Assign [qC.Name "less" (yX.mk 391 8 391 12)] (qC.Call (qC.Name "made_less" (yX.mk 391 15 391 24)) [qC.Name "works" (yX.mk 391 25 391 30)] [] (yX.mk 391 15 391 31)) (yX.mk 391 8 391 31),wA.Expr (qC.Call (qC.Attribute (qC.Name "self" (yX.mk 392 8 392 12)) "keep_rows" (yX.mk 392 8 392 22)) [qC.Call (qC.Attribute (qC.Call (qC.Name "show_works" (yX.mk 392 23 392 33)) [qC.Name "less" (yX.mk 392 34 392 38)] [] (yX.mk 392 23 392 39)) "split" (yX.mk 392 23 392 45)) [qC.Constant (yac.str "\n") 0 (yX.mk 392 46 392 50)] [] (yX.mk 392 23 392 51)] [] (yX.mk 392 8 392 52)) (yX.mk 392 8 392 52),wA.Assign [qC.Name "before" (yX.mk 393 8 393 14)] (qC.Call (qC.Name "len" (yX.mk 393 17 393 20)) [qC.Subscript (qC.Name "works" (yX.mk 393 21 393 26)) (qC.Constant (yac.int 1) 0 (yX.mk 393 27 393 28)) (yX.mk 393 21 393 29)] [] (yX.mk 393 17 393 30)) (yX.mk 393 8 393 30),wA.Assign [qC.Name "after" (yX.mk 394 8 394 13)] (qC.Call (qC.Name "len" (yX.mk 394 16 394 19)) [qC.Subscript (qC.Name "less" (yX.mk 394 20 394 24)) (qC.Constant (yac.int 1) 0 (yX.mk 394 25 394 26)) (yX.mk 394 20 394 27)] [] (yX.mk 394 16 394 28)) (yX.mk 394 8 394 28),wA.Return (Option.some (qC.JoinedStr [qC.Constant (yac.str "gates ") 0 (yX.mk 395 17 395 23),qC.FormattedValue (qC.Name "before" (yX.mk 395 24 395 30)) (-1) none (yX.mk 395 23 395 31),qC.Constant (yac.str " to ") 0 (yX.mk 395 31 395 35),qC.FormattedValue (qC.Name "after" (yX.mk 395 36 395 41)) (-1) none (yX.mk 395 35 395 42)] (yX.mk 395 15 395 43))) (yX.mk 395 8 395 43)]) (PySem.Scope.mk ybR.function [("self",jI.local),("works",jI.local),("less",jI.local),("before",jI.local),("after",jI.local),("made_less",jI.globalImplicit),("show_works",jI.globalImplicit),("len",jI.globalImplicit)] Bool.false Bool.false []) 3 [] .none .none .none (.str "stuckwires.desk" 825) none (.ref 500) .none 0)) #[])::
 (nat_lit 502,tO #[])::
 (nat_lit 504,tO #[.str "self" 880,.str "works" 881,.str "row" 882,.str "outputs" 883,.str "answers" 884,.str "count" 885])::
 (nat_lit 505,tO #[])::
 (nat_lit 507,jK.mk (.type "code") none (yE.fields #[.str "keep_answer" 877,.str "Desk.keep_answer" 878,.str "/claim/cut.py" 879,.int 397 0,.int 4 0,.int 0 0,.int 0 0,.int 3 0,.ref 502,.bool Bool.true,.int 181 0,.ref 503,.none,.ref 504,.ref 505,.ref 506,.int 886 0,.int 397 0,.str "/claim/cut.py" 887]) #[])::
 (nat_lit 508,jK.mk (.type "function") none (yE.func (PySem.FuncData.mk "keep_answer" "Desk.keep_answer" (ybQ.mk [] [yaN.mk "self" none (yX.mk 397 20 397 24),yaN.mk "works" none (yX.mk 397 26 397 31),yaN.mk "row" none (yX.mk 397 33 397 36),yaN.mk "outputs" none (yX.mk 397 38 397 45)] none [] [] none []) (PySem.FuncBody.stmts [wA.Assign [qC.Name "answers" (yX.mk 398 8 398 15)] (qC.BinOp (qC.Attribute (qC.Name "self" (yX.mk 398 18 398 22)) "answers" (yX.mk 398 18 398 30)) PySem.Operator.Add (qC.List [qC.Tuple [qC.Name "row" (yX.mk 398 35 398 38),qC.Name "outputs" (yX.mk 398 40 398 47)] 0 (yX.mk 398 34 398 48)] (yX.mk 398 33 398 49)) (yX.mk 398 18 398 49)) (yX.mk 398 8 398 49),wA.Assign [qC.Name "count" (yX.mk 399 8 399 13)] (qC.Call (qC.Name "len" (yX.mk 399 16 399 19)) [qC.Call (qC.Name "what_fits" (yX.mk 399 20 399 29)) [qC.Name "works" (yX.mk 399 30 399 35),qC.Name "answers" (yX.mk 399 37 399 44)] [] (yX.mk 399 20 399 45)] [] (yX.mk 399 16 399 46)) (yX.mk 399 8 399 46),wA.Assign [qC.Attribute (qC.Name "self" (yX.mk 400 8 400 12)) "answers" (yX.mk 400 8 400 20)] (qC.Name "answers" (yX.mk 400 23 400 30)) (yX.mk 400 8 400 30),wA.Return (Option.some (qC.JoinedStr [qC.Constant (yac.str "fits ") 0 (yX.mk 401 17 401 22),qC.FormattedValue (qC.Name "count" (yX.mk 401 23 401 28)) (-1) none (yX.mk 401 22 401 29)] (yX.mk 401 15 401 30))) (yX.mk 401 8 401 30)]) (PySem.Scope.mk ybR.function [("self",jI.local),("works",jI.local),("row",jI.local),("outputs",jI.local),("answers",jI.local),("count",jI.local),("len",jI.globalImplicit),("what_fits",jI.globalImplicit)] Bool.false Bool.false []) 3 [] .none .none .none (.str "stuckwires.desk" 825) none (.ref 507) .none 0)) #[])::
 (nat_lit 509,tO #[.str "answers" 889,.str "rows" 890])::
 (nat_lit 510,jK.mk (.type "dict") none (yE.dict #[dE P "__module__" 834 (.str "stuckwires.desk" 825),dE P "__firstlineno__" 838 (.int 362 837),dE P "__init__" 845 (.ref 480),dE P "say" 856 (.ref 487),dE P "keep_rows" 865 (.ref 494),dE P "keep_less" 876 (.ref 501),dE P "keep_answer" 888 (.ref 508),dE P "__static_attributes__" 891 (.ref 509),dE P "__dict__" 893 (.ref 512),dE P "__weakref__" 895 (.ref 513),dE P "__doc__" 896 .none] 4) #[])::
 (nat_lit 511,jK.mk (.type "type") none (yE.cls (jG.mk "Desk" [.type "object"] [.ref 511,.type "object"] 510 "Desk" Bool.true [] [] Bool.false none Bool.false)) #[none,none,Option.some (.str "Desk" 827),Option.some (.str "Desk" 835),Option.some (.builtin "object.__new__"),Option.some (.bool Bool.true)])::
 (nat_lit 512,jK.mk (.type "getset_descriptor") none (yE.fields #[.str "__dict__" 892,.ref 511,.builtin "function.__dict__",.builtin "function.__dict__#set"]) #[])::
 (nat_lit 513,jK.mk (.type "getset_descriptor") none (yE.fields #[.str "__weakref__" 894,.ref 511,.builtin "ExceptionGroup.__weakref__",.none]) #[])::
 (nat_lit 516,tO #[])::
 (nat_lit 518,tO #[.str "works" 902,.str "order" 903,.str "word" 904])::
 (nat_lit 519,tO #[])::
 (nat_lit 521,cO "told_of" 899 402 2 516 (.ref 518) (.ref 519) 520 905)::
 (nat_lit 522,fD "told_of" zd8 "stuckwires.desk" 825 521)::
 (nat_lit 523,tO #[])::
 (nat_lit 525,tO #[.str "row" 911,.str "word" 912])::
 (nat_lit 526,tO #[])::
 (nat_lit 528,cO "shown_or" 908 413 2 523 (.ref 525) (.ref 526) 527 913)::
 (nat_lit 529,fD "shown_or" zdD "stuckwires.desk" 825 528)::
 (nat_lit 530,tO #[])::
 (nat_lit 533,cO "shown" 916 415 1 530 .none .none 532 919)::
 (nat_lit 534,fD "shown" zhk "stuckwires.desk" 825 533)::
 (nat_lit 535,tO #[])::
 (nat_lit 537,tO #[.str "script" 927,.str "k" 928])::
 (nat_lit 538,tO #[])::
 (nat_lit 540,cO "_law_cell_at" 924 418 2 535 (.ref 537) (.ref 538) 539 929)::
 (nat_lit 541,fD "_law_cell_at" zb6 "law_stuckwires_k66_tests_and_alike_ones" 922 540)::
 (nat_lit 542,tO #[])::
 (nat_lit 544,tO #[.str "cell" 935,.str "k" 936,.str "number" 937])::
 (nat_lit 545,tO #[])::
 (nat_lit 547,cO "_law_stir" 932 422 2 542 (.ref 544) (.ref 545) 546 938)::
 (nat_lit 548,fD "_law_stir" zdL "law_stuckwires_k66_tests_and_alike_ones" 922 547)::
 (nat_lit 549,tO #[])::
 (nat_lit 551,tO #[.str "cell" 944])::
 (nat_lit 552,tO #[])::
 (nat_lit 554,cO "_law_deck" 941 426 1 549 (.ref 551) (.ref 552) 553 945)::
 (nat_lit 555,fD "_law_deck" zdF "law_stuckwires_k66_tests_and_alike_ones" 922 554)::
 (nat_lit 556,tO #[])::
 (nat_lit 558,tO #[.str "deck" 951,.str "many" 952,.str "taken" 953])::
 (nat_lit 559,tO #[])::
 (nat_lit 561,cO "_law_take" 948 430 2 556 (.ref 558) (.ref 559) 560 954)::
 (nat_lit 562,fD "_law_take" zdI "law_stuckwires_k66_tests_and_alike_ones" 922 561)::
 (nat_lit 563,tO #[])::
 (nat_lit 565,tO #[.str "deck" 960,.str "kind" 961])::
 (nat_lit 566,tO #[])::
 (nat_lit 568,cO "_law_legs" 957 434 2 563 (.ref 565) (.ref 566) 567 962)::
 (nat_lit 569,fD "_law_legs" zdE "law_stuckwires_k66_tests_and_alike_ones" 922 568)::
 (nat_lit 570,tO #[])::
 (nat_lit 573,cO "_law_works" 965 438 2 570 .none .none 572 968)::
 (nat_lit 574,fD "_law_works" zcY "law_stuckwires_k66_tests_and_alike_ones" 922 573)::
 (nat_lit 582,tO #[])::
 (nat_lit 585,cO "_law_gate" 978 451 2 582 .none .none 584 981)::
 (nat_lit 586,fD "_law_gate" zdw "law_stuckwires_k66_tests_and_alike_ones" 922 585)::
 (nat_lit 587,tO #[])::
 (nat_lit 589,tO #[.str "works" 987,.str "stuck" 988,.str "row" 989,.str "inputs" 990,.str "gates" 991,.str "outputs" 992,.str "found" 993,.str "wire" 994,.str "worth" 995,.str "kind" 996,.str "legs" 997,.str "some" 998,.str "place" 999])::
 (nat_lit 590,tO #[])::
 (nat_lit 592,cO "_law_worths" 984 457 3 587 (.ref 589) (.ref 590) 591 1000)::
 (nat_lit 593,fD "_law_worths" zcr "law_stuckwires_k66_tests_and_alike_ones" 922 592)::
 (nat_lit 599,tO #[])::
 (nat_lit 601,tO #[.str "works" 1012,.str "rows" 1013,.str "kind" 1014,.str "legs" 1015,.str "row" 1016,.str "leg" 1017,.str "wire" 1018])::
 (nat_lit 602,tO #[])::
 (nat_lit 604,cO "_law_text" 1009 474 1 599 (.ref 601) (.ref 602) 603 1019)::
 (nat_lit 605,fD "_law_text" zdz "law_stuckwires_k66_tests_and_alike_ones" 922 604)::
 (nat_lit 606,tO #[])::
 (nat_lit 608,tO #[.str "desk" 1025,.str "row" 1026,.str "caught" 1027,.str "found" 1028,.str "e" 1029,.str "kinds" 1030])::
 (nat_lit 609,tO #[])::
 (nat_lit 611,cO "_law_told" 1022 485 2 606 (.ref 608) (.ref 609) 610 1031)::
 (nat_lit 612,fD "_law_told" zdG "law_stuckwires_k66_tests_and_alike_ones" 922 611)::
 (nat_lit 613,tO #[])::
 (nat_lit 616,cO "_law_put" 1034 499 2 613 .none .none 615 1037)::
 (nat_lit 617,fD "_law_put" zei "law_stuckwires_k66_tests_and_alike_ones" 922 616)::
 (nat_lit 618,tO #[])::
 (nat_lit 621,cO "_law_figures" 1040 503 1 618 .none .none 620 1043)::
 (nat_lit 622,fD "_law_figures" zcb "law_stuckwires_k66_tests_and_alike_ones" 922 621)::
 (nat_lit 623,tO #[])::
 (nat_lit 626,cO "_law_fault" 1046 505 2 623 .none .none 625 1049)::
 (nat_lit 627,fD "_law_fault" zcV "law_stuckwires_k66_tests_and_alike_ones" 922 626)::
 (nat_lit 628,tO #[])::
 (nat_lit 631,cO "_law_first" 1052 511 3 628 .none .none 630 1055)::
 (nat_lit 632,fD "_law_first" zcT "law_stuckwires_k66_tests_and_alike_ones" 922 631)::
 (nat_lit 633,tO #[])::
 (nat_lit 636,cO "_law_shown" 1058 519 1 633 .none .none 635 1061)::
 (nat_lit 637,fD "_law_shown" zc0 "law_stuckwires_k66_tests_and_alike_ones" 922 636)::
 (nat_lit 638,tO #[])::
 (nat_lit 640,tO #[.str "script" 1067,.str "works" 1068,.str "desk" 1069,.str "cell" 1070,.str "deck" 1071,.str "one" 1072,.str "other" 1073,.str "due" 1074,.str "some" 1075,.str "pair" 1076])::
 (nat_lit 641,tO #[])::
 (nat_lit 643,cO "law" 1064 521 1 638 (.ref 640) (.ref 641) 642 1077)::
 (nat_lit 644,fD "law" zhy "law_stuckwires_k66_tests_and_alike_ones" 922 643)::[]
def zfM:List Addr:=[3,15,22,23,24,25,28,35,36,37,40,47,48,49,52,59,60,61,64,71,72,73,76,83,84,85,88,95,96,97,100,101,102,103,104,105,106,107,108,110,111,113,114,115,117,118,120,121,122,124,125,127,128,129,132,133,144,147,148,154,155,157,158,160,161,162,165,166,167,169,170,172,173,174,175,178,179,180,183,184,185,186,189,190,191,194,195,196,199,200,213,215,216,218,219,220,223,224,317,319,320,322,323,324,326,327,329,330,413,416,417,418,420,421,423,424,430,433,434,435,437,438,440,441,442,443,445,446,448,449,450,453,454,455,457,458,460,461,474,476,477,479,480,481,483,484,486,487,488,490,491,493,494,495,497,498,500,501,502,504,505,507,508,509,510,511,512,513,516,518,519,521,522,523,525,526,528,529,530,533,534,535,537,538,540,541,542,544,545,547,548,549,551,552,554,555,556,558,559,561,562,563,565,566,568,569,570,573,574,582,585,586,587,589,590,592,593,599,601,602,604,605,606,608,609,611,612,613,616,617,618,621,622,623,626,627,628,631,632,633,636,637,638,640,641,643,644]
noncomputable def loo:List Str:="StuckError" ::"NoWorks" ::"NoRow" ::"NoFault" ::"NoText" ::"NoOrder" ::"TooMany" ::"LEG_BOUNDS" ::"works_of" ::"check_gate" ::"is_kind" ::"are_wires_below" ::"wire_worths" ::"outputs_at" ::"every_row" ::"check_row" ::"gate_worth" ::"every_fault" ::"stuck_places" ::"worths_with" ::"leg_worths" ::"outputs_with" ::"outputs_seen" ::"rows_at_once" ::"outputs_in" ::"seen_of_each" ::"first_unlike" ::"unlike_numbers" ::"finding_rows" ::"MOST_INPUTS" ::"fewest_rows" ::"check_inputs" ::"meets_each" ::"meet" ::"fewest_numbers" ::"longer_choices" ::"WELL" ::"what_fits" ::"next_row" ::"seen_of_fitting" ::"seen_of_all" ::"row_number" ::"left_behind" ::"next_number" ::"parts_at" ::"first_test" ::"parted_at" ::"CONSTANTS" ::"is_spare" ::"is_bare" ::"made_less" ::"gate_faults" ::"wire_of" ::"constants_stuck" ::"stuck_unseen" ::"stuck_for_good" ::"leg_behind" ::"wire_behind" ::"without_unread" ::"read_wires" ::"FIGURES" ::"show_works" ::"read_works" ::"read_fault" ::"shown_row" ::"read_row" ::"read_number" ::"WORDS_ALONE" ::"read_order" ::"read_things" ::"two_parts" ::"read_worths" ::"Desk" ::"told_of" ::"shown_or" ::"shown" ::"_law_cell_at" ::"_law_stir" ::"_law_deck" ::"_law_take" ::"_law_legs" ::"_law_works" ::"_law_copied" ::"_law_gate" ::"_law_worths" ::"_law_row" ::"_law_text" ::"_law_told" ::"_law_put" ::"_law_figures" ::"_law_fault" ::"_law_first" ::"_law_shown" ::[]
noncomputable def view:Program:={jQ with main:={jQ.main with body:=[106].map top}}
noncomputable def obsC (p q:Program) (loose:List Str) (Xt:Shared→Bool) (P:Params) (s:Shared):=
 (staticsOk (importedModules p.main.body) (boot_heap P) s.heap && namesBound p s.heap && gensDone s && laidKept (boot_heap P) s.heap,openSeen q loose (importedModules p.main.body) Xt true s)
theorem zhA (l:List Stmt)(a b c:Nat)(h:a+b=c):(l.drop a).take b++l.drop c=l.drop a:=by
 subst h
 rw [← List.drop_drop]
 exact wR _ _
theorem znG {α β :Type}{a b:Option α}{f: α→β}{c: β}(h1:∀ r,a=some r→b=some r)(h2:a.map f=some c):b.map f=some c:=by
 obtain ⟨s,e,e'⟩:=xC.mp h2
 rw [h1 s e]
 exact congrArg some e'
theorem leftC {p q:Program}{loose:List Str}{Xt:Shared→Bool}{α :Type}{Yf:Shared→α}{Ya:World→α}{N m₀ :Nat}{ann:Option Value}
  (h1:opening p=plainProg p.main.scope.names) (h2:Nat.ble 600 N=true) (h3:∀ s:Shared,fenceModules? p s=some s)
  (hn:∀ P,((boot_heap P).isNs qH,(boot_heap P).objs.size,(boot_heap P).nsMap qH (yB "__annotations__"))=(true,m₀,ann))
  (h:∀ (w:World) (os:OsState),(topRun treeTable p w m₀ ann N ⟨boot_heap w.params,#[],boot_drawn,boot_toks,os⟩ (topStub p)).map (fun s=>obsC p q loose Xt w.params s)=some (true,openGood q loose))
  (hY:∀ (w:World) (os:OsState),(topRun treeTable p w m₀ ann N ⟨boot_heap w.params,#[],boot_drawn,boot_toks,os⟩ (topStub p)).map Yf=some (Ya w)):
  LeftO p q loose Xt Yf Ya N:=fun w=>by
 obtain ⟨s0,e0,e1⟩:=xC.mp (boot_open h1 h2 h3 w)
 obtain ⟨hp,gs,dr,tk,os⟩:=s0
 have b1:hp=boot_heap w.params:=congrArg Prod.fst e1
 have b2:gs=⟨[]⟩:=congrArg (fun x=>x.2.1) e1
 have b3:dr=boot_drawn:=congrArg (fun x=>x.2.2.1) e1
 have b4:tk=boot_toks:=congrArg (fun x=>x.2.2.2) e1
 subst b1 b2 b3 b4
 have n1:(boot_heap w.params).isNs qH=true:=congrArg Prod.fst (hn w.params)
 have n2:(boot_heap w.params).objs.size=m₀ :=congrArg (fun x=>x.2.1) (hn w.params)
 have n3:(boot_heap w.params).nsMap qH (yB "__annotations__")=ann:=congrArg (fun x=>x.2.2) (hn w.params)
 obtain ⟨sT,r3,r2⟩:=xC.mp (h w os)
 have y:=hY w os
 have c1:=congrArg Prod.fst r2
 have c2:=congrArg Prod.snd r2
 unfold openEnds
 rw [e0]
 show ((topFrom treeTable p w N ⟨boot_heap w.params,⟨[]⟩,boot_drawn,boot_toks,os⟩).map _)=_
 unfold topFrom
 have n4:((boot_heap w.params).isNs qH && (#[]:Array GenState).size==0)=true:=by rw [n1];rfl
 show ((match ((boot_heap w.params).isNs qH && (#[]:Array GenState).size==0) with
  | true=>(topRun treeTable p w (boot_heap w.params).objs.size ((boot_heap w.params).nsMap qH (yB "__annotations__")) N ⟨boot_heap w.params,⟨[]⟩,boot_drawn,boot_toks,os⟩ (topStub p)).bind _
  | false=>none).map _)=_
 rw [n4,n2,n3]
 dsimp only
 rw [r3] at y ⊢
 show ((match (staticsOk (importedModules p.main.body) (boot_heap w.params) sT.heap && namesBound p sT.heap && gensDone sT && laidKept (boot_heap w.params) sT.heap) with | true=>some sT | false=>none).map _)=_
 have c1':(staticsOk (importedModules p.main.body) (boot_heap w.params) sT.heap && namesBound p sT.heap && gensDone sT && laidKept (boot_heap w.params) sT.heap)=true:=c1
 rw [c1']
 exact congrArg some (Prod.ext c2 (yV y))
end My
section
open PySem PySem.W PyProof.Rows
noncomputable abbrev My.fY (x y:Str) (s:Stmt):Obj:=.mk .none none (.func (FuncData.mk x y (L2.zbj s) (.stmts (L2.za1 s)) (L2.zak s) 0 [] .none .none .none .none none .none .none 0)) #[]
noncomputable abbrev My.fZ (x:Str) (s:Stmt):Obj:=My.fY x x s
open My in
noncomputable def My.nw (P:Params):List Obj:=
 tO #[]::
 .mk (.type "code") none (yE.fields #[.str "<module>" 182,.str "<module>" 183,.str "/claim/cut.py" 184,.int 1 0,.int 0 0,.int 0 0,.int 0 0,.int 0 0,.ref 11,.bool Bool.false,.int 181 0,.ref 12,.none,.none,.none,.none,.int 185 0,.int 1 0,.str "/claim/cut.py" 186]) #[]::
 .mk (.type "frame") none yE.plain #[Option.some (.ref 13),Option.some (.ref 3),Option.some (.ref 3),none,Option.some (.str "__main__" 164),none,Option.some (.ref 0)]::
 tO #[.type "ValueError"]::
 .mk (.type "builtin_function_or_method") none (yE.fields #[.builtin "type.__prepare__",.type "type"]) #[]::
 .mk (.type "dict") none (yE.dict #[dE P "__module__" 196 (.str "stuckwires.errors" 187),dE P "__qualname__" 198 (.str "StuckError" 197),dE P "__firstlineno__" 200 (.int 2 199),dE P "__static_attributes__" 201 (.ref 22)] 4) #[]::
 tO #[]::
 .mk .none none (yE.fields #[]) #[]::
 .mk (.type "code") none (yE.fields #[.str "StuckError" 191,.str "StuckError" 192,.str "/claim/cut.py" 193,.int 2 0,.int 0 0,.int 0 0,.int 0 0,.int 0 0,.ref 18,.bool Bool.false,.int 181 0,.ref 19,.none,.none,.none,.none,.int 194 0,.int 2 0,.str "/claim/cut.py" 195]) #[]::
 .mk (.type "frame") none yE.plain #[Option.some (.ref 20),Option.some (.ref 3),Option.some (.ref 17),none,Option.some (.str "stuckwires.errors" 187),none,Option.some (.ref 0)]::
 tO #[]::
 .mk (.type "dict") none (yE.dict #[dE P "__module__" 196 (.str "stuckwires.errors" 187),dE P "__firstlineno__" 200 (.int 2 199),dE P "__static_attributes__" 201 (.ref 22),dE P "__weakref__" 203 (.ref 25),dE P "__doc__" 204 .none] 3) #[]::
 .mk (.type "type") none (yE.cls (jG.mk "StuckError" [.type "ValueError"] [.ref 24,.type "ValueError",.type "Exception",.type "BaseException",.type "object"] 23 "StuckError" Bool.true [] [.ref 37,.ref 49,.ref 61,.ref 73,.ref 85,.ref 97] Bool.false none Bool.false)) #[Option.some (.ref 15),none,Option.some (.str "StuckError" 189),Option.some (.str "StuckError" 197),Option.some (.builtin "ValueError.__new__"),Option.some (.bool Bool.true)]::
 .mk (.type "getset_descriptor") none (yE.fields #[.str "__weakref__" 202,.ref 24,.builtin "ExceptionGroup.__weakref__",.none]) #[]::
 .mk (.type "super") none (yE.fields #[.ref 24,.ref 24,.ref 24]) #[]::
 .mk (.type "builtin_function_or_method") none (yE.fields #[.builtin "object.__init_subclass__",.ref 24]) #[]::
 tO #[.ref 24]::
 .mk (.type "builtin_function_or_method") none (yE.fields #[.builtin "type.__prepare__",.type "type"]) #[]::
 .mk (.type "dict") none (yE.dict #[dE P "__module__" 214 (.str "stuckwires.errors" 187),dE P "__qualname__" 216 (.str "NoWorks" 215),dE P "__firstlineno__" 218 (.int 4 217),dE P "__static_attributes__" 219 (.ref 35)] 4) #[]::
 tO #[]::
 .mk .none none (yE.fields #[]) #[]::
 .mk (.type "code") none (yE.fields #[.str "NoWorks" 209,.str "NoWorks" 210,.str "/claim/cut.py" 211,.int 4 0,.int 0 0,.int 0 0,.int 0 0,.int 0 0,.ref 31,.bool Bool.false,.int 181 0,.ref 32,.none,.none,.none,.none,.int 212 0,.int 4 0,.str "/claim/cut.py" 213]) #[]::
 .mk (.type "frame") none yE.plain #[Option.some (.ref 33),Option.some (.ref 3),Option.some (.ref 30),none,Option.some (.str "stuckwires.errors" 187),none,Option.some (.ref 0)]::
 tO #[]::
 .mk (.type "dict") none (yE.dict #[dE P "__module__" 214 (.str "stuckwires.errors" 187),dE P "__firstlineno__" 218 (.int 4 217),dE P "__static_attributes__" 219 (.ref 35),dE P "__doc__" 220 .none] 2) #[]::
 .mk (.type "type") none (yE.cls (jG.mk "NoWorks" [.ref 24] [.ref 37,.ref 24,.type "ValueError",.type "Exception",.type "BaseException",.type "object"] 36 "NoWorks" Bool.true [] [] Bool.false none Bool.false)) #[Option.some (.ref 28),none,Option.some (.str "NoWorks" 207),Option.some (.str "NoWorks" 215),Option.some (.builtin "ValueError.__new__"),Option.some (.bool Bool.true)]::
 .mk (.type "super") none (yE.fields #[.ref 37,.ref 37,.ref 37]) #[]::
 .mk (.type "builtin_function_or_method") none (yE.fields #[.builtin "object.__init_subclass__",.ref 37]) #[]::
 tO #[.ref 24]::
 .mk (.type "builtin_function_or_method") none (yE.fields #[.builtin "type.__prepare__",.type "type"]) #[]::
 .mk (.type "dict") none (yE.dict #[dE P "__module__" 230 (.str "stuckwires.errors" 187),dE P "__qualname__" 232 (.str "NoRow" 231),dE P "__firstlineno__" 234 (.int 6 233),dE P "__static_attributes__" 235 (.ref 47)] 4) #[]::
 tO #[]::
 .mk .none none (yE.fields #[]) #[]::
 .mk (.type "code") none (yE.fields #[.str "NoRow" 225,.str "NoRow" 226,.str "/claim/cut.py" 227,.int 6 0,.int 0 0,.int 0 0,.int 0 0,.int 0 0,.ref 43,.bool Bool.false,.int 181 0,.ref 44,.none,.none,.none,.none,.int 228 0,.int 6 0,.str "/claim/cut.py" 229]) #[]::
 .mk (.type "frame") none yE.plain #[Option.some (.ref 45),Option.some (.ref 3),Option.some (.ref 42),none,Option.some (.str "stuckwires.errors" 187),none,Option.some (.ref 0)]::
 tO #[]::
 .mk (.type "dict") none (yE.dict #[dE P "__module__" 230 (.str "stuckwires.errors" 187),dE P "__firstlineno__" 234 (.int 6 233),dE P "__static_attributes__" 235 (.ref 47),dE P "__doc__" 236 .none] 2) #[]::
 .mk (.type "type") none (yE.cls (jG.mk "NoRow" [.ref 24] [.ref 49,.ref 24,.type "ValueError",.type "Exception",.type "BaseException",.type "object"] 48 "NoRow" Bool.true [] [] Bool.false none Bool.false)) #[Option.some (.ref 40),none,Option.some (.str "NoRow" 223),Option.some (.str "NoRow" 231),Option.some (.builtin "ValueError.__new__"),Option.some (.bool Bool.true)]::
 .mk (.type "super") none (yE.fields #[.ref 49,.ref 49,.ref 49]) #[]::
 .mk (.type "builtin_function_or_method") none (yE.fields #[.builtin "object.__init_subclass__",.ref 49]) #[]::
 tO #[.ref 24]::
 .mk (.type "builtin_function_or_method") none (yE.fields #[.builtin "type.__prepare__",.type "type"]) #[]::
 .mk (.type "dict") none (yE.dict #[dE P "__module__" 246 (.str "stuckwires.errors" 187),dE P "__qualname__" 248 (.str "NoFault" 247),dE P "__firstlineno__" 250 (.int 8 249),dE P "__static_attributes__" 251 (.ref 59)] 4) #[]::
 tO #[]::
 .mk .none none (yE.fields #[]) #[]::
 .mk (.type "code") none (yE.fields #[.str "NoFault" 241,.str "NoFault" 242,.str "/claim/cut.py" 243,.int 8 0,.int 0 0,.int 0 0,.int 0 0,.int 0 0,.ref 55,.bool Bool.false,.int 181 0,.ref 56,.none,.none,.none,.none,.int 244 0,.int 8 0,.str "/claim/cut.py" 245]) #[]::
 .mk (.type "frame") none yE.plain #[Option.some (.ref 57),Option.some (.ref 3),Option.some (.ref 54),none,Option.some (.str "stuckwires.errors" 187),none,Option.some (.ref 0)]::
 tO #[]::
 .mk (.type "dict") none (yE.dict #[dE P "__module__" 246 (.str "stuckwires.errors" 187),dE P "__firstlineno__" 250 (.int 8 249),dE P "__static_attributes__" 251 (.ref 59),dE P "__doc__" 252 .none] 2) #[]::
 .mk (.type "type") none (yE.cls (jG.mk "NoFault" [.ref 24] [.ref 61,.ref 24,.type "ValueError",.type "Exception",.type "BaseException",.type "object"] 60 "NoFault" Bool.true [] [] Bool.false none Bool.false)) #[Option.some (.ref 52),none,Option.some (.str "NoFault" 239),Option.some (.str "NoFault" 247),Option.some (.builtin "ValueError.__new__"),Option.some (.bool Bool.true)]::
 .mk (.type "super") none (yE.fields #[.ref 61,.ref 61,.ref 61]) #[]::
 .mk (.type "builtin_function_or_method") none (yE.fields #[.builtin "object.__init_subclass__",.ref 61]) #[]::
 tO #[.ref 24]::
 .mk (.type "builtin_function_or_method") none (yE.fields #[.builtin "type.__prepare__",.type "type"]) #[]::
 .mk (.type "dict") none (yE.dict #[dE P "__module__" 262 (.str "stuckwires.errors" 187),dE P "__qualname__" 264 (.str "NoText" 263),dE P "__firstlineno__" 266 (.int 10 265),dE P "__static_attributes__" 267 (.ref 71)] 4) #[]::
 tO #[]::
 .mk .none none (yE.fields #[]) #[]::
 .mk (.type "code") none (yE.fields #[.str "NoText" 257,.str "NoText" 258,.str "/claim/cut.py" 259,.int 10 0,.int 0 0,.int 0 0,.int 0 0,.int 0 0,.ref 67,.bool Bool.false,.int 181 0,.ref 68,.none,.none,.none,.none,.int 260 0,.int 10 0,.str "/claim/cut.py" 261]) #[]::
 .mk (.type "frame") none yE.plain #[Option.some (.ref 69),Option.some (.ref 3),Option.some (.ref 66),none,Option.some (.str "stuckwires.errors" 187),none,Option.some (.ref 0)]::
 tO #[]::
 .mk (.type "dict") none (yE.dict #[dE P "__module__" 262 (.str "stuckwires.errors" 187),dE P "__firstlineno__" 266 (.int 10 265),dE P "__static_attributes__" 267 (.ref 71),dE P "__doc__" 268 .none] 2) #[]::
 .mk (.type "type") none (yE.cls (jG.mk "NoText" [.ref 24] [.ref 73,.ref 24,.type "ValueError",.type "Exception",.type "BaseException",.type "object"] 72 "NoText" Bool.true [] [] Bool.false none Bool.false)) #[Option.some (.ref 64),none,Option.some (.str "NoText" 255),Option.some (.str "NoText" 263),Option.some (.builtin "ValueError.__new__"),Option.some (.bool Bool.true)]::
 .mk (.type "super") none (yE.fields #[.ref 73,.ref 73,.ref 73]) #[]::
 .mk (.type "builtin_function_or_method") none (yE.fields #[.builtin "object.__init_subclass__",.ref 73]) #[]::
 tO #[.ref 24]::
 .mk (.type "builtin_function_or_method") none (yE.fields #[.builtin "type.__prepare__",.type "type"]) #[]::
 .mk (.type "dict") none (yE.dict #[dE P "__module__" 278 (.str "stuckwires.errors" 187),dE P "__qualname__" 280 (.str "NoOrder" 279),dE P "__firstlineno__" 282 (.int 12 281),dE P "__static_attributes__" 283 (.ref 83)] 4) #[]::
 tO #[]::
 .mk .none none (yE.fields #[]) #[]::
 .mk (.type "code") none (yE.fields #[.str "NoOrder" 273,.str "NoOrder" 274,.str "/claim/cut.py" 275,.int 12 0,.int 0 0,.int 0 0,.int 0 0,.int 0 0,.ref 79,.bool Bool.false,.int 181 0,.ref 80,.none,.none,.none,.none,.int 276 0,.int 12 0,.str "/claim/cut.py" 277]) #[]::
 .mk (.type "frame") none yE.plain #[Option.some (.ref 81),Option.some (.ref 3),Option.some (.ref 78),none,Option.some (.str "stuckwires.errors" 187),none,Option.some (.ref 0)]::
 tO #[]::
 .mk (.type "dict") none (yE.dict #[dE P "__module__" 278 (.str "stuckwires.errors" 187),dE P "__firstlineno__" 282 (.int 12 281),dE P "__static_attributes__" 283 (.ref 83),dE P "__doc__" 284 .none] 2) #[]::
 .mk (.type "type") none (yE.cls (jG.mk "NoOrder" [.ref 24] [.ref 85,.ref 24,.type "ValueError",.type "Exception",.type "BaseException",.type "object"] 84 "NoOrder" Bool.true [] [] Bool.false none Bool.false)) #[Option.some (.ref 76),none,Option.some (.str "NoOrder" 271),Option.some (.str "NoOrder" 279),Option.some (.builtin "ValueError.__new__"),Option.some (.bool Bool.true)]::
 .mk (.type "super") none (yE.fields #[.ref 85,.ref 85,.ref 85]) #[]::
 .mk (.type "builtin_function_or_method") none (yE.fields #[.builtin "object.__init_subclass__",.ref 85]) #[]::
 tO #[.ref 24]::
 .mk (.type "builtin_function_or_method") none (yE.fields #[.builtin "type.__prepare__",.type "type"]) #[]::
 .mk (.type "dict") none (yE.dict #[dE P "__module__" 294 (.str "stuckwires.errors" 187),dE P "__qualname__" 296 (.str "TooMany" 295),dE P "__firstlineno__" 298 (.int 14 297),dE P "__static_attributes__" 299 (.ref 95)] 4) #[]::
 tO #[]::
 .mk .none none (yE.fields #[]) #[]::
 .mk (.type "code") none (yE.fields #[.str "TooMany" 289,.str "TooMany" 290,.str "/claim/cut.py" 291,.int 14 0,.int 0 0,.int 0 0,.int 0 0,.int 0 0,.ref 91,.bool Bool.false,.int 181 0,.ref 92,.none,.none,.none,.none,.int 292 0,.int 14 0,.str "/claim/cut.py" 293]) #[]::
 .mk (.type "frame") none yE.plain #[Option.some (.ref 93),Option.some (.ref 3),Option.some (.ref 90),none,Option.some (.str "stuckwires.errors" 187),none,Option.some (.ref 0)]::
 tO #[]::
 .mk (.type "dict") none (yE.dict #[dE P "__module__" 294 (.str "stuckwires.errors" 187),dE P "__firstlineno__" 298 (.int 14 297),dE P "__static_attributes__" 299 (.ref 95),dE P "__doc__" 300 .none] 2) #[]::
 .mk (.type "type") none (yE.cls (jG.mk "TooMany" [.ref 24] [.ref 97,.ref 24,.type "ValueError",.type "Exception",.type "BaseException",.type "object"] 96 "TooMany" Bool.true [] [] Bool.false none Bool.false)) #[Option.some (.ref 88),none,Option.some (.str "TooMany" 287),Option.some (.str "TooMany" 295),Option.some (.builtin "ValueError.__new__"),Option.some (.bool Bool.true)]::
 .mk (.type "super") none (yE.fields #[.ref 97,.ref 97,.ref 97]) #[]::
 .mk (.type "builtin_function_or_method") none (yE.fields #[.builtin "object.__init_subclass__",.ref 97]) #[]::
 .mk (.type "dict") none (yE.dict #[dE P "and" 305 (.ref 101),dE P "or" 308 (.ref 102),dE P "odd" 311 (.ref 103),dE P "not" 314 (.ref 104),dE P "choose" 317 (.ref 105),dE P "zero" 320 (.ref 106),dE P "one" 323 (.ref 107)] 7) #[]::
 tO #[.int 2 306,.int 4 307]::
 tO #[.int 2 309,.int 4 310]::
 tO #[.int 2 312,.int 4 313]::
 tO #[.int 1 315,.int 1 316]::
 tO #[.int 3 318,.int 3 319]::
 tO #[.int 0 321,.int 0 322]::
 tO #[.int 0 324,.int 0 325]::
 tO #[]::
 .mk .none none (yE.fields #[]) #[]::
 tO #[.str "inputs" 337,.str "gates" 338,.str "outputs" 339,.str "gate" 340,.str "body" 341]::
 tO #[]::
 fZ "works_of" (top 10)::
 cO "works_of" 334 18 3 108 (.ref 110) (.ref 111) 112 342::
 fD "works_of" (top 10) "stuckwires.works" 303 113::
 tO #[]::
 .mk .none none (yE.fields #[]) #[]::
 tO #[.str "kind" 348,.str "legs" 349,.str "own_wire" 350,.str "bounds" 351]::
 tO #[]::
 fZ "check_gate" (top 11)::
 cO "check_gate" 345 28 3 115 (.ref 117) (.ref 118) 119 352::
 fD "check_gate" (top 11) "stuckwires.works" 303 120::
 tO #[]::
 .mk .none none (yE.fields #[]) #[]::
 tO #[.str "word" 358]::
 tO #[]::
 fZ "is_kind" (top 12)::
 cO "is_kind" 355 36 1 122 (.ref 124) (.ref 125) 126 359::
 fD "is_kind" (top 12) "stuckwires.works" 303 127::
 tO #[]::
 .mk .none none (yE.fields #[]) #[]::
 fZ "are_wires_below" (top 13)::
 cO "are_wires_below" 362 38 2 129 .none .none 131 365::
 fD "are_wires_below" (top 13) "stuckwires.works" 303 132::
 tO #[]::
 .mk .none none (yE.fields #[]) #[]::
 fZ "wire_worths" (top 14)::
 cO "wire_worths" 368 40 2 134 .none .none 136 371::
 fD "wire_worths" (top 14) "stuckwires.works" 303 137::
 tO #[]::
 .mk .none none (yE.fields #[]) #[]::
 fZ "outputs_at" (top 15)::
 cO "outputs_at" 374 46 2 139 .none .none 141 377::
 fD "outputs_at" (top 15) "stuckwires.works" 303 142::
 tO #[]::
 .mk .none none (yE.fields #[]) #[]::
 fZ "every_row" (top 16)::
 cO "every_row" 380 49 1 144 .none .none 146 383::
 fD "every_row" (top 16) "stuckwires.works" 303 147::
 tO #[]::
 .mk .none none (yE.fields #[]) #[]::
 fZ "check_row" (top 17)::
 cO "check_row" 386 54 2 149 .none .none 151 389::
 fD "check_row" (top 17) "stuckwires.works" 303 152::
 tO #[.int 1 392]::
 tO #[]::
 .mk .none none (yE.fields #[]) #[]::
 tO #[.str "kind" 396,.str "worths" 397,.str "ones" 398,.str "told" 399,.str "worth" 400]::
 tO #[]::
 fZ "gate_worth" (top 18)::
 cO "gate_worth" 393 59 3 155 (.ref 157) (.ref 158) 159 401::
 fO "gate_worth" (top 18) (.ref 154) .none .none (.str "stuckwires.works" 303) none (.ref 160) .none::
 tO #[]::
 .mk .none none (yE.fields #[]) #[]::
 fZ "every_fault" (top 20)::
 cO "every_fault" 406 74 1 162 .none .none 164 409::
 fD "every_fault" (top 20) "stuckwires.faults" 404 165::
 tO #[]::
 .mk .none none (yE.fields #[]) #[]::
 tO #[.str "works" 415,.str "faults" 416,.str "known_faults" 417,.str "stuck" 418,.str "fault" 419,.str "place" 420]::
 tO #[]::
 fZ "stuck_places" (top 21)::
 cO "stuck_places" 412 84 2 167 (.ref 169) (.ref 170) 171 421::
 fD "stuck_places" (top 21) "stuckwires.faults" 404 172::
 tO #[.int 1 424]::
 tO #[]::
 .mk .none none (yE.fields #[]) #[]::
 fZ "worths_with" (top 22)::
 cO "worths_with" 425 95 4 175 .none .none 177 428::
 fO "worths_with" (top 22) (.ref 174) .none .none (.str "stuckwires.faults" 404) none (.ref 178) .none::
 tO #[]::
 .mk .none none (yE.fields #[]) #[]::
 fZ "leg_worths" (top 23)::
 cO "leg_worths" 431 102 3 180 .none .none 182 434::
 fD "leg_worths" (top 23) "stuckwires.faults" 404 183::
 tO #[.int 1 437]::
 tO #[]::
 .mk .none none (yE.fields #[]) #[]::
 fZ "outputs_with" (top 24)::
 cO "outputs_with" 438 104 4 186 .none .none 188 441::
 fO "outputs_with" (top 24) (.ref 185) .none .none (.str "stuckwires.faults" 404) none (.ref 189) .none::
 tO #[]::
 .mk .none none (yE.fields #[]) #[]::
 fZ "outputs_seen" (top 26)::
 cO "outputs_seen" 446 108 2 191 .none .none 193 449::
 fD "outputs_seen" (top 26) "stuckwires.seen" 444 194::
 tO #[]::
 .mk .none none (yE.fields #[]) #[]::
 fZ "rows_at_once" (top 27)::
 cO "rows_at_once" 452 113 1 196 .none .none 198 455::
 fD "rows_at_once" (top 27) "stuckwires.seen" 444 199::
 tO #[]::
 .mk .none none (yE.fields #[]) #[]::
 fZ "outputs_in" (top 28)::
 cO "outputs_in" 458 121 2 201 .none .none 203 461::
 fD "outputs_in" (top 28) "stuckwires.seen" 444 204::
 tO #[]::
 .mk .none none (yE.fields #[]) #[]::
 tO #[.str "works" 467,.str "seen" 468,.str "fault" 469]::
 tO #[]::
 fZ "seen_of_each" (top 29)::
 cO "seen_of_each" 464 123 1 206 (.ref 208) (.ref 209) 210 470::
 fD "seen_of_each" (top 29) "stuckwires.seen" 444 211::
 tO #[]::
 .mk .none none (yE.fields #[]) #[]::
 tO #[.str "works" 476,.str "stuck" 477,.str "others" 478,.str "numbers" 479]::
 tO #[]::
 fZ "first_unlike" (top 30)::
 cO "first_unlike" 473 128 3 213 (.ref 215) (.ref 216) 217 480::
 fD "first_unlike" (top 30) "stuckwires.seen" 444 218::
 tO #[]::
 .mk .none none (yE.fields #[]) #[]::
 fZ "unlike_numbers" (top 31)::
 cO "unlike_numbers" 483 131 2 220 .none .none 222 486::
 fD "unlike_numbers" (top 31) "stuckwires.seen" 444 223::
 tO #[]::
 .mk .none none (yE.fields #[]) #[]::
 tO #[.str "works" 492,.str "right" 493,.str "finding" 494,.str "fault" 495,.str "seen" 496,.str "numbers" 497]::
 tO #[]::
 fZ "finding_rows" (top 32)::
 cO "finding_rows" 489 136 1 225 (.ref 227) (.ref 228) 229 498::
 fD "finding_rows" (top 32) "stuckwires.seen" 444 230::
 tO #[]::
 .mk .none none (yE.fields #[]) #[]::
 fZ "fewest_rows" (top 35)::
 cO "fewest_rows" 505 146 1 232 .none .none 234 508::
 fD "fewest_rows" (top 35) "stuckwires.fewest" 501 235::
 tO #[]::
 .mk .none none (yE.fields #[]) #[]::
 tO #[.str "works" 514]::
 tO #[]::
 fZ "check_inputs" (top 36)::
 cO "check_inputs" 511 150 1 237 (.ref 239) (.ref 240) 241 515::
 fD "check_inputs" (top 36) "stuckwires.fewest" 501 242::
 tO #[]::
 .mk .none none (yE.fields #[]) #[]::
 fZ "meets_each" (top 37)::
 cO "meets_each" 518 153 2 244 .none .none 246 521::
 fD "meets_each" (top 37) "stuckwires.fewest" 501 247::
 tO #[]::
 .mk .none none (yE.fields #[]) #[]::
 fZ "meet" (top 38)::
 cO "meet" 524 155 2 249 .none .none 251 527::
 fD "meet" (top 38) "stuckwires.fewest" 501 252::
 tO #[]::
 .mk .none none (yE.fields #[]) #[]::
 fZ "fewest_numbers" (top 39)::
 cO "fewest_numbers" 530 157 2 254 .none .none 256 533::
 fD "fewest_numbers" (top 39) "stuckwires.fewest" 501 257::
 tO #[]::
 .mk .none none (yE.fields #[]) #[]::
 fZ "longer_choices" (top 40)::
 cO "longer_choices" 536 164 2 259 .none .none 261 539::
 fD "longer_choices" (top 40) "stuckwires.fewest" 501 262::
 tO #[.str "well" 544]::
 tO #[]::
 .mk .none none (yE.fields #[]) #[]::
 tO #[.str "works" 549,.str "answers" 550]::
 tO #[]::
 fZ "what_fits" (top 43)::
 cO "what_fits" 546 172 2 265 (.ref 267) (.ref 268) 269 551::
 fD "what_fits" (top 43) "stuckwires.answers" 542 270::
 tO #[]::
 .mk .none none (yE.fields #[]) #[]::
 tO #[.str "works" 557,.str "answers" 558,.str "rows" 559,.str "number" 560]::
 tO #[]::
 fZ "next_row" (top 44)::
 cO "next_row" 554 174 2 272 (.ref 274) (.ref 275) 276 561::
 fD "next_row" (top 44) "stuckwires.answers" 542 277::
 tO #[]::
 .mk .none none (yE.fields #[]) #[]::
 tO #[.str "works" 567,.str "answers" 568,.str "row" 569,.str "outputs" 570,.str "left" 571]::
 tO #[]::
 fZ "seen_of_fitting" (top 45)::
 cO "seen_of_fitting" 564 178 2 279 (.ref 281) (.ref 282) 283 572::
 fD "seen_of_fitting" (top 45) "stuckwires.answers" 542 284::
 tO #[]::
 .mk .none none (yE.fields #[]) #[]::
 tO #[.str "works" 578,.str "left" 579]::
 tO #[]::
 fZ "seen_of_all" (top 46)::
 cO "seen_of_all" 575 185 1 286 (.ref 288) (.ref 289) 290 580::
 fD "seen_of_all" (top 46) "stuckwires.answers" 542 291::
 tO #[]::
 .mk .none none (yE.fields #[]) #[]::
 tO #[.str "row" 586,.str "number" 587,.str "worth" 588]::
 tO #[]::
 fZ "row_number" (top 47)::
 cO "row_number" 583 189 1 293 (.ref 295) (.ref 296) 297 589::
 fD "row_number" (top 47) "stuckwires.answers" 542 298::
 tO #[]::
 .mk .none none (yE.fields #[]) #[]::
 fZ "left_behind" (top 48)::
 cO "left_behind" 592 194 3 300 .none .none 302 595::
 fD "left_behind" (top 48) "stuckwires.answers" 542 303::
 tO #[]::
 .mk .none none (yE.fields #[]) #[]::
 fZ "next_number" (top 49)::
 cO "next_number" 598 196 2 305 .none .none 307 601::
 fD "next_number" (top 49) "stuckwires.answers" 542 308::
 tO #[]::
 .mk .none none (yE.fields #[]) #[]::
 tO #[.str "left" 607,.str "number" 608,.str "parts" 609,.str "name" 610,.str "seen" 611,.str "part" 612]::
 tO #[]::
 fZ "parts_at" (top 50)::
 cO "parts_at" 604 205 2 310 (.ref 312) (.ref 313) 314 613::
 fD "parts_at" (top 50) "stuckwires.answers" 542 315::
 tO #[]::
 .mk .none none (yE.fields #[]) #[]::
 tO #[.str "works" 621,.str "faults" 622]::
 tO #[]::
 fZ "first_test" (top 52)::
 cO "first_test" 618 212 2 317 (.ref 319) (.ref 320) 321 623::
 fD "first_test" (top 52) "stuckwires.findings" 616 322::
 tO #[]::
 .mk .none none (yE.fields #[]) #[]::
 tO #[.str "works" 631,.str "faults" 632,.str "others" 633]::
 tO #[]::
 fZ "parted_at" (top 54)::
 cO "parted_at" 628 215 3 324 (.ref 326) (.ref 327) 328 634::
 fD "parted_at" (top 54) "stuckwires.groups" 626 329::
 tO #[.str "zero" 639,.str "one" 640]::
 tO #[]::
 .mk .none none (yE.fields #[]) #[]::
 tO #[.str "works" 645,.str "fault" 646,.str "stuck" 647]::
 tO #[]::
 fZ "is_spare" (top 57)::
 cO "is_spare" 642 219 2 332 (.ref 334) (.ref 335) 336 648::
 fD "is_spare" (top 57) "stuckwires.lesser" 637 337::
 tO #[]::
 .mk .none none (yE.fields #[]) #[]::
 fZ "is_bare" (top 58)::
 cO "is_bare" 651 224 1 339 .none .none 341 654::
 fD "is_bare" (top 58) "stuckwires.lesser" 637 342::
 tO #[]::
 .mk .none none (yE.fields #[]) #[]::
 tO #[.str "works" 660]::
 tO #[]::
 fZ "made_less" (top 59)::
 cO "made_less" 657 229 1 344 (.ref 346) (.ref 347) 348 661::
 fD "made_less" (top 59) "stuckwires.lesser" 637 349::
 tO #[]::
 .mk .none none (yE.fields #[]) #[]::
 fZ "gate_faults" (top 60)::
 cO "gate_faults" 664 231 1 351 .none .none 353 667::
 fD "gate_faults" (top 60) "stuckwires.lesser" 637 354::
 tO #[]::
 .mk .none none (yE.fields #[]) #[]::
 tO #[.str "works" 673,.str "fault" 674]::
 tO #[]::
 fZ "wire_of" (top 61)::
 cO "wire_of" 670 233 2 356 (.ref 358) (.ref 359) 360 675::
 fD "wire_of" (top 61) "stuckwires.lesser" 637 361::
 tO #[]::
 .mk .none none (yE.fields #[]) #[]::
 tO #[.str "works" 681,.str "stuck" 682,.str "gate" 683,.str "body" 684]::
 tO #[]::
 fZ "constants_stuck" (top 62)::
 cO "constants_stuck" 678 237 1 363 (.ref 365) (.ref 366) 367 685::
 fD "constants_stuck" (top 62) "stuckwires.lesser" 637 368::
 tO #[]::
 .mk .none none (yE.fields #[]) #[]::
 tO #[.str "works" 691,.str "right" 692,.str "stuck" 693,.str "count" 694,.str "fault" 695,.str "place" 696,.str "more" 697]::
 tO #[]::
 fZ "stuck_unseen" (top 63)::
 cO "stuck_unseen" 688 243 1 370 (.ref 372) (.ref 373) 374 698::
 fD "stuck_unseen" (top 63) "stuckwires.lesser" 637 375::
 tO #[]::
 .mk .none none (yE.fields #[]) #[]::
 fZ "stuck_for_good" (top 64)::
 cO "stuck_for_good" 701 258 2 377 .none .none 379 704::
 fD "stuck_for_good" (top 64) "stuckwires.lesser" 637 380::
 tO #[]::
 .mk .none none (yE.fields #[]) #[]::
 tO #[.str "works" 710,.str "stuck" 711,.str "place" 712,.str "wire" 713]::
 tO #[]::
 fZ "leg_behind" (top 65)::
 cO "leg_behind" 707 264 4 382 (.ref 384) (.ref 385) 386 714::
 fD "leg_behind" (top 65) "stuckwires.lesser" 637 387::
 tO #[]::
 .mk .none none (yE.fields #[]) #[]::
 tO #[.str "works" 720,.str "stuck" 721,.str "wire" 722]::
 tO #[]::
 fZ "wire_behind" (top 66)::
 cO "wire_behind" 717 268 3 389 (.ref 391) (.ref 392) 393 723::
 fD "wire_behind" (top 66) "stuckwires.lesser" 637 394::
 tO #[]::
 .mk .none none (yE.fields #[]) #[]::
 fZ "without_unread" (top 67)::
 cO "without_unread" 726 272 1 396 .none .none 398 729::
 fD "without_unread" (top 67) "stuckwires.lesser" 637 399::
 tO #[]::
 .mk .none none (yE.fields #[]) #[]::
 tO #[.str "works" 735,.str "read" 736,.str "gate" 737]::
 tO #[]::
 fZ "read_wires" (top 68)::
 cO "read_wires" 732 281 1 401 (.ref 403) (.ref 404) 405 738::
 fD "read_wires" (top 68) "stuckwires.lesser" 637 406::
 tO #[]::
 .mk .none none (yE.fields #[]) #[]::
 fZ "show_works" (top 71)::
 cO "show_works" 745 289 1 408 .none .none 410 748::
 fD "show_works" (top 71) "stuckwires.texts" 741 411::
 tO #[]::
 .mk .none none (yE.fields #[]) #[]::
 fZ "read_works" (top 72)::
 cO "read_works" 751 294 1 413 .none .none 415 754::
 fD "read_works" (top 72) "stuckwires.texts" 741 416::
 tO #[]::
 .mk .none none (yE.fields #[]) #[]::
 tO #[.str "text" 760,.str "fault" 761,.str "word" 762,.str "numbers" 763]::
 tO #[]::
 fZ "read_fault" (top 73)::
 cO "read_fault" 757 306 1 418 (.ref 420) (.ref 421) 422 764::
 fD "read_fault" (top 73) "stuckwires.texts" 741 423::
 tO #[]::
 .mk .none none (yE.fields #[]) #[]::
 fZ "shown_row" (top 74)::
 cO "shown_row" 767 315 2 425 .none .none 427 770::
 fD "shown_row" (top 74) "stuckwires.texts" 741 428::
 tO #[]::
 .mk .none none (yE.fields #[]) #[]::
 fZ "read_row" (top 75)::
 cO "read_row" 773 317 1 430 .none .none 432 776::
 fD "read_row" (top 75) "stuckwires.texts" 741 433::
 tO #[]::
 .mk .none none (yE.fields #[]) #[]::
 tO #[.str "text" 782,.str "number" 783,.str "sign" 784]::
 tO #[]::
 fZ "read_number" (top 76)::
 cO "read_number" 779 320 1 435 (.ref 437) (.ref 438) 439 785::
 fD "read_number" (top 76) "stuckwires.texts" 741 440::
 tO #[.str "clear" 790,.str "fewest" 791,.str "bare" 792,.str "less" 793,.str "next" 794]::
 tO #[]::
 .mk .none none (yE.fields #[]) #[]::
 tO #[.str "row" 799,.str "parts" 800]::
 tO #[]::
 fZ "read_order" (top 79)::
 cO "read_order" 796 331 1 443 (.ref 445) (.ref 446) 447 801::
 fD "read_order" (top 79) "stuckwires.orders" 788 448::
 tO #[]::
 .mk .none none (yE.fields #[]) #[]::
 fZ "read_things" (top 80)::
 cO "read_things" 804 340 2 450 .none .none 452 807::
 fD "read_things" (top 80) "stuckwires.orders" 788 453::
 tO #[]::
 .mk .none none (yE.fields #[]) #[]::
 tO #[.str "text" 813,.str "between" 814,.str "parts" 815]::
 tO #[]::
 fZ "two_parts" (top 81)::
 cO "two_parts" 810 352 2 455 (.ref 457) (.ref 458) 459 816::
 fD "two_parts" (top 81) "stuckwires.orders" 788 460::
 tO #[]::
 .mk .none none (yE.fields #[]) #[]::
 fZ "read_worths" (top 82)::
 cO "read_worths" 819 357 1 462 .none .none 464 822::
 fD "read_worths" (top 82) "stuckwires.orders" 788 465::[]
open My in
noncomputable def My.gl (P:Params):List DictEntry:=
 dE P "__doc__" 166 .none::
 dE P "__package__" 167 .none::
 dE P "__loader__" 168 (.builtin "__main__.__loader__#opaque")::
 dE P "__spec__" 169 .none::
 dE P "__annotations__" 170 (.ref 6)::
 dE P "__builtins__" 171 (.ref 4)::
 dE P "__file__" 173 (.str "/claim/cut.py" 172)::
 dE P "__cached__" 174 .none::
 dE P "StuckError" 206 (.ref 24)::
 dE P "NoWorks" 222 (.ref 37)::
 dE P "NoRow" 238 (.ref 49)::
 dE P "NoFault" 254 (.ref 61)::
 dE P "NoText" 270 (.ref 73)::
 dE P "NoOrder" 286 (.ref 85)::
 dE P "TooMany" 302 (.ref 97)::
 dE P "LEG_BOUNDS" 333 (.ref 100)::
 dE P "works_of" 344 (.ref 114)::
 dE P "check_gate" 354 (.ref 121)::
 dE P "is_kind" 361 (.ref 128)::
 dE P "are_wires_below" 367 (.ref 133)::
 dE P "wire_worths" 373 (.ref 138)::
 dE P "outputs_at" 379 (.ref 143)::
 dE P "every_row" 385 (.ref 148)::
 dE P "check_row" 391 (.ref 153)::
 dE P "gate_worth" 403 (.ref 161)::
 dE P "every_fault" 411 (.ref 166)::
 dE P "stuck_places" 423 (.ref 173)::
 dE P "worths_with" 430 (.ref 179)::
 dE P "leg_worths" 436 (.ref 184)::
 dE P "outputs_with" 443 (.ref 190)::
 dE P "outputs_seen" 451 (.ref 195)::
 dE P "rows_at_once" 457 (.ref 200)::
 dE P "outputs_in" 463 (.ref 205)::
 dE P "seen_of_each" 472 (.ref 212)::
 dE P "first_unlike" 482 (.ref 219)::
 dE P "unlike_numbers" 488 (.ref 224)::
 dE P "finding_rows" 500 (.ref 231)::
 dE P "MOST_INPUTS" 504 (.int 3 503)::
 dE P "fewest_rows" 510 (.ref 236)::
 dE P "check_inputs" 517 (.ref 243)::
 dE P "meets_each" 523 (.ref 248)::
 dE P "meet" 529 (.ref 253)::
 dE P "fewest_numbers" 535 (.ref 258)::
 dE P "longer_choices" 541 (.ref 263)::
 dE P "WELL" 545 (.ref 264)::
 dE P "what_fits" 553 (.ref 271)::
 dE P "next_row" 563 (.ref 278)::
 dE P "seen_of_fitting" 574 (.ref 285)::
 dE P "seen_of_all" 582 (.ref 292)::
 dE P "row_number" 591 (.ref 299)::
 dE P "left_behind" 597 (.ref 304)::
 dE P "next_number" 603 (.ref 309)::
 dE P "parts_at" 615 (.ref 316)::
 dE P "first_test" 625 (.ref 323)::
 dE P "parted_at" 636 (.ref 330)::
 dE P "CONSTANTS" 641 (.ref 331)::
 dE P "is_spare" 650 (.ref 338)::
 dE P "is_bare" 656 (.ref 343)::
 dE P "made_less" 663 (.ref 350)::
 dE P "gate_faults" 669 (.ref 355)::
 dE P "wire_of" 677 (.ref 362)::
 dE P "constants_stuck" 687 (.ref 369)::
 dE P "stuck_unseen" 700 (.ref 376)::
 dE P "stuck_for_good" 706 (.ref 381)::
 dE P "leg_behind" 716 (.ref 388)::
 dE P "wire_behind" 725 (.ref 395)::
 dE P "without_unread" 731 (.ref 400)::
 dE P "read_wires" 740 (.ref 407)::
 dE P "FIGURES" 744 (.str "0123456789" 743)::
 dE P "show_works" 750 (.ref 412)::
 dE P "read_works" 756 (.ref 417)::
 dE P "read_fault" 766 (.ref 424)::
 dE P "shown_row" 772 (.ref 429)::
 dE P "read_row" 778 (.ref 434)::
 dE P "read_number" 787 (.ref 441)::
 dE P "WORDS_ALONE" 795 (.ref 442)::
 dE P "read_order" 803 (.ref 449)::
 dE P "read_things" 809 (.ref 454)::
 dE P "two_parts" 818 (.ref 461)::
 dE P "read_worths" 824 (.ref 466)::[]
open My in
noncomputable def My.cTl:List Value:=.int 2 0:: .int 0 0:: .ref 20:: .int 4 0:: .int 0 0:: .ref 33:: .int 6 0:: .int 0 0:: .ref 45:: .int 8 0:: .int 0 0:: .ref 57:: .int 10 0:: .int 0 0:: .ref 69:: .int 12 0:: .int 0 0:: .ref 81:: .int 14 0:: .int 0 0:: .ref 93:: .int 18 0:: .int 0 0:: .ref 113:: .int 28 0:: .int 0 0:: .ref 120:: .int 36 0:: .int 0 0:: .ref 127:: .int 38 0:: .int 0 0:: .ref 132:: .int 40 0:: .int 0 0:: .ref 137:: .int 46 0:: .int 0 0:: .ref 142:: .int 49 0:: .int 0 0:: .ref 147:: .int 54 0:: .int 0 0:: .ref 152:: .int 59 0:: .int 0 0:: .ref 160:: .int 74 0:: .int 0 0:: .ref 165:: .int 84 0:: .int 0 0:: .ref 172:: .int 95 0:: .int 0 0:: .ref 178:: .int 102 0:: .int 0 0:: .ref 183:: .int 104 0:: .int 0 0:: .ref 189:: .int 108 0:: .int 0 0:: .ref 194:: .int 113 0:: .int 0 0:: .ref 199:: .int 121 0:: .int 0 0:: .ref 204:: .int 123 0:: .int 0 0:: .ref 211:: .int 128 0:: .int 0 0:: .ref 218:: .int 131 0:: .int 0 0:: .ref 223:: .int 136 0:: .int 0 0:: .ref 230:: .int 146 0:: .int 0 0:: .ref 235:: .int 150 0:: .int 0 0:: .ref 242:: .int 153 0:: .int 0 0:: .ref 247:: .int 155 0:: .int 0 0:: .ref 252:: .int 157 0:: .int 0 0:: .ref 257:: .int 164 0:: .int 0 0:: .ref 262:: .int 172 0:: .int 0 0:: .ref 270:: .int 174 0:: .int 0 0:: .ref 277:: .int 178 0:: .int 0 0:: .ref 284:: .int 185 0:: .int 0 0:: .ref 291:: .int 189 0:: .int 0 0:: .ref 298:: .int 194 0:: .int 0 0:: .ref 303:: .int 196 0:: .int 0 0:: .ref 308:: .int 205 0:: .int 0 0:: .ref 315:: .int 212 0:: .int 0 0:: .ref 322:: .int 215 0:: .int 0 0:: .ref 329:: .int 219 0:: .int 0 0:: .ref 337:: .int 224 0:: .int 0 0:: .ref 342:: .int 229 0:: .int 0 0:: .ref 349:: .int 231 0:: .int 0 0:: .ref 354:: .int 233 0:: .int 0 0:: .ref 361:: .int 237 0:: .int 0 0:: .ref 368:: .int 243 0:: .int 0 0:: .ref 375:: .int 258 0:: .int 0 0:: .ref 380:: .int 264 0:: .int 0 0:: .ref 387:: .int 268 0:: .int 0 0:: .ref 394:: .int 272 0:: .int 0 0:: .ref 399:: .int 281 0:: .int 0 0:: .ref 406:: .int 289 0:: .int 0 0:: .ref 411:: .int 294 0:: .int 0 0:: .ref 416:: .int 306 0:: .int 0 0:: .ref 423:: .int 315 0:: .int 0 0:: .ref 428:: .int 317 0:: .int 0 0:: .ref 433:: .int 320 0:: .int 0 0:: .ref 440:: .int 331 0:: .int 0 0:: .ref 448:: .int 340 0:: .int 0 0:: .ref 453:: .int 352 0:: .int 0 0:: .ref 460:: .int 357 0:: .int 0 0:: .ref 465::[]
noncomputable abbrev My.cut (m:Nat):List Obj→List Obj
 | o::r=>o::Obj.mk .none none (.fields (Array.mk (My.cTl.take m))) #[]::r
 | []=>[]
noncomputable def My.hp (x:Value) (n m q:Nat) (P:Params):Heap:=Heap.mk (Array.mk (boot_o_0 P::boot_o_1 P::boot_o_2 P::Obj.mk (.type "dict") none (.dict (Array.mk (My.dE P "__name__" 165 x::(My.gl P).take n)) (n+1)) #[]::boot_o_4 P::boot_o_5 P::boot_o_6 P::boot_o_7 P::boot_o_8 P::boot_o_9 P::boot_o_10 P::My.cut q ((My.nw P).take m))) (boot_heap P).life
noncomputable def My.bd:List Stmt:=behindTheImports yC.row.prog
noncomputable def My.ev:Env:={scope:=(yC.row.prog).main.scope,locals:=mainNs,globals:=mainNs,cells:=[],code:=.ref 13,frame:=some 14}
noncomputable def My.cd:Code:=.body My.bd My.ev
noncomputable def My.st (w:World) (os:OsState) (x:Value) (n m q t:Nat):Shared:=⟨My.hp x n m q w.params,#[],boot_drawn,t,os⟩
set_option maxRecDepth 100000 in
set_option maxHeartbeats 0 in
theorem My.c0 (w:World)(os:OsState):topGo treeTable yC.row.prog w 11 (some (.ref 6)) 12 ⟨boot_heap w.params,#[],boot_drawn,boot_toks,os⟩ (topStub yC.row.prog)=some ((My.st w os (.str "__main__" 164) 8 3 0 187),⟨denote treeTable My.cd,My.cd,⟨0,0,0,0⟩,[topFrame ⟨0,0,0,0⟩]⟩):=by kernel_rfl
set_option maxRecDepth 100000 in
set_option maxHeartbeats 0 in
theorem My.cb (w:World)(os:OsState):segRun treeTable yC.row.prog w 11 (some (.ref 6)) 1 1 (My.st w os (.str "__main__" 164) 8 3 0 187) (blockOf My.bd My.ev My.cd ⟨0,0,0,0⟩ [topFrame ⟨0,0,0,0⟩])=some (.next,(My.st w os (.str "__main__" 164) 8 3 0 187),My.cd,⟨0,0,0,0⟩):=by kernel_rfl
set_option maxRecDepth 100000 in
set_option maxHeartbeats 0 in
theorem My.s1F (w:World)(os:OsState):segRun treeTable yC.row.prog (w.withFollow "special-get-raises" false) 11 (some (.ref 6)) 1 1619 (My.st (w.withFollow "special-get-raises" false) os (.str "__main__" 164) 8 3 0 187) (piecesOf ((My.bd.drop 0).take 10) My.ev My.cd ⟨0,0,0,0⟩ [topFrame ⟨0,0,0,0⟩])=some (.next,(My.st (w.withFollow "special-get-raises" false) os (.str "stuckwires.works" 303) 16 96 21 334),My.cd,⟨17,0,17,10⟩):=by kernel_rfl
set_option maxRecDepth 100000 in
set_option maxHeartbeats 0 in
theorem My.s1T (w:World)(os:OsState):segRun treeTable yC.row.prog (w.withFollow "special-get-raises" true) 11 (some (.ref 6)) 1 1619 (My.st (w.withFollow "special-get-raises" true) os (.str "__main__" 164) 8 3 0 187) (piecesOf ((My.bd.drop 0).take 10) My.ev My.cd ⟨0,0,0,0⟩ [topFrame ⟨0,0,0,0⟩])=some (.next,(My.st (w.withFollow "special-get-raises" true) os (.str "stuckwires.works" 303) 16 96 21 334),My.cd,⟨17,0,17,10⟩):=by kernel_rfl
theorem My.s1 (w:World)(os:OsState):segRun treeTable yC.row.prog w 11 (some (.ref 6)) 1 1619 (My.st w os (.str "__main__" 164) 8 3 0 187) (piecesOf ((My.bd.drop 0).take 10) My.ev My.cd ⟨0,0,0,0⟩ [topFrame ⟨0,0,0,0⟩])=some (.next,(My.st w os (.str "stuckwires.works" 303) 16 96 21 334),My.cd,⟨17,0,17,10⟩):=by
 have e:=World.withFollow_self w "special-get-raises"
 cases hb:w.params.followText "special-get-raises" with
 | false=>rw [hb] at e;have h:=My.s1F w os;rw [e] at h;exact h
 | true=>rw [hb] at e;have h:=My.s1T w os;rw [e] at h;exact h
set_option maxRecDepth 100000 in
set_option maxHeartbeats 0 in
theorem My.s2 (w:World)(os:OsState):segRun treeTable yC.row.prog w 11 (some (.ref 6)) 1 1060 (My.st w os (.str "stuckwires.works" 303) 16 96 21 334) (piecesOf ((My.bd.drop 10).take 41) My.ev My.cd ⟨17,0,17,10⟩ [topFrame ⟨0,0,0,0⟩])=some (.next,(My.st w os (.str "stuckwires.answers" 542) 53 305 126 616),My.cd,⟨205,0,210,31⟩):=by kernel_rfl
set_option maxRecDepth 100000 in
set_option maxHeartbeats 0 in
theorem My.s3 (w:World)(os:OsState):segRun treeTable yC.row.prog w 11 (some (.ref 6)) 1 787 (My.st w os (.str "stuckwires.answers" 542) 53 305 126 616) (piecesOf ((My.bd.drop 51).take 33) My.ev My.cd ⟨205,0,210,31⟩ [topFrame ⟨0,0,0,0⟩])=some (.next,(My.st w os (.str "stuckwires.desk" 825) 80 455 198 827),My.cd,⟨361,0,361,8⟩):=by kernel_rfl
theorem My.ch (w:World)(os:OsState)(r:Shared)(h:topRun treeTable yC.row.prog w 11 (some (.ref 6)) 1054 (My.st w os (.str "stuckwires.desk" 825) 80 455 198 827) (restOf (My.bd.drop 84) My.ev My.cd ⟨361,0,361,8⟩ [topFrame ⟨0,0,0,0⟩])=some r):topRun treeTable yC.row.prog w 11 (some (.ref 6)) (12+(1+(1619+(1060+(787+(1054)))))) ⟨boot_heap w.params,#[],boot_drawn,boot_toks,os⟩ (topStub yC.row.prog)=some r:=by
 have h3:=piece_app (My.s3 w os) h
 rw [My.zhA My.bd 51 33 84 rfl] at h3
 have h2:=piece_app (My.s2 w os) h3
 rw [My.zhA My.bd 10 41 51 rfl] at h2
 have h1:=piece_app (My.s1 w os) h2
 rw [My.zhA My.bd 0 10 10 rfl] at h1
 rw [ya8] at h1
 exact go_top (My.c0 w os) (piece_block (My.cb w os) h1)
end
section
open PySem PySem.W PyProof.Rows
set_option maxRecDepth 100000 in
set_option maxHeartbeats 0 in
theorem My.oA (w:World)(os:OsState):(topRun treeTable yC.row.prog w 11 (some (.ref 6)) 1054 (My.st w os (.str "stuckwires.desk" 825) 80 455 198 827) (restOf (My.bd.drop 84) My.ev My.cd ⟨361,0,361,8⟩ [topFrame ⟨0,0,0,0⟩])).map (fun s=>(My.obsC yC.row.prog My.view My.loo (fun s=>xlAt My.view [] s && recOk (yaO (yap yC.row)) s) w.params s).1)=some true:=by kernel_rfl
set_option maxRecDepth 100000 in
set_option maxHeartbeats 0 in
theorem My.oB (w:World)(os:OsState):(topRun treeTable yC.row.prog w 11 (some (.ref 6)) 1054 (My.st w os (.str "stuckwires.desk" 825) 80 455 198 827) (restOf (My.bd.drop 84) My.ev My.cd ⟨361,0,361,8⟩ [topFrame ⟨0,0,0,0⟩])).map (fun s=>(My.obsC yC.row.prog My.view My.loo (fun s=>xlAt My.view [] s && recOk (yaO (yap yC.row)) s) w.params s).2)=some (openGood My.view My.loo):=by kernel_rfl
set_option maxRecDepth 100000 in
set_option maxHeartbeats 0 in
theorem My.oY (w:World)(os:OsState):(topRun treeTable yC.row.prog w 11 (some (.ref 6)) 1054 (My.st w os (.str "stuckwires.desk" 825) 80 455 198 827) (restOf (My.bd.drop 84) My.ev My.cd ⟨361,0,361,8⟩ [topFrame ⟨0,0,0,0⟩])).map (fun s=>(Hook.obs (kHook My.part My.zfM (fun _=>by kernel_rfl))) s)=some ((Hook.val (kHook My.part My.zfM (fun _=>by kernel_rfl))) w):=by kernel_rfl
theorem My.mpE {α β γ :Type}{o:Option α}{f: α→β×γ}{b: β×γ}(h1:o.map (fun s=>(f s).1)=some b.1)(h2:o.map (fun s=>(f s).2)=some b.2):o.map (fun s=>f s)=some b:=by
 cases o with
 | none=>cases h1
 | some a=>exact congrArg some (Prod.ext (yV h1) (yV h2))
set_option maxRecDepth 100000 in
set_option maxHeartbeats 0 in
theorem My.hl0:PySem.W.LeftO yC.row.prog My.view My.loo (fun s=>xlAt My.view [] s && recOk (yaO (yap yC.row)) s) (Hook.obs (kHook My.part My.zfM (fun _=>by kernel_rfl))) (Hook.val (kHook My.part My.zfM (fun _=>by kernel_rfl))) (12+(1+(1619+(1060+(787+(1054)))))):=My.leftC (m₀ :=11) (ann:=some (.ref 6)) (by kernel_rfl) (by decide) (fun s=>by kernel_rfl) (fun P=>by kernel_rfl) (fun w os=>My.znG (My.ch w os) (My.mpE (b:=(true,openGood My.view My.loo)) (My.oA w os) (My.oB w os))) (fun w os=>My.znG (My.ch w os) (My.oY w os))
end
namespace L2
open PySem PySem.Spec PyProof.Rows
noncomputable abbrev Key:=Sum Int Str
noncomputable def zjV:Key→Value→Bool
 | .inl k,v=>Value.isInt k v
 | .inr x,v=>Value.isStrOf x v
noncomputable def keyH (w:World):Key→Int
 | .inl k=>hashInt k
 | .inr x=>hashStr w x
theorem zbb:∀ {k:Key} {v:Value},zjV k v=true→(∃ i t,k=Sum.inl i∧v=Value.int i t)∨(∃ x t,k=Sum.inr x∧v=Value.str x t)
 | .inl i,v,h=>by
  obtain ⟨t,e⟩:=Value.isInt_shape (k:=i) (v:=v) h
  exact .inl ⟨i,t,rfl,e⟩
 | .inr x,v,h=>by
  obtain ⟨t,e⟩:=Value.isStrOf_shape (x:=x) (v:=v) h
  exact .inr ⟨x,t,rfl,e⟩
theorem zld (i:Int)(t:Tok):zjV (.inl i) (.int i t)=true:=by simp [zjV,Value.isInt]
theorem zlD (x:Str)(t:Tok):zjV (.inr x) (.str x t)=true:=by simp [zjV,Value.isStrOf]
theorem key_ll (a b:Int):decide ((Sum.inl a:Key)=Sum.inl b)=(a==b):=by
 by_cases e:a=b
 ·subst e;simp
 ·have h:¬(Sum.inl a:Key)=Sum.inl b:=fun q=>e (Sum.inl.inj q)
  rw [decide_eq_false h]
  exact (beq_eq_false_iff_ne.mpr e).symm
theorem key_rr (a b:Str):decide ((Sum.inr a:Key)=Sum.inr b)=decide (a=b):=by
 by_cases e:a=b
 ·subst e;simp
 ·have h:¬(Sum.inr a:Key)=Sum.inr b:=fun q=>e (Sum.inr.inj q)
  rw [decide_eq_false h,decide_eq_false e]
theorem key_lr (a:Int)(b:Str):decide ((Sum.inl a:Key)=Sum.inr b)=false:=decide_eq_false (fun q=>nomatch q)
theorem key_rl (a:Str)(b:Int):decide ((Sum.inr a:Key)=Sum.inl b)=false:=decide_eq_false (fun q=>nomatch q)
noncomputable def zaI (prog:Program) (w:World):PySem.KeyKind prog w Key where
 is:=zjV
 hash:=keyH w
 inj:=fun v a b ha hb=>by
  rcases zbb ha with ⟨i,t,rfl,rfl⟩ | ⟨x,t,rfl,rfl⟩
  ·rcases zbb hb with ⟨j,u,rfl,e⟩ | ⟨y,u,rfl,e⟩
   ·injection e with e1 _;rw [e1]
   ·exact nomatch e
  ·rcases zbb hb with ⟨j,u,rfl,e⟩ | ⟨y,u,rfl,e⟩
   ·exact nomatch e
   ·injection e with e1 _;rw [e1]
 byValue:=fun k v h=>by
  rcases zbb h with ⟨i,t,rfl,rfl⟩ | ⟨x,t,rfl,rfl⟩ <;> rfl
 pyHash:=fun hv h=>by
  rcases zbb hv with ⟨i,t,rfl,rfl⟩ | ⟨x,t,rfl,rfl⟩
  ·exact wpAny_pyHash_int h
  ·exact wpAny_pyHash_str h
 eqBool:=fun hu hv h=>by
  rcases zbb hu with ⟨i,t,rfl,rfl⟩ | ⟨x,t,rfl,rfl⟩
  ·rcases zbb hv with ⟨j,u,rfl,rfl⟩ | ⟨y,u,rfl,rfl⟩
   ·rw [key_ll] at h;exact wpAny_eqBool_int h
   ·rw [key_lr] at h;exact ybg i t y u _ _ _ _ h
  ·rcases zbb hv with ⟨j,u,rfl,rfl⟩ | ⟨y,u,rfl,rfl⟩
   ·rw [key_rl] at h;exact ybh x t j u _ _ _ _ h
   ·rw [key_rr] at h;exact wpAny_eqBool_str h
 «strs» :=fun k x t v h=>by
  rcases zbb h with ⟨i,u,rfl,e⟩ | ⟨y,u,rfl,e⟩
  ·exact nomatch e
  ·injection e with e1 _
   subst e1
   cases v <;> rfl
theorem ziH (prog:Program)(w:World)(i:Int)(t:Tok):(zaI prog w).is (.inl i) (.int i t)=true:=zld i t
theorem zi8 (prog:Program)(w:World)(x:Str)(t:Tok):(zaI prog w).is (.inr x) (.str x t)=true:=zlD x t
inductive V where
 | non | bl (b:Bool) | int (i:Int) | str (x:Str) | byt (b:Array UInt8) | flt (b:UInt64) | ref (a:Addr) | ty (n:String)
 deriving DecidableEq
noncomputable def RelV:V→Value→Prop
 | .non,u=>u=Value.none
 | .bl b,u=>u=Value.bool b
 | .int i,u=>∃ t,u=Value.int i t
 | .str x,u=>∃ t,u=Value.str x t
 | .byt b,u=>∃ t,u=Value.bytes b t
 | .flt b,u=>∃ t,u=Value.float b t
 | .ref a,u=>u=Value.ref a
 | .ty n,u=>u=Value.type n
noncomputable abbrev Vals:List V→List Value→Prop:=Paired RelV
theorem Vals.length {xs:List V}{us:List Value}(r:Vals xs us):xs.length=us.length:=vU r
theorem Vals.get:∀ {xs:List V} {us:List Value} {i:Nat} {x:V},Vals xs us→xs[i]? =some x→∃ u,us[i]? =some u∧RelV x u
 | _,_,_,_,.nil,e=>by simp at e
 | _,_,0,_,.cons r _,e=>by simp at e;subst e;exact ⟨_,rfl,r⟩
 | _,_,i+1,x,.cons _ t,e=>by
  obtain ⟨u,h1,h2⟩:=Vals.get (i:=i) (x:=x) t (by simpa using e)
  exact ⟨u,by simpa using h1,h2⟩
theorem Vals.set {x:V}{u:Value}(r:RelV x u):∀ {xs:List V} {us:List Value} (i:Nat),Vals xs us→Vals (xs.set i x) (us.set i u)
 | _,_,_,.nil=>.nil
 | _,_,0,.cons _ t=>.cons r t
 | _,_,i+1,.cons q t=>.cons q (Vals.set r i t)
theorem Vals.append:∀ {xs ys:List V} {us ws:List Value},Vals xs us→Vals ys ws→Vals (xs++ys) (us++ws)
 | _,_,_,_,.nil,s=>s
 | _,_,_,_,.cons r t,s=>.cons r (Vals.append t s)
theorem Vals.take:∀ {xs:List V} {us:List Value} (n:Nat),Vals xs us→Vals (xs.take n) (us.take n)
 | _,_,0,_=>.nil
 | _,_,_+1,.nil=>.nil
 | _,_,n+1,.cons r t=>.cons r (Vals.take n t)
theorem Vals.drop:∀ {xs:List V} {us:List Value} (n:Nat),Vals xs us→Vals (xs.drop n) (us.drop n)
 | _,_,0,r=>r
 | _,_,_+1,.nil=>.nil
 | _,_,n+1,.cons _ t=>Vals.drop n t
noncomputable def RelO:Option V→Option Value→Prop
 | some v,some u=>RelV v u
 | none,none=>True
 | _,_=>False
noncomputable def KV {κ :Type}:List (κ×V)→List (κ×Value)→Prop:=Paired fun (p: κ×V) (q: κ×Value)=>p.1=q.1∧RelV p.2 q.2
noncomputable def kV:Key→V
 | .inl i=>.int i
 | .inr x=>.str x
inductive HO where
  | lst (xs:List V)
  | tup (xs:List V)
  | dK (kvs:List (Key×V)) | dT (kvs:List (List Key×V))
  | set (S:Int→Bool) (n:Nat)
  | ins (C dx:Addr) (fs:List (Str×V))
  | own (x:Addr)
  | xd (fs:List (Str×V))
  | met (f x:Addr)
  | rng (lo hi:Int)
  | frz (o:Obj) (u:HO)
  | tbl (ps:Array Value)
  | ext (φ :Heap→Prop)
noncomputable abbrev Hp:=Addr→Option HO
noncomputable def upd (H:Hp) (a:Addr) (o:HO):Hp:=fun b=>if b=a then some o else H b
theorem zab {H:Hp}{a:Addr}{o:HO}:upd H a o a=some o:=by unfold upd;rw [if_pos rfl]
theorem zah {H:Hp}{a b:Addr}{o:HO}(h:b≠a):upd H a o b=H b:=by unfold upd;rw [if_neg h]
theorem zh3 {H:Hp}{a b:Addr}{o u:HO}(h:H a=some o)(h':H b=some u)(d:o≠u):a≠b:=by
 intro e;subst e;rw [h] at h';exact d (yV h')
theorem zai {H:Hp}{a b:Addr}{o:HO}(h:H a=some o)(h':H b=none):a≠b:=by
 intro e;subst e;rw [h] at h';cases h'
noncomputable def RdT (H:Hp) (b:Addr) (xs:List V):Prop:=H b=some (.tup xs)∨∃ o,H b=some (.frz o (.tup xs))
theorem RdT.put {H:Hp}{a c:Addr}{o:HO}{xs:List V}(q:RdT H c xs)(n:c≠a):RdT (upd H a o) c xs:=by
 rcases q with q | ⟨u,q⟩
 ·exact .inl (by rw [zah n];exact q)
 ·exact .inr ⟨u,by rw [zah n];exact q⟩
theorem RdT.upd {H:Hp}{a c:Addr}{o:HO}{xs:List V}(q:RdT H c xs)(n:H a=none):RdT (L2.upd H a o) c xs:=by
 rcases q with q | ⟨u,q⟩
 ·exact RdT.put (.inl q) (zai q n)
 ·exact RdT.put (.inr ⟨u,q⟩) (zai q n)
theorem RdT.same {H H':Hp}{c:Addr}{xs:List V}(q:RdT H c xs)(s:∀ b o,H b=some o→H' b=some o):RdT H' c xs:=by
 rcases q with q | ⟨u,q⟩
 ·exact .inl (s _ _ q)
 ·exact .inr ⟨u,s _ _ q⟩
theorem RdT.write {H:Hp}{D c:Addr}{l:List V}{o:HO}{xs:List V}(q:RdT H c xs)(hD:H D=some (.lst l)):RdT (L2.upd H D o) c xs:=by
 rcases q with q | ⟨u,q⟩
 ·exact RdT.put (.inl q) (zh3 q hD (fun z=>nomatch z))
 ·exact RdT.put (.inr ⟨u,q⟩) (zh3 q hD (fun z=>nomatch z))
theorem RdT.keep {H H':Hp}{c:Addr}{xs:List V}(q:RdT H c xs)(k:∀ o,H c=some o→(∃ ys,o= .tup ys∨∃ u,o= .frz u (.tup ys))→H' c=some o):RdT H' c xs:=by
 rcases q with q | ⟨u,q⟩
 ·exact .inl (k _ q ⟨xs,.inl rfl⟩)
 ·exact .inr ⟨u,k _ q ⟨xs,.inr ⟨u,rfl⟩⟩⟩
section
variable (P:Program) (w:World)
noncomputable def zba (H:Hp) (h:Heap) (a:Addr):HO→Prop
 | .lst xs=>xs.length≤yH∧∃ (its:List Value) (n:Nat),Vals xs its∧h.get? a=some {cls:=.type "list",data:=.seq its.toArray n}
 | .tup xs=>xs.length≤yH∧∃ its:List Value,Vals xs its∧IsTup h a its.toArray
 | .dK kvs=>kvs.length≤yH∧(a==sysModules)=false∧∃ vs,KV kvs vs∧h.DictOf (zaI P w) a vs
 | .dT kvs=>kvs.length≤yH∧(a==sysModules)=false∧∃ xs:List (List Key×Addr×Value),
   Paired (fun (p:List Key×V) (q:List Key×Addr×Value)=>p.1=q.1∧RdT H q.2.1 (p.1.map kV)∧RelV p.2 q.2.2) kvs xs∧
   ∃ o es ep,h.get? a=some o∧o.ExactDict∧o.data= .dict es ep∧es.toList=xs.map (entryOfKey (tupleKind (zaI P w)))∧(xs.map (·.1)).Nodup
 | .set S n=>h.SetOf (intKind P w) a S n
 | .ins C dx fs=>H dx=some (.own a)∧fs.length≤1000∧dx≠a∧h.get? a=some (PySem.W.instObj C dx)∧
   ∃ mA,h.Ns1 dx mA∧(∀ f,RelO (fs.lookup f) (mA f))∧yaP mA (fs.map (·.1))
 | .own _=>∃ o,h.get? a=some o
 | .xd fs=>∃ mA,h.Ns1 a mA∧∀ f,RelO (fs.lookup f) (mA f)
 | .rng lo hi=>∃ t u v,h.get? a=some {cls:=.type "range",data:=.fields #[.int lo t,.int hi u,.int 1 v]}
 | .frz o u=>h.get? a=some o∧zba H h a u
 | .tbl ps=>h.get? a=some {cls:=.none,data:=.fields ps}
 | .met f x=>h.get? a=some (PySem.W.methodObj (.ref f) (.ref x))
 | .ext φ =>φ h∧(∃ o,h.get? a=some o)∧∀ h1 h2:Heap,φ h1→(∀ o,h1.get? a=some o→h2.get? a=some o)→φ h2
noncomputable def HOk (H:Hp) (h:Heap):Prop:=∀ a o,H a=some o→zba P w H h a o
end
section
variable {P:Program} {w:World} {H H':Hp} {h h':Heap} {a:Addr} {o:HO}
theorem zba.lt (x:zba P w H h a o):a < h.objs.size:=by
 cases o with
 | lst xs=>obtain ⟨_,_,_,_,e⟩:=x;exact yU e
 | tup xs=>obtain ⟨_,_,_,p⟩:=x;exact p.lt
 | dK kvs=>obtain ⟨_,_,_,_,o,_,_,e,_⟩:=x;exact yU e
 | dT kvs=>obtain ⟨_,_,_,_,o,_,_,e,_⟩:=x;exact yU e
 | set S n=>obtain ⟨o,_,_,_,e,_⟩:=x;exact yU e
 | ins C dx fs=>obtain ⟨_,_,_,e,_⟩:=x;exact yU e
 | own y=>obtain ⟨_,e⟩:=x;exact yU e
 | xd fs=>obtain ⟨_,⟨_,_,_,e,_⟩,_⟩:=x;exact yU e
 | rng lo hi=>obtain ⟨_,_,_,e⟩:=x;exact yU e
 | frz ob u=>obtain ⟨e,_⟩:=x;exact yU e
 | tbl ps=>exact yU (show h.get? a=some _ from x)
 | met f y=>exact yU (show h.get? a=some _ from x)
 | ext φ =>obtain ⟨_,⟨_,e⟩,_⟩:=x;exact yU e
theorem Paired.mapP {α β :Type}{F G: α→β→Prop}:∀ {l₁ :List α} {l₂ :List β},Paired F l₁ l₂→(∀ a b,F a b→G a b)→Paired G l₁ l₂
 | _,_,.nil,_=>.nil
 | _,_,.cons r t,f=>.cons (f _ _ r) (Paired.mapP t f)
theorem zba.stay (x:zba P w H h a o)(k:∀ b u,(b=a∨H b=some (.own a))→h.get? b=some u→h'.get? b=some u)
  (ho:∀ b,H b=some (.own a)→H' b=some (.own a)) (ht:∀ b xs,RdT H b xs→RdT H' b xs):zba P w H' h' a o:=by
 induction o with
 | lst xs=>obtain ⟨z,its,n,r,e⟩:=x;exact ⟨z,its,n,r,k _ _ (.inl rfl) e⟩
 | tup xs=>obtain ⟨z,its,r,ob,e,c⟩:=x;exact ⟨z,its,r,ob,k _ _ (.inl rfl) e,c⟩
 | dK kvs=>obtain ⟨z,y,vs,r,ob,es,ep,e,c⟩:=x;exact ⟨z,y,vs,r,ob,es,ep,k _ _ (.inl rfl) e,c⟩
 | dT kvs=>
  obtain ⟨z,y,xs,r,ob,es,ep,e,c⟩:=x
  exact ⟨z,y,xs,Paired.mapP r fun p q z=>⟨z.1,ht _ _ z.2.1,z.2.2⟩,ob,es,ep,k _ _ (.inl rfl) e,c⟩
 | set S n=>obtain ⟨ob,es,ep,t,e,c⟩:=x;exact ⟨ob,es,ep,t,k _ _ (.inl rfl) e,c⟩
 | ins C dx fs=>
  obtain ⟨d,z,ne,e,mA,⟨od,es,ep,e2,c⟩,r⟩:=x
  exact ⟨ho _ d,z,ne,k _ _ (.inl rfl) e,mA,⟨od,es,ep,k _ _ (.inr d) e2,c⟩,r⟩
 | own y=>obtain ⟨ob,e⟩:=x;exact ⟨ob,k _ _ (.inl rfl) e⟩
 | xd fs=>obtain ⟨mA,⟨od,es,ep,e,c⟩,r⟩:=x;exact ⟨mA,⟨od,es,ep,k _ _ (.inl rfl) e,c⟩,r⟩
 | rng lo hi=>obtain ⟨t,u,v,e⟩:=x;exact ⟨t,u,v,k _ _ (.inl rfl) e⟩
 | frz ob u ih=>obtain ⟨e,q⟩:=x;exact ⟨k _ _ (.inl rfl) e,ih q⟩
 | tbl ps=>
  have e:h.get? a=some {cls:=.none,data:=.fields ps}:=x
  show h'.get? a=some {cls:=.none,data:=.fields ps}
  exact k a _ (.inl rfl) e
 | met f y=>
  have e:h.get? a=some (PySem.W.methodObj (.ref f) (.ref y)):=x
  show h'.get? a=some (PySem.W.methodObj (.ref f) (.ref y))
  exact k a _ (.inl rfl) e
 | ext φ =>obtain ⟨p,⟨o,e⟩,st⟩:=x;exact ⟨st _ _ p fun o q=>k _ _ (.inl rfl) q,⟨o,k _ _ (.inl rfl) e⟩,st⟩
theorem HOk.lt (x:HOk P w H h)(e:H a=some o):a < h.objs.size:=(x a o e).lt
theorem HOk.fresh (x:HOk P w H h)(e:h.objs.size≤a):H a=none:=by
 cases q:H a with
 | none=>rfl
 | some u=>exact absurd (qK (x.lt q) e) (xZ _)
theorem HOk.kept (x:HOk P w H h)(k:∀ b u,h.get? b=some u→h'.get? b=some u):HOk P w H h':=fun a o e=>
 (x a o e).stay (fun b u _ q=>k b u q) (fun _ q=>q) fun _ _ q=>q
theorem HOk.laid (x:HOk P w H h)(k:∀ b u,h.get? b=some u→h'.get? b=some u)(hp:h.objs.size≤a)(new:zba P w (upd H a o) h' a o):HOk P w (upd H a o) h':=fun b u e=>by
 have hn:=x.fresh hp
 by_cases hb:b=a
 ·subst hb;rw [zab] at e;cases e;exact new
 ·rw [zah hb] at e
  exact (x b u e).stay (fun c v _ q=>k c v q) (fun c q=>by rw [zah (zai q hn)];exact q) fun c xs q=>q.upd hn
end
noncomputable def Rd (H:Hp) (a:Addr) (u:HO):Prop:=H a=some u∨∃ o,H a=some (.frz o u)
theorem Rd.ok {P:Program}{w:World}{H:Hp}{h:Heap}{a:Addr}{u:HO}(r:Rd H a u)(x:HOk P w H h):zba P w H h a u:=by
 rcases r with r | ⟨o,r⟩
 ·exact x a u r
 ·obtain ⟨_,q⟩:=x a _ r
  exact q
noncomputable def Mut:Option HO→Prop
 | some (.lst _)=>True
 | some (.dK _)=>True
 | some (.dT _)=>True
 | some (.set _ _)=>True
 | some (.ins _ _ _)=>True
 | some (.ext _)=>True
 | _=>False
section
variable {P:Program} {w:World} {H:Hp} {h h':Heap} {x e:Addr} {o':HO}
theorem HOk.write (ok:HOk P w H h)(mu:Mut (H x))(he:e=x∨H e=some (.own x))(k:∀ b u,b≠e→h.get? b=some u→h'.get? b=some u)(heo:∃ u,h'.get? e=some u)
  (new:zba P w (upd H x o') h' x o'):HOk P w (upd H x o') h':=fun b u q=>by
 have nown:∀ c y,H c=some (.own y)→c≠x:=fun c y r z=>by subst z;rw [r] at mu;exact mu
 have ntup:∀ c xs,RdT H c xs→c≠x:=fun c xs r z=>by subst z;rcases r with r | ⟨_,r⟩ <;> (rw [r] at mu;exact mu)
 by_cases hb:b=x
 ·subst hb;rw [zab] at q;cases q;exact new
 ·rw [zah hb] at q
  by_cases hbe:b=e
  ·have q':H b=some (.own x):=by
    rcases he with z | z
    ·exact absurd (hbe.trans z) hb
    ·rw [hbe];exact z
   rw [q] at q';cases q'
   obtain ⟨v,hv⟩:=heo
   exact ⟨v,by rw [hbe];exact hv⟩
  ·refine (ok b u q).stay (fun c v hc r=>k c v ?_ r) (fun c r=>by rw [zah (nown c b r)];exact r) fun c xs r=>r.put (ntup c xs r)
   rcases hc with rfl | hc
   ·exact hbe
   ·rintro rfl
    rcases he with z | z
    ·exact nown c b hc z
    ·rw [hc] at z;cases z;exact hb rfl
end
structure Un (fs ex:List Addr) (H H':Hp) (h h':Heap):Prop where
 keep:∀ b o,h.get? b=some o→H b=none→b∉fs→b∉ex→h'.get? b=some o
 slot:∀ b o,h.get? b=some o→H b=none→b∈fs→b∉ex→∃ sl,h'.get? b=some {o with slots:=sl}
 free:∀ b o,h.get? b=some o→H b=none→b∉ex→H' b=none
 there:∀ b o,h.get? b=some o→b∉ex→∃ o',h'.get? b=some o'
 tups:∀ b xs,H b=some (.tup xs)→H' b=some (.tup xs)
 frzs:∀ b o u,H b=some (.frz o u)→H' b=some (.frz o u)
 tbls:∀ b ps,H b=some (.tbl ps)→∃ more,H' b=some (.tbl (ps++more))
section
variable {fs fs' ex ex':List Addr} {H H1 H2:Hp} {h h1 h2 h':Heap} {a x e:Addr} {o:HO}
theorem Un.any (u:Un fs ex H H1 h h1){b:Addr}{ob:Obj}(q:h.get? b=some ob)(n:H b=none)(hx:b∉ex):∃ sl,h1.get? b=some {ob with slots:=sl}:=by
 by_cases hb:b∈fs
 ·exact u.slot b ob q n hb hx
 ·exact ⟨ob.slots,u.keep b ob q n hb hx⟩
theorem Un.kept (k:∀ b u,h.get? b=some u→h'.get? b=some u):Un fs ex H H h h':=
 ⟨fun b ob q _ _ _=>k b ob q,fun b ob q _ _ _=>⟨ob.slots,k b ob q⟩,fun _ _ _ n _=>n,fun b ob q _=>⟨ob,k b ob q⟩,fun _ _ q=>q,fun _ _ _ q=>q,fun _ ps q=>⟨#[],by rw [q];simp⟩⟩
theorem Un.refl:Un fs ex H H h h:=Un.kept fun _ _ q=>q
theorem Un.laid (k:∀ b u,h.get? b=some u→h'.get? b=some u)(hp:h.objs.size≤a)(hn:H a=none):Un fs ex H (upd H a o) h h' where
 keep:=fun b u q _ _ _=>k b u q
 slot:=fun b u q _ _ _=>⟨u.slots,k b u q⟩
 free:=fun b u q n _=>by rw [zah (qL (qK (yU q) hp))];exact n
 there:=fun b u q _=>⟨u,k b u q⟩
 tups:=fun b xs q=>by rw [zah (zai q hn)];exact q
 frzs:=fun b u xs q=>by rw [zah (zai q hn)];exact q
 tbls:=fun b ps q=>⟨#[],by rw [zah (zai q hn),q];simp⟩
theorem Un.write (mu:Mut (H x))(he:e=x∨H e=some (.own x))(k:∀ b u,b≠e→h.get? b=some u→h'.get? b=some u)(heo:∃ u,h'.get? e=some u):Un fs ex H (upd H x o) h h':=by
 have hx:∀ b,H b=none→b≠x:=fun b n z=>by subst z;rw [n] at mu;exact mu
 have hb:∀ b,H b=none→b≠e:=fun b n z=>by
  subst z
  rcases he with r | r
  ·exact hx b n r
  ·rw [n] at r;cases r
 have hm:∀ b u,H b=some u→¬Mut (some u)→b≠x:=fun b u q nm z=>by subst z;rw [q] at mu;exact nm mu
 refine ⟨fun b u q n _ _=>k b u (hb b n) q,fun b u q n _ _=>⟨u.slots,k b u (hb b n) q⟩,fun b u q n _=>by rw [zah (hx b n)];exact n,fun b u q _=>?_,
  fun b xs q=>by rw [zah (hm b _ q fun z=>z)];exact q,fun b u xs q=>by rw [zah (hm b _ q fun z=>z)];exact q,fun b ps q=>⟨#[],by rw [zah (hm b _ q fun z=>z),q];simp⟩⟩
 by_cases hbe:b=e
 ·subst hbe;exact heo
 ·exact ⟨u,k b u hbe q⟩
end
noncomputable def trk (h:Heap) (H:Hp):List Addr:=(xK h.objs.size).filter fun a=>(H a).isSome
noncomputable def hidT (h:Heap) (H:Hp):Heap:=PySem.W.hideAll h (trk h H)
theorem zkJ (h:Heap)(H:Hp):(hidT h H).objs.size=h.objs.size:=PySem.W.hideAll_size _ _
theorem zmB {h:Heap}{H:Hp}{b:Addr}{o:Obj}(e:h.get? b=some o)(n:H b=none):(hidT h H).get? b=some o:=
 PySem.W.hideAll_get _ e fun hm=>by
  have q:(H b).isSome=true:=(wB.mp hm).2
  rw [n] at q;simp at q
theorem zoO {h:Heap}{H:Hp}{b:Addr}{o:Obj}(e:(hidT h H).get? b=some o):h.get? b=some o∧H b=none:=by
 have e':h.get? b=some o:=PySem.W.of_hideAll (trk h H) e
 refine ⟨e',?_⟩
 cases q:H b with
 | none=>rfl
 | some x=>
  have hm:b∈trk h H:=wB.mpr ⟨kA.mpr (yU e'),by simp [q]⟩
  have z:(hidT h H).get? b=none:=PySem.W.hideAll_none (trk h H) hm
  rw [z] at e;cases e
noncomputable def zoj (g h:Heap) (L:Addr):List (Addr×Obj):=(xK h.objs.size).filterMap fun a=>if a=L∨(g.get? a).isSome=true then none else (h.get? a).map fun o=>(a,o)
noncomputable def rest (g h:Heap) (L d:Addr):List (Addr×Obj):=(zoj g h L).filter fun p=>decide (p.1≠d)
structure Mod (K:PySem.W.Frag) (mg:Str→Option Value) (base:Heap):Prop where
 kin:K.In base
 glob:base.Ns qH mg
 blt:∃ mb,base.Ns builtinsNs mb∧∀ x:Str,x≠"__name__"→mb x=bootBuiltins x
 nolimit:base.NoLimit
structure Cx where
 prog:Program
 w:World
 K:PySem.W.Frag
 mg:Str→Option Value
 base:Heap
 A:Around
 N:List Str
 s₀ :Shared
 H₀ :Hp
 env:Env
 outer:List Env
 stack:List Env
 ex:List Addr
 fn:Str→Bool
 calm:Bool
 pn:List (Addr×Obj)
 xe:Value→Shared→Prop
noncomputable def frs (l:List Env):List Addr:=l.filterMap (·.frame)
noncomputable abbrev Cx.fs (X:Cx):List Addr:=frs X.outer
noncomputable def Vis (sc:Scope) (x:Str):Prop:=sc.names.lookup x=some .local∨sc.names.lookup x=some .cell∨sc.names.lookup x=some .free
noncomputable def Loc (sc:Scope) (x:Str):Prop:=sc.names.lookup x=some .local∨sc.names.lookup x=some .cell
noncomputable def Look (env:Env) (h:Heap) (m:Str→Option Value) (x:Str) (u:Value):Prop:=
 (env.kindOf x=some .local∧m x=some u)∨((env.kindOf x=some .cell∨env.kindOf x=some .free)∧∃ c,env.cells.lookup x=some c∧h.IsCell c (some u))
structure Cx.Ok (X:Cx):Prop where
 mod:Mod X.K X.mg X.base
 kind:X.env.scope.kind= .function
 glob:X.env.globals=qH
 blt:X.env.builtins=builtinsNs
 above:X.s₀.heap.objs.size≤X.env.locals
 inj:∀ x y c,X.env.cells.lookup x=some c→X.env.cells.lookup y=some c→x=y
 has:∀ x,(X.env.kindOf x=some .cell∨X.env.kindOf x=some .free)→∃ c,X.env.cells.lookup x=some c
 cab:∀ x c,X.fn x=true→X.env.cells.lookup x=some c→X.s₀.heap.objs.size≤c
 hd:X.calm=true→X.A.handled=none
 frames:X.A.frames=some X.stack
 stk:X.stack=X.outer∨(X.stack=X.env::X.outer∧X.env.frame=some X.env.locals)
 exf:∀ b∈X.ex,b≠X.env.locals∧∀ x c,X.env.cells.lookup x=some c→c≠b
 bs:∀ b o,X.base.get? b=some o→X.s₀.heap.get? b=some o∧X.H₀ b=none
 bsz:X.base.objs.size≤X.s₀.heap.objs.size
 noex:∀ b o,X.base.get? b=some o→b∉X.ex
 exfs:∀ b∈X.ex,b∉X.fs
 funs:X.s₀.heap.FunFrames X.base X.outer
 frf:∀ b∈X.fs,X.H₀ b=none
structure Inv (X:Cx) (pins:List (Addr×Obj)) (σ :List (Option V)) (H:Hp) (s:Shared):Prop where
 ok:X.Ok
 os:s.os=X.s₀.os
 bare:AllBare s.gens
 base:Un X.fs X.ex X.H₀ H X.s₀.heap s.heap
 loc:∃ m,s.heap.Ns X.env.locals m∧∀ (i:Nat) (x:Str) (v:V),X.N[i]? =some x→σ[i]? =some (some v)→Vis X.env.scope x→∃ u,RelV v u∧Look X.env s.heap m x u
 cell:∀ x c,X.env.cells.lookup x=some c→∃ v,s.heap.IsCell c v
 free:H X.env.locals=none
 freeC:∀ x c,X.env.cells.lookup x=some c→H c=none
 pin:∀ p∈X.pn++pins,s.heap.get? p.1=some p.2∧H p.1=none∧p.1≠X.env.locals∧p.1∉X.fs∧∀ v,p.2.data≠.cell v
 hok:HOk X.prog X.w H s.heap
 len: σ.length=X.N.length
section
variable {X:Cx} {pins:List (Addr×Obj)} {σ :List (Option V)} {H H':Hp} {s:Shared} {h':Heap}
theorem Cx.Ok.nofr (ok:X.Ok){b:Addr}{o:Obj}(e:X.base.get? b=some o):b∉X.fs:=fun hb=>by
 have:=(ok.funs.mem hb).1
 rw [e] at this;cases this
theorem Inv.bs (I:Inv X pins σ H s):∀ b o,X.base.get? b=some o→s.heap.get? b=some o∧H b=none:=fun b o e=>
 ⟨I.base.keep b o (I.ok.bs b o e).1 (I.ok.bs b o e).2 (I.ok.nofr e) (I.ok.noex b o e),I.base.free b o (I.ok.bs b o e).1 (I.ok.bs b o e).2 (I.ok.noex b o e)⟩
theorem Inv.bk (I:Inv X pins σ H s):∀ b o,X.base.get? b=some o→s.heap.get? b=some o:=fun b o e=>(I.bs b o e).1
theorem Inv.mod (I:Inv X pins σ H s):Mod X.K X.mg X.base:=I.ok.mod
theorem Inv.kIn (I:Inv X pins σ H s):X.K.In s.heap:=I.ok.mod.kin.keeps I.bk
theorem Inv.lt (I:Inv X pins σ H s):X.env.locals < s.heap.objs.size:=let ⟨_,hn,_⟩:=I.loc;hn.lt
theorem Inv.sz (I:Inv X pins σ H s):X.s₀.heap.objs.size≤s.heap.objs.size:=jA I.ok.above (wS I.lt)
theorem Inv.nofs (I:Inv X pins σ H s){a:Addr}(h:s.heap.objs.size≤a):a∉X.fs:=fun hb=>by
 obtain ⟨_,o,ho,_⟩:=I.ok.funs.mem hb
 exact absurd (qK (yU ho) (jA I.sz h)) (xZ _)
theorem Inv.cne (I:Inv X pins σ H s):∀ x c,X.env.cells.lookup x=some c→c≠X.env.locals:=fun x c e z=>by
 obtain ⟨v,o,ho,hd⟩:=I.cell x c e
 obtain ⟨m,⟨o',es,ep,ho',hd',_⟩,_⟩:=I.loc
 rw [z,ho'] at ho;cases ho;rw [hd'] at hd;cases hd
theorem Inv.funs (I:Inv X pins σ H s):s.heap.FunFrames X.base X.outer:=by
 have all:∀ (l:List Env),(∀ b∈frs l,b∈X.fs)→X.s₀.heap.FunFrames X.base l→s.heap.FunFrames X.base l:=by
  intro l
  induction l with
  | nil=>intro _ _;trivial
  | cons env r ih=>
   intro hs hl
   obtain ⟨hk,⟨L,o,hf,hn,ho,hd⟩,hr⟩:=hl
   have hL:L∈X.fs:=hs L (by unfold frs;rw [vA,hf];exact yam)
   obtain ⟨sl,e⟩:=I.base.slot L o ho (I.ok.frf L hL) hL fun z=>I.ok.exfs L z hL
   exact ⟨hk,⟨L,_,hf,hn,e,hd⟩,ih (fun b hb=>hs b (by unfold frs;rw [vA,hf];exact xJ _ hb)) hr⟩
 exact all X.outer (fun _ hb=>hb) I.ok.funs
theorem Inv.stack (I:Inv X pins σ H s):s.heap.FunFrames X.base X.stack:=by
 rcases I.ok.stk with e | ⟨e,hf⟩
 ·rw [e];exact I.funs
 ·rw [e]
  obtain ⟨m,hn,_⟩:=I.loc
  refine .cons (by rw [I.ok.kind];decide) hf hn ?_ I.funs
  exact wY (jA I.ok.bsz I.ok.above)
theorem Inv.stkSub (I:Inv X pins σ H s):∀ b∈frs X.stack,b∈X.env.locals::X.fs:=fun b hb=>by
 rcases I.ok.stk with e | ⟨e,hf⟩
 ·rw [e] at hb;exact xJ _ hb
 ·rw [e] at hb
  unfold frs at hb
  rw [vA,hf] at hb
  exact hb
theorem Inv.stkFree (I:Inv X pins σ H s):∀ b∈frs X.stack,H b=none:=fun b hb=>by
 rcases yN.mp (I.stkSub b hb) with e | hb
 ·rw [e];exact I.free
 ·obtain ⟨_,o,ho,_⟩:=I.ok.funs.mem hb
  exact I.base.free b o ho (I.ok.frf b hb) fun z=>I.ok.exfs b z hb
theorem Inv.step {g':Array GenState}{t':Nat}{d':Drawn}{ch:List Addr}(I:Inv X pins σ H s)
  (hch:∀ b∈ch,(b∈X.ex∨X.s₀.heap.objs.size≤b)∧b≠X.env.locals∧(∀ x c,X.env.cells.lookup x=some c→c≠b)∧∀ p∈X.pn++pins,p.1≠b)
  (keep:∀ b o,b≠X.env.locals→b∉X.fs→b∉ch→s.heap.get? b=some o→H b=none→h'.get? b=some o)
  (slot:∀ b o,b≠X.env.locals→b∈X.fs→b∉ch→s.heap.get? b=some o→H b=none→∃ sl,h'.get? b=some {o with slots:=sl}) (free:∀ b o,b∉ch→s.heap.get? b=some o→H b=none→H' b=none)
  (there:∀ b o,b∉ch→s.heap.get? b=some o→∃ o',h'.get? b=some o')
  (tups:∀ b xs,H b=some (.tup xs)→H' b=some (.tup xs)) (frzs:∀ b o u,H b=some (.frz o u)→H' b=some (.frz o u)) (tbls:∀ b ps,H b=some (.tbl ps)→∃ more,H' b=some (.tbl (ps++more)))
  (ns:∀ m,s.heap.Ns X.env.locals m→h'.Ns X.env.locals m) (hok:HOk X.prog X.w H' h') (hg:AllBare g'):
  Inv X pins σ H' {s with heap:=h',gens:=g',drawn:=d',toks:=t'}:=by
 have neL:∀ b o,X.s₀.heap.get? b=some o→b≠X.env.locals:=fun b o e=>qL (qK (yU e) I.ok.above)
 have neC:∀ b o,X.s₀.heap.get? b=some o→b∉X.ex→b∉ch:=fun b o e hx hb=>by
  rcases (hch b hb).1 with z | z
  ·exact hx z
  ·exact absurd (qK (yU e) z) (xZ _)
 have cellK:∀ x c,X.env.cells.lookup x=some c→∀ v,s.heap.IsCell c v→h'.IsCell c v:=fun x c e v ⟨o,ho,hd⟩=>by
  have nch:c∉ch:=fun z=>(hch c z).2.2.1 x c e rfl
  by_cases hc:c∈X.fs
  ·obtain ⟨sl,q⟩:=slot c o (I.cne x c e) hc nch ho (I.freeC x c e)
   exact ⟨_,q,hd⟩
  ·exact ⟨o,keep c o (I.cne x c e) hc nch ho (I.freeC x c e),hd⟩
 refine ⟨I.ok,I.os,hg,⟨fun b o e n hb hx=>?_,fun b o e n hb hx=>?_,fun b o e n hx=>?_,fun b o e hx=>?_,fun b xs e=>tups b xs (I.base.tups b xs e),fun b o xs e=>frzs b o xs (I.base.frzs b o xs e),fun b ps e=>?_⟩,?_,fun x c e=>?_,?_,fun x c e=>?_,fun p hp=>?_,hok,I.len⟩
 ·exact keep b o (neL b o e) hb (neC b o e hx) (I.base.keep b o e n hb hx) (I.base.free b o e n hx)
 ·obtain ⟨sl,e1⟩:=I.base.slot b o e n hb hx
  obtain ⟨sl',e2⟩:=slot b _ (neL b o e) hb (neC b o e hx) e1 (I.base.free b o e n hx)
  exact ⟨sl',e2⟩
 ·obtain ⟨o',e1⟩:=I.base.there b o e hx
  exact free b o' (neC b o e hx) e1 (I.base.free b o e n hx)
 ·obtain ⟨o',e1⟩:=I.base.there b o e hx
  exact there b o' (neC b o e hx) e1
 ·obtain ⟨m1,e1⟩:=I.base.tbls b ps e
  obtain ⟨m2,e2⟩:=tbls b _ e1
  exact ⟨m1++m2,by rw [e2,ybi]⟩
 ·obtain ⟨m,hn,hl⟩:=I.loc
  refine ⟨m,ns m hn,fun i x v e1 e2 e3=>?_⟩
  obtain ⟨u,r,l⟩:=hl i x v e1 e2 e3
  refine ⟨u,r,?_⟩
  rcases l with l | ⟨k,c,e,z⟩
  ·exact .inl l
  ·exact .inr ⟨k,c,e,cellK x c e _ z⟩
 ·obtain ⟨v,z⟩:=I.cell x c e
  exact ⟨v,cellK x c e v z⟩
 ·obtain ⟨m,⟨o,_,_,ho,_⟩,_⟩:=I.loc
  exact free _ o (fun z=>(hch _ z).2.1 rfl) ho I.free
 ·obtain ⟨v,o,ho,hd⟩:=I.cell x c e
  exact free c o (fun z=>(hch c z).2.2.1 x c e rfl) ho (I.freeC x c e)
 ·obtain ⟨e,n,ne,nf,d⟩:=I.pin p hp
  have nch:p.1∉ch:=fun z=>(hch p.1 z).2.2.2 p hp rfl
  exact ⟨keep p.1 p.2 ne nf nch e n,free p.1 p.2 nch e n,ne,nf,d⟩
theorem Inv.un {t':Nat}(I:Inv X pins σ H s)(u:Un X.fs [] H H' s.heap h')(hok:HOk X.prog X.w H' h'):Inv X pins σ H' {s with heap:=h',toks:=t'}:=by
 obtain ⟨m,⟨o,es,ep,ho,r⟩,_⟩:=id I.loc
 obtain ⟨sl,hL⟩:=u.any ho I.free (by simp)
 exact I.step (g':=s.gens) (d':=s.drawn) (ch:=[]) (fun _ z=>nomatch z) (fun b o _ hb _ e n=>u.keep b o e n hb (by simp)) (fun b o _ hb _ e n=>u.slot b o e n hb (by simp)) (fun b o _ e n=>u.free b o e n (by simp)) (fun b o _ e=>u.there b o e (by simp)) u.tups u.frzs u.tbls (fun m' hm=>by
  obtain ⟨o',es',ep',ho',r'⟩:=hm
  rw [ho] at ho';cases ho'
  exact ⟨_,es',ep',hL,r'⟩) hok I.bare
theorem Inv.call {g':Array GenState}{t':Nat}{d':Drawn}{ch:List Addr}(I:Inv X pins σ H s)(u:Un (frs X.stack) ch H H' s.heap h')(hok:HOk X.prog X.w H' h')(hg:AllBare g')
  (hch:∀ b∈ch,(b∈X.ex∨X.s₀.heap.objs.size≤b)∧b≠X.env.locals∧(∀ x c,X.env.cells.lookup x=some c→c≠b)∧∀ p∈X.pn++pins,p.1≠b):
  Inv X pins σ H' {s with heap:=h',gens:=g',drawn:=d',toks:=t'}:=by
 obtain ⟨m,⟨o,es,ep,ho,r⟩,_⟩:=id I.loc
 obtain ⟨sl,hL⟩:=u.any ho I.free fun z=>(hch _ z).2.1 rfl
 exact I.step (ch:=ch) hch (fun b o hL hb hc e n=>u.keep b o e n (fun z=>(yN.mp (I.stkSub b z)).elim hL hb) hc) (fun b o _ _ hc e n=>u.any e n hc) (fun b o hc e n=>u.free b o e n hc) (fun b o hc e=>u.there b o e hc) u.tups u.frzs u.tbls (fun m' hm=>by
  obtain ⟨o',es',ep',ho',r'⟩:=hm
  rw [ho] at ho';cases ho'
  exact ⟨_,es',ep',hL,r'⟩) hok hg
theorem Inv.turned {t':Nat}{it:Addr}(I:Inv X pins σ H s)(k:∀ b o,b≠it→s.heap.get? b=some o→h'.get? b=some o)(hn:H it=none)(hL:it≠X.env.locals)
  (h1:it∈X.ex∨X.s₀.heap.objs.size≤it) (h2:∀ x c,X.env.cells.lookup x=some c→c≠it) (h3:∀ p∈X.pn++pins,p.1≠it):Inv X pins σ H {s with heap:=h',toks:=t'}:=by
 have nit:∀ b u,H b=some u→b≠it:=fun b u e z=>by rw [z,hn] at e;cases e
 refine I.step (g':=s.gens) (d':=s.drawn) (ch:=[it]) (fun b hb=>?_) (fun b o _ _ hc e _=>k b o (fun z=>hc (by simp [z])) e) (fun b o _ _ hc e _=>⟨o.slots,k b o (fun z=>hc (by simp [z])) e⟩) (fun _ _ _ _ n=>n)
  (fun b o hc e=>⟨o,k b o (fun z=>hc (by simp [z])) e⟩) (fun _ _ e=>e) (fun _ _ _ e=>e) (fun b ps e=>⟨#[],by rw [e];simp⟩) (fun m hm=>?_) (fun b u e=>?_) I.bare
 ·have e:b=it:=by simpa using hb
  subst e
  exact ⟨h1,hL,h2,h3⟩
 ·obtain ⟨o,es,ep,ho,r⟩:=hm
  exact ⟨o,es,ep,k _ o (qX hL) ho,r⟩
 ·refine (I.hok b u e).stay (fun c v hc q=>k c v ?_ q) (fun _ q=>q) fun _ _ q=>q
  rcases hc with z | z
  ·rw [z];exact nit b u e
  ·exact nit c _ z
theorem Inv.tok (I:Inv X pins σ H s)(t:Nat):Inv X pins σ H {s with toks:=t}:=I.un (h':=s.heap) (t':=t) Un.refl I.hok
theorem Inv.kept {t':Nat}(I:Inv X pins σ H s)(k:∀ b u,s.heap.get? b=some u→h'.get? b=some u):Inv X pins σ H {s with heap:=h',toks:=t'}:=I.un (Un.kept k) (I.hok.kept k)
theorem Inv.laid {a:Addr}{o:HO}{t':Nat}(I:Inv X pins σ H s)(k:∀ b u,s.heap.get? b=some u→h'.get? b=some u)(hp:s.heap.objs.size≤a)(new:zba X.prog X.w (upd H a o) h' a o):
  Inv X pins σ (upd H a o) {s with heap:=h',toks:=t'}:=I.un (Un.laid k hp (I.hok.fresh hp)) (I.hok.laid k hp new)
theorem Inv.write {x e:Addr}{o:HO}{t':Nat}(I:Inv X pins σ H s)(mu:Mut (H x))(he:e=x∨H e=some (.own x))(k:∀ b u,b≠e→s.heap.get? b=some u→h'.get? b=some u)(heo:∃ u,h'.get? e=some u)
  (new:zba X.prog X.w (upd H x o) h' x o):Inv X pins σ (upd H x o) {s with heap:=h',toks:=t'}:=I.un (Un.write mu he k heo) (I.hok.write mu he k heo new)
theorem Inv.weak {σ':List (Option V)}(I:Inv X pins σ H s)(hl: σ'.length= σ.length)(w:∀ (i:Nat) v,σ'[i]? =some (some v)→σ[i]? =some (some v)):Inv X pins σ' H s:=
 ⟨I.ok,I.os,I.bare,I.base,let ⟨m,hn,hl'⟩:=I.loc;⟨m,hn,fun i x v e1 e2 e3=>hl' i x v e1 (w i v e2) e3⟩,I.cell,I.free,I.freeC,I.pin,I.hok,hl.trans I.len⟩
theorem Inv.pins_of {pins':List (Addr×Obj)}(I:Inv X pins σ H s)(h:∀ p∈pins',s.heap.get? p.1=some p.2∧H p.1=none∧p.1≠X.env.locals∧p.1∉X.fs∧∀ v,p.2.data≠.cell v):Inv X pins' σ H s:=
 ⟨I.ok,I.os,I.bare,I.base,I.loc,I.cell,I.free,I.freeC,fun p hp=>(yS.mp hp).elim (fun z=>I.pin p (xT _ z)) (h p),I.hok,I.len⟩
theorem zht {N:List Str}(hN:N.Nodup){i j:Nat}{x:Str}(a:N[i]? =some x)(b:N[j]? =some x):i=j:=by
 obtain ⟨h1,e1⟩:=yF.mp a
 obtain ⟨h2,e2⟩:=yF.mp b
 exact (List.getElem_inj hN).mp (e1.trans e2.symm)
theorem zfu {M:Model}{A:Around}{E:Value→Shared→Prop}{i:Nat}{x:Str}{v:V}{u:Value}{Q:Unit→Shared→Prop}(I:Inv X pins σ H s)(hN:X.N.Nodup)(hi:X.N[i]? =some x)(hx:Loc X.env.scope x)(r:RelV v u)
  (h:∀ s',Inv X pins (σ.set i (some v)) H s'→(∃ a,jL a s.heap s'.heap∧(a=X.env.locals∨X.env.cells.lookup x=some a))→Q () s') (hf:X.fn x=true∨X.env.scope.names.lookup x=some .local:=by first | exact .inl rfl | exact .inr rfl | assumption):wpAny M A (storeName X.env x u) Q E s:=by
 obtain ⟨m,hn,hl⟩:=id I.loc
 have hcls:(X.env.scope.kind== .class || (X.env.scope.kind== .module && X.env.locals !=X.env.globals))=false:=by rw [I.ok.kind];rfl
 have hiσ :i < σ.length:=by rw [I.len];exact (yF.mp hi).1
 have cne:=I.cne
 have tracked:∀ {a:Addr} {h':Heap},(∃ o,s.heap.get? a=some o∧H a=none)→jL a s.heap h'→HOk X.prog X.w H h':=fun {a h'} ha hs b ob e=>by
  obtain ⟨_,_,hfree⟩:=ha
  refine (I.hok b ob e).stay (fun c w' hc q=>(hs.2 c ?_).trans q) (fun _ q=>q) fun _ _ q=>q
  rintro rfl
  rcases hc with rfl | hc
  ·rw [hfree] at e;cases e
  ·rw [hfree] at hc;cases hc
 rcases hx with hk | hk
 ·refine wpAny_storeName_local hk hn (fun h' hn' hs=>?_) hcls
  obtain ⟨oL,_,_,hoL,_⟩:=id hn
  refine h _ ⟨I.ok,I.os,I.bare,⟨fun b o e n hb hx=>?_,fun b o e n hb hx=>?_,I.base.free,fun b o e hx=>?_,I.base.tups,I.base.frzs,I.base.tbls⟩,⟨_,hn',fun j y v' e1 e2 e3=>?_⟩,fun y c e=>?_,I.free,I.freeC,fun p hp=>?_,tracked ⟨oL,hoL,I.free⟩ hs,by simpa using I.len⟩ ⟨_,hs,.inl rfl⟩
  ·exact (hs.2 b (qL (qK (yU e) I.ok.above))).trans (I.base.keep b o e n hb hx)
  ·obtain ⟨sl,e1⟩:=I.base.slot b o e n hb hx
   exact ⟨sl,(hs.2 b (qL (qK (yU e) I.ok.above))).trans e1⟩
  ·obtain ⟨o',e1⟩:=I.base.there b o e hx
   exact ⟨o',(hs.2 b (qL (qK (yU e) I.ok.above))).trans e1⟩
  ·by_cases hj:j=i
   ·subst hj
    rw [hi] at e1;cases e1
    rw [wM hiσ] at e2
    cases e2
    exact ⟨u,r,.inl ⟨hk,by simp⟩⟩
   ·rw [xU (qX hj)] at e2
    obtain ⟨u',r',q⟩:=hl j y v' e1 e2 e3
    refine ⟨u',r',?_⟩
    rcases q with ⟨k,e⟩ | ⟨k,c,e,z⟩
    ·refine .inl ⟨k,?_⟩
     have:y≠x:=fun e=>hj (zht hN e1 (e ▸ hi))
     simp [this,e]
    ·exact .inr ⟨k,c,e,z.sameBut hs (cne y c e)⟩
  ·obtain ⟨w',z⟩:=I.cell y c e
   exact ⟨w',z.sameBut hs (cne y c e)⟩
  ·obtain ⟨e,n,ne,nf,d⟩:=I.pin p hp
   exact ⟨(hs.2 p.1 ne).trans e,n,ne,nf,d⟩
 ·have hfn:X.fn x=true:=by
   rcases hf with z | z
   ·exact z
   ·rw [z] at hk;cases hk
  obtain ⟨c,hc⟩:=I.ok.has x (.inl hk)
  obtain ⟨w',z⟩:=I.cell x c hc
  refine wpAny_storeName_cell I.ok.kind hk hc z (fun h' hc' hs=>?_)
  obtain ⟨oc,hoc,hocd⟩:=id z
  refine h {s with heap:=h'} ⟨I.ok,I.os,I.bare,⟨fun b o e n hb hx=>?_,fun b o e n hb hx=>?_,I.base.free,fun b o e hx=>?_,I.base.tups,I.base.frzs,I.base.tbls⟩,⟨m,hn.sameBut hs (qX (cne x c hc)),fun j y v' e1 e2 e3=>?_⟩,fun y c' e=>?_,I.free,I.freeC,fun p hp=>?_,tracked ⟨oc,hoc,I.freeC x c hc⟩ hs,by simpa using I.len⟩ ⟨c,hs,.inr hc⟩
  ·exact (hs.2 b (qL (qK (yU e) (I.ok.cab x c hfn hc)))).trans (I.base.keep b o e n hb hx)
  ·obtain ⟨sl,e1⟩:=I.base.slot b o e n hb hx
   exact ⟨sl,(hs.2 b (qL (qK (yU e) (I.ok.cab x c hfn hc)))).trans e1⟩
  ·obtain ⟨o',e1⟩:=I.base.there b o e hx
   exact ⟨o',(hs.2 b (qL (qK (yU e) (I.ok.cab x c hfn hc)))).trans e1⟩
  ·by_cases hj:j=i
   ·subst hj
    rw [hi] at e1;cases e1
    rw [wM hiσ] at e2
    cases e2
    exact ⟨u,r,.inr ⟨.inl hk,c,hc,hc'⟩⟩
   ·rw [xU (qX hj)] at e2
    obtain ⟨u',r',q⟩:=hl j y v' e1 e2 e3
    refine ⟨u',r',?_⟩
    rcases q with q | ⟨k,c',e,z'⟩
    ·exact .inl q
    ·refine .inr ⟨k,c',e,z'.sameBut hs ?_⟩
     rintro rfl
     exact hj (zht hN e1 (I.ok.inj _ _ _ e hc ▸ hi))
  ·by_cases hcc:c'=c
   ·subst hcc;exact ⟨_,hc'⟩
   ·obtain ⟨w2,z2⟩:=I.cell y c' e
    exact ⟨w2,z2.sameBut hs hcc⟩
  ·obtain ⟨e,n,ne,nf,d⟩:=I.pin p hp
   refine ⟨(hs.2 p.1 ?_).trans e,n,ne,nf,d⟩
   intro q
   rw [q,hoc] at e
   have q':oc=p.2:=yV e
   exact d w' (by rw [← q'];exact hocd)
theorem zfi {M:Model}{A:Around}{E:Value→Shared→Prop}{i:Nat}{x:Str}{v:V}{u:Value}{Q:Unit→Shared→Prop}(I:Inv X pins σ H s)(hN:X.N.Nodup)(hi:X.N[i]? =some x)(hx:Loc X.env.scope x)(r:RelV v u)
  (h:∀ s',Inv X pins (σ.set i (some v)) H s'→Q () s') (hf:X.fn x=true∨X.env.scope.names.lookup x=some .local:=by first | exact .inl rfl | exact .inr rfl | assumption):wpAny M A (storeName X.env x u) Q E s:=
 zfu I hN hi hx r (fun s' I' _=>h s' I') hf
theorem Inv.call' {s':Shared}{ch:List Addr}(I:Inv X pins σ H s)(ho:s'.os=s.os)(u:Un (frs X.stack) ch H H' s.heap s'.heap)(hok:HOk X.prog X.w H' s'.heap)(hg:AllBare s'.gens)
  (hch:∀ b∈ch,(b∈X.ex∨X.s₀.heap.objs.size≤b)∧b≠X.env.locals∧(∀ x c,X.env.cells.lookup x=some c→c≠b)∧∀ p∈X.pn++pins,p.1≠b):Inv X pins σ H' s':=by
 obtain ⟨h',g',d',t',o'⟩:=s'
 have e:o'=s.os:=ho
 subst e
 exact I.call (g':=g') (t':=t') (d':=d') u hok hg hch
end
noncomputable abbrev XK:=Value→Option Addr→Hp→Prop
noncomputable abbrev St:=List (Option V)
noncomputable abbrev VK:=V→Hp→Prop
noncomputable abbrev TE:=St→Hp→VK→Prop
noncomputable abbrev TT:=St→Hp→(Bool→Hp→Prop)→Prop
noncomputable abbrev TA:=St→Hp→(List V→Hp→Prop)→Prop
structure Ends where
 nx:St→Hp→Prop
 rt:VK
 bk:St→Hp→Prop:=fun _ _=>False
 ct:St→Hp→Prop:=fun _ _=>False
noncomputable abbrev TS:=Ends→St→Hp→Prop
noncomputable def EP (X:Cx) (pins:List (Addr×Obj)) (σ :St) (Q:VK) (u:Value) (s':Shared):Prop:=∃ v H',Inv X pins σ H' s'∧RelV v u∧Q v H'
noncomputable def TP (X:Cx) (pins:List (Addr×Obj)) (σ :St) (Q:Bool→Hp→Prop) (b:Bool) (s':Shared):Prop:=∃ H',Inv X pins σ H' s'∧Q b H'
noncomputable def AP (X:Cx) (pins:List (Addr×Obj)) (σ :St) (Q:List V→Hp→Prop) (us:List Value) (s':Shared):Prop:=∃ vs H',Inv X pins σ H' s'∧Vals vs us∧Q vs H'
noncomputable def SP (X:Cx) (pins:List (Addr×Obj)) (D:Ends) (f:Flow) (s':Shared):Prop:=
 match f with
 | .next=>∃ σ' H',Inv X pins σ' H' s'∧D.nx σ' H'
 | .brk=>∃ σ' H',Inv X pins σ' H' s'∧D.bk σ' H'
 | .cont=>∃ σ' H',Inv X pins σ' H' s'∧D.ct σ' H'
 | .ret u=>∃ v σ' H',Inv X pins σ' H' s'∧RelV v u∧D.rt v H'
noncomputable def PE (X:Cx) (e:Expr) (t:TE):Prop:=
 ∀ (pins:List (Addr×Obj)) (s:Shared) (σ :St) (H:Hp) (Q:VK),Inv X pins σ H s→t σ H Q→wpAny (model X.prog X.w) X.A (eval e X.env) (EP X pins σ Q) X.xe s
noncomputable def PT (X:Cx) (e:Expr) (t:TT):Prop:=
 ∀ (pins:List (Addr×Obj)) (s:Shared) (σ :St) (H:Hp) (Q:Bool→Hp→Prop),Inv X pins σ H s→t σ H Q→wpAny (model X.prog X.w) X.A (isTrue e X.env (eval e X.env)) (TP X pins σ Q) X.xe s
noncomputable def PW (X:Cx) (e:Expr) (t:TT):Prop:=
 ∀ (whole:Sem Value) (pins:List (Addr×Obj)) (s:Shared) (σ :St) (H:Hp) (Q:Bool→Hp→Prop),Inv X pins σ H s→t σ H Q→wpAny (model X.prog X.w) X.A (isTrue e X.env whole) (TP X pins σ Q) X.xe s
theorem PW.pt {X:Cx}{e:Expr}{t:TT}(h:PW X e t):PT X e t:=h _
noncomputable def PA (X:Cx) (es:List Expr) (t:TA):Prop:=
 ∀ (pos:Pos) (pins:List (Addr×Obj)) (s:Shared) (σ :St) (H:Hp) (Q:List V→Hp→Prop),Inv X pins σ H s→t σ H Q→wpAny (model X.prog X.w) X.A (spliced (backTo pos (starEach es X.env))) (AP X pins σ Q) X.xe s
noncomputable def PS (X:Cx) (st:Stmt) (t:TS):Prop:=
 ∀ (pins:List (Addr×Obj)) (s:Shared) (σ :St) (H:Hp) (D:Ends),Inv X pins σ H s→t D σ H→wpAny (model X.prog X.w) X.A (exec st X.env) (SP X pins D) X.xe s
noncomputable def PSs (X:Cx) (st:List Stmt) (t:TS):Prop:=
 ∀ (pins:List (Addr×Obj)) (s:Shared) (σ :St) (H:Hp) (D:Ends),Inv X pins σ H s→t D σ H→wpAny (model X.prog X.w) X.A (execs st X.env) (SP X pins D) X.xe s
theorem thn {α :Type}{t:Sem α}{Q Q': α→Shared→Prop}{M:Model}{A:Around}{E:Value→Shared→Prop}{s:Shared}(h:wpAny M A t Q E s)(hQ:∀ a s,Q a s→Q' a s):wpAny M A t Q' E s:=wpAny_mono h hQ fun _ _ x=>x
section
variable {X:Cx}
noncomputable def tVar (i:Nat):TE:=fun σ H Q=>∃ v,σ[i]? =some (some v)∧Q v H
noncomputable def tC (v:V):TE:=fun _ H Q=>Q v H
theorem pe_var {i:Nat}{x:Str}{pos:Pos}(hN:X.N[i]? =some x)(hv:Vis X.env.scope x)(hd:(x==("__debug__" :Str))=false:=by decide)(hcd:(x==("__classdict__" :Str))=false:=by decide):PE X (.Name x pos) (tVar i):=by
 intro pins s σ H Q I h
 obtain ⟨v,e,h⟩:=h
 obtain ⟨m,hn,hl⟩:=I.loc
 obtain ⟨u,r,l⟩:=hl i x v hN e hv
 have fin:EP X pins σ Q u s:=⟨v,H,I,r,h⟩
 rcases l with ⟨hk,hm⟩ | ⟨hk,c,hc,hcell⟩
 ·exact wpAny_Name (wpAny_loadName_local I.ok.kind hk hn hm fin) hd
 ·rcases hk with hk | hk
  ·exact wpAny_Name (wpAny_loadName_cell I.ok.kind hk hc hcell fin) hd
  ·exact wpAny_Name (wpAny_loadName_free I.ok.kind hk hc hcell fin hcd) hd
theorem pe_int {i j pos}:PE X (.Constant (.int i) j pos) (tC (.int i)):=fun _ _ _ H _ I h=>wpAny_Constant_int ⟨.int i,H,I.tok _,⟨_,rfl⟩,h⟩
theorem pe_bl {b j pos}:PE X (.Constant (.bool b) j pos) (tC (.bl b)):=fun _ _ _ H _ I h=>Constant_bool ⟨.bl b,H,I,rfl,h⟩
theorem pe_non {j pos}:PE X (.Constant .none j pos) (tC .non):=fun _ _ _ H _ I h=>Constant_none ⟨.non,H,I,rfl,h⟩
theorem pe_str {x j pos}:PE X (.Constant (.str x) j pos) (tC (.str x)):=fun _ _ _ H _ I h=>ybj ⟨.str x,H,I.tok _,⟨_,rfl⟩,h⟩
noncomputable def Gl (X:Cx) (x:Str):Prop:=X.env.kindOf x=some .globalImplicit
theorem zfY {E:Value→Shared→Prop}{pins:List (Addr×Obj)}{s:Shared}{σ :St}{H:Hp}{x:Str}{u:Value}{pos:Pos}{Q:Value→Shared→Prop}(I:Inv X pins σ H s)(hg:Gl X x)(hm:X.mg x=some u)(h:Q u s)
  (hd:(x==("__debug__" :Str))=false:=by decide):wpAny (model X.prog X.w) X.A (eval (.Name x pos) X.env) Q E s:=
 yaj I.ok.kind hg (Calls.loadGlobal_global (by rw [I.ok.glob];exact I.mod.glob.keeps I.bk) hm h) hd
theorem zgN {E:Value→Shared→Prop}{pins:List (Addr×Obj)}{s:Shared}{σ :St}{H:Hp}{x:Str}{u:Value}{pos:Pos}{Q:Value→Shared→Prop}(I:Inv X pins σ H s)(hg:Gl X x)(hm:X.mg x=none)(hv:bootBuiltins x=some u)(h:Q u s)
  (hn:x≠"__name__" :=by decide) (hd:(x==("__debug__" :Str))=false:=by decide):wpAny (model X.prog X.w) X.A (eval (.Name x pos) X.env) Q E s:=by
 obtain ⟨mb,h1,h2⟩:=I.mod.blt
 exact yaj I.ok.kind hg (Calls.loadGlobal_builtin (by rw [I.ok.glob];exact I.mod.glob.keeps I.bk) hm (by rw [I.ok.blt];exact h1.keeps I.bk) ((h2 x hn).trans hv) h) hd
theorem zoH {x:Str}{v:V}{u:Value}{pos:Pos}(hg:Gl X x)(hm:X.mg x=some u)(r:RelV v u)(hd:(x==("__debug__" :Str))=false:=by decide):PE X (.Name x pos) (tC v):=
 fun _ _ _ H _ I h=>zfY I hg hm ⟨v,H,I,r,h⟩ hd
theorem zoA {x:Str}{v:V}{u:Value}{pos:Pos}(hg:Gl X x)(hm:X.mg x=none)(hv:bootBuiltins x=some u)(r:RelV v u)(hn:x≠"__name__" :=by decide)(hd:(x==("__debug__" :Str))=false:=by decide):PE X (.Name x pos) (tC v):=
 fun _ _ _ H _ I h=>zgN I hg hm hv ⟨v,H,I,r,h⟩ hn hd
variable {a b:Expr} {ta tb:TE} {pos:Pos}
noncomputable def PC (X:Cx) (op:CmpOp) (a b:Expr) (t:TE):Prop:=
 ∀ (pins:List (Addr×Obj)) (s:Shared) (σ :St) (H:Hp) (Q:VK),Inv X pins σ H s→t σ H Q→
  wpAny (model X.prog X.w) X.A (eval a X.env) (fun v s₁ =>wpAny (model X.prog X.w) X.A (eval b X.env) (fun u s₂ =>wpAny (model X.prog X.w) X.A (compareOp op v u) (EP X pins σ Q) X.xe s₂) X.xe s₁) X.xe s
theorem zfg (b:Expr){op:CmpOp}(h:op≠.In)(h2:op≠.NotIn):behindInMarks op b=false:=by
 have e1:(op==CmpOp.In)=false:=by cases op <;> first | rfl | exact absurd rfl h
 have e2:(op==CmpOp.NotIn)=false:=by cases op <;> first | rfl | exact absurd rfl h2
 cases b <;> simp [behindInMarks,e1,e2]
noncomputable def tIsN (ta:TE):TE:=fun σ H Q=>ta σ H fun x H1=>Q (.bl (decide (x= .non))) H1
theorem RelV.none_iff {x:V}{v:Value}(r:RelV x v):(v==Value.none)=decide (x= .non):=by
 cases x with
 | non=>cases r;rfl
 | bl _=>cases r;rfl
 | int _=>obtain ⟨t,rfl⟩:=r;rfl
 | str _=>obtain ⟨t,rfl⟩:=r;rfl
 | byt _=>obtain ⟨t,rfl⟩:=r;rfl
 | flt _=>obtain ⟨t,rfl⟩:=r;rfl
 | ref _=>cases r;rfl
 | ty _=>cases r;rfl
theorem pc_isN {j pos'}(ha:PE X a ta):PC X .Is a (.Constant .none j pos') (tIsN ta):=by
 intro pins s σ H Q I h
 refine thn (ha pins s σ H _ I h) fun v s1 ⟨x,H1,I1,r1,q1⟩=>?_
 exact Constant_none (is_none_gen ⟨.bl _,H1,I1,by rw [r1.none_iff];rfl,q1⟩)
noncomputable def tB (t:TE):TT:=fun σ H Q=>t σ H fun x H1=>∃ c,x= .bl c∧Q c H1
theorem pe_cmp {op:CmpOp}{t:TE}(h:PC X op a b t)(h1:behindInMarks op b=false:=by first | exact zfg _ (by decide) (by decide) | rfl):PE X (.Compare a [op] [b] pos) t:=fun pins s σ H Q I hw=>wpAny_Compare1 (h pins s σ H Q I hw) h1
theorem pt_cmp {op:CmpOp}{t:TE}(h:PC X op a b t)(h1:behindInMarks op b=false:=by first | exact zfg _ (by decide) (by decide) | rfl):PT X (.Compare a [op] [b] pos) (tB t):=by
 intro pins s σ H Q I hw
 refine wpAny_isTrue_Compare1 (thn (h pins s σ H _ I hw) fun v s1 h1=>thn h1 fun u s2 h2=>thn h2 fun c s3 ⟨x,H1,I1,r1,q1⟩=>?_) h1
 obtain ⟨d,rfl,q⟩:=q1
 cases r1
 exact wpAny_truthy_bool ⟨H1,I1,q⟩
theorem pt_val {e:Expr}{t:TE}(h:PE X e t)(he:∀ whole,isTrue e X.env whole=(do let v ← whole;standAt e.pos;holding [v] (truthy v)):=by intro _;rfl):PT X e (tB t):=by
 intro pins s σ H Q I hw
 refine isTrue_plain (thn (h pins s σ H _ I hw) fun v s1 ⟨x,H1,I1,r1,q1⟩=>?_) (he _)
 obtain ⟨d,rfl,q⟩:=q1
 cases r1
 exact wpAny_truthy_bool ⟨H1,I1,q⟩
variable {tA tB':TT} {rest:List Expr}
noncomputable def tAnd (t u:TT):TT:=fun σ H Q=>t σ H fun c H1=>if c=true then u σ H1 Q else Q false H1
noncomputable def tOr (t u:TT):TT:=fun σ H Q=>t σ H fun c H1=>if c=true then Q true H1 else u σ H1 Q
noncomputable def tNot (t:TT):TT:=fun σ H Q=>t σ H fun c H1=>Q (!c) H1
theorem zo0 (ha:PT X a tA):PW X (.BoolOp .And [a] pos) tA:=by
 intro wh pins s σ H Q I h
 refine isTrue_and (thn (ha pins s σ H Q I h) fun c s1 e=>?_)
 cases c with
 | true=>exact isTrue_and_nil e
 | false=>exact e
theorem pw_or1 (ha:PT X a tA):PW X (.BoolOp .Or [a] pos) tA:=by
 intro wh pins s σ H Q I h
 refine isTrue_or (thn (ha pins s σ H Q I h) fun c s1 e=>?_)
 cases c with
 | false=>exact isTrue_or_nil e
 | true=>exact e
theorem pw_and (ha:PT X a tA)(hb:PW X (.BoolOp .And (b::rest) pos) tB'):PW X (.BoolOp .And (a::b::rest) pos) (tAnd tA tB'):=by
 intro wh pins s σ H Q I h
 refine isTrue_and (thn (ha pins s σ H _ I h) fun c s1 ⟨H1,I1,q1⟩=>?_)
 cases c with
 | true=>exact hb wh pins s1 σ H1 Q I1 q1
 | false=>exact ⟨H1,I1,q1⟩
theorem pw_or (ha:PT X a tA)(hb:PW X (.BoolOp .Or (b::rest) pos) tB'):PW X (.BoolOp .Or (a::b::rest) pos) (tOr tA tB'):=by
 intro wh pins s σ H Q I h
 refine isTrue_or (thn (ha pins s σ H _ I h) fun c s1 ⟨H1,I1,q1⟩=>?_)
 cases c with
 | true=>exact ⟨H1,I1,q1⟩
 | false=>exact hb wh pins s1 σ H1 Q I1 q1
theorem pt_not (ha:PT X a tA):PT X (.UnaryOp .Not a pos) (tNot tA):=by
 intro pins s σ H Q I h
 exact isTrue_not (ha pins s σ H (fun c H1=>Q (!c) H1) I h)
noncomputable def tNotV (ta:TE):TE:=fun σ H Q=>ta σ H fun x H1=>∃ c,x= .bl c∧Q (.bl (!c)) H1
theorem pe_not (ha:PE X a ta):PE X (.UnaryOp .Not a pos) (tNotV ta):=by
 intro pins s σ H Q I h
 refine UnaryOp_ (thn (ha pins s σ H _ I h) fun v s1 ⟨x,H1,I1,r1,q1⟩=>?_)
 obtain ⟨c,rfl,q1⟩:=q1
 cases r1
 exact not_of (wpAny_truthy_bool ⟨.bl (!c),H1,I1,rfl,q1⟩)
noncomputable def tIf (t:TT) (ta tb:TE):TE:=fun σ H Q=>t σ H fun c H1=>if c=true then ta σ H1 Q else tb σ H1 Q
theorem znr {c:Expr}(hc:PT X c tA)(ha:PE X a ta)(hb:PE X b tb):PE X (.IfExp c a b pos) (tIf tA ta tb):=by
 intro pins s σ H Q I h
 refine wpAny_IfExp (thn (hc pins s σ H _ I h) fun d s1 ⟨H1,I1,q1⟩=>?_)
 cases d with
 | true=>exact ha pins s1 σ H1 Q I1 q1
 | false=>exact hb pins s1 σ H1 Q I1 q1
end
noncomputable def SqL (K:PySem.W.Frag) (H:Hp) (a:Addr) (xs:List V):Prop:=
 Rd H a (.lst xs)∨
  ∃ (o:Obj) (its:Array Value) (n:Nat),K.lookup a=some o∧o.cls= .type "list"∧o.dict=none∧o.data= .seq its n∧its.size≤yH∧Vals xs its.toList
noncomputable def SqT (K:PySem.W.Frag) (H:Hp) (a:Addr) (xs:List V):Prop:=
 Rd H a (.tup xs)∨
  ∃ (o:Obj) (its:Array Value) (n:Nat),K.lookup a=some o∧o.cls= .type "tuple"∧o.data= .seq its n∧its.size≤yH∧Vals xs its.toList
noncomputable def absV:Value→Option V
 | .none=>some .non
 | .bool b=>some (.bl b)
 | .int i _=>some (.int i)
 | .str x _=>some (.str x)
 | .bytes b _=>some (.byt b)
 | .float b _=>some (.flt b)
 | .ref a=>some (.ref a)
 | .type n=>some (.ty n)
 | _=>none
theorem RelV.abs {x:V}{u:Value}(r:RelV x u):absV u=some x:=by
 cases x with
 | non=>cases r;rfl
 | bl _=>cases r;rfl
 | int _=>obtain ⟨t,rfl⟩:=r;rfl
 | str _=>obtain ⟨t,rfl⟩:=r;rfl
 | byt _=>obtain ⟨t,rfl⟩:=r;rfl
 | flt _=>obtain ⟨t,rfl⟩:=r;rfl
 | ref _=>cases r;rfl
 | ty _=>cases r;rfl
theorem RelV.inj {x y:V}{u:Value}(r:RelV x u)(q:RelV y u):x=y:=yV (r.abs.symm.trans q.abs)
theorem Vals.inj:∀ {xs ys:List V} {us:List Value},Vals xs us→Vals ys us→xs=ys
 | _,_,_,.nil,.nil=>rfl
 | _,_,_,.cons r t,.cons r' t'=>by rw [r.inj r',Vals.inj t t']
section
variable {X:Cx} {pins:List (Addr×Obj)} {σ :St} {H:Hp} {s:Shared} {a:Addr} {xs ys:List V}
theorem SqL.of {K:PySem.W.Frag}(h:H a=some (.lst xs)):SqL K H a xs:=.inl (.inl h)
theorem SqT.of {K:PySem.W.Frag}(h:H a=some (.tup xs)):SqT K H a xs:=.inl (.inl h)
theorem Inv.list (I:Inv X pins σ H s)(h:SqL X.K H a xs):∃ its:List Value,Vals xs its∧PlainL s.heap a its.toArray∧xs.length≤yH:=by
 rcases h with h | ⟨o,its,n,hk,hc,hd,hs,hz,r⟩
 ·obtain ⟨z,its,n,r,e⟩:=h.ok I.hok
  exact ⟨its,r,⟨_,n,e,rfl,rfl,rfl⟩,z⟩
 ·refine ⟨its.toList,r,⟨o,n,I.kIn a o hk,hc,hd,by simpa using hs⟩,?_⟩
  have e:=r.length
  simp only [yY] at e
  omega
theorem Inv.tuple (I:Inv X pins σ H s)(h:SqT X.K H a xs):∃ its:List Value,Vals xs its∧IsTup s.heap a its.toArray∧xs.length≤yH:=by
 rcases h with h | ⟨o,its,n,hk,hc,hs,hz,r⟩
 ·obtain ⟨z,its,r,p⟩:=h.ok I.hok
  exact ⟨its,r,p,z⟩
 ·refine ⟨its.toList,r,⟨o,I.kIn a o hk,hc,n,by simpa using hs⟩,?_⟩
  have e:=r.length
  simp only [yY] at e
  omega
theorem Inv.list_inj (I:Inv X pins σ H s)(h:SqL X.K H a xs)(h':SqL X.K H a ys):xs=ys:=by
 obtain ⟨its,r,⟨o,n,e,_,_,d⟩,_⟩:=I.list h
 obtain ⟨its',r',⟨o',n',e',_,_,d'⟩,_⟩:=I.list h'
 rw [e] at e';cases e'
 rw [d] at d'
 injection d' with d1 _
 have:its=its':=by simpa using congrArg Array.toList d1
 subst this
 exact r.inj r'
theorem Inv.tuple_inj (I:Inv X pins σ H s)(h:SqT X.K H a xs)(h':SqT X.K H a ys):xs=ys:=by
 obtain ⟨its,r,⟨o,e,_,n,d⟩,_⟩:=I.tuple h
 obtain ⟨its',r',⟨o',e',_,n',d'⟩,_⟩:=I.tuple h'
 rw [e] at e';cases e'
 rw [d] at d'
 injection d' with d1 _
 have:its=its':=by simpa using congrArg Array.toList d1
 subst this
 exact r.inj r'
end
noncomputable abbrev Cx.wish (X:Cx) (E:Value→Shared→Prop):Cx:={X with xe:=E}
noncomputable abbrev Cx.nox (X:Cx):Cx:=X.wish fun _ _=>False
theorem Cx.Ok.wish {X:Cx}(ok:X.Ok)(E:Value→Shared→Prop):(X.wish E).Ok:=
 ⟨ok.mod,ok.kind,ok.glob,ok.blt,ok.above,ok.inj,ok.has,ok.cab,ok.hd,ok.frames,ok.stk,ok.exf,ok.bs,ok.bsz,ok.noex,ok.exfs,ok.funs,ok.frf⟩
theorem Cx.Ok.unwish {X:Cx}{E:Value→Shared→Prop}(ok:(X.wish E).Ok):X.Ok:=
 ⟨ok.mod,ok.kind,ok.glob,ok.blt,ok.above,ok.inj,ok.has,ok.cab,ok.hd,ok.frames,ok.stk,ok.exf,ok.bs,ok.bsz,ok.noex,ok.exfs,ok.funs,ok.frf⟩
section
variable {X:Cx} {pins:List (Addr×Obj)} {σ :St} {H:Hp} {s:Shared} {E:Value→Shared→Prop}
theorem Inv.wish (I:Inv X pins σ H s)(E:Value→Shared→Prop):Inv (X.wish E) pins σ H s:=⟨I.ok.wish E,I.os,I.bare,I.base,I.loc,I.cell,I.free,I.freeC,I.pin,I.hok,I.len⟩
theorem Inv.unwish (I:Inv (X.wish E) pins σ H s):Inv X pins σ H s:=⟨I.ok.unwish,I.os,I.bare,I.base,I.loc,I.cell,I.free,I.freeC,I.pin,I.hok,I.len⟩
theorem SP.unwish {D:Ends}{f:Flow}{s':Shared}(h:SP (X.wish E) pins D f s'):SP X pins D f s':=by
 cases f with
 | next=>obtain ⟨σ',H',I,q⟩:=h;exact ⟨σ',H',I.unwish,q⟩
 | brk=>obtain ⟨σ',H',I,q⟩:=h;exact ⟨σ',H',I.unwish,q⟩
 | cont=>obtain ⟨σ',H',I,q⟩:=h;exact ⟨σ',H',I.unwish,q⟩
 | ret u=>obtain ⟨v,σ',H',I,r,q⟩:=h;exact ⟨v,σ',H',I.unwish,r,q⟩
theorem PSs.nox {st:List Stmt}{t:TS}(h:PSs X.nox st t):PSs X st t:=fun pins s σ H D I hw=>
 wpAny_mono (h pins s σ H D (I.wish _) hw) (fun _ _ q=>q.unwish) fun _ _ z=>xN z
end
section
variable {X:Cx} {st:Stmt} {rest:List Stmt} {t u:TS} {e:Expr} {te:TE} {pos:Pos}
noncomputable def tNext:TS:=fun D σ H=>D.nx σ H
noncomputable def tSeq (t u:TS):TS:=fun D σ H=>t {D with nx:=u D} σ H
theorem zoM:PSs X [] tNext:=fun _ _ σ H _ I h=>wpAny_execs_nil ⟨σ,H,I,h⟩
theorem zmN (h1:PS X st t)(h2:PSs X rest u):PSs X (st::rest) (tSeq t u):=by
 intro pins s σ H D I h
 refine wpAny_execs_cons (thn (h1 pins s σ H {D with nx:=u D} I h) fun f s1 q=>?_)
 cases f with
 | next=>
  obtain ⟨σ',H',I',q⟩:=q
  exact h2 pins s1 σ' H' D I' q
 | ret v=>exact q
 | brk=>exact q
 | cont=>exact q
theorem zob (h1:PS X st t):PSs X [st] t:=by
 intro pins s σ H D I h
 refine wpAny_execs_cons (thn (h1 pins s σ H D I h) fun f s1 q=>?_)
 cases f with
 | next=>exact wpAny_execs_nil q
 | ret v=>exact q
 | brk=>exact q
 | cont=>exact q
theorem Inv.quiet {pins:List (Addr×Obj)}{σ :St}{H:Hp}{s:Shared}(I:Inv X pins σ H s):interactive X.env=false:=by simp [interactive,I.ok.kind]
noncomputable def tDrop (te:TE):TS:=fun D σ H=>te σ H fun _ H1=>D.nx σ H1
theorem zok (he:PE X e te)(hs:swapsWith e none pos.line X.env=pure false:=by rfl):PS X (.Expr e pos) (tDrop te):=by
 intro pins s σ H D I h
 exact wpAny_Expr_any (thn (he pins s σ H _ I h) fun v s1 ⟨x,H1,I1,r1,q1⟩=>⟨σ,H1,I1,q1⟩) I.quiet hs
noncomputable def tRet (te:TE):TS:=fun D σ H=>te σ H D.rt
theorem ps_ret (he:PE X e te):PS X (.Return (some e) pos) (tRet te):=by
 intro pins s σ H D I h
 exact wpAny_Return_some (thn (he pins s σ H _ I h) fun v s1 ⟨x,H1,I1,r1,q1⟩=>⟨x,σ,H1,I1,r1,q1⟩)
noncomputable def tIfS (c:TT) (t u:TS):TS:=fun D σ H=>c σ H fun b H1=>if b=true then t D σ H1 else u D σ H1
theorem ps_if {c:Expr}{a b:List Stmt}{tc:TT}(hc:PT X c tc)(ha:PSs X a t)(hb:PSs X b u):PS X (.If c a b pos) (tIfS tc t u):=by
 intro pins s σ H D I h
 refine wpAny_If (thn (hc pins s σ H _ I h) fun d s1 ⟨H1,I1,q1⟩=>?_)
 cases d with
 | true=>exact ha pins s1 σ H1 D I1 q1
 | false=>exact hb pins s1 σ H1 D I1 q1
noncomputable def zmc:TS:=fun _ _ _=>False
theorem zmm:PS X st zmc:=fun _ _ _ _ _ _ h=>h.elim
end
noncomputable abbrev TG:=V→St→Hp→(St→Hp→Prop)→Prop
noncomputable abbrev TGs:=List V→St→Hp→(St→Hp→Prop)→Prop
noncomputable def PG (X:Cx) (target:Expr) (t:TG):Prop:=
 ∀ (pins:List (Addr×Obj)) (s:Shared) (σ :St) (H:Hp) (v:V) (u:Value) (Q:St→Hp→Prop),Inv X pins σ H s→RelV v u→t v σ H Q→
  wpAny (model X.prog X.w) X.A (assign target X.env u) (fun _ s'=>∃ σ' H',Inv X pins σ' H' s'∧Q σ' H') X.xe s
noncomputable def PGs (X:Cx) (ts:List Expr) (t:TGs):Prop:=
 ∀ (pins:List (Addr×Obj)) (s:Shared) (σ :St) (H:Hp) (vs:List V) (us:List Value) (Q:St→Hp→Prop),Inv X pins σ H s→Vals vs us→t vs σ H Q→
  wpAny (model X.prog X.w) X.A (assignInOrder ((assignEach ts X.env).map (·.2)) us) (fun _ s'=>∃ σ' H',Inv X pins σ' H' s'∧Q σ' H') X.xe s
noncomputable abbrev TSet:=V→V→V→Hp→(Hp→Prop)→Prop
noncomputable def PSet (X:Cx) (t:TSet):Prop:=
 ∀ (pins:List (Addr×Obj)) (s:Shared) (σ :St) (H:Hp) (o i v:V) (ov iv u:Value) (Q:Hp→Prop),Inv X pins σ H s→RelV o ov→RelV i iv→RelV v u→t o i v H Q→
  wpAny (model X.prog X.w) X.A (setItem ov iv u) (fun _ s'=>∃ H',Inv X pins σ H' s'∧Q H') X.xe s
section
variable {X:Cx} {pos:Pos}
noncomputable def zdO (i:Nat):TG:=fun v σ H Q=>Q (σ.set i (some v)) H
theorem zod {i:Nat}{x:Str}(hN:X.N.Nodup)(hi:X.N[i]? =some x)(hx:Loc X.env.scope x)(hf:X.fn x=true∨X.env.scope.names.lookup x=some .local:=by first | exact .inl rfl | exact .inr rfl | assumption):PG X (.Name x pos) (zdO i):=by
 intro pins s σ H v u Q I r h
 exact wpAny_assign_Name (zfi I hN hi hx r (fun s' I'=>⟨_,H,I',h⟩) hf)
noncomputable def gNil:TGs:=fun vs σ H Q=>vs= []∧Q σ H
noncomputable def ziQ (t:TG) (u:TGs):TGs:=fun vs σ H Q=>∃ v r,vs=v::r∧t v σ H fun σ' H'=>u r σ' H' Q
theorem zoT:PGs X [] gNil:=by
 intro pins s σ H vs us Q I r h
 obtain ⟨e,h⟩:=h
 subst e
 cases r
 exact assignInOrder_nil ⟨σ,H,I,h⟩
theorem zm5 {e:Expr}{es:List Expr}{t:TG}{u:TGs}(h1:PG X e t)(h2:PGs X es u)
  (hs:(assignEach (e::es) X.env).map (·.2)=assign e X.env::(assignEach es X.env).map (·.2):=by rfl):PGs X (e::es) (ziQ t u):=by
 intro pins s σ H vs us Q I r h
 obtain ⟨v,vr,e1,h⟩:=h
 subst e1
 cases r with
 | cons r rr=>
  rw [hs]
  refine assignInOrder_cons (thn (h1 pins s σ H _ _ _ I r h) fun _ s1 ⟨σ1,H1,I1,q1⟩=>?_)
  exact h2 pins s1 σ1 H1 _ _ Q I1 rr q1
noncomputable def gTup (K:PySem.W.Frag) (n:Nat) (t:TGs):TG:=fun v σ H Q=>∃ a xs,v= .ref a∧SqT K H a xs∧xs.length=n∧t xs σ H Q
theorem znE {es:List Expr}{k:Nat}{t:TGs}{n:Nat}(hc:X.calm=true)(h:PGs X es t)
  (hn:(assignEach es X.env).length=n:=by rfl) (hst:(assignEach es X.env).findIdx? (·.1)=none:=by rfl):PG X (.Tuple es k pos) (gTup X.K n t):=by
 intro pins s σ H v u Q I r hw
 obtain ⟨a,xs,e1,hq,hl,hw⟩:=hw
 subst e1
 cases r
 obtain ⟨its,rv,ht,hz⟩:=I.tuple hq
 refine assign_Tuple_tuple (I.ok.hd hc) ht (by simp [hn,← hl,rv.length]) hst fun h' hx=>?_
 have I1:Inv X pins σ H {s with heap:=h'}:=I.kept (t':=s.toks) fun b o e=>hx b o (qL (yU e)) e
 exact h pins _ σ H xs _ Q I1 (by simpa using rv) hw
noncomputable def gSub (to ti:TE) (t:TSet):TG:=fun v σ H Q=>to σ H fun o H1=>ti σ H1 fun i H2=>t o i v H2 fun H3=>Q σ H3
theorem pg_sub {o i:Expr}{to ti:TE}{t:TSet}(ho:PE X o to)(hi:PE X i ti)(hs:PSet X t)
  (ha:∀ v,assign (.Subscript o i pos) X.env v=(do
   let ov ← holding [v] (eval o X.env)
   let iv ← holding [v,ov] (eval i X.env)
   standAt pos
   holding [v,ov,iv] (setItem ov iv v)
   release [v,ov,iv] []):=by intro _;rfl):PG X (.Subscript o i pos) (gSub to ti t):=by
 intro pins s σ H v u Q I r h
 rw [ha]
 refine yD (wpAny_holding (thn (ho pins s σ H _ I h) fun ov s1 ⟨x,H1,I1,r1,q1⟩=>?_))
 refine yD (wpAny_holding (thn (hi pins s1 σ H1 _ I1 q1) fun iv s2 ⟨y,H2,I2,r2,q2⟩=>?_))
 refine yD (wpAny_standAt (yD (wpAny_holding (thn (hs pins s2 σ H2 x y v ov iv u _ I2 r1 r2 r q2) fun _ s3 ⟨H3,I3,q3⟩=>?_))))
 exact wpAny_release ⟨σ,H3,I3,q3⟩
noncomputable def tAsg (te:TE) (g:TG):TS:=fun D σ H=>te σ H fun x H1=>g x σ H1 D.nx
theorem ps_asg {tg e:Expr}{te:TE}{g:TG}(he:PE X e te)(hg:PG X tg g)(hs:swapsWithSole [tg] e pos.line X.env=pure false:=by rfl)(hw:swappedStores [tg] e X.env=pure none:=by rfl)
  (h1:(assignEach [tg] X.env).map (·.2)= [assign tg X.env]:=by rfl):PS X (.Assign [tg] e pos) (tAsg te g):=by
 intro pins s σ H D I h
 refine wpAny_Assign_stores (thn (he pins s σ H _ I h) fun v s1 ⟨x,H1,I1,r1,q1⟩=>?_) hs hw
 rw [h1]
 exact thn (hg pins s1 σ H1 x v _ I1 r1 q1) fun _ s2 q=>q
theorem ps_set {i:Nat}{x:Str}{e:Expr}{te:TE}{pos':Pos}(hN:X.N.Nodup)(hi:X.N[i]? =some x)(hx:Loc X.env.scope x)(he:PE X e te)(hs:swapsWith e (some (.Name x pos')) pos.line X.env=pure false:=by rfl)(hf:X.fn x=true∨X.env.scope.names.lookup x=some .local:=by first | exact .inl rfl | exact .inr rfl | assumption):
  PS X (.Assign [.Name x pos'] e pos) (tAsg te (zdO i)):=by
 intro pins s σ H D I h
 refine wpAny_Assign_Name (thn (he pins s σ H _ I h) fun v s1 ⟨y,H1,I1,r1,q1⟩=>?_) hs
 exact zfi I1 hN hi hx r1 (fun s2 I2=>⟨_,H1,I2,q1⟩) hf
end
section
variable {X:Cx} {pos:Pos}
end
structure It where
 go:Nat→Hp→Prop
 yld:Nat→Hp→V→Hp→Prop
 stop:Nat→Hp→Prop
noncomputable def FpOk (X:Cx) (pins:List (Addr×Obj)) (H:Hp) (b:Addr):Prop:=
 H b=none∧b≠X.env.locals∧b∉X.fs∧(b∈X.ex∨X.s₀.heap.objs.size≤b)∧(∀ x c,X.env.cells.lookup x=some c→c≠b)∧∀ p∈X.pn++pins,p.1≠b
theorem Inv.fpOk {X:Cx}{pins:List (Addr×Obj)}{σ :St}{H H':Hp}{s:Shared}{b:Addr}(I:Inv X pins σ H s)(hb:s.heap.objs.size≤b)(hn:H' b=none):FpOk X pins H' b:=by
 refine ⟨hn,Nat.ne_of_gt (qK I.lt hb),I.nofs hb,.inr (jA I.sz hb),fun x c e z=>?_,fun p hp z=>?_⟩
 ·obtain ⟨v,q⟩:=I.cell x c e
  exact absurd (qK q.lt (by rw [z];exact hb)) (xZ _)
 ·exact absurd (qK (yU (I.pin p hp).1) (by rw [z];exact hb)) (xZ _)
structure Turn (P:Program) (w:World) (K:PySem.W.Frag) (tg:Expr) (J:It) (fp:List Addr) (it:Addr) (tn:Nat→Heap→Prop):Prop where
 mem:it∈fp
 obj:∀ i h,tn i h→∀ b∈fp,∃ o,h.get? b=some o∧∀ v,o.data≠.cell v
 keep:∀ i h h',tn i h→(∀ b∈fp,∀ o,h.get? b=some o→h'.get? b=some o)→tn i h'
 item:∀ (X:Cx),X.prog=P→X.w=w→X.K=K→X.calm=true→∀ (i:Nat) (pins:List (Addr×Obj)) (s:Shared) (σ :St) (H:Hp) (E:Value→Shared→Prop),Inv X pins σ H s→(∀ b∈fp,FpOk X pins H b)→tn i s.heap→J.go i H→
  wpAny (model P w) X.A (pyNext (.ref it)) (fun r s1=>∃ u,r=some u∧
   wpAny (model P w) X.A (letOwnedTupleGo tg (.ref it) u) (fun _ s2=>∃ x H',Inv X pins σ H' s2∧RelV x u∧J.yld i H x H'∧tn (i+1) s2.heap∧∀ b∈fp,H' b=none) E s1) E s
 done:∀ (X:Cx),X.prog=P→X.w=w→X.K=K→X.calm=true→∀ (i:Nat) (pins:List (Addr×Obj)) (s:Shared) (σ :St) (H:Hp) (E:Value→Shared→Prop),Inv X pins σ H s→(∀ b∈fp,FpOk X pins H b)→tn i s.heap→J.stop i H→
  wpAny (model P w) X.A (pyNext (.ref it)) (fun r s1=>r=none∧Inv X pins σ H s1) E s
 self:∀ (A:Around) (i:Nat) (s:Shared) (Q:Value→Shared→Prop) (E:Value→Shared→Prop),tn i s.heap→Q (.ref it) s→wpAny (model P w) A (pyIter (.ref it)) Q E s
noncomputable abbrev TI:=St→Hp→(It→Hp→Prop)→Prop
noncomputable def PIE (X:Cx) (pins:List (Addr×Obj)) (σ :St) (tg:Expr) (R:It→Hp→Prop) (itv:Value) (s2:Shared):Prop:=
 ∃ (it:Addr) (fp:List Addr) (tn:Nat→Heap→Prop) (J:It) (H':Hp),itv= .ref it∧Inv X pins σ H' s2∧Turn X.prog X.w X.K tg J fp it tn∧tn 0 s2.heap∧(∀ b∈fp,FpOk X pins H' b)∧R J H'
noncomputable def PI (X:Cx) (tg iter:Expr) (wi:TI):Prop:=
 ∀ (pins:List (Addr×Obj)) (s:Shared) (σ :St) (H:Hp) (R:It→Hp→Prop),Inv X pins σ H s→wi σ H R→
  wpAny (model X.prog X.w) X.A (eval iter X.env) (fun v s1=>wpAny (model X.prog X.w) X.A (pyIter v) (PIE X pins σ tg R) X.xe s1) X.xe s
theorem zmK {M:Model}{A:Around}{E:Value→Shared→Prop}{s:Shared}{tg:Expr}{it:Addr}{u:Value}{o:Obj}{n:String}{vs:Array Value}{Q:Unit→Shared→Prop}(ho:s.heap.get? it=some o)(hc:o.cls= .type n)(hd:o.data= .fields vs)
  (hn:["enumerate","zip","dict_itemiterator","dict_reverseitemiterator","odict_iterator","itertools.zip_longest","itertools.pairwise"].contains n=false) (hQ:Q () s):wpAny M A (letOwnedTupleGo tg (.ref it) u) Q E s:=by
 unfold letOwnedTupleGo
 cases tg <;> first
  | exact yP hQ
  | (cases u <;> first
    | exact yP hQ
    | (refine yD (wpAny_load ho ?_)
       rw [hc,hd]
       show wpAny M A (if (["enumerate","zip","dict_itemiterator","dict_reverseitemiterator","odict_iterator","itertools.zip_longest","itertools.pairwise"].contains n && vs[0]? ==some (rawInt _))=true then _ else _) Q E s
       rw [if_neg (by intro h;rw [hn,Bool.false_and] at h;cases h)]
       exact yP hQ))
noncomputable def Itl (K:PySem.W.Frag) (a:Addr):It:=
 ⟨fun i H=>∃ xs x,SqL K H a xs∧xs[i]? =some x,fun i H x H'=>H'=H∧∀ xs,SqL K H a xs→xs[i]? =some x,fun i H=>∃ xs,SqL K H a xs∧xs.length≤i⟩
noncomputable def Itt (K:PySem.W.Frag) (a:Addr):It:=
 ⟨fun i H=>∃ xs x,SqT K H a xs∧xs[i]? =some x,fun i H x H'=>H'=H∧∀ xs,SqT K H a xs→xs[i]? =some x,fun i H=>∃ xs,SqT K H a xs∧xs.length≤i⟩
noncomputable def Itr (lo:Int) (n:Nat):It:=⟨fun i _=>i < n,fun i H x H'=>H'=H∧x= .int (lo+i),fun i _=>n≤i⟩
theorem zkS {P:Program}{w:World}{K:PySem.W.Frag}{tg:Expr}(a it:Addr):Turn P w K tg (Itl K a) [it] it (fun i h=>h.IsListIter it a i) where
 mem:=by simp
 obj:=fun i h st b hb=>by
  have e:b=it:=by simpa using hb
  subst e
  obtain ⟨o,e,c,d⟩:=st
  exact ⟨o,e,fun v z=>by rw [d] at z;cases z⟩
 keep:=fun i h h' st k=>st.at fun o e=>k it (by simp) o e
 item:=by
  intro X hP hw hK hc i pins s σ H E I hf st hg
  subst hP hw hK
  obtain ⟨xs,x,hq,hx⟩:=hg
  obtain ⟨its,rv,p,hz⟩:=I.list hq
  obtain ⟨u,hu,ru⟩:=rv.get hx
  obtain ⟨f0,f1,f2,f3,f4,f5⟩:=hf it (by simp)
  refine wpAny_pyNext_list_item st p.isList (x:=u) (by simpa using hu) fun h' st' sb=>?_
  have I1:Inv X pins σ H {s with heap:=h'}:=I.turned (t':=s.toks) (fun b o hb e=>(sb.2 b hb).trans e) f0 f1 f3 f4 f5
  obtain ⟨o,e,c,d⟩:=id st'
  exact ⟨u,rfl,zmK (s:={s with heap:=h'}) e c d (by decide) ⟨x,H,I1,ru,⟨rfl,fun ys hy=>by rw [I.list_inj hy hq];exact hx⟩,st',fun b hb=>(hf b hb).1⟩⟩
 done:=by
  intro X hP hw hK hc i pins s σ H E I hf st hg
  subst hP hw hK
  obtain ⟨xs,hq,hx⟩:=hg
  obtain ⟨its,rv,p,hz⟩:=I.list hq
  obtain ⟨f0,f1,f2,f3,f4,f5⟩:=hf it (by simp)
  have hl:=rv.length
  exact wpAny_pyNext_list_end (I.ok.hd hc) st p.isList (by simp;omega) fun h' eb=>⟨rfl,I.turned (t':=s.toks) (fun b o hb e=>eb b o hb e) f0 f1 f3 f4 f5⟩
 self:=fun _ _ _ _ _ st h=>wpAny_pyIter_listiter st h
theorem zkr {P:Program}{w:World}{K:PySem.W.Frag}{tg:Expr}(a it:Addr):Turn P w K tg (Itt K a) [it] it (fun i h=>h.IsTupleIter it a i) where
 mem:=by simp
 obj:=fun i h st b hb=>by
  have e:b=it:=by simpa using hb
  subst e
  obtain ⟨o,e,c,d⟩:=st
  exact ⟨o,e,fun v z=>by rw [d] at z;cases z⟩
 keep:=fun i h h' st k=>st.at fun o e=>k it (by simp) o e
 item:=by
  intro X hP hw hK hc i pins s σ H E I hf st hg
  subst hP hw hK
  obtain ⟨xs,x,hq,hx⟩:=hg
  obtain ⟨its,rv,p,hz⟩:=I.tuple hq
  obtain ⟨u,hu,ru⟩:=rv.get hx
  obtain ⟨f0,f1,f2,f3,f4,f5⟩:=hf it (by simp)
  refine wpAny_pyNext_tuple_item st (show s.heap.IsTuple a its.toArray from p) (x:=u) (by simpa using hu) fun h' st' sb=>?_
  have I1:Inv X pins σ H {s with heap:=h'}:=I.turned (t':=s.toks) (fun b o hb e=>(sb.2 b hb).trans e) f0 f1 f3 f4 f5
  obtain ⟨o,e,c,d⟩:=id st'
  exact ⟨u,rfl,zmK (s:={s with heap:=h'}) e c d (by decide) ⟨x,H,I1,ru,⟨rfl,fun ys hy=>by rw [I.tuple_inj hy hq];exact hx⟩,st',fun b hb=>(hf b hb).1⟩⟩
 done:=by
  intro X hP hw hK hc i pins s σ H E I hf st hg
  subst hP hw hK
  obtain ⟨xs,hq,hx⟩:=hg
  obtain ⟨its,rv,p,hz⟩:=I.tuple hq
  obtain ⟨f0,f1,f2,f3,f4,f5⟩:=hf it (by simp)
  have hl:=rv.length
  exact wpAny_pyNext_tuple_end (I.ok.hd hc) st (show s.heap.IsTuple a its.toArray from p) (by simp;omega) fun h' eb=>⟨rfl,I.turned (t':=s.toks) (fun b o hb e=>eb b o hb e) f0 f1 f3 f4 f5⟩
 self:=fun _ _ _ _ _ st h=>wpAny_pyIter_tupleiter st h
theorem zkx {P:Program}{w:World}{K:PySem.W.Frag}{tg:Expr}(it:Addr)(lo:Int)(n:Nat):Turn P w K tg (Itr lo n) [it] it (fun i h=>IsRangeIter h it (lo+(i:Nat) * 1) ((n:Int) - (i:Nat)) 1) where
 mem:=by simp
 obj:=fun i h st b hb=>by
  have e:b=it:=by simpa using hb
  subst e
  exact ⟨_,st,fun v z=>by
   have z':Data.fields _=Data.cell v:=z
   cases z'⟩
 keep:=fun i h h' st k=>k it (by simp) _ st
 item:=by
  intro X hP hw hK hc i pins s σ H E I hf st hg
  subst hP hw hK
  obtain ⟨f0,f1,f2,f3,f4,f5⟩:=hf it (by simp)
  have W:=Walks.range (prog:=X.prog) (w:=X.w) (I.ok.hd hc) it lo 1 n
  refine W.item i s _ _ hg st fun v h' tk hv st' kk=>?_
  obtain ⟨t,rfl⟩:=hv
  have I1:Inv X pins σ H {s with heap:=h',toks:=tk}:=I.turned (fun b o hb e=>kk b o (by simpa using hb) e) f0 f1 f3 f4 f5
  refine ⟨_,rfl,zmK (s:={s with heap:=h',toks:=tk}) (n:="range_iterator") st' rfl rfl (by decide) ⟨.int (lo+i),H,I1,⟨t,?_⟩,⟨rfl,rfl⟩,st',fun b hb=>(hf b hb).1⟩⟩
  rw [Int.mul_one]
 done:=by
  intro X hP hw hK hc i pins s σ H E I hf st hg
  subst hP hw hK
  obtain ⟨f0,f1,f2,f3,f4,f5⟩:=hf it (by simp)
  exact wpAny_pyNext_range_end (I.ok.hd hc) st (by have:n≤i:=hg;omega) fun h' eb=>⟨rfl,I.turned (t':=s.toks) (fun b o hb e=>eb b o hb e) f0 f1 f3 f4 f5⟩
 self:=fun _ _ _ _ _ st h=>wpAny_pyIter_rangeiter st h
section
variable {X:Cx} {tg:Expr}
noncomputable def iList (K:PySem.W.Frag) (tl:TE):TI:=fun σ H R=>tl σ H fun x H1=>∃ a,x= .ref a∧(∃ xs,SqL K H1 a xs)∧R (Itl K a) H1
noncomputable def iTup (K:PySem.W.Frag) (tl:TE):TI:=fun σ H R=>tl σ H fun x H1=>∃ a,x= .ref a∧(∃ xs,SqT K H1 a xs)∧R (Itt K a) H1
theorem zo4 {l:Expr}{tl:TE}(hl:PE X l tl):PI X tg l (iList X.K tl):=by
 intro pins s σ H R I h
 refine thn (hl pins s σ H _ I h) fun v s1 ⟨x,H1,I1,r1,q1⟩=>?_
 obtain ⟨a,e,⟨xs,hq⟩,q⟩:=q1
 subst e
 cases r1
 obtain ⟨its,rv,p,hz⟩:=I1.list hq
 refine wpAny_pyIter_list p.isList ?_
 refine ⟨s1.heap.objs.size,[s1.heap.objs.size],_,_,H1,rfl,I1.kept (t':=s1.toks) fun b o e=>yG _ e,zkS a _,⟨_,yZ _ rfl,rfl,rfl⟩,fun b hb=>?_,q⟩
 have e:b=s1.heap.objs.size:=by simpa using hb
 subst e
 exact I1.fpOk (yJ _) (I1.hok.fresh (yJ _))
theorem pi_tup {l:Expr}{tl:TE}(hl:PE X l tl):PI X tg l (iTup X.K tl):=by
 intro pins s σ H R I h
 refine thn (hl pins s σ H _ I h) fun v s1 ⟨x,H1,I1,r1,q1⟩=>?_
 obtain ⟨a,e,⟨xs,hq⟩,q⟩:=q1
 subst e
 cases r1
 obtain ⟨its,rv,p,hz⟩:=I1.tuple hq
 refine wpAny_pyIter_tuple (show s1.heap.IsTuple a its.toArray from p) ?_
 refine ⟨s1.heap.objs.size,[s1.heap.objs.size],_,_,H1,rfl,I1.kept (t':=s1.toks) fun b o e=>yG _ e,zkr a _,⟨_,yZ _ rfl,rfl,rfl⟩,fun b hb=>?_,q⟩
 have e:b=s1.heap.objs.size:=by simpa using hb
 subst e
 exact I1.fpOk (yJ _) (I1.hok.fresh (yJ _))
theorem znf {pins:List (Addr×Obj)}{σ :St}{H:Hp}{s:Shared}{R:It→Hp→Prop}{E:Value→Shared→Prop}{lo hi:Int}{t u v:Tok}{tk:Nat}(I:Inv X pins σ H s)(h1: -(2 ^ 62)≤lo)(h2:lo < 2 ^ 62)(h3: -(2 ^ 62)≤hi)(h4:hi < 2 ^ 62)
  (q:R (Itr lo (hi - lo).toNat) H):wpAny (model X.prog X.w) X.A (pyIter (.ref s.heap.objs.size)) (PIE X pins σ tg R) E {s with heap:=s.heap.push {cls:=.type "range",data:=.fields #[.int lo t,.int hi u,.int 1 v]},toks:=tk}:=by
 refine wpAny_pyIter_range (IsRange.new ..) (small_one h1 h2 h3 h4) ?_
 have I1:Inv X pins σ H {s with heap:=s.heap.push {cls:=.type "range",data:=.fields #[.int lo t,.int hi u,.int 1 v]},toks:=tk}:=I.kept fun b o e=>yG _ e
 refine ⟨(s.heap.push {cls:=.type "range",data:=.fields #[.int lo t,.int hi u,.int 1 v]}).objs.size,[(s.heap.push {cls:=.type "range",data:=.fields #[.int lo t,.int hi u,.int 1 v]}).objs.size],_,_,H,rfl,
  I1.kept (t':=tk) fun b o e=>yG _ e,zkx _ lo (hi - lo).toNat,?_,fun b hb=>?_,q⟩
 ·have e1:lo+((0:Nat):Int) * 1=lo:=by simp
  have e2:(((hi - lo).toNat:Nat):Int) - ((0:Nat):Int)=Builtin.Range.rangeSize lo hi 1:=by rw [rangeSize_one];split <;> omega
  show IsRangeIter _ _ (lo+((0:Nat):Int) * 1) ((((hi - lo).toNat:Nat):Int) - ((0:Nat):Int)) 1
  rw [e1,e2]
  exact yZ _ rfl
 ·have e:b=(s.heap.push {cls:=.type "range",data:=.fields #[.int lo t,.int hi u,.int 1 v]}).objs.size:=by simpa using hb
  subst e
  exact I1.fpOk (yJ _) (I1.hok.fresh (yJ _))
noncomputable def iRng1 (ta:TA):TI:=fun σ H R=>ta σ H fun vs H1=>∃ j:Int,vs= [.int j]∧-(2 ^ 62)≤j∧j < 2 ^ 62∧R (Itr 0 j.toNat) H1
theorem zls {a:Expr}{ta:TA}{p pos:Pos}(hg:Gl X "range")(hm:X.mg "range" =none)(ha:PA X [a] ta)(hs:starEach [a] X.env= [(false,eval a X.env)]:=by rfl):PI X tg (.Call (.Name "range" p) [a] [] pos) (iRng1 ta):=by
 intro pins s σ H R I h
 refine Call_ (zgN I hg hm boot_range (xL (thn (ha pos pins s σ H _ I h) fun us s1 ⟨vs,H1,I1,r1,q1⟩=>?_) hs rfl))
 obtain ⟨j,e,q1,q2,q⟩:=q1
 subst e
 cases r1 with
 | cons r rr=>
  cases rr
  obtain ⟨t,rfl⟩:=r
  exact call_range_1 (znf I1 (by omega) (by omega) q1 q2 (by simpa using q))
noncomputable def tFor (wi:TI) (g:TG) (tb:TS):TS:=fun D σ H=>wi σ H fun J H1=>∃ W:Nat→Nat→St→Hp→Prop,(∃ m,W 0 m σ H1)∧∀ i m σ H,W i m σ H→
 (J.stop i H∧D.nx σ H)∨(J.go i H∧∃ N:St→Hp→Prop,(∀ σ' H',N σ' H'→∃ m',m' < m∧W (i+1) m' σ' H')∧∀ x H',J.yld i H x H'→g x σ H' fun σ2 H2=>tb {D with nx:=N,ct:=N,bk:=D.nx} σ2 H2)
noncomputable def zfv (fp:List Addr) (h:Heap):List (Addr×Obj):=fp.filterMap fun b=>(h.get? b).map fun o=>(b,o)
theorem zbx {fp:List Addr}{h:Heap}{b:Addr}{o:Obj}(hb:b∈fp)(e:h.get? b=some o):(b,o)∈zfv fp h:=ybk.mpr ⟨b,hb,by rw [e];rfl⟩
theorem zk5 {fp:List Addr}{h:Heap}{p:Addr×Obj}(hp:p∈zfv fp h):p.1∈fp∧h.get? p.1=some p.2:=by
 obtain ⟨b,hb,e⟩:=ybk.mp hp
 cases q:h.get? b with
 | none=>rw [q] at e;cases e
 | some o=>
  rw [q] at e
  have e':(b,o)=p:=yV e
  subst e'
  exact ⟨hb,q⟩
theorem Inv.pinned {pins:List (Addr×Obj)}{σ :St}{H:Hp}{s:Shared}{fp:List Addr}(I:Inv X pins σ H s)(hf:∀ b∈fp,FpOk X pins H b)(ho:∀ b∈fp,∃ o,s.heap.get? b=some o∧∀ v,o.data≠.cell v):Inv X (pins++zfv fp s.heap) σ H s:=
 I.pins_of fun p hp=>(yS.mp hp).elim (fun z=>I.pin p (qA _ z)) fun z=>by
  obtain ⟨hb,e⟩:=zk5 z
  obtain ⟨f0,f1,f2,_⟩:=hf p.1 hb
  obtain ⟨o,e',d⟩:=ho p.1 hb
  rw [e] at e';cases e'
  exact ⟨e,f0,f1,f2,d⟩
theorem Inv.unpinned {pins pl:List (Addr×Obj)}{σ :St}{H:Hp}{s:Shared}(I:Inv X (pins++pl) σ H s):Inv X pins σ H s:=I.pins_of fun p hp=>I.pin p (qA _ (xT _ hp))
theorem ps_for {iter:Expr}{body:List Stmt}{wi:TI}{g:TG}{tb:TS}{pos:Pos}(hp:PassesOwn (model X.prog X.w) X.A X.env X.xe)(hc:X.calm=true)(hi:PI X tg iter wi)(hg:PG X tg g)(hb:PSs X body tb)
  (hs:∀ x,foldedSetIterable iter X.env x=pure x:=by intro _;rfl):PS X (.For tg iter body [] pos) (tFor wi g tb):=by
 intro pins s σ H D I h
 refine wpAny_For (thn (hi pins s σ H _ I h) fun v s1 h1=>thn h1 fun itv s2 h2=>?_) hs
 obtain ⟨it,fp,tn,J,H2,e,I2,T,st2,f2,W,⟨m0,w0⟩,turn⟩:=h2
 subst e
 have stat:∀ {H':Hp},(∀ b∈fp,H' b=none)→∀ b∈fp,FpOk X pins H' b:=fun hn b hb=>⟨hn b hb,(f2 b hb).2⟩
 refine codeAny_forLoop_any (fun n s'=>∃ i σ' H',Inv X pins σ' H' s'∧tn i s'.heap∧(∀ b∈fp,H' b=none)∧W i n σ' H') ?_ m0 ⟨0,σ,H2,I2,st2,fun b hb=>(f2 b hb).1,w0⟩
 rintro n s3 ⟨i,σ3,H3,I3,st3,fr3,w3⟩
 rcases turn i n σ3 H3 w3 with ⟨stop,qn⟩ | ⟨go,N,hN,step⟩
 ·refine wpAny_passesOwn hp (thn (T.done X rfl rfl rfl hc i pins s3 σ3 H3 X.xe I3 (stat fr3) st3 stop) fun r s4 ⟨hr,I4⟩=>?_)
  subst hr
  exact wpAny_execs_nil ⟨σ3,H3,I4,qn⟩
 ·refine wpAny_passesOwn hp (thn (T.item X rfl rfl rfl hc i pins s3 σ3 H3 X.xe I3 (stat fr3) st3 go) fun r s4 ⟨u,hr,h4⟩=>?_)
  subst hr
  refine wpAny_passesOwn hp (thn h4 fun _ s5 ⟨x,H5,I5,r5,y5,st5,fr5⟩=>?_)
  have I5':=I5.pinned (stat fr5) (T.obj _ _ st5)
  refine wpAny_passesOwn hp (thn (hg _ s5 σ3 H5 x u _ I5' r5 (step x H5 y5)) fun _ s6 ⟨σ6,H6,I6,q6⟩=>?_)
  refine wpAny_passesOwn hp (thn (hb _ s6 σ6 H6 _ I6 q6) fun f s7 q7=>?_)
  have again:∀ {σ7:St} {H7:Hp},Inv X (pins++zfv fp s5.heap) σ7 H7 s7→N σ7 H7→∃ m,m < n∧∃ i σ' H',Inv X pins σ' H' s7∧tn i s7.heap∧(∀ b∈fp,H' b=none)∧W i m σ' H':=fun {σ7 H7} I7 n7=>by
   obtain ⟨m',hm,w7⟩:=hN σ7 H7 n7
   refine ⟨m',hm,i+1,σ7,H7,I7.unpinned,T.keep _ _ _ st5 fun b hb o e=>(I7.pin (b,o) (qA _ (qA _ (zbx hb e)))).1,fun b hb=>?_,w7⟩
   obtain ⟨o,e,d⟩:=T.obj _ _ st5 b hb
   exact (I7.pin (b,o) (qA _ (qA _ (zbx hb e)))).2.1
  cases f with
  | next=>obtain ⟨σ7,H7,I7,n7⟩:=q7;exact again I7 n7
  | cont=>obtain ⟨σ7,H7,I7,n7⟩:=q7;exact again I7 n7
  | brk=>obtain ⟨σ7,H7,I7,q7⟩:=q7;exact ⟨σ7,H7,I7.unpinned,q7⟩
  | ret v=>obtain ⟨x7,σ7,H7,I7,r7,q7⟩:=q7;exact ⟨x7,σ7,H7,I7.unpinned,r7,q7⟩
end
theorem zcq {K:PySem.W.Frag}{a:Addr}{xs:List V}{g:TG}{tb:TS}{D:Ends}{σ :St}{H:Hp}(Pv:Nat→St→Hp→Prop)(h0:Pv 0 σ H)(hl:∀ i σ H,i≤xs.length→Pv i σ H→SqL K H a xs)
  (hs:∀ i x σ H,xs[i]? =some x→Pv i σ H→g x σ H fun σ2 H2=>tb {D with nx:=Pv (i+1),ct:=Pv (i+1),bk:=D.nx} σ2 H2) (hd:∀ σ H,Pv xs.length σ H→D.nx σ H):
  ∃ W:Nat→Nat→St→Hp→Prop,(∃ m,W 0 m σ H)∧∀ i m σ H,W i m σ H→
   ((Itl K a).stop i H∧D.nx σ H)∨((Itl K a).go i H∧∃ N:St→Hp→Prop,(∀ σ' H',N σ' H'→∃ m',m' < m∧W (i+1) m' σ' H')∧∀ x H',(Itl K a).yld i H x H'→g x σ H' fun σ2 H2=>tb {D with nx:=N,ct:=N,bk:=D.nx} σ2 H2):=by
 refine ⟨fun i m σ H=>m=xs.length - i∧i≤xs.length∧Pv i σ H,⟨xs.length,by simp,qZ _,h0⟩,?_⟩
 rintro i m σ H ⟨rfl,hi,p⟩
 have q:=hl i σ H hi p
 by_cases hlt:i < xs.length
 ·refine .inr ⟨⟨xs,xs[i],q,by simp [hlt]⟩,Pv (i+1),fun σ' H' p'=>⟨xs.length - (i+1),by omega,rfl,hlt,p'⟩,fun x H' y=>?_⟩
  obtain ⟨e,y⟩:=y
  subst e
  exact hs i x σ _ (y xs q) p
 ·have e:i=xs.length:=by omega
  subst e
  exact .inl ⟨⟨xs,q,yJ _⟩,hd σ H p⟩
theorem zoq {K:PySem.W.Frag}{a:Addr}{xs:List V}{g:TG}{tb:TS}{D:Ends}{σ :St}{H:Hp}(Pv:Nat→St→Hp→Prop)(h0:Pv 0 σ H)(hl:∀ i σ H,i≤xs.length→Pv i σ H→SqT K H a xs)
  (hs:∀ i x σ H,xs[i]? =some x→Pv i σ H→g x σ H fun σ2 H2=>tb {D with nx:=Pv (i+1),ct:=Pv (i+1),bk:=D.nx} σ2 H2) (hd:∀ σ H,Pv xs.length σ H→D.nx σ H):
  ∃ W:Nat→Nat→St→Hp→Prop,(∃ m,W 0 m σ H)∧∀ i m σ H,W i m σ H→
   ((Itt K a).stop i H∧D.nx σ H)∨((Itt K a).go i H∧∃ N:St→Hp→Prop,(∀ σ' H',N σ' H'→∃ m',m' < m∧W (i+1) m' σ' H')∧∀ x H',(Itt K a).yld i H x H'→g x σ H' fun σ2 H2=>tb {D with nx:=N,ct:=N,bk:=D.nx} σ2 H2):=by
 refine ⟨fun i m σ H=>m=xs.length - i∧i≤xs.length∧Pv i σ H,⟨xs.length,by simp,qZ _,h0⟩,?_⟩
 rintro i m σ H ⟨rfl,hi,p⟩
 have q:=hl i σ H hi p
 by_cases hlt:i < xs.length
 ·refine .inr ⟨⟨xs,xs[i],q,by simp [hlt]⟩,Pv (i+1),fun σ' H' p'=>⟨xs.length - (i+1),by omega,rfl,hlt,p'⟩,fun x H' y=>?_⟩
  obtain ⟨e,y⟩:=y
  subst e
  exact hs i x σ _ (y xs q) p
 ·have e:i=xs.length:=by omega
  subst e
  exact .inl ⟨⟨xs,q,yJ _⟩,hd σ H p⟩
theorem zb0 {lo:Int}{n:Nat}{g:TG}{tb:TS}{D:Ends}{σ :St}{H:Hp}(Pv:Nat→St→Hp→Prop)(h0:Pv 0 σ H)
  (hs:∀ i σ H,i < n→Pv i σ H→g (.int (lo+i)) σ H fun σ2 H2=>tb {D with nx:=Pv (i+1),ct:=Pv (i+1),bk:=D.nx} σ2 H2) (hd:∀ σ H,Pv n σ H→D.nx σ H):
  ∃ W:Nat→Nat→St→Hp→Prop,(∃ m,W 0 m σ H)∧∀ i m σ H,W i m σ H→
   ((Itr lo n).stop i H∧D.nx σ H)∨((Itr lo n).go i H∧∃ N:St→Hp→Prop,(∀ σ' H',N σ' H'→∃ m',m' < m∧W (i+1) m' σ' H')∧∀ x H',(Itr lo n).yld i H x H'→g x σ H' fun σ2 H2=>tb {D with nx:=N,ct:=N,bk:=D.nx} σ2 H2):=by
 refine ⟨fun i m σ H=>m=n - i∧i≤n∧Pv i σ H,⟨n,by simp,qZ _,h0⟩,?_⟩
 rintro i m σ H ⟨rfl,hi,p⟩
 by_cases hlt:i < n
 ·refine .inr ⟨hlt,Pv (i+1),fun σ' H' p'=>⟨n - (i+1),by omega,rfl,hlt,p'⟩,fun x H' y=>?_⟩
  obtain ⟨e,y⟩:=y
  subst e y
  exact hs i σ _ hlt p
 ·have e:i=n:=by omega
  subst e
  exact .inl ⟨yJ _,hd σ H p⟩
noncomputable abbrev R2:=V→V→Hp→VK→Prop
noncomputable def OpR (X:Cx) (f:Value→Value→Sem Value) (r:R2):Prop:=
 ∀ (pins:List (Addr×Obj)) (s:Shared) (σ :St) (H:Hp) (x y:V) (v u:Value) (Q:VK),Inv X pins σ H s→RelV x v→RelV y u→r x y H Q→
  wpAny (model X.prog X.w) X.A (f v u) (EP X pins σ Q) X.xe s
noncomputable def UnR (X:Cx) (f:Value→Sem Value) (r:V→Hp→VK→Prop):Prop:=
 ∀ (pins:List (Addr×Obj)) (s:Shared) (σ :St) (H:Hp) (x:V) (v:Value) (Q:VK),Inv X pins σ H s→RelV x v→r x H Q→
  wpAny (model X.prog X.w) X.A (f v) (EP X pins σ Q) X.xe s
noncomputable def zcZ (X:Cx) (f:Value) (r:List V→Hp→VK→Prop):Prop:=
 ∀ (pins:List (Addr×Obj)) (s:Shared) (σ :St) (H:Hp) (xs:List V) (us:List Value) (Q:VK),Inv X pins σ H s→Vals xs us→r xs H Q→
  wpAny (model X.prog X.w) X.A (call f us) (EP X pins σ Q) X.xe s
noncomputable def tOp (r:R2) (ta tb:TE):TE:=fun σ H Q=>ta σ H fun x H1=>tb σ H1 fun y H2=>r x y H2 Q
noncomputable def tUn (r:V→Hp→VK→Prop) (ta:TE):TE:=fun σ H Q=>ta σ H fun x H1=>r x H1 Q
noncomputable def rI (C:Int→Int→Prop) (g:Int→Int→V):R2:=fun x y H Q=>∃ i j,x= .int i∧y= .int j∧C i j∧Q (g i j) H
noncomputable def rI0 (g:Int→Int→V):R2:=fun x y H Q=>∃ i j,x= .int i∧y= .int j∧Q (g i j) H
noncomputable def rU (g:Int→V):V→Hp→VK→Prop:=fun x H Q=>∃ i,x= .int i∧Q (g i) H
section
variable {X:Cx} {a b c:Expr} {ta tb tc:TE} {pos:Pos}
theorem binT (ha:PE X a ta)(hb:PE X b tb){pins:List (Addr×Obj)}{s:Shared}{σ :St}{H:Hp}{R:V→V→Hp→Prop}(I:Inv X pins σ H s)
  (h:ta σ H fun x H1=>tb σ H1 fun y H2=>R x y H2) {Q:Value→Shared→Prop} {f:Value→Value→Sem Value}
  (hf:∀ v u s2 x y H2,Inv X pins σ H2 s2→RelV x v→RelV y u→R x y H2→wpAny (model X.prog X.w) X.A (f v u) Q X.xe s2):
  wpAny (model X.prog X.w) X.A (eval a X.env) (fun v s₁ =>wpAny (model X.prog X.w) X.A (eval b X.env) (fun u s₂ =>wpAny (model X.prog X.w) X.A (f v u) Q X.xe s₂) X.xe s₁) X.xe s:=by
 refine thn (ha pins s σ H _ I h) fun v s1 ⟨x,H1,I1,r1,q1⟩=>?_
 refine thn (hb pins s1 σ H1 _ I1 q1) fun u s2 ⟨y,H2,I2,r2,q2⟩=>?_
 exact hf v u s2 x y H2 I2 r1 r2 q2
theorem pe_op {op:Operator}{r:R2}(ho:OpR X (binaryOp op) r)(ha:PE X a ta)(hb:PE X b tb):PE X (.BinOp a op b pos) (tOp r ta tb):=by
 intro pins s σ H Q I h
 exact wpAny_BinOp (binT ha hb I h fun v u s2 x y H2 I2 rx ry q=>ho pins s2 σ H2 x y v u Q I2 rx ry q)
theorem pe_un {op:UnaryOp}{r:V→Hp→VK→Prop}(ho:UnR X (unaryOp op) r)(ha:PE X a ta):PE X (.UnaryOp op a pos) (tUn r ta):=by
 intro pins s σ H Q I h
 exact UnaryOp_ (thn (ha pins s σ H _ I h) fun v s1 ⟨x,H1,I1,r1,q1⟩=>ho pins s1 σ H1 x v Q I1 r1 q1)
theorem opI {f:Value→Value→Sem Value}{C:Int→Int→Prop}{g:Int→Int→Int}
  (rule:∀ (i j:Int) (t u:Tok) (s:Shared) (Q:Value→Shared→Prop) (E:Value→Shared→Prop),C i j→Q (.int (g i j) s.toks) {s with toks:=s.toks+1}→wpAny (model X.prog X.w) X.A (f (.int i t) (.int j u)) Q E s):
  OpR X f (rI C fun i j=>.int (g i j)):=by
 intro pins s σ H x y v u Q I rx ry h
 obtain ⟨i,j,rfl,rfl,hc,q⟩:=h
 obtain ⟨t,rfl⟩:=rx
 obtain ⟨t',rfl⟩:=ry
 exact rule i j t t' s _ _ hc ⟨.int (g i j),H,I.tok _,⟨_,rfl⟩,q⟩
theorem opI0 {f:Value→Value→Sem Value}{g:Int→Int→Int}
  (rule:∀ (i j:Int) (t u:Tok) (s:Shared) (Q:Value→Shared→Prop) (E:Value→Shared→Prop),Q (.int (g i j) s.toks) {s with toks:=s.toks+1}→wpAny (model X.prog X.w) X.A (f (.int i t) (.int j u)) Q E s):
  OpR X f (rI0 fun i j=>.int (g i j)):=by
 intro pins s σ H x y v u Q I rx ry h
 obtain ⟨i,j,rfl,rfl,q⟩:=h
 obtain ⟨t,rfl⟩:=rx
 obtain ⟨t',rfl⟩:=ry
 exact rule i j t t' s _ _ ⟨.int (g i j),H,I.tok _,⟨_,rfl⟩,q⟩
theorem opB0 {f:Value→Value→Sem Value}{g:Int→Int→Bool}
  (rule:∀ (i j:Int) (t u:Tok) (s:Shared) (Q:Value→Shared→Prop) (E:Value→Shared→Prop),Q (.bool (g i j)) s→wpAny (model X.prog X.w) X.A (f (.int i t) (.int j u)) Q E s):
  OpR X f (rI0 fun i j=>.bl (g i j)):=by
 intro pins s σ H x y v u Q I rx ry h
 obtain ⟨i,j,rfl,rfl,q⟩:=h
 obtain ⟨t,rfl⟩:=rx
 obtain ⟨t',rfl⟩:=ry
 exact rule i j t t' s _ _ ⟨.bl (g i j),H,I,rfl,q⟩
noncomputable def CDiv (i j:Int):Prop:=0 < j∧j < 1073741824
noncomputable def CPow (i j:Int):Prop:=0≤j∧j≤1000000∧i.natAbs < 2 ^ 64
noncomputable def CMul (i j:Int):Prop:=(-(2 ^ 64) < i∧i < 2 ^ 64)∨(-(2 ^ 64) < j∧j < 2 ^ 64)
theorem CMul.ok {i j:Int}(h:CMul i j):IntMulOk i j:=by
 rcases h with ⟨h1,h2⟩ | ⟨h1,h2⟩
 ·exact .of_left (intBits_le_64 h1 h2)
 ·exact .of_right (intBits_le_64 h1 h2)
theorem zki (k:Nat):(0:Int)≤2 ^ k:=by
 rw [two_pow_cast]
 exact vM _
theorem za9:OpR X (binaryOp .Add) (rI0 fun i j=>.int (i+j)):=opI0 fun _ _ _ _ _ _ _ q=>add_int q
theorem zgF:OpR X (binaryOp .Sub) (rI0 fun i j=>.int (i - j)):=opI0 fun _ _ _ _ _ _ _ q=>sub_int q
theorem zjw:OpR X (binaryOp .Mult) (rI CMul fun i j=>.int (i * j)):=opI fun _ _ _ _ _ _ _ hc q=>mul_int q hc.ok
theorem zkY:OpR X (binaryOp .FloorDiv) (rI CDiv fun i j=>.int (i / j)):=opI fun i j _ _ _ _ _ hc q=>by
 have h1:(0:Int) < j:=hc.1
 have h2:j < 1073741824:=hc.2
 exact floordiv_int (by omega) (by rw [yak i (by omega)];exact q) (.inl (PyProof.noPylong_small (by omega)))
theorem zjm:OpR X (binaryOp .Mod) (rI (fun _ j=>0 < j) fun i j=>.int (i % j)):=opI fun i j _ _ _ _ _ hc q=>by
 have h1:(0:Int) < j:=hc
 exact mod_int' (by omega) (by rw [Int.fmod_eq_emod_of_nonneg i (by omega)];exact q)
theorem zev:OpR X (binaryOp .Pow) (rI CPow fun i j=>.int (i ^ j.toNat)):=opI fun _ _ _ _ _ _ _ hc q=>pow_int_small hc.1 hc.2.1 hc.2.2 q
theorem op_shl:OpR X (binaryOp .LShift) (rI CPow fun i j=>.int (i * 2 ^ j.toNat)):=opI fun _ _ _ _ _ _ _ hc q=>lshift_int_small hc.1 hc.2.1 hc.2.2 q
theorem znT:OpR X (binaryOp .RShift) (rI (fun _ j=>0≤j) fun i j=>.int (i / 2 ^ j.toNat)):=opI fun i j _ _ _ _ _ hc q=>
 rshift_int hc (by rw [yak i (zki _)];exact q)
theorem zhS:OpR X (binaryOp .BitAnd) (rI0 fun i j=>.int (qO i j)):=opI0 fun _ _ _ _ _ _ _ q=>and_int q
theorem zo9:OpR X (binaryOp .BitOr) (rI0 fun i j=>.int (qS i j)):=opI0 fun _ _ _ _ _ _ _ q=>or_int q
theorem zjd:OpR X (binaryOp .BitXor) (rI0 fun i j=>.int (qP i j)):=opI0 fun _ _ _ _ _ _ _ q=>xor_int q
theorem unI {f:Value→Sem Value}{g:Int→Int}
  (rule:∀ (i:Int) (t:Tok) (s:Shared) (Q:Value→Shared→Prop) (E:Value→Shared→Prop),Q (.int (g i) s.toks) {s with toks:=s.toks+1}→wpAny (model X.prog X.w) X.A (f (.int i t)) Q E s):
  UnR X f (rU fun i=>.int (g i)):=by
 intro pins s σ H x v Q I rx h
 obtain ⟨i,rfl,q⟩:=h
 obtain ⟨t,rfl⟩:=rx
 exact rule i t s _ _ ⟨.int (g i),H,I.tok _,⟨_,rfl⟩,q⟩
theorem zda:UnR X (unaryOp .USub) (rU fun i=>.int (-i)):=unI fun _ _ _ _ _ q=>neg_int q
end
noncomputable def scal:V→V→Bool
 | .non,.non=>true | .non,.int _=>true | .int _,.non=>true | .non,.bl _=>true | .bl _,.non=>true | .non,.str _=>true | .str _,.non=>true
 | .int _,.int _=>true | .bl _,.bl _=>true | .str _,.str _=>true | .byt _,.byt _=>true
 | .int _,.str _=>true | .str _,.int _=>true | .bl _,.str _=>true | .str _,.bl _=>true
 | _,_=>false
noncomputable def rEq:R2:=fun x y H Q=>scal x y=true∧Q (.bl (decide (x=y))) H
noncomputable def rNe:R2:=fun x y H Q=>scal x y=true∧Q (.bl (!decide (x=y))) H
theorem zk6 {i j:Int}:decide (V.int i=V.int j)=(i==j):=by
 rw [vR]
 simp
theorem znL {i j:Bool}:decide (V.bl i=V.bl j)=(i==j):=by
 rw [vR]
 simp
theorem zl3 {i j:Str}:decide (V.str i=V.str j)=(i==j):=by
 rw [vR]
 simp
theorem zkW {i j:Array UInt8}:decide (V.byt i=V.byt j)=(i.toList==j.toList):=by
 rw [vR]
 cases i
 cases j
 simp
section
variable {X:Cx} {a b c:Expr} {ta tb tc:TE} {pos:Pos}
theorem zaR {pins:List (Addr×Obj)}{σ :St}{H:Hp}{s:Shared}{Q:VK}{k k':Bool}(I:Inv X pins σ H s)(q:Q (.bl k) H)(e:k=k'):EP X pins σ Q (.bool k') s:=by
 subst e
 exact ⟨.bl k,H,I,rfl,q⟩
theorem zbp:OpR X (compareOp .Eq) rEq:=by
 intro pins s σ H x y v u Q I rx ry h
 obtain ⟨hs,q⟩:=h
 cases x with
 | non=>
  cases rx
  cases y with
  | non=>cases ry;exact PySem.EqNone.eq_none_none (zaR I q (by simp))
  | bl j=>cases ry;exact PySem.EqNone.eq_none_bool (zaR I q (by simp))
  | int j=>obtain ⟨t',rfl⟩:=ry;exact PySem.EqNone.eq_none_int (zaR I q (by simp))
  | str j=>obtain ⟨t',rfl⟩:=ry;exact PySem.EqNone.eq_none_str (zaR I q (by simp))
  | _=>exact absurd (show false=true from hs) qG
 | bl i=>
  cases rx
  cases y with
  | non=>cases ry;exact PySem.EqNone.eq_bool_none (zaR I q (by simp))
  | bl j=>cases ry;exact eq_bool (zaR I q znL)
  | str j=>obtain ⟨t',rfl⟩:=ry;exact PySem.EqMixed.eq_bool_str (zaR I q (by simp))
  | _=>exact absurd (show false=true from hs) qG
 | int i=>
  obtain ⟨t,rfl⟩:=rx
  cases y with
  | non=>cases ry;exact PySem.EqNone.eq_int_none (zaR I q (by simp))
  | int j=>obtain ⟨t',rfl⟩:=ry;exact eq_int (zaR I q zk6)
  | str j=>obtain ⟨t',rfl⟩:=ry;exact PySem.EqMixed.eq_int_str (zaR I q (by simp))
  | _=>exact absurd (show false=true from hs) qG
 | str i=>
  obtain ⟨t,rfl⟩:=rx
  cases y with
  | non=>cases ry;exact PySem.EqNone.eq_str_none (zaR I q (by simp))
  | bl j=>cases ry;exact PySem.EqMixed.eq_str_bool (zaR I q (by simp))
  | int j=>obtain ⟨t',rfl⟩:=ry;exact PySem.EqMixed.eq_str_int (zaR I q (by simp))
  | str j=>obtain ⟨t',rfl⟩:=ry;exact eq_str (zaR I q zl3)
  | _=>exact absurd (show false=true from hs) qG
 | byt i=>
  obtain ⟨t,rfl⟩:=rx
  cases y with
  | byt j=>obtain ⟨t',rfl⟩:=ry;exact PySem.W.eq_bytes (zaR I q zkW)
  | _=>exact absurd (show false=true from hs) qG
 | _=>cases y <;> exact absurd (show false=true from hs) qG
theorem zhl:OpR X (compareOp .NotEq) rNe:=by
 intro pins s σ H x y v u Q I rx ry h
 obtain ⟨hs,q⟩:=h
 cases x with
 | non=>
  cases rx
  cases y with
  | non=>cases ry;exact PySem.EqNone.ne_none_none (zaR I q (by simp))
  | bl j=>cases ry;exact PySem.EqNone.ne_none_bool (zaR I q (by simp))
  | int j=>obtain ⟨t',rfl⟩:=ry;exact PySem.EqNone.ne_none_int (zaR I q (by simp))
  | str j=>obtain ⟨t',rfl⟩:=ry;exact PySem.EqNone.ne_none_str (zaR I q (by simp))
  | _=>exact absurd (show false=true from hs) qG
 | bl i=>
  cases rx
  cases y with
  | non=>cases ry;exact PySem.EqNone.ne_bool_none (zaR I q (by simp))
  | bl j=>cases ry;exact ne_bool (zaR I q (congrArg not znL))
  | str j=>obtain ⟨t',rfl⟩:=ry;exact PySem.EqMixed.ne_bool_str (zaR I q (by simp))
  | _=>exact absurd (show false=true from hs) qG
 | int i=>
  obtain ⟨t,rfl⟩:=rx
  cases y with
  | non=>cases ry;exact PySem.EqNone.ne_int_none (zaR I q (by simp))
  | int j=>obtain ⟨t',rfl⟩:=ry;exact ne_int (zaR I q (congrArg not zk6))
  | str j=>obtain ⟨t',rfl⟩:=ry;exact PySem.EqMixed.ne_int_str (zaR I q (by simp))
  | _=>exact absurd (show false=true from hs) qG
 | str i=>
  obtain ⟨t,rfl⟩:=rx
  cases y with
  | non=>cases ry;exact PySem.EqNone.ne_str_none (zaR I q (by simp))
  | bl j=>cases ry;exact PySem.EqMixed.ne_str_bool (zaR I q (by simp))
  | int j=>obtain ⟨t',rfl⟩:=ry;exact PySem.EqMixed.ne_str_int (zaR I q (by simp))
  | str j=>obtain ⟨t',rfl⟩:=ry;exact ne_str (zaR I q (congrArg not zl3))
  | _=>exact absurd (show false=true from hs) qG
 | byt i=>
  obtain ⟨t,rfl⟩:=rx
  cases y with
  | byt j=>obtain ⟨t',rfl⟩:=ry;exact PySem.W.ne_bytes (zaR I q (congrArg not zkW))
  | _=>exact absurd (show false=true from hs) qG
 | _=>cases y <;> exact absurd (show false=true from hs) qG
theorem zkC:OpR X (compareOp .Lt) (rI0 fun i j=>.bl (decide (i < j))):=opB0 fun _ _ _ _ _ _ _ q=>lt_int q
theorem op_le:OpR X (compareOp .LtE) (rI0 fun i j=>.bl (decide (i≤j))):=opB0 fun _ _ _ _ _ _ _ q=>le_int q
theorem zoi:OpR X (compareOp .Gt) (rI0 fun i j=>.bl (decide (j < i))):=opB0 fun _ _ _ _ _ _ _ q=>gt_int q
theorem op_ge:OpR X (compareOp .GtE) (rI0 fun i j=>.bl (decide (j≤i))):=opB0 fun _ _ _ _ _ _ _ q=>ge_int q
theorem zlX:OpR X (compareOp .In) (fun x y H Q=>∃ i j,x= .str i∧y= .str j∧Q (.bl (!(qR j i 0 j.length 1).isEmpty)) H):=by
 intro pins s σ H x y v u Q I rx ry h
 obtain ⟨i,j,rfl,rfl,q⟩:=h
 obtain ⟨t,rfl⟩:=rx
 obtain ⟨t',rfl⟩:=ry
 exact in_str (zaR I q rfl)
theorem zia:OpR X (compareOp .NotIn) (fun x y H Q=>∃ i j,x= .str i∧y= .str j∧Q (.bl (!(!(qR j i 0 j.length 1).isEmpty))) H):=by
 intro pins s σ H x y v u Q I rx ry h
 obtain ⟨i,j,rfl,rfl,q⟩:=h
 obtain ⟨t,rfl⟩:=rx
 obtain ⟨t',rfl⟩:=ry
 exact notIn_str (zaR I q rfl)
theorem zay (b:Expr){op:CmpOp}(h:op≠.In:=by decide)(h2:op≠.NotIn:=by decide):behindInMarks op b=false:=by
 have e1:(op==CmpOp.In)=false:=by cases op <;> first | rfl | exact absurd rfl h
 have e2:(op==CmpOp.NotIn)=false:=by cases op <;> first | rfl | exact absurd rfl h2
 cases b <;> simp [behindInMarks,e1,e2]
theorem zoy {op:CmpOp}{r:R2}(ho:OpR X (compareOp op) r)(ha:PE X a ta)(hb:PE X b tb)(hm:behindInMarks op b=false):PE X (.Compare a [op] [b] pos) (tOp r ta tb):=by
 intro pins s σ H Q I h
 exact wpAny_Compare1 (binT ha hb I h fun v u s2 x y H2 I2 rx ry q=>ho pins s2 σ H2 x y v u Q I2 rx ry q) hm
noncomputable def tTest (t:TE):TT:=fun σ H Q=>t σ H fun x H'=>∃ k,x= .bl k∧Q k H'
theorem zol {op:CmpOp}{r:R2}(ho:OpR X (compareOp op) r)(ha:PE X a ta)(hb:PE X b tb)(hm:behindInMarks op b=false):PT X (.Compare a [op] [b] pos) (tTest (tOp r ta tb)):=by
 intro pins s σ H Q I h
 refine wpAny_isTrue_Compare1 (thn (ha pins s σ H _ I h) fun v s1 ⟨x,H1,I1,r1,q1⟩=>thn (hb pins s1 σ H1 _ I1 q1) fun u s2 ⟨y,H2,I2,r2,q2⟩=>
  thn (ho pins s2 σ H2 x y v u _ I2 r1 r2 q2) fun c s3 ⟨z,H3,I3,r3,k,e,q3⟩=>?_) hm
 subst e
 cases r3
 exact wpAny_truthy_bool ⟨H3,I3,q3⟩
noncomputable def znv (r r':R2) (ta tb tc:TE):TE:=fun σ H Q=>ta σ H fun x H1=>tb σ H1 fun y H2=>r x y H2 fun z H3=>∃ k,z= .bl k∧
 (if k=true then tc σ H3 fun w' H4=>r' y w' H4 Q else Q (.bl false) H3)
theorem zni {op op':CmpOp}{r r':R2}(ho:OpR X (compareOp op) r)(ho':OpR X (compareOp op') r')(ha:PE X a ta)(hb:PE X b tb)(hc:PE X c tc)
  (hm:lastMarks [op,op'] [b,c]=false:=by with_unfolding_all rfl):PE X (.Compare a [op,op'] [b,c] pos) (znv r r' ta tb tc):=by
 intro pins s σ H Q I h
 refine Compare_chain (thn (ha pins s σ H _ I h) fun v s1 ⟨x,H1,I1,r1,q1⟩=>chain_link (thn (hb pins s1 σ H1 _ I1 q1) fun u s2 ⟨y,H2,I2,r2,q2⟩=>
  thn (ho pins s2 σ H2 x y v u _ I2 r1 r2 q2) fun d s3 ⟨z,H3,I3,r3,k,e,q3⟩=>?_)) hm
 subst e
 cases r3
 refine wpAny_truthy_bool ?_
 cases k with
 | false=>exact ite_ff ⟨.bl false,H3,I3,rfl,q3⟩
 | true=>exact ite_tt (chain_last (thn (hc pins s3 σ H3 _ I3 q3) fun w' s4 ⟨z',H4,I4,r4,q4⟩=>ho' pins s4 σ H4 y z' u w' Q I4 r2 r4 q4))
theorem zhZ:(yH:Nat) < 2 ^ 63:=by rw [sizeLine_eq];decide
theorem zbg:OpR X (binaryOp .Add) (fun x y H Q=>∃ i j,x= .str i∧y= .str j∧i.length+j.length≤yH∧Q (.str (i++j)) H):=by
 intro pins s σ H x y v u Q I rx ry h
 obtain ⟨i,j,rfl,rfl,hz,q⟩:=h
 obtain ⟨t,rfl⟩:=rx
 obtain ⟨t',rfl⟩:=ry
 exact add_str (fun t' tk=>⟨.str (i++j),H,I.tok _,⟨_,rfl⟩,q⟩) hz
theorem zhb {x:V}{us:List Value}(r:Vals [x] us):∃ u,us= [u]∧RelV x u:=by
 cases r with
 | cons r1 r2=>cases r2;exact ⟨_,rfl,r1⟩
theorem zmq {x y:V}{us:List Value}(r:Vals [x,y] us):∃ u w',us= [u,w']∧RelV x u∧RelV y w':=by
 cases r with
 | cons r1 r2=>
  cases r2 with
  | cons r3 r4=>cases r4;exact ⟨_,_,rfl,r1,r3⟩
theorem zk4 (hc:X.calm=true):zcZ X (.builtin "min") (fun xs H Q=>∃ i j,xs= [.int i,.int j]∧Q (.int (if j < i then j else i)) H):=by
 intro pins s σ H xs us Q I r h
 obtain ⟨i,j,rfl,q⟩:=h
 obtain ⟨u,w',rfl,⟨t,rfl⟩,⟨t',rfl⟩⟩:=zmq r
 refine min_two_ints (I.ok.hd hc) fun h' tk k=>⟨_,H,I.kept k,?_,q⟩
 by_cases hj:j < i
 ·rw [if_pos hj,if_pos hj];exact ⟨_,rfl⟩
 ·rw [if_neg hj,if_neg hj];exact ⟨_,rfl⟩
theorem zcI:zcZ X (.type "int") (fun xs H Q=>(∃ i,xs= [.int i]∧Q (.int i) H)∨∃ k,xs= [.bl k]∧Q (.int (if k then 1 else 0)) H):=by
 intro pins s σ H xs us Q I r h
 rcases h with ⟨i,rfl,q⟩ | ⟨k,rfl,q⟩
 ·obtain ⟨u,rfl,t,rfl⟩:=zhb r
  exact call_int_int ⟨.int i,H,I,⟨_,rfl⟩,q⟩
 ·obtain ⟨u,rfl,r1⟩:=zhb r
  cases r1
  exact call_int_bool ⟨.int (if k then 1 else 0),H,I.tok _,⟨_,rfl⟩,q⟩
theorem za6:zcZ X (.type "str") (fun xs H Q=>∃ i,xs= [.int i]∧i.natAbs.log2 < 1920∧Q (.str (toString i)) H):=by
 intro pins s σ H xs us Q I r h
 obtain ⟨i,rfl,hz,q⟩:=h
 obtain ⟨u,rfl,t,rfl⟩:=zhb r
 exact PySem.P.str_of_int hz ⟨.str _,H,I.tok _,⟨_,rfl⟩,q⟩
end
structure ObjM (h:Heap) (x dx C:Addr) (mA:Str→Option Value):Prop where
 obj:h.get? x=some (PySem.W.instObj C dx)
 ns:h.Ns1 dx mA
 ne:dx≠x
theorem zma {h:Heap}{dx:Addr}{mA:Str→Option Value}(n:h.Ns1 dx mA):∃ od,h.get? dx=some od∧∀ name,PySem.W.lookIn name od=some (mA name):=by
 obtain ⟨o,es,ep,ho,hd,hk,_,hm⟩:=n
 refine ⟨o,ho,fun name=>?_⟩
 have e:=hm name
 unfold nsFind findBy at e
 rw [← Array.find?_toList] at e
 unfold PySem.W.lookIn
 rw [hd]
 dsimp only
 split
 ·rename_i y q
  rw [q] at e
  exact congrArg some e
 ·rename_i q
  rw [q] at e
  have a:es.toList.any (·.refKey)=false:=by
   rw [List.any_eq_false]
   intro y hy
   obtain ⟨z,t,hkey⟩:=hk y (Array.mem_toList_iff.mp hy)
   simp [DictEntry.refKey,hkey]
  have a':¬es.toList.any (·.refKey)=true:=by rw [a];exact qG
  rw [if_neg a']
  exact congrArg some e
theorem ObjM.look {h:Heap}{x dx C:Addr}{mA:Str→Option Value}(I:ObjM h x dx C mA):∃ od,PySem.W.InstAt h x (PySem.W.instObj C dx) C (some od)∧∀ name,PySem.W.lookIn name od=some (mA name):=
 let ⟨od,ho,hl⟩:=zma I.ns
 ⟨od,⟨I.obj,rfl,rfl,ho⟩,hl⟩
section
variable {prog:Program} {w:World} {A:Around} {E:Value→Shared→Prop} {s:Shared} {K:PySem.W.Frag} {x dx C f:Addr} {mA:Str→Option Value} {name:Str} {v:Value}
theorem znZ {expr:Bool}{Q:Value→Shared→Prop}(X:K.In s.heap)(I:ObjM s.heap x dx C mA)(hg:PySem.W.plainGet K C name=true)(hh:PySem.W.hasDictIn K C=true)
  (ha:PySem.W.findIn K (.ref C) name=some none) (hv:mA name=some v) (hv':PySem.W.handedIn v=true) (h:Q v {s with toks:=s.toks+1}):
  wpAny (model prog w) A (getAttr (.ref x) name expr) Q E s:=by
 obtain ⟨od,J,hl⟩:=I.look
 exact PySem.W.get_value X J (PySem.W.plainGet_of hg).1 (PySem.W.findObj_own hh ha rfl (by rw [hl,hv])) hv' h
theorem zmI {pl:Sem Bool}{Q:Value×List Value→Shared→Prop}(X:K.In s.heap)(I:ObjM s.heap x dx C mA)(hg:PySem.W.plainGet K C name=true)
  (hf:PySem.W.findIn K (.ref C) name=some (some (.ref f))) (ht:PySem.W.isFn K (.ref f)=true) (hv:mA name=none) (h:Q (.ref f,[.ref x]) s):
  wpAny (model prog w) A (getMethod (.ref x) name pl) Q E s:=by
 obtain ⟨od,J,hl⟩:=I.look
 exact PySem.W.method_fn X J (PySem.W.plainGet_of hg).1 (PySem.W.plainGet_of hg).2 hf (beq_iff_eq.mp ht) (by show (PySem.W.lookIn name od).map (·.isSome)=some false;rw [hl,hv];rfl) h
theorem zoP {ns:List Str}{Q:Unit→Shared→Prop}(X:K.In s.heap)(I:ObjM s.heap x dx C mA)
  (hs:PySem.W.findIn K (.ref C) "__setattr__" =some (some (.builtin "object.__setattr__"))) (hp:PySem.W.plainOver K C=true) (ht:PySem.W.takerIn K C name=some none) (hh:PySem.W.hasDictIn K C=true)
  (hw:yaP mA ns) (hsz:ns.length≤yH)
  (h:∀ h',ObjM h' x dx C (fun y=>if y=name then some v else mA y)→jL dx s.heap h'→Q () {s with heap:=h',toks:=s.toks+2}):
  wpAny (model prog w) A (setAttr (.ref x) name v) Q E s:=by
 obtain ⟨od,J,hl⟩:=I.look
 refine PySem.W.set_plain X J hs (PySem.W.osa_open (s:={s with toks:=s.toks+1}) (r:=none) X J hp ht fun b=>?_)
 obtain ⟨cd,hc,hd'⟩:=PySem.W.any_some hh
 have hx:s.heap.get? x=some ⟨.ref C,some dx,.plain,#[]⟩:=I.obj
 refine yD (yP (yD (yD (wpAny_loadPart hx (yD (PySem.W.Looks.here (s:={s with toks:=s.toks+1}) (PySem.W.looks_clsIn X hc) ?_))))))
 rw [hd']
 refine yP (a:=some dx) (yD (yP (yD ?_)))
 refine wpAny_nsSet1 (s:={s with toks:=s.toks+1}) I.ns fun h' hn2 hs2=>?_
 obtain ⟨oD,esD,epD,hoD,hdD,hcD⟩:=hn2.count (yaP.cons name v hw)
 refine yD (wpAny_lookBehind hoD (by rw [hdD];exact pastItsLine_dict (jA hcD (by rw [yO];omega))) ?_)
 exact yP (h _ ⟨(hs2.2 _ (qX I.ne)).trans I.obj,hn2,I.ne⟩ hs2)
theorem znn {R:Result→Shared→Prop}{vs:List Value}{kw:List (Str×Value)}(X:K.In s.heap)(hm:PySem.W.makesIn K C=true)
  (hi:PySem.W.findIn K (.ref C) "__init__" =some (some (.ref f))) (hf:PySem.W.typeIn K (.ref f)=some (.type "function"))
  (h:codeAny (model prog w) (A.under (.builtin "type.__call__" ⟨.ref C::vs,kw⟩)) (.call (.ref f) ⟨.ref (s.heap.objs.size+1)::vs,kw⟩) (PySem.W.InitBack (s.heap.objs.size+1) R)
   {s with heap:=(s.heap.push PySem.W.emptyDict).push (PySem.W.instObj C s.heap.objs.size)}):
  codeAny (model prog w) A (.call (.ref C) ⟨vs,kw⟩) R s:=by
 obtain ⟨hh,g,d,t,os⟩:=s
 exact PySem.W.make_core (PySem.W.makes_of X hm) (PySem.W.looks_findIn X hi) (fun self=>PySem.W.bind_fn X self hf) (.inl rfl) h
end
noncomputable def putF (f:Str) (v:V):List (Str×V)→List (Str×V)
 | []=>[(f,v)]
 | (g,x)::r=>if g=f then (g,v)::r else (g,x)::putF f v r
theorem zfz (f g:Str)(v:V):∀ fs:List (Str×V),(putF f v fs).lookup g=if g=f then some v else fs.lookup g
 | []=>by
  show wO g [(f,v)]=_
  by_cases h:g=f
  ·have hb:(g==f)=true:=beq_iff_eq.mpr h
   simp only [wO,hb,if_pos h]
  ·have hb:(g==f)=false:=beq_eq_false_iff_ne.mpr h
   simp only [wO,hb,if_neg h]
 | (k,x)::r=>by
  have ih:=zfz f g v r
  rw [show putF f v ((k,x)::r)=(if k=f then (k,v)::r else (k,x)::putF f v r) from rfl]
  by_cases hk:k=f
  ·rw [if_pos hk]
   by_cases h:g=k
   ·have hb:(g==k)=true:=beq_iff_eq.mpr h
    simp only [wO,hb,if_pos (h.trans hk)]
   ·have hb:(g==k)=false:=beq_eq_false_iff_ne.mpr h
    simp only [wO,hb,if_neg (fun e:g=f=>h (e.trans hk.symm))]
  ·rw [if_neg hk]
   by_cases h:g=k
   ·have hb:(g==k)=true:=beq_iff_eq.mpr h
    simp only [wO,hb,if_neg (fun e:g=f=>hk (h.symm.trans e))]
   ·have hb:(g==k)=false:=beq_eq_false_iff_ne.mpr h
    simp only [wO,hb]
    exact ih
theorem zfp (f:Str)(v:V):∀ fs:List (Str×V),f∈(putF f v fs).map (·.1)∧∀ g,g∈fs.map (·.1)→g∈(putF f v fs).map (·.1)
 | []=>⟨by simp [putF],fun g h=>by simp at h⟩
 | (k,x)::r=>by
  obtain ⟨i1,i2⟩:=zfp f v r
  rw [show putF f v ((k,x)::r)=(if k=f then (k,v)::r else (k,x)::putF f v r) from rfl]
  by_cases hk:k=f
  ·rw [if_pos hk]
   subst hk
   exact ⟨by simp,fun g h=>by simpa using h⟩
  ·rw [if_neg hk]
   refine ⟨?_,fun g h=>?_⟩
   ·rw [qJ]
    exact xJ _ i1
   ·rw [qJ] at h ⊢
    rcases yN.mp h with e | e
    ·exact yN.mpr (.inl e)
    ·exact xJ _ (i2 g e)
theorem zfD (f:Str)(v:V):∀ fs:List (Str×V),(putF f v fs).length≤fs.length+1
 | []=>by simp [putF]
 | (k,x)::r=>by
  have ih:=zfD f v r
  rw [show putF f v ((k,x)::r)=(if k=f then (k,v)::r else (k,x)::putF f v r) from rfl]
  by_cases hk:k=f
  ·rw [if_pos hk,yO,yO];omega
  ·rw [if_neg hk,yO,yO];omega
theorem RelO.some_of {v:V}{o:Option Value}(r:RelO (some v) o):∃ u,o=some u∧RelV v u:=by
 cases o with
 | none=>exact (show False from r).elim
 | some u=>exact ⟨u,rfl,r⟩
theorem RelO.none_of {o:Option Value}(r:RelO none o):o=none:=by
 cases o with
 | none=>rfl
 | some u=>exact (show False from r).elim
theorem zk2 {v:V}{u:Value}(r:RelV v u):PySem.W.handedIn u=true:=by
 cases v with
 | non=>cases (show u=Value.none from r);rfl
 | bl b=>cases (show u=Value.bool b from r);rfl
 | int i=>obtain ⟨t,e⟩:=(show ∃ t,u=Value.int i t from r);cases e;rfl
 | str x=>obtain ⟨t,e⟩:=(show ∃ t,u=Value.str x t from r);cases e;rfl
 | byt b=>obtain ⟨t,e⟩:=(show ∃ t,u=Value.bytes b t from r);cases e;rfl
 | flt b=>obtain ⟨t,e⟩:=(show ∃ t,u=Value.float b t from r);cases e;rfl
 | ref a=>cases (show u=Value.ref a from r);rfl
 | ty n=>cases (show u=Value.type n from r);rfl
section
variable {P:Program} {w:World} {H H':Hp} {h h':Heap} {a C dx:Addr} {fs fs':List (Str×V)}
theorem zgX (hok:HOk P w H h)(e:H a=some (.ins C dx fs)):∃ mA,ObjM h a dx C mA∧(∀ f,RelO (fs.lookup f) (mA f))∧yaP mA (fs.map (·.1))∧fs.length≤1000∧H dx=some (.own a):=by
 obtain ⟨d,z,ne,ob,mA,n,r,q⟩:=(show zba P w H h a (.ins C dx fs) from hok a _ e)
 exact ⟨mA,⟨ob,n,ne⟩,r,q,z,d⟩
end
structure Cls (K:PySem.W.Frag) (C:Addr):Prop where
 pg:PySem.W.plainGet K C yat=true
 hd:PySem.W.hasDictIn K C=true
 po:PySem.W.plainOver K C=true
 sa:PySem.W.findIn K (.ref C) "__setattr__" =some (some (.builtin "object.__setattr__"))
theorem Cls.get {K:PySem.W.Frag}{C:Addr}(c:Cls K C)(f:Str):PySem.W.plainGet K C f=true:=c.pg
noncomputable def zeZ (K:PySem.W.Frag) (C:Addr) (f:Str):Prop:=PySem.W.findIn K (.ref C) f=some none
theorem zeZ.taker {K:PySem.W.Frag}{C:Addr}{f:Str}(n:zeZ K C f):PySem.W.takerIn K C f=some none:=by
 unfold PySem.W.takerIn
 rw [show PySem.W.findIn K (.ref C) f=some none from n]
 rfl
structure Meth (K:PySem.W.Frag) (C:Addr) (m:Str) (f:Addr):Prop where
 at_:PySem.W.findIn K (.ref C) m=some (some (.ref f))
 fn:PySem.W.isFn K (.ref f)=true
 kp:PySem.W.keepIn K (.ref f)=true
section
variable {X:Cx} {pins:List (Addr×Obj)} {σ :St} {H:Hp} {s:Shared} {a C dx:Addr} {fs:List (Str×V)} {f:Str} {v:V} {A:Around} {E:Value→Shared→Prop}
theorem zj9 {b:Bool}{Q:Value→Shared→Prop}(I:Inv X pins σ H s)(e:H a=some (.ins C dx fs))(c:Cls X.K C)(n:zeZ X.K C f)(l:fs.lookup f=some v)
  (h:∀ u s',Inv X pins σ H s'→RelV v u→Q u s'):wpAny (model X.prog X.w) A (getAttr (.ref a) f b) Q E s:=by
 obtain ⟨mA,O,r,_,_,_⟩:=zgX I.hok e
 obtain ⟨u,hu,ru⟩:=RelO.some_of (v:=v) (o:=mA f) (by rw [← l];exact r f)
 exact znZ I.kIn O (c.get f) c.hd n hu (zk2 ru) (h u _ (I.tok _) ru)
theorem zgp {m:Str}{g:Addr}{pl:Sem Bool}{Q:Value×List Value→Shared→Prop}(I:Inv X pins σ H s)(e:H a=some (.ins C dx fs))(c:Cls X.K C)(k:Meth X.K C m g)(l:fs.lookup m=none)
  (h:Q (.ref g,[.ref a]) s):wpAny (model X.prog X.w) A (getMethod (.ref a) m pl) Q E s:=by
 obtain ⟨mA,O,r,_,_,_⟩:=zgX I.hok e
 have hn:mA m=none:=RelO.none_of (by rw [← l];exact r m)
 exact zmI I.kIn O (c.get m) k.at_ k.fn hn h
theorem zj6 {y:V}{u:Value}{Q:Unit→Shared→Prop}(I:Inv X pins σ H s)(e:H a=some (.ins C dx fs))(c:Cls X.K C)(n:zeZ X.K C f)(hl:fs.length < 1000)(ry:RelV y u)
  (h:∀ s',Inv X pins σ (upd H a (.ins C dx (putF f y fs))) s'→Q () s'):wpAny (model X.prog X.w) A (setAttr (.ref a) f u) Q E s:=by
 obtain ⟨mA,O,r,wi,_,ho⟩:=zgX I.hok e
 have hz:(fs.map (·.1)).length≤yH:=by rw [yA,sizeLine_eq];omega
 refine zoP I.kIn O c.sa c.po n.taker c.hd wi hz fun h' O' sb=>h _ ?_
 have hd:∃ o,h'.get? dx=some o:=let ⟨o,_,_,e',_⟩:=O'.ns;⟨o,e'⟩
 refine I.write (x:=a) (e:=dx) (by rw [e];exact True.intro) (.inr ho) (fun b q hb z=>(sb.2 b hb).trans z) hd ?_
 refine ⟨by rw [zah O.ne];exact ho,?_,O.ne,O'.obj,_,O'.ns,fun g=>?_,fun g hg=>?_⟩
 ·have:=zfD f y fs;omega
 ·show RelO ((putF f y fs).lookup g) (if g=f then some u else mA g)
  rw [zfz]
  by_cases q:g=f
  ·rw [if_pos q,if_pos q];exact ry
  ·rw [if_neg q,if_neg q];exact r g
 ·by_cases q:g=f
  ·rw [q];exact (zfp f y fs).1
  ·refine (zfp f y fs).2 g (wi g fun z=>hg ?_)
   show (if g=f then some u else mA g)=none
   rw [if_neg q];exact z
theorem Inv.made (I:Inv X pins σ H s):Inv X pins σ (upd (upd H s.heap.objs.size (.own (s.heap.objs.size+1))) (s.heap.objs.size+1) (.ins C s.heap.objs.size []))
  {s with heap:=(s.heap.push PySem.W.emptyDict).push (PySem.W.instObj C s.heap.objs.size)}:=by
 have e1:(s.heap.push PySem.W.emptyDict).get? s.heap.objs.size=some PySem.W.emptyDict:=yZ s.heap rfl
 have e2:((s.heap.push PySem.W.emptyDict).push (PySem.W.instObj C s.heap.objs.size)).get? (s.heap.objs.size+1)=some (PySem.W.instObj C s.heap.objs.size):=by
  have:=yZ (s.heap.push PySem.W.emptyDict) (o:=PySem.W.instObj C s.heap.objs.size) rfl
  rwa [Heap.size_push] at this
 have e3:(s.heap.push PySem.W.emptyDict).Ns s.heap.objs.size (fun _=>none):=⟨PySem.W.emptyDict,#[],_,e1,rfl,(fun e he=>absurd he (by simp)),fun _=>rfl⟩
 have I1:=I.laid (a:=s.heap.objs.size) (o:=.own (s.heap.objs.size+1)) (h':=s.heap.push PySem.W.emptyDict) (t':=s.toks) (fun b u q=>yG _ q) (yJ _) ⟨_,e1⟩
 refine I1.laid (a:=s.heap.objs.size+1) (o:=.ins C s.heap.objs.size []) (t':=s.toks) (fun b u q=>yG _ q) (ybE (Heap.size_push _ _)) ?_
 have ne:s.heap.objs.size≠s.heap.objs.size+1:=qL (ybG _)
 refine ⟨by rw [zah ne,zab],qZ _,ne,e2,fun _=>none,(Heap.Ns1.of_empty e3).at fun o q=>yG _ q,fun _=>True.intro,fun y hy=>absurd rfl hy⟩
theorem zo5 {prog:Program}{w:World}{env:Env}{e:Expr}{f:Str}{pos:Pos}{s:Shared}{Q:Value→Shared→Prop}(hb:attributeBase e f env (eval e env)=eval e env)
  (h:wpAny (model prog w) A (eval e env) (fun o s₁ =>wpAny (model prog w) A (getAttr o f true) Q E s₁) E s):wpAny (model prog w) A (eval (.Attribute e f pos) env) Q E s:=
 Attribute_any_ h (by rw [arm_eval_Attribute,hb])
end
noncomputable def tFld (K:PySem.W.Frag) (ta:TE) (f:Str):TE:=fun σ H Q=>ta σ H fun x H1=>∃ a C dx fs v,x= .ref a∧H1 a=some (.ins C dx fs)∧Cls K C∧zeZ K C f∧fs.lookup f=some v∧Q v H1
noncomputable def sFld (K:PySem.W.Frag) (ta tv:TE) (f:Str):TS:=fun D σ H=>tv σ H fun y H1=>ta σ H1 fun x H2=>∃ a C dx fs,x= .ref a∧H2 a=some (.ins C dx fs)∧Cls K C∧zeZ K C f∧fs.length < 1000∧
 D.nx σ (upd H2 a (.ins C dx (putF f y fs)))
section
variable {X:Cx} {o e value:Expr} {f:Str} {pos pos' tpos:Pos} {ta tv:TE}
theorem pe_fld (he:PE X e ta)(hb:attributeBase e f X.env (eval e X.env)=eval e X.env):PE X (.Attribute e f pos) (tFld X.K ta f):=by
 intro pins s σ H Q I h
 refine zo5 hb (thn (he pins s σ H _ I h) fun u s1 ⟨x,H1,I1,rx,a,C,dx,fs,v,ex,ea,c,n,l,q⟩=>?_)
 subst ex
 obtain rfl:u=Value.ref a:=rx
 exact zj9 I1 ea c n l fun u' s2 I2 ru=>⟨v,H1,I2,ru,q⟩
theorem ps_fld (ha:PE X o ta)(hv:PE X value tv)(hs:swapsWith value (some (.Attribute o f pos')) pos.line X.env=pure false):PS X (.Assign [.Attribute o f pos'] value pos) (sFld X.K ta tv f):=by
 intro pins s σ H D I h
 refine plainObj_wpAny_Assign_Attribute (thn (hv pins s σ H _ I h) fun u s1 ⟨y,H1,I1,ry,q⟩=>thn (ha pins s1 σ H1 _ I1 q) fun ov s2 ⟨x,H2,I2,rx,a,C,dx,fs,ex,ea,c,n,l,q2⟩=>?_) hs
 subst ex
 obtain rfl:ov=Value.ref a:=rx
 exact zj6 I2 ea c n l ry fun s3 I3=>⟨σ,_,I3,q2⟩
end
section
variable {X:Cx} {pins:List (Addr×Obj)} {σ :St} {H:Hp} {s:Shared} {A:Around} {E:Value→Shared→Prop} {Q:Value→Shared→Prop} {c:Value} {b:Bool}
inductive TyOf (K:PySem.W.Frag) (H:Hp):V→Value→Prop where
 | non:TyOf K H .non (.type "NoneType")
 | bl (x:Bool):TyOf K H (.bl x) (.type "bool")
 | int (i:Int):TyOf K H (.int i) (.type "int")
 | str (x:Str):TyOf K H (.str x) (.type "str")
 | flt (x:UInt64):TyOf K H (.flt x) (.type "float")
 | lst {a:Addr} {xs:List V} (e:H a=some (.lst xs)):TyOf K H (.ref a) (.type "list")
 | frz {a:Addr} {o:Obj} {xs:List V} (e:H a=some (.frz o (.lst xs))):TyOf K H (.ref a) (.type "list")
 | tup {a:Addr} {xs:List V} (e:H a=some (.tup xs)):TyOf K H (.ref a) (.type "tuple")
 | dK {a:Addr} {kvs:List (Key×V)} (e:H a=some (.dK kvs)):TyOf K H (.ref a) (.type "dict")
 | dT {a:Addr} {kvs:List (List Key×V)} (e:H a=some (.dT kvs)):TyOf K H (.ref a) (.type "dict")
 | ins {a C dx:Addr} {fs:List (Str×V)} (e:H a=some (.ins C dx fs)) (cl:Cls K C) (ha:PySem.W.findIn K (.ref C) "__class__" =some (some (.builtin "object.__class__")))
   (hn:PySem.W.specialIn K (.builtin "object.__class__") "__get__" =some (some (.builtin "getset_descriptor.__get__"))) (htk:PySem.W.takesIn K (.builtin "object.__class__")=some true)
   (hm:PySem.W.mroIn K C (.type "object")=some true):TyOf K H (.ref a) (.ref C)
theorem zk3 {x:V}{u t:Value}(I:Inv X pins σ H s)(rx:RelV x u)(ty:TyOf X.K H x t)(e:PySem.W.kitOne X.K t c=some b)(h:∀ tk,Q (.bool b) {s with toks:=tk}):
  wpAny (model X.prog X.w) A (call (.builtin "isinstance") [u,c]) Q E s:=by
 cases ty with
 | non=>cases (show u=Value.none from rx);exact PySem.W.kia_one PySem.W.kitx_none I.kIn True.intro e (fun z=>nomatch z) h
 | bl y=>cases (show u=Value.bool y from rx);exact PySem.W.kia_one PySem.W.kitx_bool I.kIn True.intro e (fun z=>nomatch z) h
 | int i=>obtain ⟨t,q⟩:=(show ∃ t,u=Value.int i t from rx);cases q;exact PySem.W.kia_one PySem.W.kitx_int I.kIn True.intro e (fun z=>nomatch z) h
 | str y=>obtain ⟨t,q⟩:=(show ∃ t,u=Value.str y t from rx);cases q;exact PySem.W.kia_one PySem.W.kitx_str I.kIn True.intro e (fun z=>nomatch z) h
 | flt y=>obtain ⟨t,q⟩:=(show ∃ t,u=Value.float y t from rx);cases q;exact PySem.W.kia_one PySem.W.kitx_float I.kIn True.intro e (fun z=>nomatch z) h
 | @lst a xs ea=>
  cases (show u=Value.ref a from rx)
  obtain ⟨_,_,n,_,h1⟩:=(show zba X.prog X.w H s.heap a (.lst xs) from I.hok a _ ea)
  exact PySem.W.kia_one PySem.W.kitx_list I.kIn ⟨_,h1,rfl⟩ e (fun z=>nomatch z) h
 | @frz a ob xs ea=>
  cases (show u=Value.ref a from rx)
  obtain ⟨_,_,_,n,_,h1⟩:=(show zba X.prog X.w H s.heap a (.frz ob (.lst xs)) from I.hok a _ ea)
  exact PySem.W.kia_one PySem.W.kitx_list I.kIn ⟨_,h1,rfl⟩ e (fun z=>nomatch z) h
 | @tup a xs ea=>
  cases (show u=Value.ref a from rx)
  obtain ⟨_,_,_,p⟩:=(show zba X.prog X.w H s.heap a (.tup xs) from I.hok a _ ea)
  obtain ⟨o,h1,h2,_⟩:=p
  exact PySem.W.kia_one PySem.W.kitx_tuple I.kIn ⟨o,h1,h2⟩ e (fun z=>nomatch z) h
 | @dK a kvs ea=>
  cases (show u=Value.ref a from rx)
  obtain ⟨_,_,vs,_,p⟩:=(show zba X.prog X.w H s.heap a (.dK kvs) from I.hok a _ ea)
  obtain ⟨o,es,ep,h1,h2,_⟩:=p
  exact PySem.W.kia_one PySem.W.kitx_dict I.kIn ⟨o,h1,h2.1⟩ e (fun z=>nomatch z) h
 | @dT a kvs ea=>
  cases (show u=Value.ref a from rx)
  obtain ⟨_,_,xs,_,o,es,ep,h1,h2,_⟩:=(show zba X.prog X.w H s.heap a (.dT kvs) from I.hok a _ ea)
  exact PySem.W.kia_one PySem.W.kitx_dict I.kIn ⟨o,h1,h2.1⟩ e (fun z=>nomatch z) h
 | @ins a C dx fs ea cl ha hn htk hm=>
  cases (show u=Value.ref a from rx)
  obtain ⟨mA,O,_⟩:=zgX I.hok ea
  obtain ⟨od,J,_⟩:=O.look
  exact PySem.W.kia_one (PySem.W.kitx_own (cl.get _) cl.hd ha hn htk hm) I.kIn J e (fun z=>nomatch z) h
end
structure Room (k:Nat) (A:Around):Prop where
 hd:A.handled=none
 dp:A.depth+3 * k+5 < recursionLimit
 un:A.units+16 * k+200 < cLine
 gd:A.guards=some []
theorem Room.mono {j k:Nat}{A:Around}(r:Room k A)(h:j≤k):Room j A:=⟨r.hd,by have:=r.dp;omega,by have:=r.un;omega,r.gd⟩
theorem Room.deeper {k:Nat}{A:Around}(r:Room (k+1) A)(env:Env):Room k (A.deeper env):=
 ⟨r.hd,by have:=r.dp;show A.depth+1+3 * k+5 < _;omega,by have:=r.un;show A.units+3+16 * k+200 < _;omega,r.gd⟩
theorem zkh {A:Around}{C:Addr}{us:List Value}{kw:List (Str×Value)}:(A.under (.builtin "type.__call__" ⟨.ref C::us,kw⟩)).depth=A.depth+1:=by
 first | rfl | simp [yaQ,Code.weight,Code.isCreation,Code.isGuard,Code.isCaller,ybS,yaR,guardIds]
theorem zkj {A:Around}{C:Addr}{us:List Value}{kw:List (Str×Value)}:(A.under (.builtin "type.__call__" ⟨.ref C::us,kw⟩)).units=A.units+1:=by
 first | rfl | simp [yaQ,Code.cUnits,ybS,yaR]
theorem ziD {A:Around}{C:Addr}{us:List Value}{kw:List (Str×Value)}:(A.under (.builtin "type.__call__" ⟨.ref C::us,kw⟩)).guards=A.guards:=by
 first | rfl | simp [yaQ,Code.isGuard,ybS,yaR,guardIds]
theorem Room.make {k:Nat}{A:Around}(r:Room (k+1) A)(C:Addr)(us:List Value)(kw:List (Str×Value)):Room k (A.under (.builtin "type.__call__" ⟨.ref C::us,kw⟩)):=
 ⟨r.hd,by have:=r.dp;rw [zkh];omega,by have:=r.un;rw [zkj];omega,by rw [ziD];exact r.gd⟩
theorem Room.depth {k:Nat}{A:Around}(r:Room k A):A.depth < recursionLimit:=by have:=r.dp;omega
theorem Room.units {k:Nat}{A:Around}(r:Room k A):A.units+64 < cLine:=by have:=r.un;omega
noncomputable def tNil:TA:=fun _ H Q=>Q [] H
noncomputable def tCons (ta:TE) (tr:TA):TA:=fun σ H Q=>ta σ H fun x H1=>tr σ H1 fun xs H2=>Q (x::xs) H2
section
variable {X:Cx} {e:Expr} {es:List Expr} {te:TE} {t:TA} {pos:Pos}
theorem pa_nil:PA X [] tNil:=fun _ _ _ _ H Q I h=>ybu ⟨[],H,I,.nil,h⟩
theorem znY (ha:PE X e te)(hr:PA X es t)(hs:starEach (e::es) X.env=(false,eval e X.env)::starEach es X.env:=by rfl):PA X (e::es) (tCons te t):=by
 intro pos pins s σ H Q I h
 rw [hs]
 show wpAny _ _ (spliced ((false,eval e X.env)::backTo pos (starEach es X.env))) _ _ s
 refine yan (thn (ha pins s σ H _ I h) fun u s1 ⟨x,H1,I1,r1,q1⟩=>?_)
 exact thn (hr pos pins s1 σ H1 _ I1 q1) fun us s2 ⟨xs,H2,I2,r2,q2⟩=>⟨x::xs,H2,I2,.cons r1 r2,q2⟩
noncomputable def tTup (t:TA):TE:=fun σ H Q=>t σ H fun xs H1=>xs.length≤yH∧∀ p,H1 p=none→Q (.ref p) (upd H1 p (.tup xs))
noncomputable def tLst (t:TA):TE:=fun σ H Q=>t σ H fun xs H1=>xs.length≤yH∧∀ p,H1 p=none→Q (.ref p) (upd H1 p (.lst xs))
theorem pe_tup {x1}(h:PA X es t):PE X (.Tuple es x1 pos) (tTup t):=by
 intro pins s σ H Q I hq
 refine wpAny_Tuple_spliced (thn (h pos pins s σ H _ I hq) fun us s1 ⟨xs,H1,I1,r,z,q⟩=>⟨by rw [← r.length];exact z,?_⟩)
 have hf:H1 s1.heap.objs.size=none:=I1.hok.fresh (yJ _)
 refine ⟨.ref s1.heap.objs.size,upd H1 s1.heap.objs.size (.tup xs),I1.laid (t':=s1.toks) (fun b u e=>yG _ e) (yJ _) ?_,rfl,q _ hf⟩
 exact ⟨z,us,r,⟨_,yZ _ rfl,rfl,_,rfl⟩⟩
theorem pe_lst (h:PA X es t):PE X (.List es pos) (tLst t):=by
 intro pins s σ H Q I hq
 refine wpAny_List_spliced (thn (h pos pins s σ H _ I hq) fun us s1 ⟨xs,H1,I1,r,z,q⟩=>⟨by rw [← r.length];exact z,?_⟩)
 have hf:H1 s1.heap.objs.size=none:=I1.hok.fresh (yJ _)
 refine ⟨.ref s1.heap.objs.size,upd H1 s1.heap.objs.size (.lst xs),I1.laid (t':=s1.toks) (fun b u e=>yG _ e) (yJ _) ?_,rfl,q _ hf⟩
 exact ⟨z,us,0,r,yZ _ rfl⟩
end
noncomputable abbrev Sp:=List V→Hp→VK→XK→Prop
noncomputable abbrev CXT:=List Env→Hp→Shared→XK→Value→Shared→Prop
structure Env0 (P:Program) (w:World) (K:PySem.W.Frag) (mg:Str→Option Value) (base:Heap) (A:Around) (outer:List Env) (s:Shared) (H:Hp):Prop where
 frames:A.frames=some outer
 mod:Mod K mg base
 bs:∀ b o,base.get? b=some o→s.heap.get? b=some o∧H b=none
 bsz:base.objs.size≤s.heap.objs.size
 funs:s.heap.FunFrames base outer
 frf:∀ b∈frs outer,H b=none
 hok:HOk P w H s.heap
 bare:AllBare s.gens
noncomputable def CE (outer:List Env) (P:Program) (w:World) (H:Hp) (s:Shared) (Q:VK) (u:Value) (s':Shared):Prop:=
 ∃ v H',s'.os=s.os∧AllBare s'.gens∧Un (frs outer) [] H H' s.heap s'.heap∧HOk P w H' s'.heap∧RelV v u∧Q v H'
noncomputable def CR (CX:CXT) (outer:List Env) (P:Program) (w:World) (H:Hp) (s:Shared) (Q:VK) (E:XK) (r:Result) (s':Shared):Prop:=
 match r with
 | .ok (.ret u)=>CE outer P w H s Q u s'
 | .ok _=>False
 | .error e=>CX outer H s E e s'
structure FnOk (P:Program) (w:World) (K:PySem.W.Frag) (mg:Str→Option Value) (base:Heap) (CX:CXT) (k:Nat) (f:Addr) (fd:FuncData) (ps:List Str) (sp:Sp):Prop where
 len:∀ vs H Q E,sp vs H Q E→vs.length=ps.length
 run:∀ (A:Around) (outer:List Env) (s:Shared) (H:Hp) (args:Args) (us:List Value) (vs:List V) (Q:VK) (E:XK),Room k A→Env0 P w K mg base A outer s H→BindsTo s fd args (ps.zip us)→Vals vs us→sp vs H Q E→
  codeAny (model P w) A (.call (.ref f) args) (CR CX outer P w H s Q E) s
theorem FnOk.imp {P:Program}{w:World}{K:PySem.W.Frag}{mg:Str→Option Value}{base:Heap}{CX:CXT}{k:Nat}{f:Addr}{fd:FuncData}{ps:List Str}{sp sp':Sp}(F:FnOk P w K mg base CX k f fd ps sp)
  (h:∀ vs H Q E,sp' vs H Q E→sp vs H Q E):FnOk P w K mg base CX k f fd ps sp':=
 ⟨fun vs H Q E q=>F.len vs H Q E (h _ _ _ _ q),fun A outer s H args us vs Q E hr he hb hv hs=>F.run A outer s H args us vs Q E hr he hb hv (h _ _ _ _ hs)⟩
theorem Env0.make {P:Program}{w:World}{K:PySem.W.Frag}{mg:Str→Option Value}{base:Heap}{A:Around}{outer:List Env}{s:Shared}{H:Hp}(e:Env0 P w K mg base A outer s H)(C:Addr)(us:List Value)(kw:List (Str×Value)):
  Env0 P w K mg base (A.under (.builtin "type.__call__" ⟨.ref C::us,kw⟩)) outer s H:=⟨by first | exact e.frames | (simpa [yaQ,Code.envs,yaR,pushEnvs] using e.frames),e.mod,e.bs,e.bsz,e.funs,e.frf,e.hok,e.bare⟩
section
variable {X:Cx} {pins:List (Addr×Obj)} {σ :St} {H:Hp} {s s':Shared}
theorem Inv.env0 (I:Inv X pins σ H s):Env0 X.prog X.w X.K X.mg X.base X.A X.stack s H:=
 ⟨I.ok.frames,I.ok.mod,I.bs,jA I.ok.bsz I.sz,I.stack,I.stkFree,I.hok,I.bare⟩
theorem Inv.after {Q:VK}{u:Value}(I:Inv X pins σ H s)(h:CE X.stack X.prog X.w H s Q u s'):EP X pins σ Q u s':=by
 obtain ⟨v,H',os,bare,un,hok,r,q⟩:=h
 obtain ⟨hh,g,d,t,os'⟩:=s'
 obtain rfl:os'=s.os:=os
 exact ⟨v,H',I.call (h':=hh) (g':=g) (d':=d) (t':=t) (ch:=[]) un hok bare (fun b z=>absurd z (by simp)),r,q⟩
end
noncomputable def tCall (sp:Sp) (dvs:List V) (E:XK) (t:TA):TE:=fun σ H Q=>t σ H fun vs H1=>sp (vs++dvs) H1 Q E
noncomputable def tMeth (C:Addr) (m:Str) (sp:Sp) (dvs:List V) (E:XK) (ta:TE) (t:TA):TE:=fun σ H Q=>ta σ H fun x H1=>∃ a dx fs,x= .ref a∧H1 a=some (.ins C dx fs)∧fs.lookup m=none∧
 t σ H1 fun vs H2=>sp (x::(vs++dvs)) H2 Q E
noncomputable def tMake (C:Addr) (sp:Sp) (dvs:List V) (E:XK) (t:TA):TE:=fun σ H Q=>t σ H fun vs H1=>∀ x dx,H1 x=none→H1 dx=none→dx≠x→
 sp (.ref x::(vs++dvs)) (upd (upd H1 dx (.own x)) x (.ins C dx [])) (fun v H2=>v= .non∧Q (.ref x) H2) E
noncomputable def zdb (K:PySem.W.Frag) (fd:FuncData) (ps:List Str) (ds:List Value):Prop:=
 ∀ (s:Shared) (us:List Value),K.In s.heap→(us++ds).length=ps.length→BindsTo s fd ⟨us,[]⟩ (ps.zip (us++ds))
theorem zdb.all {K:PySem.W.Frag}{fd:FuncData}{ps:List Str}(h:∀ us:List Value,us.length=ps.length→bindArgs fd ⟨us,[]⟩=pure (ps.zip us)):zdb K fd ps []:=fun s us _ hl=>by
 rw [wC] at hl ⊢
 exact .of_eq (h us hl)
noncomputable def zdn (CX:CXT) (X:Cx) (E:XK):Prop:=∀ (pins:List (Addr×Obj)) (σ :St) (H:Hp) (s:Shared) (e:Value) (s':Shared),Inv X pins σ H s→CX X.stack H s E e s'→X.xe e s'
section
variable {X:Cx} {CX:CXT} {k:Nat} {f C:Addr} {fd:FuncData} {ps:List Str} {sp:Sp} {dvs:List V} {ds:List Value} {E:XK} {x m:Str} {p pos apos:Pos} {e o:Expr} {es:List Expr} {ta:TE} {t:TA}
theorem znW {pins:List (Addr×Obj)}{σ :St}{H:Hp}{s:Shared}{Q:VK}{us:List Value}{vs:List V}(F:FnOk X.prog X.w X.K X.mg X.base CX k f fd ps sp)(hr:Room k X.A)(hb:zdb X.K fd ps ds)(hd:Vals dvs ds)(hx:zdn CX X E)
  (I:Inv X pins σ H s) (r:Vals vs us) (h:sp (vs++dvs) H Q E):wpAny (model X.prog X.w) X.A (call (.ref f) us) (EP X pins σ Q) X.xe s:=by
 have r2:Vals (vs++dvs) (us++ds):=r.append hd
 have hl:(us++ds).length=ps.length:=by rw [← r2.length];exact F.len _ _ _ _ h
 refine wpAny_call (codeAny_mono (F.run X.A X.stack s H ⟨us,[]⟩ (us++ds) (vs++dvs) Q E hr I.env0 (hb s us I.kIn hl) r2 h) fun r s' hq=>?_)
 cases r with
 | error e=>exact hx pins σ H s e s' I hq
 | ok fl=>
  cases fl with
  | ret u=>exact I.after hq
  | next=>exact xN hq
  | brk=>exact xN hq
  | cont=>exact xN hq
theorem zn1 (F:FnOk X.prog X.w X.K X.mg X.base CX k f fd ps sp)(hr:Room k X.A)(hg:Gl X x)(hm:X.mg x=some (.ref f))(hk:PySem.W.keepIn X.K (.ref f)=true)(hb:zdb X.K fd ps ds)(hd:Vals dvs ds)(hx:zdn CX X E)
  (ha:PA X (e::es) t) (hdb:(x==("__debug__" :Str))=false:=by decide) (he:starEach (e::es) X.env=(false,eval e X.env)::starEach es X.env:=by rfl) (hpl:(backTo pos (starEach es X.env)).any (·.1)=false:=by rfl):
  PE X (.Call (.Name x p) (e::es) [] pos) (tCall sp dvs E t):=by
 intro pins s σ H Q I h
 refine wpAny_Call_Name_kw (zfY I hg hm ?_ hdb)
 refine PySem.W.callWith_K (h₀ :=X.base) I.ok.mod.kin hk (thn (ha pos pins s σ H _ I h) fun us s1 ⟨vs,H1,I1,r,q⟩=>⟨I1.kIn,?_⟩) he hpl
 exact znW F hr hb hd hx I1 r q
theorem zpe {pl:Sem Bool}(he:PE X o ta)(c:Cls X.K C)(hm:Meth X.K C m f)(F:FnOk X.prog X.w X.K X.mg X.base CX k f fd ps sp)(hr:Room k X.A)(hb:zdb X.K fd ps ds)(hd:Vals dvs ds)(hx:zdn CX X E)(ha:PA X (e::es) t)
  (hst:starEach (e::es) X.env=(false,eval e X.env)::starEach es X.env:=by rfl) (hpl:(backTo pos (starEach es X.env)).any (·.1)=false:=by rfl)
  (ht:eval (.Call (.Attribute o m apos) (e::es) [] pos) X.env=(do
   let ov ← eval o X.env
   standAt apos.atName
   let (f,first) ← holding [ov] (getMethod ov m pl)
   callWith pos f first (backTo pos (starEach (e::es) X.env)) (backToKw pos (keywordEach [] X.env))):=by rfl):
  PE X (.Call (.Attribute o m apos) (e::es) [] pos) (tMeth C m sp dvs E ta t):=by
 intro pins s σ H Q I h
 refine PySem.W.methodCall_KW (pl:=pl) (thn (he pins s σ H _ I h) fun u s1 ⟨x,H1,I1,rx,a,dx,fs,ex,ea,l,q⟩=>?_) ht
 subst ex
 obtain rfl:u=Value.ref a:=rx
 refine zgp I1 ea c hm l ?_
 refine PySem.W.callWith_K (first:=[.ref a]) (h₀ :=X.base) I.ok.mod.kin hm.kp (thn (ha pos pins s1 σ H1 _ I1 q) fun us s2 ⟨vs,H2,I2,r,q2⟩=>⟨I2.kIn,?_⟩) hst hpl
 exact znW (us:=.ref a::us) (vs:=.ref a::vs) F hr hb hd hx I2 (.cons rfl r) q2
structure Mk (K:PySem.W.Frag) (C f:Addr):Prop where
 makes:PySem.W.makesIn K C=true
 init:PySem.W.findIn K (.ref C) "__init__" =some (some (.ref f))
 fn:PySem.W.isFn K (.ref f)=true
 kp:PySem.W.keepIn K (.ref C)=true
theorem znj {pins:List (Addr×Obj)}{σ :St}{H:Hp}{s:Shared}{Q:VK}{us:List Value}{vs:List V}(M:Mk X.K C f)(F:FnOk X.prog X.w X.K X.mg X.base CX k f fd ps sp)(hr:Room (k+1) X.A)(hb:zdb X.K fd ps ds)(hd:Vals dvs ds)
  (hx:zdn CX X E) (I:Inv X pins σ H s) (r:Vals vs us)
  (h:∀ x dx,H x=none→H dx=none→dx≠x→sp (.ref x::(vs++dvs)) (upd (upd H dx (.own x)) x (.ins C dx [])) (fun v H2=>v= .non∧Q (.ref x) H2) E):
  wpAny (model X.prog X.w) X.A (call (.ref C) us) (EP X pins σ Q) X.xe s:=by
 have hq:=h (s.heap.objs.size+1) s.heap.objs.size (I.hok.fresh (Nat.le_succ _)) (I.hok.fresh (yJ _)) (qL (ybG _))
 have I2:=Inv.made (C:=C) I
 have r2:Vals (V.ref (s.heap.objs.size+1)::(vs++dvs)) (Value.ref (s.heap.objs.size+1)::(us++ds)):=.cons rfl (r.append hd)
 have hl:(Value.ref (s.heap.objs.size+1)::us++ds).length=ps.length:=by
  have e:=r2.length
  rw [F.len _ _ _ _ hq] at e
  exact e.symm
 refine wpAny_call (znn (f:=f) I.kIn M.makes M.init (beq_iff_eq.mp M.fn) (codeAny_mono (F.run _ X.stack _ _ ⟨Value.ref (s.heap.objs.size+1)::us,[]⟩ (Value.ref (s.heap.objs.size+1)::(us++ds)) _ _ E (hr.make C us [])
  (I2.env0.make C us []) (hb _ (Value.ref (s.heap.objs.size+1)::us) I2.kIn hl) r2 hq) fun r s' hq'=>?_))
 cases r with
 | error e=>exact hx pins σ _ _ e s' I2 hq'
 | ok fl=>
  cases fl with
  | ret u=>
   obtain ⟨v,H',I3,rv,ev,q3⟩:=I2.after hq'
   subst ev
   exact ⟨rv,⟨V.ref (s.heap.objs.size+1),H',I3,rfl,q3⟩⟩
  | next=>exact xN hq'
  | brk=>exact xN hq'
  | cont=>exact xN hq'
theorem znl (M:Mk X.K C f)(F:FnOk X.prog X.w X.K X.mg X.base CX k f fd ps sp)(hr:Room (k+1) X.A)(hg:Gl X x)(hm:X.mg x=some (.ref C))(hb:zdb X.K fd ps ds)(hd:Vals dvs ds)(hx:zdn CX X E)
  (hdb:(x==("__debug__" :Str))=false:=by decide):PE X (.Call (.Name x p) [] [] pos) (tMake C sp dvs E tNil):=by
 intro pins s σ H Q I h
 refine wpAny_Call_Name_kw (zfY I hg hm ?_ hdb)
 exact PySem.W.callWith_K0 I.kIn M.kp (znj (us:=[]) M F hr hb hd hx I .nil h)
end
section
variable {X:Cx} {CX:CXT} {k:Nat} {f C:Addr} {fd:FuncData} {ps ks:List Str} {sp:Sp} {E:XK} {x m:Str} {p pos apos kpos:Pos} {e o:Expr} {es:List Expr} {kws:List Keyword} {te ta:TE} {t tk:TA} {nm:Option Str}
variable {g:List Value→List Value→List Value} {gV:List V→List V→List V}
end
structure zav (N P:List Str) (sc:Scope):Prop where
 kind:sc.kind= .function
 co:sc.isCoroutine=false
 gen:sc.isGenerator=false
 nd:N.Nodup
 pre:N.take P.length=P
 par:∀ x∈P,sc.names.lookup x=some .local∨sc.names.lookup x=some .cell
 nofree:∀ y∈sc.names,y.2≠.free
theorem zhN {kindOf:Str→Option NameKind}{x:Str}:∀ {binds:List (Str×Value)} {m:Str→Option Value},(∀ v,(x,v)∉binds)→bindL kindOf binds m x=m x
 | [],_,_=>rfl
 | (n,v)::r,m,h=>by
  unfold bindL
  rw [zhN fun w hw=>h w (xJ _ hw)]
  split
  ·have:x≠n:=by rintro rfl;exact h v yam
   simp [this]
  ·rfl
theorem zhM {kindOf:Str→Option NameKind}{x:Str}:∀ {binds:List (Str×Value)} {m:Str→Option Value},(∀ v,(x,v)∉binds)→bindC kindOf binds m x=m x
 | [],_,_=>rfl
 | (n,v)::r,m,h=>by
  unfold bindC
  rw [zhM fun w hw=>h w (xJ _ hw)]
  split
  ·rfl
  ·have:x≠n:=by rintro rfl;exact h v yam
   simp [this]
theorem zh0 {kindOf:Str→Option NameKind}{x:Str}{v:Value}:∀ {P:List Str} {vs:List Value} {i:Nat} {m:Str→Option Value},P.Nodup→P[i]? =some x→vs[i]? =some v→kindOf x=some .local→
  bindL kindOf (P.zip vs) m x=some v
 | [],_,_,_,_,h,_,_=>by simp at h
 | _::_,[],_,_,_,_,h,_=>by simp at h
 | p::P,w::vs,0,m,nd,h1,h2,hk=>by
  simp at h1 h2;subst h1;subst h2
  show bindL kindOf ((p,w)::P.zip vs) m p=_
  unfold bindL
  rw [zhN fun v hv=>(vS.mp nd).1 (yaS hv).1,if_pos hk]
  simp
 | p::P,w::vs,i+1,m,nd,h1,h2,hk=>by
  show bindL kindOf ((p,w)::P.zip vs) m x=_
  unfold bindL
  exact zh0 (i:=i) (vS.mp nd).2 (by simpa using h1) (by simpa using h2) hk
theorem zh2 {kindOf:Str→Option NameKind}{x:Str}{v:Value}:∀ {P:List Str} {vs:List Value} {i:Nat} {m:Str→Option Value},P.Nodup→P[i]? =some x→vs[i]? =some v→kindOf x≠some .local→
  bindC kindOf (P.zip vs) m x=some v
 | [],_,_,_,_,h,_,_=>by simp at h
 | _::_,[],_,_,_,_,h,_=>by simp at h
 | p::P,w::vs,0,m,nd,h1,h2,hk=>by
  simp at h1 h2;subst h1;subst h2
  show bindC kindOf ((p,w)::P.zip vs) m p=_
  unfold bindC
  rw [zhM fun v hv=>(vS.mp nd).1 (yaS hv).1,if_neg hk]
  simp
 | p::P,w::vs,i+1,m,nd,h1,h2,hk=>by
  show bindC kindOf ((p,w)::P.zip vs) m x=_
  unfold bindC
  exact zh2 (i:=i) (vS.mp nd).2 (by simpa using h1) (by simpa using h2) hk
noncomputable def start (N:List Str) (vs:List V):St:=vs.map some++List.replicate (N.length - vs.length) none
noncomputable def cxOf (CX:CXT) (P:Program) (w:World) (K:PySem.W.Frag) (mg:Str→Option Value) (base:Heap) (N:List Str) (qual:Str) (scope:Scope) (f:Addr) (cd:Value) (A:Around) (outer:List Env) (s:Shared) (H:Hp) (E:XK):Cx where
 prog:=P
 w:=w
 K:=K
 mg:=mg
 base:=base
 A:=A.deeper (envOfC qual scope s.heap.objs.size f cd)
 N:=N
 s₀ :=s
 H₀ :=H
 env:=envOfC qual scope s.heap.objs.size f cd
 outer:=outer
 stack:=envOfC qual scope s.heap.objs.size f cd::outer
 ex:=[]
 calm:=true
 fn:=fun _=>true
 pn:=[]
 xe:=fun e s'=>wpAny (model P w) (A.deeper (envOfC qual scope s.heap.objs.size f cd)) (leaving (envOfC qual scope s.heap.objs.size f cd) e) (fun _ s''=>CX outer H s E e s'') (fun e' s''=>CX outer H s E e' s'') s'
theorem zjR {sc:Scope}{n:Nat}{x:Str}(h:sc.names.lookup x=some .cell):∃ c,(cellsFrom n sc.names []).lookup x=some c:=by
 have q:=PySem.W.cellsFrom_some sc.names n [] (.inl h)
 exact Option.isSome_iff_exists.mp q
theorem zlr {CX:CXT}{P:Program}{w:World}{K:PySem.W.Frag}{mg:Str→Option Value}{base:Heap}{N ps:List Str}{qual:Str}{scope:Scope}{f:Addr}{cd:Value}{A:Around}{outer:List Env}{s s1:Shared}{H:Hp}{E:XK}{us:List Value}{vs:List V}
  (S:zav N ps scope) (hd:A.handled=none) (e0:Env0 P w K mg base A outer s H) (hl:vs.length=ps.length) (r:Vals vs us)
  (x:InCallC s s.heap.objs.size (bindL (envOfC qual scope s.heap.objs.size f cd).kindOf (ps.zip us) fun _=>none) (cellsFrom (s.heap.objs.size+1) scope.names []) (bindC (envOfC qual scope s.heap.objs.size f cd).kindOf (ps.zip us) fun _=>none) s1):
  Inv (cxOf CX P w K mg base N qual scope f cd A outer s H E) [] (start N vs) H s1:=by
 have hpl:ps.length≤N.length:=by have:=congrArg wP S.pre;rw [yW] at this;omega
 obtain ⟨h1,tk,rfl,hk⟩:=x.done
 have noA:∀ b:Addr,b∉(cxOf CX P w K mg base N qual scope f cd A outer s H E).ex:=fun b z=>absurd (show b∈([]:List Addr) from z) (by simp)
 refine ⟨⟨e0.mod,S.kind,rfl,rfl,yJ _,fun y z c h1 h2=>?_,fun y hy=>?_,fun y c _ h=>?_,fun _=>hd,Around.frames_deeper e0.frames,.inr ⟨rfl,rfl⟩,fun b z=>absurd z (noA b),e0.bs,e0.bsz,fun b _ _=>noA b,fun b z=>absurd z (noA b),e0.funs,e0.frf⟩,
  rfl,e0.bare,Un.kept hk,⟨_,x.toInCall.ns,fun i y v h1 h2 h3=>?_⟩,fun y c h=>⟨_,x.cell y c h⟩,e0.hok.fresh (yJ _),fun y c h=>?_,fun p hp=>absurd (show p∈([]:List (Addr×Obj)) from hp) (by simp),e0.hok.kept hk,?_⟩
 ·exact name_of_addr x.apart (vB h1) (vB h2)
 ·have hy:scope.names.lookup y=some .cell∨scope.names.lookup y=some .free:=hy
  rcases hy with hy | hy
  ·exact zjR hy
  ·exact absurd rfl (S.nofree _ (vB hy))
 ·exact wS (x.above y c (vB h))
 ·have hi:i < vs.length:=by
   unfold start at h2
   by_cases hi:i < vs.length
   ·exact hi
   ·rw [jD (by simpa using hi)] at h2
    rw [yay] at h2
    split at h2 <;> cases h2
  have ha:vs[i]? =some v:=by
   unfold start at h2
   rw [jJ (by simpa using hi),yL] at h2
   cases e:vs[i]? with
   | none=>rw [e] at h2;cases h2
   | some a=>rw [e] at h2;cases h2;rfl
  obtain ⟨u,hu,rv⟩:=r.get ha
  have hp:ps[i]? =some y:=by
   rw [← S.pre,yau (by omega)];exact h1
  have ndP:ps.Nodup:=by rw [← S.pre];exact S.nd.sublist (List.take_sublist _ _)
  refine ⟨u,rv,?_⟩
  rcases S.par y (yR hp) with k | k
  ·exact .inl ⟨k,zh0 ndP hp hu k⟩
  ·obtain ⟨c,e⟩:=zjR (n:=s.heap.objs.size+1) k
   refine .inr ⟨.inl k,c,e,?_⟩
   have q:=x.cell y c e
   rw [zh2 ndP hp hu (by show scope.names.lookup y≠_;rw [k];decide)] at q
   exact q
 ·exact e0.hok.fresh (wS (x.above y c (vB h)))
 ·unfold start
  show _=N.length
  rw [yI,yA,yaT]
  omega
theorem zpg {CX:CXT}{P:Program}{w:World}{K:PySem.W.Frag}{mg:Str→Option Value}{base:Heap}{k:Nat}{f:Addr}{name qual:Str}{params:Arguments}{body:List Stmt}{scope:Scope}{dV kV doc pm cdv ct oc:Value}{an od:Option Addr}
  {osl:Array (Option Value)} {N ps:List Str} {sp:Sp} (lk:K.lookup f=some ⟨oc,od,.func (PySem.W.fnOf name qual params body scope dV kV doc pm an cdv ct),osl⟩) (hcd:PySem.W.codeIn K cdv qual=true) (S:zav N ps scope)
  (len:∀ vs H Q E,sp vs H Q E→vs.length=ps.length)
  (hbody:∀ (A:Around) (outer:List Env) (s:Shared) (H:Hp) (vs:List V) (Q:VK) (E:XK),Room k (A.deeper (envOfC qual scope s.heap.objs.size f cdv))→sp vs H Q E→
   ∃ t,PSs (cxOf CX P w K mg base N qual scope f cdv A outer s H E) body t∧t {nx:=fun _ H'=>Q .non H',rt:=Q} (start N vs) H):
  FnOk P w K mg base CX (k+1) f (PySem.W.fnOf name qual params body scope dV kV doc pm an cdv ct) ps sp:=by
 refine ⟨len,fun A outer s H args us vs Q E hr e0 hb r hsp=>?_⟩
 have hl:=len _ _ _ _ hsp
 have KX:K.In s.heap:=e0.mod.kin.keeps fun b o e=>(e0.bs b o e).1
 have lim:s.heap.NoLimit:=e0.mod.nolimit.keeps fun b o e=>(e0.bs b o e).1
 have hkind:∀ y∈ps.zip us,scope.names.lookup y.1=some .local∨(scope.names.lookup y.1=some .cell∧((cellsFrom (s.heap.objs.size+1) scope.names []).lookup y.1).isSome=true):=fun ⟨n,v⟩ hy=>by
  rcases S.par n (yaS hy).1 with q | q
  ·exact .inl q
  ·exact .inr ⟨q,PySem.W.cellsFrom_some _ _ _ (.inl q)⟩
 refine codeAny_call_function hr.depth (KX _ _ lk) rfl S.co S.gen rfl (PySem.W.codeRec_of KX hcd) (hb _ _ _ _ ?_)
 refine wpAny_newFunctionEnv_cells S.kind hkind fun env he s1 x=>?_
 subst he
 refine ⟨lim.keeps x.toInCall.keep,codeAny_func ?_⟩
 obtain ⟨t,ht,hq⟩:=hbody A outer s H vs Q E (hr.deeper _) hsp
 have I:Inv (cxOf CX P w K mg base N qual scope f cdv A outer s H E) [] (start N vs) H s1:=zlr S hr.hd e0 hl r x
 refine wpAny_mono (ht [] s1 (start N vs) H _ I hq) (fun fl s' hs=>?_) fun e s' hs=>hs
 have fin:∀ {σ':St} {H':Hp} {v:V} {u:Value},Inv (cxOf CX P w K mg base N qual scope f cdv A outer s H E) [] σ' H' s'→RelV v u→Q v H'→CE outer P w H s Q u s':=
  fun {σ' H' v u} J rv q=>⟨v,H',J.os,J.bare,J.base,J.hok,rv,q⟩
 cases fl with
 | ret u=>
  obtain ⟨v,σ',H',J,rv,q⟩:=hs
  exact fin J rv q
 | next=>
  obtain ⟨σ',H',J,q⟩:=hs
  exact fin (v:=V.non) (u:=Value.none) J rfl q
 | brk=>
  obtain ⟨_,_,_,q⟩:=hs
  exact xN q
 | cont=>
  obtain ⟨_,_,_,q⟩:=hs
  exact xN q
section
variable {X:Cx} {x:Str} {p pos:Pos} {e:Expr} {es:List Expr} {t:TA} {id T:String} {r:List V→Hp→VK→Prop}
noncomputable def tCB (r:List V→Hp→VK→Prop) (t:TA):TE:=fun σ H Q=>t σ H fun vs H1=>r vs H1 Q
theorem zmH (hc:zcZ X (.builtin id) r)(hg:Gl X x)(hm:X.mg x=none)(hv:bootBuiltins x=some (.builtin id))(ha:PA X (e::es) t)(hn:x≠"__name__" :=by decide)(hdb:(x==("__debug__" :Str))=false:=by decide)
  (he:starEach (e::es) X.env=(false,eval e X.env)::starEach es X.env:=by rfl) (hpl:(backTo pos (starEach es X.env)).any (·.1)=false:=by rfl):PE X (.Call (.Name x p) (e::es) [] pos) (tCB r t):=by
 intro pins s σ H Q I h
 refine wpAny_Call_Name_kw (zgN I hg hm hv ?_ hn hdb)
 exact PyProof.Rows.callWith_builtin1 (thn (ha pos pins s σ H _ I h) fun us s1 ⟨vs,H1,I1,r1,q1⟩=>hc pins s1 σ H1 vs us Q I1 r1 q1) he hpl
theorem zlQ (hc:zcZ X (.type T) r)(hg:Gl X x)(hm:X.mg x=none)(hv:bootBuiltins x=some (.type T))(ha:PA X (e::es) t)(hn:x≠"__name__" :=by decide)(hdb:(x==("__debug__" :Str))=false:=by decide)
  (he:starEach (e::es) X.env=(false,eval e X.env)::starEach es X.env:=by rfl) (hpl:(backTo pos (starEach es X.env)).any (·.1)=false:=by rfl):PE X (.Call (.Name x p) (e::es) [] pos) (tCB r t):=by
 intro pins s σ H Q I h
 refine wpAny_Call_Name_kw (zgN I hg hm hv ?_ hn hdb)
 exact xL (thn (ha pos pins s σ H _ I h) fun us s1 ⟨vs,H1,I1,r1,q1⟩=>hc pins s1 σ H1 vs us Q I1 r1 q1) he hpl
end
end L2
namespace HT
open PySem PyProof.Rows
section
open PySem.SeqAt
open PySem.AutoSeq1 (wpAny_loadPart')
open PySem.MeetsSeq PySem.MeetsSeq2 PySem.MeetsSeq3
end
section
variable {prog:Program} {w:World} {A:Around} {E:Value→Shared→Prop} {s:Shared}
theorem cat_tup {t b:Addr}{vs ws:List Value}{Q:Value→Shared→Prop}(ht:IsTup s.heap t vs.toArray)(hb:IsTup s.heap b ws.toArray)(hv:vs≠[])
  (h1:ws= []→Q (.ref t) s) (h2:ws≠[]→Q (.ref s.heap.objs.size) {s with heap:=s.heap.push {cls:=.type "tuple",data:=.seq (vs++ws).toArray}})
  (hsz:vs.length+ws.length≤yH):wpAny (model prog w) A (binaryOp .Add (.ref t) (.ref b)) Q E s:=by
 obtain ⟨⟨cls,dd,data,sl⟩,ho,hc,n,hd⟩:=id ht
 obtain ⟨⟨cls2,dd2,data2,sl2⟩,ho2,hc2,n2,hd2⟩:=id hb
 simp only at hc hd hc2 hd2
 subst hc hd hc2 hd2
 have e:vs.toArray++ws.toArray=(vs++ws).toArray:=by simp
 by_cases hw:ws= []
 ·exact concat_meets ⟨_,ho,rfl⟩ ⟨_,ho2,rfl⟩ noFill_tuple_add seq_tuple_add yaG yaz (yav _ _)
   (tuple_addW1 t b vs.toArray ws.toArray n n2 dd dd2 sl sl2 (by simpa using hv) (by simp [hw])) ⟨ho,ho2,h1 hw⟩
 ·refine concat_meets ⟨_,ho,rfl⟩ ⟨_,ho2,rfl⟩ noFill_tuple_add seq_tuple_add yaG yaz (yav _ _)
   (tuple_addW2 t b vs.toArray ws.toArray n n2 dd dd2 sl sl2 (by simpa using hv) (by simpa using hw) (by rw [qB,qB];exact hsz)) ⟨ho,ho2,?_⟩
  rw [e]
  exact h2 hw
noncomputable def sIx (n d:Nat):Option Int→Nat
 | none=>d
 | some v=>if v < 0 then (v+(n:Int)).toNat else min v.toNat n
theorem sIx_le (n d:Nat)(hd:d≤n)(o:Option Int):sIx n d o≤n:=by
 cases o with
 | none=>exact hd
 | some v=>
  show (if v < 0 then (v+(n:Int)).toNat else min v.toNat n)≤n
  by_cases hv:v < 0
  ·rw [if_pos hv];omega
  ·rw [if_neg hv];exact Nat.min_le_right _ _
theorem zlq (v:Int)(n d:Nat):(if v < 0 then max (v+(n:Int)) 0 else min v (n:Int))=((sIx n d (some v):Nat):Int):=by
 show (if v < 0 then max (v+(n:Int)) 0 else min v (n:Int))=(((if v < 0 then (v+(n:Int)).toNat else min v.toNat n):Nat):Int)
 by_cases hv:v < 0
 ·simp only [if_pos hv];omega
 ·simp only [if_neg hv];omega
theorem zj5 (lo hi:Option Int)(n:Nat):kB lo hi 1 (n:Int)=(((sIx n 0 lo:Nat):Int),((sIx n n hi:Nat):Int)):=by
 have h1:¬((1:Int) < 0):=by omega
 unfold kB
 simp only [h1,if_false]
 refine Prod.ext ?_ ?_
 ·cases lo with
  | none=>rfl
  | some v=>exact zlq v n 0
 ·cases hi with
  | none=>rfl
  | some v=>exact zlq v n n
theorem zkA (i j:Nat):xS (i:Int) (j:Int) 1=j - i:=by
 unfold xS
 have h1:(1:Int) > 0:=by omega
 simp only [h1,if_true,Int.ediv_one]
 split <;> omega
theorem zgA {v:Value}{o:Option Int}{Q:Option Int→Shared→Prop}(p:IsPart v o)(h:Q o s):wpAny (model prog w) A (Builtin.Slice.slicePartIndex v) Q E s:=by
 cases p with
 | none=>exact slicePart_none h
 | int i t=>exact slicePart_int h
theorem ze3 {sl:Addr}{vl vu:Value}{lo hi:Option Int}{n:Nat}{Q:Int×Int×Nat→Shared→Prop}(hs:s.heap.IsSliceOf sl vl vu .none)(pl:IsPart vl lo)(pu:IsPart vu hi)
  (h:Q (((sIx n 0 lo:Nat):Int),1,sIx n n hi - sIx n 0 lo) s):wpAny (model prog w) A (yal (.ref sl) (pure (n:Int))) Q E s:=by
 obtain ⟨os,hos,hcs,hds⟩:=id hs
 unfold yal Builtin.Slice.sliceFields
 refine yD (yD (wpAny_field hos hds (x:=vl) rfl (yD (wpAny_field hos hds (x:=vu) rfl (yD (wpAny_field hos hds (x:=.none) rfl (yP ?_)))))))
 refine yD (slicePart_none ?_)
 show wpAny _ _ (if ((1:Int)==0)=true then _ else _) _ _ s
 rw [if_neg (by decide)]
 refine yD (zgA pl (yD (zgA pu (yD (yP ?_)))))
 show wpAny _ _ (match kB lo hi 1 (n:Int) with | (lo,hi)=>pure (lo,(1:Int),xS lo hi 1)) _ _ s
 rw [zj5 lo hi n]
 show wpAny _ _ (pure (((sIx n 0 lo:Nat):Int),(1:Int),xS ((sIx n 0 lo:Nat):Int) ((sIx n n hi:Nat):Int) 1)) _ _ s
 rw [zkA]
 exact yP h
theorem zmD (xs:Array Value)(i k:Nat):((xK k).filterMap fun (m:Nat)=>xs[((i:Int)+(m:Int) * 1).toNat]?).toArray=((xs.toList.drop i).take k).toArray:=by
 have e:(fun (m:Nat)=>xs[((i:Int)+(m:Int) * 1).toNat]?)=fun m=>xs[i+m]? :=by
  funext m
  have:((i:Int)+(m:Int) * 1).toNat=i+m:=by omega
  rw [this]
 rw [e]
 have:=pick_run xs i k
 rw [List.filterMap_map] at this
 have e2:((fun x=>xs[x]?) ∘ fun x=>i+x)=fun m=>xs[i+m]? :=rfl
 rw [e2] at this
 rw [this]
theorem getItem_tuple_cut {t sl:Addr}{items:Array Value}{vl vu:Value}{lo hi:Option Int}{Q:Value→Shared→Prop}(ht:IsTup s.heap t items)(hs:s.heap.IsSliceOf sl vl vu .none)(pl:IsPart vl lo)(pu:IsPart vu hi)
  (hw:¬(sIx items.size 0 lo=0∧sIx items.size items.size hi=items.size))
  (h:Q (.ref s.heap.objs.size) {s with heap:=s.heap.push {cls:=.type "tuple",data:=.seq ((items.toList.drop (sIx items.size 0 lo)).take (sIx items.size items.size hi - sIx items.size 0 lo)).toArray}})
  (hsz:items.size≤yH):wpAny (model prog w) A (getItem (.ref t) (.ref sl)) Q E s:=by
 have htake:sizeOk (.seq ((items.toList.drop (sIx items.size 0 lo)).take (sIx items.size items.size hi - sIx items.size 0 lo)).toArray):=by
  show ((items.toList.drop (sIx items.size 0 lo)).take (sIx items.size items.size hi - sIx items.size 0 lo)).toArray.size≤yH
  rw [qB,yW,yaF,yY]
  omega
 have hj:sIx items.size items.size hi≤items.size:=sIx_le _ _ (yJ _) hi
 obtain ⟨os,hos,hcs,hds⟩:=id hs
 have hTs:s.TypeIs (.ref sl) "slice" :=⟨os,hos,hcs⟩
 unfold getItem
 try with_reducible refine wpAny_holding ?_
 first | refine yD (yP ?_) | skip
 refine yD (wpAny_sequenceKey ht.typeIs (by decide) ?_)
 refine yD (wpAny_callSpecial?_slot (name:=yB "__getitem__") ht.typeIs xW
  (wpAny_call_entry xW ht.typeIs entry_tuple_getitem ?_ (args_tuple_getitem _ _)))
 show wpAny _ _ (Builtin.Tuple.tupleItemsOf (.ref t) >>=_) _ _ s
 refine yD (tupleItemsOf_ ht ?_)
 refine yD (wpAny_typeOf hTs ?_)
 rw [if_pos (by decide)]
 refine yD (ze3 hs pl pu ?_)
 have hno:¬((((sIx items.size 0 lo:Nat):Int)==0 && (1:Int)==1 && (sIx items.size items.size hi - sIx items.size 0 lo)==items.size)=true):=by
  intro q
  rw [jE,jE] at q
  have q1:((sIx items.size 0 lo:Nat):Int)=0:=eq_of_beq q.1.1
  have q2:sIx items.size items.size hi - sIx items.size 0 lo=items.size:=eq_of_beq q.2
  exact hw ⟨by omega,by omega⟩
 show wpAny _ _ (if (((sIx items.size 0 lo:Nat):Int)==0 && (1:Int)==1 && (sIx items.size items.size hi - sIx items.size 0 lo)==items.size)=true then _ else _) _ _ s
 rw [if_neg hno,zmD]
 first
  | exact yD (m:=xX _) (wpAny_newObj_type (yP ⟨_,rfl,yP h⟩) htake)
  | exact yD (m:=xX _) (wpAny_newObj_type (yD (yP (yP ⟨_,rfl,yP h⟩))) htake)
  | exact yD (yD (m:=xX _) (wpAny_newObj_type (yP (yP ⟨_,rfl,yP h⟩)) htake))
  | exact yD (yD (m:=xX _) (wpAny_newObj_type (yP ⟨_,rfl,yP h⟩) htake))
end
end HT
namespace L2
open PySem PySem.Spec PyProof.Rows
noncomputable abbrev TO:=St→Hp→(Option Int→Hp→Prop)→Prop
noncomputable def PO (X:Cx) (e:Option Expr) (t:TO):Prop:=
 ∀ (pins:List (Addr×Obj)) (s:Shared) (σ :St) (H:Hp) (Q:Option Int→Hp→Prop),Inv X pins σ H s→t σ H Q→
  wpAny (model X.prog X.w) X.A (evalPart e X.env) (fun u s'=>∃ o H',Inv X pins σ H' s'∧IsPart u o∧Q o H') X.xe s
noncomputable def zlh:TO:=fun _ H Q=>Q none H
noncomputable def tPart (t:TE):TO:=fun σ H Q=>t σ H fun x H1=>∃ i,x= .int i∧Q (some i) H1
section
variable {X:Cx} {e:Expr} {te:TE} {lo hi:Option Expr} {tl th:TO} {pos p2:Pos}
theorem zoU:PO X none zlh:=by
 intro pins s σ H Q I h
 rw [evalPart_none]
 exact yP ⟨none,H,I,.none,h⟩
theorem zoI (h:PE X e te):PO X (some e) (tPart te):=by
 intro pins s σ H Q I hw
 rw [evalPart_some]
 refine thn (h pins s σ H _ I hw) fun u s1 ⟨x,H1,I1,r1,q1⟩=>?_
 obtain ⟨i,rfl,q⟩:=q1
 obtain ⟨t,rfl⟩:=r1
 exact ⟨some i,H1,I1,.int i t,q⟩
noncomputable def SlR (X:Cx) (r:V→Option Int→Option Int→Hp→VK→Prop):Prop:=
 ∀ (pins:List (Addr×Obj)) (s:Shared) (σ :St) (H:Hp) (x:V) (v vl vu:Value) (lo hi:Option Int) (sl:Addr) (Q:VK),Inv X pins σ H s→RelV x v→s.heap.IsSliceOf sl vl vu .none→IsPart vl lo→IsPart vu hi→r x lo hi H Q→
  ∃ T id,typeLookup (.type T) "__getitem__" =pure (some (.builtin id))∧s.TypeIs v T∧wpAny (model X.prog X.w) X.A (getItem v (.ref sl)) (EP X pins σ Q) X.xe s
noncomputable def tSl (r:V→Option Int→Option Int→Hp→VK→Prop) (te:TE) (tl th:TO):TE:=fun σ H Q=>te σ H fun x H1=>tl σ H1 fun l H2=>th σ H2 fun u H3=>r x l u H3 Q
theorem zno {r:V→Option Int→Option Int→Hp→VK→Prop}(hr:SlR X r)(he:PE X e te)(hl:PO X lo tl)(hu:PO X hi th):PE X (.Subscript e (.Slice lo hi none p2) pos) (tSl r te tl th):=by
 intro pins s σ H Q I h
 refine Subscript_ (thn (he pins s σ H _ I h) fun v s1 ⟨x,H1,I1,r1,q1⟩=>?_)
 refine wpAny_Slice (thn (hl pins s1 σ H1 _ I1 q1) fun vl s2 ⟨l,H2,I2,pl,q2⟩=>thn (hu pins s2 σ H2 _ I2 q2) fun vu s3 ⟨u,H3,I3,pu,q3⟩=>?_)
 rw [evalPart_none]
 refine yP ?_
 have I4:Inv X pins σ H3 {s3 with heap:=s3.heap.push {cls:=.type "slice",data:=.fields #[vl,vu,.none]}}:=I3.kept (t':=s3.toks) fun b ob q=>yG _ q
 obtain ⟨T,id,hT,ht,hg⟩:=hr pins {s3 with heap:=s3.heap.push {cls:=.type "slice",data:=.fields #[vl,vu,.none]}} σ H3 x v vl vu l u s3.heap.objs.size Q I4 r1 (ybl ..) pl pu q3
 show wpAny (model X.prog X.w) X.A (subscriptTail e (.Slice lo hi none p2) v (.ref s3.heap.objs.size)) (EP X pins σ Q) X.xe {s3 with heap:=s3.heap.push {cls:=.type "slice",data:=.fields #[vl,vu,.none]}}
 exact tail_any (ops:=[.ref s3.heap.objs.size,v]) ht hT hg (by with_unfolding_all rfl)
noncomputable def cutV (xs:List V) (lo hi:Option Int):List V:=(xs.drop (HT.sIx xs.length 0 lo)).take (HT.sIx xs.length xs.length hi - HT.sIx xs.length 0 lo)
theorem zfE (xs:List V)(lo hi:Option Int):(cutV xs lo hi).length≤xs.length:=by
 unfold cutV
 rw [yW,yaF]
 omega
noncomputable def rSlT (K:PySem.W.Frag):V→Option Int→Option Int→Hp→VK→Prop:=fun x lo hi H Q=>∃ a xs,x= .ref a∧SqT K H a xs∧
 ¬(HT.sIx xs.length 0 lo=0∧HT.sIx xs.length xs.length hi=xs.length)∧∀ p,H p=none→Q (.ref p) (upd H p (.tup (cutV xs lo hi)))
theorem zjD:SlR X (rSlT X.K):=by
 intro pins s σ H x v vl vu lo hi sl Q I rx hs pl pu h
 obtain ⟨a,xs,rfl,hx,hw,q⟩:=h
 cases rx
 obtain ⟨its,r,ht,hz⟩:=I.tuple hx
 have hlen:its.toArray.size=xs.length:=by rw [qB];exact r.length.symm
 refine ⟨"tuple",_,xW.lookup,ht.typeIs,?_⟩
 refine HT.getItem_tuple_cut ht hs pl pu (by rw [hlen];exact hw) ?_ (by rw [hlen];exact hz)
 rw [hlen]
 refine ⟨.ref s.heap.objs.size,_,I.laid (t':=s.toks) (o:=.tup (cutV xs lo hi)) (fun b ob q=>yG _ q) (yJ _) ?_,rfl,q _ (I.hok.fresh (yJ _))⟩
 exact ⟨jA (zfE xs lo hi) hz,_,(r.drop (HT.sIx xs.length 0 lo)).take (HT.sIx xs.length xs.length hi - HT.sIx xs.length 0 lo),yb4 _ _⟩
noncomputable def rCatT (K:PySem.W.Frag):R2:=fun x y H Q=>∃ a b xs ys,x= .ref a∧y= .ref b∧SqT K H a xs∧SqT K H b ys∧xs≠[]∧xs.length+ys.length≤yH∧
 (ys= []→Q (.ref a) H)∧(ys≠[]→∀ p,H p=none→Q (.ref p) (upd H p (.tup (xs++ys))))
theorem Vals.nil_iff {xs:List V}{us:List Value}(r:Vals xs us):us= []↔xs= []:=by
 cases r with
 | nil=>simp
 | cons _ _=>simp
theorem zhx:OpR X (binaryOp .Add) (rCatT X.K):=by
 intro pins s σ H x y v u Q I rx ry h
 obtain ⟨a,b,xs,ys,rfl,rfl,ha,hb,hx,hz,q1,q2⟩:=h
 cases rx
 cases ry
 obtain ⟨its,r1,p1,_⟩:=I.tuple ha
 obtain ⟨its2,r2,p2,_⟩:=I.tuple hb
 refine HT.cat_tup p1 p2 (fun z=>hx (r1.nil_iff.mp z)) (fun z=>⟨.ref a,H,I,rfl,q1 (r2.nil_iff.mp z)⟩) (fun z=>?_) (by rw [← r1.length,← r2.length];exact hz)
 refine ⟨.ref s.heap.objs.size,_,I.laid (t':=s.toks) (o:=.tup (xs++ys)) (fun b ob q=>yG _ q) (yJ _) ?_,rfl,q2 (fun w=>z (r2.nil_iff.mpr w)) _ (I.hok.fresh (yJ _))⟩
 exact ⟨by rw [yI];exact hz,_,r1.append r2,yb4 _ _⟩
end
noncomputable def ixN (n:Nat) (i:Int):Option Nat:=if 0≤i then (if i < n then some i.toNat else none) else if -(n:Int)≤i then some (i+n).toNat else none
noncomputable def atI {α :Type} (xs:List α) (i:Int):Option α :=(ixN xs.length i).bind fun j=>xs[j]?
theorem zkQ {n:Nat}{i:Int}{j:Nat}(h:ixN n i=some j):seqIndex? i n=some j∧j < n∧-(n:Int)≤i∧i < n:=by
 unfold ixN at h
 by_cases h0: 0≤i
 ·rw [if_pos h0] at h
  by_cases h1:i < n
  ·rw [if_pos h1] at h
   have e:i.toNat=j:=yV h
   exact ⟨by rw [seqIndex_of h0 h1,e],by omega,by omega,h1⟩
  ·rw [if_neg h1] at h;cases h
 ·rw [if_neg h0] at h
  by_cases h1: -(n:Int)≤i
  ·rw [if_pos h1] at h
   have e:(i+n).toNat=j:=yV h
   exact ⟨by rw [seqIndex_neg (by omega) h1,e],by omega,h1,by omega⟩
  ·rw [if_neg h1] at h;cases h
theorem ziN {α :Type}{xs:List α}{i:Int}{v: α}(h:atI xs i=some v):∃ j,seqIndex? i xs.length=some j∧xs[j]? =some v∧j < xs.length∧-(xs.length:Int)≤i∧i < xs.length:=by
 unfold atI at h
 cases e:ixN xs.length i with
 | none=>rw [e] at h;cases h
 | some j=>
  rw [e] at h
  obtain ⟨h1,h2,h3,h4⟩:=zkQ e
  exact ⟨j,h1,h,h2,h3,h4⟩
theorem zb2 {α :Type}{xs:List α}{j:Nat}{v: α}(h:xs[j]? =some v):atI xs (j:Int)=some v:=by
 have hj:j < xs.length:=(yF.mp h).1
 have e:ixN xs.length (j:Int)=some j:=by
  unfold ixN
  rw [if_pos (by omega),if_pos (by omega)];simp
 unfold atI;rw [e];exact h
noncomputable def zlV (b:Expr):Prop:=∀ o i,subscripted b false o i=operate [o,i] (getItem o i)
noncomputable def IxR (X:Cx) (r:R2):Prop:=
 ∀ (value slice:Expr) (pins:List (Addr×Obj)) (s:Shared) (σ :St) (H:Hp) (x y:V) (v u:Value) (Q:VK),Inv X pins σ H s→RelV x v→RelV y u→r x y H Q→
  subscripted slice false v u=operate [v,u] (getItem v u)→wpAny (model X.prog X.w) X.A (subscriptTail value slice v u) (EP X pins σ Q) X.xe s
noncomputable def MtR (X:Cx) (id:String) (r:V→List V→Hp→VK→Prop):Prop:=
 ∀ (pins:List (Addr×Obj)) (s:Shared) (σ :St) (H:Hp) (x:V) (xs:List V) (v:Value) (us:List Value) (Q:VK),Inv X pins σ H s→RelV x v→Vals xs us→r x xs H Q→
  wpAny (model X.prog X.w) X.A (call (.builtin id) (v::us)) (EP X pins σ Q) X.xe s
section
variable {X:Cx} {a b:Expr} {ta tb:TE} {pos:Pos}
theorem pe_ix {r:R2}(hr:IxR X r)(ha:PE X a ta)(hb:PE X b tb)(hs:zlV b):PE X (.Subscript a b pos) (tOp r ta tb):=by
 intro pins s σ H Q I h
 exact Subscript_ (binT ha hb I h fun v u s2 x y H2 I2 rx ry q=>hr a b pins s2 σ H2 x y v u Q I2 rx ry q (hs _ _))
noncomputable def rIxL (K:PySem.W.Frag):R2:=fun x y H Q=>∃ p xs i v,x= .ref p∧y= .int i∧SqL K H p xs∧atI xs i=some v∧Q v H
noncomputable def rIxT (K:PySem.W.Frag):R2:=fun x y H Q=>∃ p xs i v,x= .ref p∧y= .int i∧SqT K H p xs∧atI xs i=some v∧Q v H
noncomputable def rIxS:R2:=fun x y H Q=>∃ z i c,x= .str z∧y= .int i∧z.length≤yH∧atI z.cps.toList i=some c∧Q (.str ⟨#[c]⟩) H
theorem zaJ:IxR X (rIxL X.K):=by
 intro value slice pins s σ H x y v u Q I rx ry h hs
 obtain ⟨p,xs,i,z,rfl,rfl,hq,he,q⟩:=h
 cases rx
 obtain ⟨t,rfl⟩:=ry
 obtain ⟨its,r,pl,hz⟩:=I.list hq
 obtain ⟨j,h1,h2,h3,h4,h5⟩:=ziN he
 obtain ⟨w,ew,rw'⟩:=r.get h2
 have hl:=r.length
 have hn:=zhZ
 have fin:EP X pins σ Q w s:=⟨z,H,I,rw',q⟩
 by_cases h0: 0≤i
 ·have hj:i.toNat=j:=by
   rw [seqIndex_of h0 h5] at h1
   exact yV h1
  exact item_listR pl.isList h0 (by omega) (by rw [hj];simpa using ew) fin hs
 ·have hj:(i+(its.toArray.size:Int)).toNat=j:=by
   rw [seqIndex_neg (by omega) h4] at h1
   rw [qB,← hl]
   exact yV h1
  exact subscriptTail_builtinR (x:=w) pl.isList.typeIs slot_list_getitem.lookup
   (wpAny_getItem_list_neg (Q:=fun r s'=>r=w∧EP X pins σ Q r s') pl.isList (by omega) (by rw [qB] <;> omega) (by omega) (by rw [hj];simpa using ew) ⟨rfl,fin⟩) hs
theorem zax:IxR X (rIxT X.K):=by
 intro value slice pins s σ H x y v u Q I rx ry h hs
 obtain ⟨p,xs,i,z,rfl,rfl,hq,he,q⟩:=h
 cases rx
 obtain ⟨t,rfl⟩:=ry
 obtain ⟨its,r,pl,hz⟩:=I.tuple hq
 obtain ⟨j,h1,h2,h3,h4,h5⟩:=ziN he
 obtain ⟨w,ew,rw'⟩:=r.get h2
 have hl:=r.length
 have hn:=zhZ
 have fin:EP X pins σ Q w s:=⟨z,H,I,rw',q⟩
 exact subscriptTail_builtinR (x:=w) pl.typeIs slot_tuple_getitem.lookup
  (getItem_tuple (j:=j) (Q:=fun r s'=>r=w∧EP X pins σ Q r s') pl (by omega) (by omega) (by rw [qB,← hl];exact h1) (by simpa using ew) ⟨rfl,fin⟩) hs
theorem ix_str:IxR X rIxS:=by
 intro value slice pins s σ H x y v u Q I rx ry h hs
 obtain ⟨z,i,c,rfl,rfl,hz,he,q⟩:=h
 obtain ⟨t,rfl⟩:=rx
 obtain ⟨t',rfl⟩:=ry
 obtain ⟨j,h1,h2,h3,h4,h5⟩:=ziN he
 have hl:z.cps.toList.length=z.length:=by simp [ybv]
 rw [hl] at h1 h4 h5
 have hn:=zhZ
 exact tail_any (typeIs_str s z t) slot_str_getitem.lookup (getItem_str (c:=c) (by
  have e1:decide (i < -(2 ^ 63:Int))=false:=decide_eq_false (by omega)
  have e2:decide (i ≥ 2 ^ 63)=false:=decide_eq_false (by omega)
  rw [e1,e2,ybm]) (by rw [h1];simpa using h2) ⟨.str ⟨#[c]⟩,H,I.tok _,⟨_,rfl⟩,q⟩) hs
theorem zkB (its:List Value)(n j:Nat)(u:Value):ya2 (·.setIfInBounds j u) {cls:=.type "list",data:=.seq its.toArray n}= {cls:=.type "list",data:=.seq (its.set j u).toArray n}:=by
 simp [ya2]
theorem Inv.lst {pins:List (Addr×Obj)}{σ :St}{H:Hp}{s:Shared}{p:Addr}{xs:List V}(I:Inv X pins σ H s)(h:H p=some (.lst xs)):
  ∃ (its:List Value) (n:Nat),Vals xs its∧s.heap.get? p=some {cls:=.type "list",data:=.seq its.toArray n}∧xs.length≤yH:=by
 obtain ⟨z,its,n,r,e⟩:=I.hok p _ h
 exact ⟨its,n,r,e,z⟩
theorem Inv.lstUpd {pins:List (Addr×Obj)}{σ :St}{H:Hp}{s:Shared}{p:Addr}{xs ys:List V}{its its':List Value}{n n':Nat}{f:Obj→Obj}(I:Inv X pins σ H s)(h:H p=some (.lst xs))
  (ho:s.heap.get? p=some {cls:=.type "list",data:=.seq its.toArray n}) (hf:f {cls:=.type "list",data:=.seq its.toArray n}= {cls:=.type "list",data:=.seq its'.toArray n'}) (r:Vals ys its') (hz:ys.length≤yH) (t:Nat):
  Inv X pins σ (upd H p (.lst ys)) {s with heap:=s.heap.update p f,toks:=t}:=by
 have e:(s.heap.update p f).get? p=some {cls:=.type "list",data:=.seq its'.toArray n'}:=by
  rw [Heap.get?_update_self f ho (by rw [hf] <;> rfl),hf]
 refine I.write (x:=p) (e:=p) (by rw [h];trivial) (.inl rfl) (fun b u hb q=>(vH _ _ (qX hb)).trans q) ⟨_,e⟩ ?_
 exact ⟨hz,its',n',r,e⟩
noncomputable def rSetL:V→V→V→Hp→(Hp→Prop)→Prop:=fun o i v H Q=>∃ p xs k j,o= .ref p∧i= .int k∧H p=some (.lst xs)∧ixN xs.length k=some j∧Q (upd H p (.lst (xs.set j v)))
theorem zm8:PSet X rSetL:=by
 intro pins s σ H o i v ov iv u Q I ro ri rv h
 obtain ⟨p,xs,k,j,rfl,rfl,hp,hj,q⟩:=h
 cases ro
 obtain ⟨t,rfl⟩:=ri
 obtain ⟨its,n,r,ho,hz⟩:=I.lst hp
 obtain ⟨h1,h2,h3,h4⟩:=zkQ hj
 have hl:=r.length
 have hn:=zhZ
 have I':Inv X pins σ (upd H p (.lst (xs.set j v))) {s with heap:=s.heap.update p (ya2 (·.setIfInBounds j u))}:=
  I.lstUpd hp ho (zkB its n j u) (r.set rv j) (by rw [List.length_set];exact hz) s.toks
 by_cases h0: 0≤k
 ·have hk:k.toNat=j:=by
   rw [seqIndex_of h0 h4] at h1
   exact yV h1
  exact PySem.W.ki_setAt ho h0 (by omega) (by rw [qB,← hl];exact h4) (by rw [hk];exact ⟨_,I',q⟩)
 ·have hk:(k+(its.toArray.size:Int)).toNat=j:=by
   rw [seqIndex_neg (by omega) h3] at h1
   rw [qB,← hl]
   exact yV h1
  exact PySem.W.ki_setBack ho (by omega) (by rw [qB,← hl];exact h3) (by omega) (by rw [hk];exact ⟨_,I',q⟩)
theorem zhE (lo hi:Option Int)(n:Nat):(sliceBounds lo hi none n).1=((HT.sIx n 0 lo:Nat):Int)∧(sliceBounds lo hi none n).2.1=((HT.sIx n n hi:Nat):Int)∧(sliceBounds lo hi none n).2.2=1:=by
 refine ⟨?_,?_,rfl⟩
 ·cases lo with
  | none=>simp [sliceBounds,HT.sIx]
  | some i=>
   simp only [sliceBounds,HT.sIx,ybH,show (1:Int) > 0 by decide,if_true]
   by_cases h:i < 0
   ·simp only [h,if_true] <;> omega
   ·simp only [h,if_false] <;> omega
 ·cases hi with
  | none=>simp [sliceBounds,HT.sIx]
  | some i=>
   simp only [sliceBounds,HT.sIx,ybH,show (1:Int) > 0 by decide,if_true]
   by_cases h:i < 0
   ·simp only [h,if_true] <;> omega
   ·simp only [h,if_false] <;> omega
theorem zgY (its:List Value)(lo hi:Option Int):slicePick its.toArray lo hi none=((its.drop (HT.sIx its.length 0 lo)).take (HT.sIx its.length its.length hi - HT.sIx its.length 0 lo)).toArray:=by
 obtain ⟨h1,h2,h3⟩:=zhE lo hi its.toArray.size
 unfold slicePick
 rw [h1,h2,h3]
 simp only [sliceRange_one,pick_run,qB] <;> rfl
noncomputable def rSlL (K:PySem.W.Frag):V→Option Int→Option Int→Hp→VK→Prop:=fun x lo hi H Q=>∃ a xs,x= .ref a∧SqL K H a xs∧∀ p,H p=none→Q (.ref p) (upd H p (.lst (cutV xs lo hi)))
theorem ziE:SlR X (rSlL X.K):=by
 intro pins s σ H x v vl vu lo hi sl Q I rx hs pl pu h
 obtain ⟨a,xs,rfl,hx,q⟩:=h
 cases rx
 obtain ⟨its,r,ht,hz⟩:=I.list hx
 have hlen:=r.length
 refine ⟨"list",_,slot_list_getitem.lookup,ht.isList.typeIs,?_⟩
 refine wpAny_getItem_list_slice ht.isList hs pl pu .none (by simp) ?_ (by rw [qB] <;> omega)
 rw [zgY,← hlen]
 refine ⟨.ref s.heap.objs.size,_,I.laid (t':=s.toks) (o:=.lst (cutV xs lo hi)) (fun b ob q=>yG _ q) (yJ _) ?_,rfl,q _ (I.hok.fresh (yJ _))⟩
 exact ⟨jA (zfE xs lo hi) hz,_,0,(r.drop (HT.sIx xs.length 0 lo)).take (HT.sIx xs.length xs.length hi - HT.sIx xs.length 0 lo),yZ _ rfl⟩
noncomputable def zh7:V→Bool
 | .non=>true
 | .bl _=>true
 | .int _=>true
 | .str _=>true
 | _=>false
noncomputable def eqV:V→V→Bool
 | .non,.non=>true
 | .bl a,.bl b=>a==b
 | .bl a,.int b=>(if a then 1 else 0)==b
 | .int a,.bl b=>a==(if b then 1 else 0)
 | .int a,.int b=>a==b
 | .str a,.str b=>a==b
 | _,_=>false
theorem eqAt_V {A:Around}{s:Shared}{y x:V}{u v:Value}(ry:RelV y u)(rx:RelV x v)(fy:zh7 y=true)(fx:zh7 x=true):jO A s u v (eqV y x):=by
 cases y with
 | non=>
  cases ry
  cases x with
  | non=>cases rx;exact jO.same _
  | bl b=>cases rx;exact jO.none_bool b
  | int b=>obtain ⟨t,rfl⟩:=rx;exact jO.none_int b t
  | str b=>obtain ⟨t,rfl⟩:=rx;exact jO.none_str b t
  | _=>exact absurd (show false=true from fx) qG
 | bl a=>
  cases ry
  cases x with
  | non=>cases rx;exact jO.bool_none a
  | bl b=>cases rx;exact jO.bool_bool a b
  | int b=>obtain ⟨t,rfl⟩:=rx;exact jO.bool_int a b t
  | str b=>obtain ⟨t,rfl⟩:=rx;exact jO.bool_str a b t
  | _=>exact absurd (show false=true from fx) qG
 | int a=>
  obtain ⟨t',rfl⟩:=ry
  cases x with
  | non=>cases rx;exact jO.int_none a t'
  | bl b=>cases rx;exact jO.int_bool a t' b
  | int b=>obtain ⟨t,rfl⟩:=rx;exact jO.int_int a t' b t
  | str b=>obtain ⟨t,rfl⟩:=rx;exact ybg a t' b t
  | _=>exact absurd (show false=true from fx) qG
 | str a=>
  obtain ⟨t',rfl⟩:=ry
  cases x with
  | non=>cases rx;exact jO.str_none a t'
  | bl b=>cases rx;exact jO.str_bool a t' b
  | int b=>obtain ⟨t,rfl⟩:=rx;exact ybh a t' b t
  | str b=>obtain ⟨t,rfl⟩:=rx;exact jO.str_str a t' b t
  | _=>exact absurd (show false=true from fx) qG
 | _=>exact absurd (show false=true from fy) qG
noncomputable def eqU (x:V) (u:Value):Bool:=match u with
 | .none=>eqV .non x
 | .bool b=>eqV (.bl b) x
 | .int i _=>eqV (.int i) x
 | .str z _=>eqV (.str z) x
 | _=>false
theorem znB {x y:V}{u:Value}(r:RelV y u)(f:zh7 y=true):eqU x u=eqV y x:=by
 cases y with
 | non=>cases r;rfl
 | bl b=>cases r;rfl
 | int i=>obtain ⟨t,rfl⟩:=r;rfl
 | str z=>obtain ⟨t,rfl⟩:=r;rfl
 | _=>exact absurd (show false=true from f) qG
theorem zf2 {x:V}:∀ {xs:List V} {us:List Value},Vals xs us→xs.all zh7=true→us.any (eqU x)=xs.any fun y=>eqV y x
 | _,_,.nil,_=>rfl
 | y::xs,u::us,.cons r t,f=>by
  rw [List.all_cons,jE] at f
  rw [wD,wD,znB r f.1,zf2 t f.2]
theorem zew {A:Around}{s:Shared}{x:V}{v:Value}(rx:RelV x v)(fx:zh7 x=true):∀ {xs:List V} {us:List Value},Vals xs us→xs.all zh7=true→∀ u∈us,jO A s u v (eqU x u)
 | _,_,.nil,_=>fun u hu=>by cases hu
 | y::xs,u::us,.cons r t,f=>fun u' hu=>by
  rw [List.all_cons,jE] at f
  rcases yN.mp hu with rfl | hu
  ·rw [znB r f.1];exact eqAt_V r rx f.1 fx
  ·exact zew rx fx t f.2 u' hu
noncomputable def inV (x:V) (xs:List V):Bool:=xs.any fun y=>eqV y x
noncomputable def rIn (K:PySem.W.Frag) (neg:Bool):R2:=fun x y H Q=>∃ p xs,y= .ref p∧(SqL K H p xs∨SqT K H p xs)∧zh7 x=true∧xs.all zh7=true∧Q (.bl (if neg then !inV x xs else inV x xs)) H
theorem zf1:OpR X (compareOp .In) (rIn X.K false):=by
 intro pins s σ H x y v u Q I rx ry h
 obtain ⟨p,xs,rfl,hq,fx,fs,q⟩:=h
 cases ry
 rcases hq with hq | hq
 ·obtain ⟨its,r,pl,hz⟩:=I.list hq
  refine SeqAt.in_listAt (eqU x) pl.isList (fun w hw=>zew rx fx r fs w (by simpa using hw)) ⟨.bl _,H,I,rfl,?_⟩
  rw [show its.toArray.any (eqU x)=its.any (eqU x) by simp,zf2 r fs]
  exact q
 ·obtain ⟨its,r,pl,hz⟩:=I.tuple hq
  refine SeqAt.in_tupleAt (eqU x) pl (fun w hw=>zew rx fx r fs w (by simpa using hw)) ⟨.bl _,H,I,rfl,?_⟩
  rw [show its.toArray.any (eqU x)=its.any (eqU x) by simp,zf2 r fs]
  exact q
theorem ziz:OpR X (compareOp .NotIn) (rIn X.K true):=by
 intro pins s σ H x y v u Q I rx ry h
 obtain ⟨p,xs,rfl,hq,fx,fs,q⟩:=h
 cases ry
 rcases hq with hq | hq
 ·obtain ⟨its,r,pl,hz⟩:=I.list hq
  refine ybn (eqU x) pl.isList (fun w hw=>zew rx fx r fs w (by simpa using hw)) ⟨.bl _,H,I,rfl,?_⟩
  rw [show its.toArray.any (eqU x)=its.any (eqU x) by simp,zf2 r fs]
  exact q
 ·obtain ⟨its,r,pl,hz⟩:=I.tuple hq
  refine SeqAt.notIn_tupleAt (eqU x) pl (fun w hw=>zew rx fx r fs w (by simpa using hw)) ⟨.bl _,H,I,rfl,?_⟩
  rw [show its.toArray.any (eqU x)=its.any (eqU x) by simp,zf2 r fs]
  exact q
theorem zau:zcZ X (.builtin "len") (fun xs H Q=>∃ p ys,xs= [.ref p]∧(SqL X.K H p ys∨SqT X.K H p ys)∧Q (.int ys.length) H):=by
 intro pins s σ H xs us Q I r h
 obtain ⟨p,ys,rfl,hq,q⟩:=h
 obtain ⟨u,rfl,rx⟩:=zhb r
 cases rx
 have hn:=zhZ
 rcases hq with hq | hq
 ·obtain ⟨its,r',pl,hz⟩:=I.list hq
  have hlen:=r'.length
  exact Calls.call_len_list pl.isList (by simp only [qB] <;> omega) ⟨.int ys.length,H,I.tok _,⟨s.toks+1,by rw [qB,hlen]⟩,q⟩
 ·obtain ⟨its,r',pl,hz⟩:=I.tuple hq
  have hlen:=r'.length
  exact len_tuple pl (by simp only [qB] <;> omega) ⟨.int ys.length,H,I.tok _,⟨s.toks+1,by rw [qB,hlen]⟩,q⟩
theorem zdf:zcZ X (.type "list") (fun xs H Q=>∃ p ys,xs= [.ref p]∧(SqL X.K H p ys∨SqT X.K H p ys)∧∀ l,H l=none→Q (.ref l) (upd H l (.lst ys))):=by
 intro pins s σ H xs us Q I r h
 obtain ⟨p,ys,rfl,hq,q⟩:=h
 obtain ⟨u,rfl,rx⟩:=zhb r
 cases rx
 have fin:∀ (its:List Value),Vals ys its→ys.length≤yH→∀ (h':Heap) (c':Nat),(∀ b o',s.heap.get? b=some o'→h'.get? b=some o')→
   h'.get? s.heap.objs.size=some {cls:=.type "list",dict:=none,data:=.seq its.toArray c',slots:=#[]}→EP X pins σ Q (.ref s.heap.objs.size) {s with heap:=h'}:=fun its r' hz h' c' kp e=>
  ⟨.ref s.heap.objs.size,_,I.laid (t':=s.toks) kp (yJ _) (show zba X.prog X.w _ h' _ (.lst ys) from ⟨hz,its,c',r',e⟩),rfl,q _ (I.hok.fresh (yJ _))⟩
 rcases hq with hq | hq
 ·obtain ⟨its,r',pl,hz⟩:=I.list hq
  have hlen:=r'.length
  obtain ⟨o,ho,hc,n,hd⟩:=pl.isList
  exact call_list_seq p (.inl rfl) ho hc hd (fun h' c' kp e=>fin its r' hz h' c' kp e) (by simp only [qB] <;> omega)
 ·obtain ⟨its,r',pl,hz⟩:=I.tuple hq
  have hlen:=r'.length
  obtain ⟨o,ho,hc,n,hd⟩:=pl
  exact call_list_seq p (.inr rfl) ho hc hd (fun h' c' kp e=>fin its r' hz h' c' kp e) (by simp only [qB] <;> omega)
theorem zcQ:zcZ X (.type "tuple") (fun xs H Q=>∃ p ys,xs= [.ref p]∧((SqL X.K H p ys∧∀ l,H l=none→Q (.ref l) (upd H l (.tup ys)))∨(SqT X.K H p ys∧Q (.ref p) H))):=by
 intro pins s σ H xs us Q I r h
 obtain ⟨p,ys,rfl,h⟩:=h
 obtain ⟨u,rfl,rx⟩:=zhb r
 cases rx
 rcases h with ⟨hq,q⟩ | ⟨hq,q⟩
 ·obtain ⟨its,r',pl,hz⟩:=I.list hq
  have hlen:=r'.length
  refine call_tuple_list pl.isList (fun h' kp=>?_) (by simp only [qB] <;> omega)
  have I1:Inv X pins σ H {s with heap:=h'}:=I.kept (t':=s.toks) kp
  have I2:Inv X pins σ (upd H h'.objs.size (.tup ys)) {s with heap:=h'.push {cls:=.type "tuple",data:=.seq its.toArray}}:=
   I1.laid (t':=s.toks) (fun b o e=>yG _ e) (yJ _) (show zba X.prog X.w _ _ _ (.tup ys) from ⟨hz,its,r',yb4 _ _⟩)
  exact ⟨.ref h'.objs.size,_,I2,rfl,q _ (I1.hok.fresh (yJ _))⟩
 ·obtain ⟨its,r',pl,hz⟩:=I.tuple hq
  exact call_tuple_same pl ⟨.ref p,H,I,rfl,q⟩
noncomputable def tyV (K:PySem.W.Frag) (T:String) (x:V) (H:Hp):Prop:=match x with
 | .str _=>T="str"
 | .int _=>T="int"
 | .ref p=>(T="list"∧∃ xs,SqL K H p xs)∨(T="tuple"∧∃ o,K.lookup p=some o∧o.cls= .type "tuple"∧o.dict=none)∨
   (T="dict"∧((∃ kvs,H p=some (.dK kvs))∨∃ kvs,H p=some (.dT kvs)))∨(T="set"∧∃ S n,H p=some (.set S n))
 | _=>False
theorem znD {pins:List (Addr×Obj)}{σ :St}{H:Hp}{s:Shared}{T:String}{x:V}{v:Value}(I:Inv X pins σ H s)(r:RelV x v)(ty:tyV X.K T x H):
  s.TypeIs v T∧∀ a,v= .ref a→∃ ob,s.heap.get? a=some ob∧ob.dict=none:=by
 cases x with
 | str z=>
  obtain ⟨t,rfl⟩:=r
  cases (show T="str" from ty)
  exact ⟨typeIs_str s z t,fun _ e=>nomatch e⟩
 | int i=>
  obtain ⟨t,rfl⟩:=r
  cases (show T="int" from ty)
  exact ⟨typeIs_int s i t,fun _ e=>nomatch e⟩
 | ref p=>
  cases r
  rcases ty with ⟨rfl,xs,hq⟩ | ⟨rfl,o,hk,hc,hd⟩ | ⟨rfl,hk⟩ | ⟨rfl,S,n,hk⟩
  ·obtain ⟨its,_,pl,_⟩:=I.list hq
   refine ⟨pl.isList.typeIs,fun a e=>?_⟩
   cases e
   obtain ⟨o,n,e,c,hd,_⟩:=pl
   exact ⟨o,e,hd⟩
  ·refine ⟨⟨o,I.kIn p o hk,hc⟩,fun a e=>?_⟩
   cases e
   exact ⟨o,I.kIn _ o hk,hd⟩
  ·have z:∃ o,s.heap.get? p=some o∧o.ExactDict:=by
    rcases hk with ⟨kvs,hk⟩ | ⟨kvs,hk⟩
    ·obtain ⟨_,_,_,_,o,_,_,e,ex,_⟩:=I.hok p _ hk
     exact ⟨o,e,ex⟩
    ·obtain ⟨_,_,_,_,o,_,_,e,ex,_⟩:=I.hok p _ hk
     exact ⟨o,e,ex⟩
   obtain ⟨o,e,ex⟩:=z
   refine ⟨⟨o,e,ex.1⟩,fun a e2=>?_⟩
   cases e2
   exact ⟨o,e,ex.2.1⟩
  ·obtain ⟨o,_,_,_,e,ex,_⟩:=I.hok p _ hk
   refine ⟨⟨o,e,ex.1⟩,fun a e2=>?_⟩
   cases e2
   exact ⟨o,e,ex.2.1⟩
 | _=>exact xN ty
noncomputable def tBM0 (K:PySem.W.Frag) (T:String) (r:V→List V→Hp→VK→Prop) (to:TE):TE:=fun σ H Q=>to σ H fun x H1=>tyV K T x H1∧r x [] H1 Q
noncomputable def tBM (K:PySem.W.Frag) (T:String) (r:V→List V→Hp→VK→Prop) (to:TE) (t:TA):TE:=fun σ H Q=>to σ H fun x H1=>tyV K T x H1∧t σ H1 fun xs H2=>r x xs H2 Q
variable {o e:Expr} {es:List Expr} {to:TE} {t:TA} {name:Str} {apos cpos:Pos} {T id:String} {r:V→List V→Hp→VK→Prop}
theorem pe_bm0 (pa:PlainAttrs T)(slot:Slot T name id)(hty:typeOf (.builtin id)=pure (.type "method_descriptor"))(hm:MtR X id r)(ho:PE X o to)
  (hbase:attributeBase o name X.env (eval o X.env)=eval o X.env:=by rfl) (hline:(apos.endLine==cpos.line)=true:=by rfl):PE X (.Call (.Attribute o name apos) [] [] cpos) (tBM0 X.K T r to):=by
 intro pins s σ H Q I h
 refine wpAny_Call_method0_late hbase hline (thn (ho pins s σ H _ I h) fun v s1 ⟨x,H1,I1,r1,ty,q1⟩=>?_)
 obtain ⟨h1,h2⟩:=znD I1 r1 ty
 exact ⟨T,id,pa,slot,hty,h1,h2,vI rfl (ybb (hm pins s1 σ H1 x [] v [] Q I1 r1 .nil q1))⟩
theorem pe_bm (pa:PlainAttrs T)(slot:Slot T name id)(hty:typeOf (.builtin id)=pure (.type "method_descriptor"))(hm:MtR X id r)(ho:PE X o to)(ha:PA X (e::es) t)
  (hbase:attributeBase o name X.env (eval o X.env)=eval o X.env:=by rfl)
  (hfew:((backTo cpos (starEach (e::es) X.env)).all (fun x=>!x.1) && (backToKw cpos (keywordEach [] X.env)).all (fun x=>x.1.isSome)
   && decide ((e::es).length+([]:List Keyword).length+(if ([]:List Keyword).isEmpty then 0 else 1) < 30))=true:=by rfl)
  (hline:(apos.endLine==cpos.line)=true:=by rfl) (hs:starEach (e::es) X.env=(false,eval e X.env)::starEach es X.env:=by rfl) (hplain:(backTo cpos (starEach es X.env)).any (·.1)=false:=by rfl):
  PE X (.Call (.Attribute o name apos) (e::es) [] cpos) (tBM X.K T r to t):=by
 intro pins s σ H Q I h
 refine wpAny_Call_method_late hbase hfew hline rfl (thn (ho pins s σ H _ I h) fun v s1 ⟨x,H1,I1,r1,ty,q1⟩=>?_)
 obtain ⟨h1,h2⟩:=znD I1 r1 ty
 refine ⟨T,id,pa,slot,hty,h1,h2,?_⟩
 have hA:=ha cpos pins s1 σ H1 _ I1 q1
 rw [hs] at hA ⊢
 refine vI (by show (false || (backTo cpos (starEach es X.env)).any (·.1))=false;rw [hplain] <;> rfl) (wZ ?_)
 exact thn hA fun us s2 ⟨vs,H2,I2,r2,q2⟩=>hm pins s2 σ H2 x vs v us Q I2 r1 r2 q2
end
noncomputable def MtM (X:Cx) (id:String) (r:V→List V→Hp→VK→Prop):Prop:=
 ∀ (pins:List (Addr×Obj)) (s:Shared) (σ :St) (H:Hp) (x:V) (xs:List V) (v:Value) (us:List Value) (Q:VK),Inv X pins σ H s→RelV x v→Vals xs us→r x xs H Q→
  wpAny (model X.prog X.w) X.A (call (.builtin id) (v::us)) (EP X pins σ Q) X.xe s
theorem Vals.one:∀ {x:V} {us:List Value},Vals [x] us→∃ u,us= [u]∧RelV x u
 | _,_,.cons r .nil=>⟨_,rfl,r⟩
section
variable {X:Cx} {pins:List (Addr×Obj)} {σ :St} {H:Hp} {s:Shared} {l b:Addr} {xs ys zs:List V}
theorem Inv.lset {its its':List Value}{n:Nat}{f:Array Value→Array Value}{t':Nat}(I:Inv X pins σ H s)(hH:H l=some (.lst xs))
  (e:s.heap.get? l=some {cls:=.type "list",data:=.seq its.toArray n}) (hf:f its.toArray=its'.toArray) (hv:Vals ys its') (hz:ys.length≤yH):
  Inv X pins σ (upd H l (.lst ys)) {s with heap:=s.heap.update l (ya2 f),toks:=t'}:=by
 have q:=PySem.IsL.update e f
 rw [hf] at q
 refine I.write (x:=l) (e:=l) (by rw [hH];exact trivial) (.inl rfl) (fun b' u hb hu=>(vH s.heap (ya2 f) (qX hb)).trans hu) ⟨_,q⟩ ?_
 exact ⟨hz,its',_,hv,q⟩
theorem Inv.lnew {its:List Value}{t':Nat}(I:Inv X pins σ H s)(hv:Vals ys its)(hz:ys.length≤yH):
  Inv X pins σ (upd H s.heap.objs.size (.lst ys)) {s with heap:=s.heap.push {cls:=.type "list",data:=.seq its.toArray},toks:=t'}:=
 I.laid (fun _ _ q=>yG _ q) (yJ _) ⟨hz,its,0,hv,yZ _ rfl⟩
theorem Inv.fresh (I:Inv X pins σ H s):H s.heap.objs.size=none:=I.hok.fresh (yJ _)
theorem Inv.lstM (I:Inv X pins σ H s)(hH:H l=some (.lst xs)):xs.length≤yH∧∃ (its:List Value) (n:Nat),Vals xs its∧xs.length=its.length∧s.heap.get? l=some {cls:=.type "list",data:=.seq its.toArray n}:=by
 obtain ⟨z,its,n,r,e⟩:=I.hok l _ hH
 exact ⟨z,its,n,r,r.length,e⟩
end
section
variable {X:Cx}
noncomputable def zoR:V→List V→Hp→VK→Prop:=fun x vs H Q=>∃ l xs y,x= .ref l∧vs= [y]∧H l=some (.lst xs)∧xs.length < yH∧Q .non (upd H l (.lst (xs++ [y])))
theorem zbc:MtM X "list.append" zoR:=by
 intro pins s σ H x vs v us Q I rx rv h
 obtain ⟨l,xs,y,rfl,rfl,hH,hz,q⟩:=h
 cases rx
 obtain ⟨u,rfl,ru⟩:=rv.one
 obtain ⟨z,its,n,r,hl,e⟩:=I.lstM hH
 refine call_meets F.slot_list_append ⟨_,e,rfl⟩ F.entry_list_append (F.args_list_append_2 _ _) (PySem.list_append l its.toArray n u (by rw [qB];omega)) ⟨e,?_⟩
 refine ⟨.non,_,I.lset (its':=its++ [u]) hH e (by simp) (r.append (.cons ru .nil)) ?_,rfl,q⟩
 rw [yI,qM]
 omega
noncomputable def rCat:R2:=fun x y H Q=>∃ l b xs zs,x= .ref l∧y= .ref b∧H l=some (.lst xs)∧H b=some (.lst zs)∧xs.length+zs.length≤yH∧∀ p,H p=none→Q (.ref p) (upd H p (.lst (xs++zs)))
theorem zeW:OpR X (binaryOp .Add) rCat:=by
 intro pins s σ H x y v u Q I rx ry h
 obtain ⟨l,b,xs,zs,rfl,rfl,hH,hB,hz,q⟩:=h
 cases rx
 cases ry
 obtain ⟨z,its,n,r,hl,e⟩:=I.lstM hH
 obtain ⟨z2,its2,n2,r2,hl2,e2⟩:=I.lstM hB
 refine PySem.P.add_list e e2 ?_ (by rw [qB,qB];omega)
 have ea:its.toArray++its2.toArray=(its++its2).toArray:=by simp
 rw [ea]
 exact ⟨.ref _,_,I.lnew (t':=s.toks) (r.append r2) (by rw [yI];omega),rfl,q _ I.fresh⟩
end
section
variable {prog:Program} {w:World} {A:Around} {E:Value→Shared→Prop} {s:Shared}
end
section
variable {X:Cx}
end
section
variable {κ :Type} [DecidableEq κ]
noncomputable def valV (kvs:List (κ×V)) (k: κ):Option V:=(kvs.find? fun kv=>decide (kv.1=k)).map (·.2)
noncomputable def putK (kvs:List (κ×V)) (k: κ) (v:V):List (κ×V):=
 if (kvs.any fun kv=>decide (kv.1=k))=true then kvs.map (fun kv=>if kv.1=k then (kv.1,v) else kv) else kvs++ [(k,v)]
theorem zfd {p: κ×V}{r:List (κ×V)}{k: κ}(e:p.1=k):valV (p::r) k=some p.2:=by simp [valV,xM,e]
theorem ze9 {p: κ×V}{r:List (κ×V)}{k: κ}(e:¬p.1=k):valV (p::r) k=valV r k:=by simp [valV,xM,e]
theorem zhv (k: κ):∀ kvs:List (κ×V),(kvs.any fun kv=>decide (kv.1=k))=(valV kvs k).isSome
 | []=>rfl
 | p::r=>by
  rw [wD]
  by_cases e:p.1=k
  ·simp only [zfd e,decide_eq_true e,Bool.true_or,Option.isSome_some]
  ·rw [ze9 e,decide_eq_false e,Bool.false_or];exact zhv k r
theorem zcW (kvs:List (κ×V))(k: κ)(v:V):(putK kvs k v).length≤kvs.length+1:=by
 unfold putK
 split
 ·rw [yA];omega
 ·rw [yI,yO,wE];omega
theorem zjJ {kvs:List (κ×V)}{k: κ}(v:V)(h:valV kvs k=none):putK kvs k v=kvs++ [(k,v)]:=by
 unfold putK
 rw [zhv,h]
 exact if_neg (by decide)
theorem RelO.isSome_eq {o:Option V}{u:Option Value}(r:RelO o u):o.isSome=u.isSome:=by
 cases o with
 | none=>cases u with
  | none=>rfl
  | some _=>exact (show False from r).elim
 | some _=>cases u with
  | none=>exact (show False from r).elim
  | some _=>rfl
theorem RelO.getD {o:Option V}{u:Option Value}{d:V}{d':Value}(r:RelO o u)(rd:RelV d d'):RelV (o.getD d) (u.getD d'):=by
 cases o with
 | none=>cases u with
  | none=>exact rd
  | some _=>exact (show False from r).elim
 | some _=>cases u with
  | none=>exact (show False from r).elim
  | some _=>exact r
theorem KV.val {kvs:List (κ×V)}{vs:List (κ×Value)}(r:KV kvs vs)(k: κ):RelO (valV kvs k) (valueAt vs k):=by
 unfold KV at r
 induction r with
 | nil=>exact True.intro
 | @cons p q ps qs h t ih=>
  obtain ⟨h1,h2⟩:=h
  by_cases e:p.1=k
  ·have e':q.1=k:=h1.symm.trans e
   have b:valueAt (q::qs) k=some q.2:=by simp [valueAt,xM,e']
   rw [zfd e,b];exact h2
  ·have e':¬q.1=k:=fun z=>e (h1.trans z)
   have b:valueAt (q::qs) k=valueAt qs k:=by simp [valueAt,xM,e']
   rw [ze9 e,b];exact ih
theorem KV.any {kvs:List (κ×V)}{vs:List (κ×Value)}(r:KV kvs vs)(k: κ):(kvs.any fun kv=>decide (kv.1=k))=vs.any fun kv=>decide (kv.1=k):=by
 unfold KV at r
 induction r with
 | nil=>rfl
 | cons h t ih=>rw [wD,wD,ih,h.1]
theorem KV.repl {kvs:List (κ×V)}{vs:List (κ×Value)}(r:KV kvs vs)(k: κ){y:V}{u:Value}(ry:RelV y u):
  KV (kvs.map fun kv=>if kv.1=k then (kv.1,y) else kv) (vs.map fun kv=>if kv.1=k then (kv.1,u) else kv):=by
 unfold KV at r ⊢
 induction r with
 | nil=>exact .nil
 | @cons p q ps qs h t ih=>
  rw [qJ,qJ]
  refine .cons ?_ ih
  obtain ⟨h1,h2⟩:=h
  by_cases e:p.1=k
  ·rw [if_pos e,if_pos (h1.symm.trans e)];exact ⟨h1,ry⟩
  ·rw [if_neg e,if_neg (fun z=>e (h1.trans z))];exact ⟨h1,h2⟩
theorem KV.put {kvs:List (κ×V)}{vs:List (κ×Value)}(r:KV kvs vs)(k: κ){y:V}{u:Value}(ry:RelV y u):KV (putK kvs k y) (stored vs k u):=by
 unfold putK stored
 rw [r.any k]
 by_cases e:(vs.any fun kv=>decide (kv.1=k))=true
 ·rw [if_pos e,if_pos e];exact r.repl k ry
 ·rw [if_neg e,if_neg e];exact ybT r ⟨rfl,ry⟩
theorem KV.length {kvs:List (κ×V)}{vs:List (κ×Value)}(r:KV kvs vs):kvs.length=vs.length:=vU r
end
theorem zkm {P:Program}{w:World}{k:Key}{u:Value}(r:RelV (kV k) u):(zaI P w).is k u=true:=by
 cases k with
 | inl i=>obtain ⟨t,e⟩:=(show ∃ t,u=Value.int i t from r);subst e;exact ziH P w i t
 | inr x=>obtain ⟨t,e⟩:=(show ∃ t,u=Value.str x t from r);subst e;exact zi8 P w x t
theorem zh5 {P:Program}{w:World}:∀ {ks:List Key} {us:List Value},Vals (ks.map kV) us→ItemsAre (zaI P w) ks us
 | [],_,r=>by rw [ybF] at r;cases r;exact .nil
 | k::ks,_,r=>by
  rw [qJ] at r
  cases r with
  | cons h t=>exact .cons (zkm h) (zh5 t)
noncomputable abbrev KT (H:Hp):List (List Key×V)→List (List Key×Addr×Value)→Prop:=Paired fun p q=>p.1=q.1∧RdT H q.2.1 (p.1.map kV)∧RelV p.2 q.2.2
theorem KT.val {H:Hp}{kvs:List (List Key×V)}{xs:List (List Key×Addr×Value)}(r:KT H kvs xs)(k:List Key):RelO (valV kvs k) ((atKey xs k).map (·.2)):=by
 induction r with
 | nil=>exact True.intro
 | @cons p q ps qs h t ih=>
  obtain ⟨h1,_,h2⟩:=h
  by_cases e:p.1=k
  ·have e':q.1=k:=h1.symm.trans e
   have b:atKey (q::qs) k=some q.2:=by simp [atKey,xM,e']
   rw [zfd e,b];exact h2
  ·have e':¬q.1=k:=fun z=>e (h1.trans z)
   have b:atKey (q::qs) k=atKey qs k:=by simp [atKey,xM,e']
   rw [ze9 e,b];exact ih
theorem KT.repl {H:Hp}{kvs:List (List Key×V)}{xs:List (List Key×Addr×Value)}(r:KT H kvs xs)(k:List Key){y:V}{u:Value}(ry:RelV y u):
  KT H (kvs.map fun kv=>if kv.1=k then (kv.1,y) else kv) (xs.map (putAt k u)):=by
 induction r with
 | nil=>exact .nil
 | @cons p q ps qs h t ih=>
  rw [qJ,qJ]
  refine .cons ?_ ih
  obtain ⟨h1,h2,h3⟩:=h
  unfold putAt
  by_cases e:p.1=k
  ·rw [if_pos e,if_pos (h1.symm.trans e)];exact ⟨h1,h2,ry⟩
  ·rw [if_neg e,if_neg (fun z=>e (h1.trans z))];exact ⟨h1,h2,h3⟩
theorem KT.put {H:Hp}{kvs:List (List Key×V)}{xs:List (List Key×Addr×Value)}(r:KT H kvs xs)(k:List Key){b:Addr}{y:V}{u:Value}(hb:RdT H b (k.map kV))(ry:RelV y u):
  KT H (putK kvs k y) (storedH xs k b u):=by
 have e:(kvs.any fun kv=>decide (kv.1=k))=(atKey xs k).isSome:=by
  rw [zhv,(r.val k).isSome_eq,ybw]
 unfold putK storedH
 rw [e]
 by_cases q:(atKey xs k).isSome=true
 ·rw [if_pos q,if_pos q];exact r.repl k ry
 ·rw [if_neg q,if_neg q];exact ybT r ⟨rfl,hb,ry⟩
theorem KT.keeps {H H':Hp}{kvs:List (List Key×V)}{xs:List (List Key×Addr×Value)}(r:KT H kvs xs)(ht:∀ b ys,RdT H b ys→RdT H' b ys):KT H' kvs xs:=
 Paired.mapP r fun _ _ z=>⟨z.1,ht _ _ z.2.1,z.2.2⟩
section
variable {P:Program} {w:World} {H:Hp} {h:Heap} {a:Addr}
theorem rd_of {u:HO}(ok:HOk P w H h)(e:Rd H a u):zba P w H h a u:=e.ok ok
theorem zj1 {kvs:List (Key×V)}(ok:HOk P w H h)(e:Rd H a (.dK kvs)):kvs.length≤yH∧(a==sysModules)=false∧∃ vs,KV kvs vs∧h.DictOf (zaI P w) a vs:=
 show zba P w H h a (.dK kvs) from rd_of ok e
theorem dk_of {kvs:List (Key×V)}(ok:HOk P w H h)(e:H a=some (.dK kvs)):kvs.length≤yH∧(a==sysModules)=false∧∃ vs,KV kvs vs∧h.DictOf (zaI P w) a vs:=zj1 ok (.inl e)
theorem zfl {ks:List Key}(ok:HOk P w H h)(e:RdT H a (ks.map kV)):(tupleKind (zaI P w)).is h ks a:=by
 obtain ⟨_,its,r,o,h1,h2,n,h3⟩:=(show zba P w H h a (.tup (ks.map kV)) from Rd.ok (show Rd H a _ from e) ok)
 exact ⟨o,its.toArray,n,h1,h2,h3,by simpa using zh5 r⟩
theorem zkb {kvs:List (List Key×V)}(ok:HOk P w H h)(e:Rd H a (.dT kvs)):kvs.length≤yH∧(a==sysModules)=false∧
  ∃ xs,KT H kvs xs∧h.DictOfH (tupleKind (zaI P w)) a xs:=by
 obtain ⟨z,y,xs,r,o,es,ep,h1,h2,h3,h4,h5⟩:=(show zba P w H h a (.dT kvs) from rd_of ok e)
 refine ⟨z,y,xs,r,o,es,ep,h1,h2,h3,h4,fun x hx=>?_,h5⟩
 have all:∀ {l:List (List Key×V)} {m:List (List Key×Addr×Value)},KT H l m→∀ x∈m,(tupleKind (zaI P w)).is h x.1 x.2.1:=by
  intro l m q
  induction q with
  | nil=>intro x hx;exact nomatch hx
  | @cons p q ps qs hq t ih=>
   intro x hx
   rcases yN.mp hx with e | hx
   ·subst e
    exact zfl ok (by rw [← hq.1];exact hq.2.1)
   ·exact ih x hx
 exact all r x hx
theorem dt_of {kvs:List (List Key×V)}(ok:HOk P w H h)(e:H a=some (.dT kvs)):kvs.length≤yH∧(a==sysModules)=false∧
  ∃ xs,KT H kvs xs∧h.DictOfH (tupleKind (zaI P w)) a xs:=zkb ok (.inl e)
end
noncomputable def DGet (H:Hp) (a:Addr) (y:V) (r:Option V):Prop:=
 (∃ kvs k,Rd H a (.dK kvs)∧y=kV k∧r=valV kvs k)∨∃ kvs k b,Rd H a (.dT kvs)∧y= .ref b∧RdT H b (k.map kV)∧r=valV kvs k
noncomputable def DPut (H:Hp) (a:Addr) (y v:V) (H':Hp):Prop:=
 (∃ kvs k,H a=some (.dK kvs)∧y=kV k∧kvs.length < yH∧H'=upd H a (.dK (putK kvs k v)))∨
 ∃ kvs k b,H a=some (.dT kvs)∧y= .ref b∧RdT H b (k.map kV)∧kvs.length < yH∧H'=upd H a (.dT (putK kvs k v))
theorem DGet.k {H:Hp}{a:Addr}{kvs:List (Key×V)}{k:Key}(e:H a=some (.dK kvs)):DGet H a (kV k) (valV kvs k):=.inl ⟨kvs,k,.inl e,rfl,rfl⟩
theorem DGet.t {H:Hp}{a b:Addr}{kvs:List (List Key×V)}{k:List Key}(e:H a=some (.dT kvs))(eb:H b=some (.tup (k.map kV))):DGet H a (.ref b) (valV kvs k):=.inr ⟨kvs,k,b,.inl e,rfl,.inl eb,rfl⟩
theorem DPut.t {H:Hp}{a b:Addr}{kvs:List (List Key×V)}{k:List Key}{v:V}(e:H a=some (.dT kvs))(eb:H b=some (.tup (k.map kV)))(hl:kvs.length < yH):
  DPut H a (.ref b) v (upd H a (.dT (putK kvs k v))):=.inr ⟨kvs,k,b,e,rfl,.inl eb,hl,rfl⟩
section
variable {X:Cx} {pins:List (Addr×Obj)} {σ :St} {H:Hp} {s:Shared} {a:Addr} {y v:V} {u r:Value} {o:Option V} {A:Around} {E:Value→Shared→Prop}
theorem Inv.big (I:Inv X pins σ H s):sysModules < s.heap.objs.size:=by
 have h:qH < s.heap.objs.size:=(I.mod.glob.keeps I.bk).lt
 exact Nat.lt_trans (by decide) h
theorem zkM {Q:Value→Shared→Prop}(hu:A.units+1 < cLine)(I:Inv X pins σ H s)(g:DGet H a y (some v))(ry:RelV y u)(h:∀ w' s',Inv X pins σ H s'→RelV v w'→Q w' s'):
  wpAny (model X.prog X.w) A (getItem (.ref a) u) Q E s:=by
 rcases g with ⟨kvs,k,e,ey,l⟩ | ⟨kvs,k,b,e,ey,eb,l⟩
 ·subst ey
  obtain ⟨z,hd,vs,rel,dd⟩:=zj1 I.hok e
  obtain ⟨w',hw,rw'⟩:=RelO.some_of (v:=v) (o:=valueAt vs k) (by rw [l];exact rel.val k)
  exact wpAny_getItem_of (zkm ry) dd.mapOf hw (h w' _ (I.tok _) rw')
 ·subst ey
  cases (show u=Value.ref b from ry)
  obtain ⟨z,hd,xs,rel,dd⟩:=zkb I.hok e
  obtain ⟨w',hw,rw'⟩:=RelO.some_of (v:=v) (o:=(atKey xs k).map (·.2)) (by rw [l];exact rel.val k)
  obtain ⟨p,hp,hp2⟩:=xC.mp hw
  refine wpAny_getItem_heap (tupleKind_room_in1 hu) (zfl I.hok eb) dd hp ?_
  rw [hp2]
  exact h w' _ (I.tok _) rw'
theorem d_in {Q:Value→Shared→Prop}(hu:A.units+1 < cLine)(I:Inv X pins σ H s)(g:DGet H a y o)(ry:RelV y u)(h:∀ s',Inv X pins σ H s'→Q (.bool o.isSome) s'):
  wpAny (model X.prog X.w) A (compareOp .In u (.ref a)) Q E s:=by
 rcases g with ⟨kvs,k,e,ey,l⟩ | ⟨kvs,k,b,e,ey,eb,l⟩
 ·subst ey
  obtain ⟨z,hd,vs,rel,dd⟩:=zj1 I.hok e
  refine wpAny_in_of (zkm ry) hd dd.mapOf ?_
  rw [← (rel.val k).isSome_eq,← l]
  exact h _ (I.tok _)
 ·subst ey
  cases (show u=Value.ref b from ry)
  obtain ⟨z,hd,xs,rel,dd⟩:=zkb I.hok e
  refine wpAny_in_heap (tupleKind_room_in1 hu) (zfl I.hok eb) hd dd ?_
  have q:=(rel.val k).isSome_eq
  rw [ybw] at q
  rw [← q,← l]
  exact h _ (I.tok _)
theorem zg0 {h':Heap}{t':Nat}{ob:HO}(I:Inv X pins σ H s)(mu:Mut (H a))(hs:jL a s.heap h')(he:∃ q,h'.get? a=some q)(new:zba X.prog X.w (upd H a ob) h' a ob):
  Inv X pins σ (upd H a ob) {s with heap:=h',toks:=t'}:=
 I.write (x:=a) (e:=a) mu (.inl rfl) (fun b q hb z=>(hs.2 b hb).trans z) he new
theorem znO {P:Program}{w:World}{H':Hp}{h':Heap}{kvs:List (Key×V)}{vs:List (Key×Value)}(z:kvs.length≤yH)(hd:(a==sysModules)=false)(rel:KV kvs vs)(dd:h'.DictOf (zaI P w) a vs):
  zba P w H' h' a (.dK kvs):=⟨z,hd,vs,rel,dd⟩
theorem zkK {H':Hp}{Q:Unit→Shared→Prop}(hu:A.units+1 < cLine)(I:Inv X pins σ H s)(g:DPut H a y v H')(ry:RelV y u)(rv:RelV v r)(h:∀ s',Inv X pins σ H' s'→Q () s'):
  wpAny (model X.prog X.w) A (setItem (.ref a) u r) Q E s:=by
 rcases g with ⟨kvs,k,e,ey,l,eH⟩ | ⟨kvs,k,b,e,ey,eb,l,eH⟩
 ·subst ey eH
  obtain ⟨z,hd,vs,rel,dd⟩:=dk_of I.hok e
  have hz:vs.length≤yH:=by rw [← rel.length];exact z
  have hl:(putK kvs k v).length≤yH:=by have:=zcW kvs k v;omega
  refine wpAny_setItem_pairs (hsz:=hz) (zkm ry) dd fun h' dd' hs=>h _ ?_
  have he:∃ q,h'.get? a=some q:=let ⟨q,_,_,hq,_⟩:=dd';⟨q,hq⟩
  exact zg0 I (by rw [e];exact True.intro) hs he (znO hl hd (rel.put k rv) dd')
 ·subst ey eH
  cases (show u=Value.ref b from ry)
  obtain ⟨z,hd,xs,rel,dd⟩:=dt_of I.hok e
  have hz:xs.length≤yH:=by rw [← vU rel];exact z
  have hl:(putK kvs k v).length≤yH:=by have:=zcW kvs k v;omega
  refine wpAny_setItem_heap (hsz:=hz) (tupleKind_room_in1 hu) (zfl I.hok eb) dd fun h' dd' hs=>h _ ?_
  obtain ⟨q,es,ep,hq,h2,h3,h4,_,h5⟩:=dd'
  refine zg0 I (by rw [e];exact True.intro) hs ⟨q,hq⟩ ⟨hl,hd,_,(rel.put k eb rv).keeps fun c ys ec=>ec.keep fun u eu hu=>?_,q,es,ep,hq,h2,h3,h4,h5⟩
  rw [zah (zh3 eu e (fun z=>by obtain ⟨ys,hu | ⟨_,hu⟩⟩:=hu <;> (rw [hu] at z;cases z)))]
  exact eu
end
section
variable {X:Cx} {pins:List (Addr×Obj)} {σ :St} {H:Hp} {s:Shared} {a:Addr} {kvs:List (Key×V)} {k:Key} {u:Value} {A:Around} {E:Value→Shared→Prop}
end
noncomputable def NoSl (i:Expr):Prop:=∀ ov iv,subscripted i false ov iv=operate [ov,iv] (getItem ov iv)
theorem zo7 {prog:Program}{w:World}{A:Around}{E:Value→Shared→Prop}{s:Shared}{env:Env}{value slice:Expr}{pos:Pos}{T id:String}{Q:Value→Shared→Prop}
  (hl:typeLookup (.type T) "__getitem__" =pure (some (.builtin id))) (hs:NoSl slice)
  (h:wpAny (model prog w) A (eval value env) (fun o s₁ =>wpAny (model prog w) A (eval slice env) (fun i s₂ =>s₂.TypeIs o T∧wpAny (model prog w) A (getItem o i) Q E s₂) E s₁) E s):
  wpAny (model prog w) A (eval (.Subscript value slice pos) env) Q E s:=by
 refine Subscript_ (wpAny_mono h (fun o s₁ h₁ =>wpAny_mono h₁ (fun i s₂ h₂ =>?_) fun _ _ x=>x) fun _ _ x=>x)
 obtain ⟨hT,h₂⟩:=h₂
 unfold subscriptTail
 refine yD ?_
 rw [getitemInPython_of_ne hT.not_modules]
 refine yD (wpAny_specialOf hT hl ?_)
 have fin:wpAny (model prog w) A (subscripted slice false o i) (fun r s₃ =>wpAny (model prog w) A (letTemporaryGo value o r >>=fun _=>pure r) Q E s₃) E s₂ :=by
  rw [hs o i]
  exact wpAny_operating (wpAny_mono h₂ (fun r s₃ h₃ =>yD (wpAny_letTemporaryGo (yP h₃))) fun _ _ x=>x)
 first
  | exact yP (yD fin)
  | exact yD (yP (yD fin))
  | exact yD fin
theorem ziZ {X:Cx}{pins:List (Addr×Obj)}{σ :St}{H:Hp}{s:Shared}{a:Addr}{y:V}{o:Option V}(I:Inv X pins σ H s)(g:DGet H a y o):s.TypeIs (.ref a) "dict" :=by
 rcases g with ⟨kvs,k,e,_,_⟩ | ⟨kvs,k,b,e,_,_,_⟩
 ·obtain ⟨_,_,vs,_,dd⟩:=zj1 I.hok e
  exact dd.typeIs
 ·obtain ⟨_,_,xs,_,dd⟩:=zkb I.hok e
  exact dd.typeIs
noncomputable def tDGet (td ty:TE):TE:=fun σ H Q=>td σ H fun x H1=>ty σ H1 fun y H2=>∃ a v,x= .ref a∧DGet H2 a y (some v)∧Q v H2
noncomputable def tDIn (ty td:TE):TE:=fun σ H Q=>ty σ H fun y H1=>td σ H1 fun x H2=>∃ a o,x= .ref a∧DGet H2 a y o∧Q (.bl o.isSome) H2
noncomputable def sDPut (td ty tv:TE):TS:=fun D σ H=>tv σ H fun v H1=>td σ H1 fun x H2=>ty σ H2 fun y H3=>∃ a H4,x= .ref a∧DPut H3 a y v H4∧D.nx σ H4
section
variable {X:Cx} {o i e value:Expr} {pos pos' tpos:Pos} {td ty tv:TE}
theorem zoX (hu:X.A.units+1 < cLine)(ho:PE X o td)(hi:PE X i ty)(hs:NoSl i):PE X (.Subscript o i pos) (tDGet td ty):=by
 intro pins s σ H Q I h
 refine zo7 yaq.lookup hs (thn (ho pins s σ H _ I h) fun u s1 ⟨x,H1,I1,rx,q1⟩=>thn (hi pins s1 σ H1 _ I1 q1) fun iv s2 ⟨y,H2,I2,ry,a,v,ex,g,q2⟩=>?_)
 subst ex
 obtain rfl:u=Value.ref a:=rx
 exact ⟨ziZ I2 g,zkM hu I2 g ry fun w' s3 I3 rw'=>⟨v,H2,I3,rw',q2⟩⟩
theorem pc_din (hu:X.A.units+1 < cLine)(hi:PE X i ty)(ho:PE X o td):PC X .In i o (tDIn ty td):=by
 intro pins s σ H Q I h
 refine thn (hi pins s σ H _ I h) fun iv s1 ⟨y,H1,I1,ry,q1⟩=>thn (ho pins s1 σ H1 _ I1 q1) fun u s2 ⟨x,H2,I2,rx,a,ov,ex,g,q2⟩=>?_
 subst ex
 obtain rfl:u=Value.ref a:=rx
 exact d_in hu I2 g ry fun s3 I3=>⟨.bl ov.isSome,H2,I3,rfl,q2⟩
theorem zor (hu:X.A.units+1 < cLine)(ho:PE X o td)(hi:PE X i ty)(hv:PE X value tv)(hs:swapsWith value (some (.Subscript o i pos')) pos.line X.env=pure false):
  PS X (.Assign [.Subscript o i pos'] value pos) (sDPut td ty tv):=by
 intro pins s σ H D I h
 refine wpAny_Assign_Subscript (thn (hv pins s σ H _ I h) fun r s1 ⟨v,H1,I1,rv,q1⟩=>thn (ho pins s1 σ H1 _ I1 q1) fun u s2 ⟨x,H2,I2,rx,q2⟩=>thn (hi pins s2 σ H2 _ I2 q2) fun iv s3 ⟨y,H3,I3,ry,a,H4,ex,g,q3⟩=>?_) hs
 subst ex
 obtain rfl:u=Value.ref a:=rx
 exact zkK hu I3 g ry rv fun s4 I4=>⟨σ,H4,I4,q3⟩
end
theorem zm2 {P:Program}{w:World}{H:Hp}(h:Heap)(hb:sysModules < h.objs.size):zba P w H (h.push {cls:=.type "dict",data:=.dict #[]}) h.objs.size (.dK []):=
 ⟨qZ _,beq_eq_false_iff_ne.mpr (qX (qL hb)),[],.nil,Heap.DictOf.new h⟩
theorem zjB {P:Program}{w:World}{H:Hp}(h:Heap)(hb:sysModules < h.objs.size):zba P w H (h.push {cls:=.type "dict",data:=.dict #[]}) h.objs.size (.dT []):=
 ⟨qZ _,beq_eq_false_iff_ne.mpr (qX (qL hb)),[],.nil,_,#[],0,yZ _ rfl,⟨rfl,rfl,rfl⟩,rfl,rfl,wQ⟩
noncomputable def znK:TE:=fun _ H Q=>∀ p,H p=none→Q (.ref p) (upd H p (.dT []))
section
variable {X:Cx} {pos:Pos}
theorem zmf:PE X (.Dict [] [] pos) znK:=fun pins s σ H Q I h=>
 wpAny_Dict_empty ⟨.ref s.heap.objs.size,_,I.laid (a:=s.heap.objs.size) (o:=.dT []) (t':=s.toks) (fun _ _ q=>yG _ q) (yJ _) (zjB s.heap I.big),rfl,h _ (I.hok.fresh (yJ _))⟩
end
noncomputable def zlR:List (TE×TE)→St→Hp→(List (V×V)→Hp→Prop)→Prop
 | [],_,H,Q=>Q [] H
 | (tk,tv)::r,σ,H,Q=>tk σ H fun x H1=>tv σ H1 fun y H2=>zlR r σ H2 fun ps H3=>Q ((x,y)::ps) H3
noncomputable abbrev VV:List (V×V)→List (Value×Value)→Prop:=Paired fun p q=>RelV p.1 q.1∧RelV p.2 q.2
noncomputable def PPs (X:Cx) (pos:Pos) (keys:List (Option Expr)) (values:List Expr) (trs:List (TE×TE)):Prop:=
 ∀ (pins:List (Addr×Obj)) (s:Shared) (σ :St) (H:Hp) (Q:List (V×V)→Hp→Prop),Inv X pins σ H s→zlR trs σ H Q→
  wpAny (model X.prog X.w) X.A (evalPairs (pairTrees keys values X.env pos)) (fun vs s'=>∃ ps H',Inv X pins σ H' s'∧VV ps vs∧Q ps H') X.xe s
theorem zph {X:Cx}{pos:Pos}:PPs X pos [] [] []:=fun pins s σ H Q I h=>pairTrees_nil_walk ⟨[],H,I,.nil,h⟩
theorem zml {X:Cx}{pos:Pos}{k v:Expr}{ks:List (Option Expr)}{vs:List Expr}{tk tv:TE}{trs:List (TE×TE)}(hk:PE X k tk)(hv:PE X v tv)(hr:PPs X pos ks vs trs):
  PPs X pos (some k::ks) (v::vs) ((tk,tv)::trs):=fun pins s σ H Q I h=>
 pairTrees_cons_walk (thn (hk pins s σ H _ I h) fun u s1 ⟨x,H1,I1,rx,q1⟩=>thn (hv pins s1 σ H1 _ I1 q1) fun w2 s2 ⟨y,H2,I2,ry,q2⟩=>
  thn (hr pins s2 σ H2 _ I2 q2) fun ws s3 ⟨ps,H3,I3,rel,q3⟩=>⟨(x,y)::ps,H3,I3,.cons ⟨rx,ry⟩ rel,q3⟩)
noncomputable def zeu (kvs more:List (Key×V)):List (Key×V):=more.foldl (fun acc kv=>putK acc kv.1 kv.2) kvs
theorem KV.merge:∀ {more:List (Key×V)} {rs:List (Key×Value)} {kvs:List (Key×V)} {vs:List (Key×Value)},KV more rs→KV kvs vs→KV (zeu kvs more) (merged vs rs):=by
 intro more rs kvs vs r
 unfold KV at r
 induction r generalizing kvs vs with
 | nil=>intro q;exact q
 | @cons p q ps qs h t ih=>
  intro r0
  have e:KV (putK kvs p.1 p.2) (stored vs q.1 q.2):=by
   have:=r0.put p.1 h.2
   rw [← h.1];exact this
  exact ih e
theorem zek:∀ (more kvs:List (Key×V)),(zeu kvs more).length≤kvs.length+more.length
 | [],kvs=>by show kvs.length≤kvs.length+0;omega
 | p::r,kvs=>by
  have h1:=zek r (putK kvs p.1 p.2)
  have h2:=zcW kvs p.1 p.2
  show (zeu (putK kvs p.1 p.2) r).length≤_
  rw [yO];omega
theorem zgw {P:Program}{w:World}:∀ {kvs:List (Key×V)} {ws:List (Value×Value)},VV (kvs.map fun kv=>(kV kv.1,kv.2)) ws→∃ rs,Carries (zaI P w) ws rs∧KV kvs rs
 | [],_,r=>by rw [ybF] at r;cases r;exact ⟨[],True.intro,.nil⟩
 | p::kvs,_,r=>by
  rw [qJ] at r
  cases r with
  | @cons a b as bs h t=>
   obtain ⟨rs,c,q⟩:=zgw (P:=P) (w:=w) t
   obtain ⟨b1,b2⟩:=b
   exact ⟨(p.1,b2)::rs,⟨zkm h.1,rfl,c⟩,.cons ⟨rfl,h.2⟩ q⟩
noncomputable def tDisp (trs:List (TE×TE)):TE:=fun σ H Q=>∀ p,H p=none→zlR trs σ (upd H p (.dK [])) fun ps H2=>H2 p=some (.dK [])∧∃ kvs:List (Key×V),ps=kvs.map (fun kv=>(kV kv.1,kv.2))∧kvs.length≤15∧Q (.ref p) (upd H2 p (.dK (zeu [] kvs)))
theorem zou {X:Cx}{pos:Pos}{keys:List (Option Expr)}{values:List Expr}{trs:List (TE×TE)}(h:PPs X pos keys values trs)(hall:keys.all (·.isSome)=true)(hl:keys.length=values.length)(h0:keys≠[])
  (h15:keys.length≤15):PE X (.Dict keys values pos) (tDisp trs):=by
 intro pins s σ H Q I q
 have hn:=I.hok.fresh (yJ s.heap.objs.size)
 have I1:=I.laid (a:=s.heap.objs.size) (o:=.dK []) (h':=s.heap.push {cls:=.type "dict",data:=.dict #[]}) (t':=s.toks) (fun _ _ q=>yG _ q) (yJ _) (zm2 s.heap I.big)
 refine wpAny_Dict_walk (knd:=zaI X.prog X.w) hall hl h0 h15 (thn (h pins _ σ _ _ I1 (q _ hn)) fun ws s2 ⟨ps,H2,I2,rel,e,kvs,ep,lk,q2⟩=>?_)
 subst ep
 obtain ⟨rs,c,rk⟩:=zgw (P:=X.prog) (w:=X.w) rel
 obtain ⟨z,hd,vs0,r0,dd⟩:=dk_of I2.hok e
 cases r0
 refine ⟨rs,c,dd,fun h' dd' hs=>⟨.ref s.heap.objs.size,_,?_,rfl,q2⟩⟩
 have hz:(zeu [] kvs).length≤yH:=by
  have h1:=zek kvs []
  rw [wE] at h1
  rw [sizeLine_eq];omega
 have he:∃ q,h'.get? s.heap.objs.size=some q:=let ⟨q,_,_,hq,_⟩:=dd';⟨q,hq⟩
 exact zg0 I2 (by rw [e];exact True.intro) hs he (znO hz hd (rk.merge .nil) dd')
structure M2 (X:Cx) (o:Expr) (m:Str) (apos:Pos) (e f:Expr) (cpos:Pos):Prop where
 base:attributeBase o m X.env (eval o X.env)=eval o X.env
 few:((backTo cpos (starEach [e,f] X.env)).all (fun x=>!x.1) && (backToKw cpos (keywordEach [] X.env)).all (fun x=>x.1.isSome)
  && decide (([e,f]:List Expr).length+([]:List Keyword).length+(if ([]:List Keyword).isEmpty then 0 else 1) < 30))=true
 line:(apos.endLine==cpos.line)=true
 trees:backTo cpos (starEach [e,f] X.env)= [(false,eval e X.env),(false,eval f X.env)]
noncomputable def IsD (H:Hp) (a:Addr):Prop:=(∃ kvs,Rd H a (.dK kvs))∨∃ kvs,Rd H a (.dT kvs)
theorem isD_at {X:Cx}{pins:List (Addr×Obj)}{σ :St}{H:Hp}{s:Shared}{a:Addr}(I:Inv X pins σ H s)(d:IsD H a):
  s.TypeIs (.ref a) "dict"∧(∀ b,Value.ref a= .ref b→∃ ob,s.heap.get? b=some ob∧ob.dict=none)∧(a==sysModules)=false:=by
 rcases d with ⟨kvs,e⟩ | ⟨kvs,e⟩
 ·obtain ⟨_,hd,vs,_,dd⟩:=zj1 I.hok e
  refine ⟨dd.typeIs,fun b q=>?_,hd⟩
  cases q
  obtain ⟨ob,_,_,h1,h2,_⟩:=dd
  exact ⟨ob,h1,h2.2.1⟩
 ·obtain ⟨_,hd,xs,_,dd⟩:=zkb I.hok e
  refine ⟨dd.typeIs,fun b q=>?_,hd⟩
  cases q
  obtain ⟨ob,_,_,h1,h2,_⟩:=dd
  exact ⟨ob,h1,h2.2.1⟩
section
variable {X:Cx} {pins:List (Addr×Obj)} {σ :St} {H:Hp} {s:Shared} {a:Addr} {y d:V} {u r:Value} {o:Option V} {A:Around} {E:Value→Shared→Prop}
theorem d_get2 {Q:Value→Shared→Prop}(hu:A.units+1 < cLine)(I:Inv X pins σ H s)(g:DGet H a y o)(ry:RelV y u)(rd:RelV d r)(h:∀ w' s',Inv X pins σ H s'→RelV (o.getD d) w'→Q w' s'):
  wpAny (model X.prog X.w) A (call (.builtin "dict.get") [.ref a,u,r]) Q E s:=by
 rcases g with ⟨kvs,k,e,ey,l⟩ | ⟨kvs,k,b,e,ey,eb,l⟩
 ·subst ey
  obtain ⟨z,hd,vs,rel,dd⟩:=zj1 I.hok e
  refine call_meetsIn wT dd.typeIs yaH (yaA _ _ _) (meets_dict_get_default (zaI X.prog X.w) a (zkm ry) hd r) ⟨_,dd.mapOf,h _ _ (I.tok _) ?_⟩
  rw [l]
  exact (rel.val k).getD rd
 ·subst ey
  cases (show u=Value.ref b from ry)
  obtain ⟨z,hd,xs,rel,dd⟩:=zkb I.hok e
  refine call_meetsIn wT dd.typeIs yaH (yaA _ _ _) (meetsH_dict_get_default (tupleKind (zaI X.prog X.w)) a b hd r) ⟨tupleKind_room_in1 hu,k,xs,zfl I.hok eb,dd,h _ _ (I.tok _) ?_⟩
  rw [l]
  exact (rel.val k).getD rd
end
noncomputable def znA (td ty tx:TE):TE:=fun σ H Q=>td σ H fun x H1=>∃ a,x= .ref a∧IsD H1 a∧ty σ H1 fun y H2=>tx σ H2 fun z H3=>∃ o,DGet H3 a y o∧Q (o.getD z) H3
section
variable {X:Cx} {o e f:Expr} {apos cpos:Pos} {td ty tx:TE}
theorem zmp (hu:X.A.units+1 < cLine)(ho:PE X o td)(he:PE X e ty)(hf:PE X f tx)(m:M2 X o "get" apos e f cpos):PE X (.Call (.Attribute o "get" apos) [e,f] [] cpos) (znA td ty tx):=by
 intro pins s σ H Q I h
 refine wpAny_Call_method m.base m.few m.line yaB wT PySem.F.type_dict_get (thn (ho pins s σ H _ I h) fun u s1 ⟨x,H1,I1,rx,a,ex,d,q1⟩=>?_)
 subst ex
 obtain rfl:u=Value.ref a:=rx
 obtain ⟨t1,t2,_⟩:=isD_at I1 d
 refine ⟨t1,t2,?_⟩
 rw [m.trees]
 refine vI rfl (wZ (yan (thn (he pins s1 σ H1 _ I1 q1) fun iv s2 ⟨y,H2,I2,ry,q2⟩=>
  yan (thn (hf pins s2 σ H2 _ I2 q2) fun fv s3 ⟨z,H3,I3,rz,ov,g,q3⟩=>ybu ?_))))
 exact d_get2 hu I3 g ry rz fun w' s4 I4 rw'=>⟨_,H3,I4,rw',q3⟩
end
section
variable {X:Cx} {pins:List (Addr×Obj)} {σ :St} {H:Hp} {s:Shared} {a:Addr} {kvs:List (Key×V)} {A:Around} {E:Value→Shared→Prop}
end
section
variable {X:Cx} {pins:List (Addr×Obj)} {σ :St} {H:Hp} {s:Shared} {a:Addr} {y:V} {u:Value} {A:Around} {E:Value→Shared→Prop}
end
end L2
namespace Att
open PySem PySem.W PySem.Calls PyProof.Rows
theorem zfF {P:Params}{h:Heap}:∀ (ns:List Int) (vs:List Value),WellAll P h vs (ns.map WData.int)→IntsAre vs ns:=by
 intro ns
 induction ns with
 | nil=>
  intro vs w
  rw [ybF] at w
  cases w
  exact .nil
 | cons n ns ih=>
  intro vs w
  rw [qJ] at w
  cases w with
  | cons a b=>
   cases a
   exact .cons _ _ (ih _ b)
theorem zlA {l:OpenLaw}{n:Nat}(hn:l.most=some n){P:Params}{h:Heap}{args:List WData}{vals:List Value}
  (hpre:l.row.toRowW.claim.pre args=true) (hwl:WellAll P h vals args):
  ∃ a vs ns,vals= [Value.ref a]∧args= [WData.list (ns.map WData.int)]∧h.get? a=some {cls:=.type "list",data:=.seq vs.toArray}∧IntsAre vs ns∧ns.length≤n:=by
 have hsh:WShape.hasAll [] args [.list .int]=true:=(pre_splitW hpre).1
 have hc:l.pre.holds [] {args:=args}=true:=(pre_splitW hpre).2
 obtain ⟨d,r,rfl,h1,h2⟩:=hasAllW_cons hsh
 obtain rfl:=hasAllW_nil h2
 obtain ⟨xs,rfl,h3⟩:=hasW_list h1
 obtain ⟨ns,rfl⟩:=items_int h3
 have hlen:ns.length≤n:=by
  unfold OpenLaw.pre at hc
  have h4:(WTm.not (.lt (.lit (.int (n:Int))) (.len (.arg 0)))).holds [] {args:=[.list (ns.map .int)]}=true:=by
   have h4:=(holds_andW hc).1
   rw [hn] at h4
   exact h4
  have h5:=condW_of h4 (w_not (w_lt w_lit (w_len_list (w_arg rfl))))
  rw [yA] at h5
  refine Nat.le_of_not_lt fun q=>?_
  have q':(n:Int) < ((ns.length:Nat):Int):=by omega
  first
   | (rw [decide_eq_true q'] at h5;exact absurd h5 (by decide))
   | (simp at h5;omega)
 cases hwl with
 | cons w1 w2=>
  cases w2
  cases w1 with
  | list ho hall=>exact ⟨_,_,ns,rfl,rfl,ho,zfF ns _ hall,hlen⟩
theorem zla (l:OpenLaw)(args:List WData):l.row.toRowW.claim.post args (.bool true) args=true:=
 postW_of (r:=l.row.toRowW) (X:=(true==true))
  (show WShape.has [] (.bool true) .bool=true by first | rfl | decide | simp [WShape.has,WShape.arms,WShape.armsAll])
  (show (WTm.eq .res (.lit (.bool true))).value [] {args:=args,res:=some (.bool true),after:=args}=some (.bool (true==true)) from w_eq_bool (w_res rfl) w_lit) rfl
theorem attach_call {l:OpenLaw}{n:Nat}{q:Program}{loose:List Str}{XP:(Str→Option Value)→Heap→Prop}{YP:World→Heap→Prop}{d:DefRec}
  (hn:l.most=some n) (hdf:d.params.defaults= [])
  (call:∀ (w:World) (s₀ s₁ :Shared) (mg mb:Str→Option Value) (fa:Addr) (o:Obj) (pm cd doc:Value) (a:Addr) (vs:List Value) (ns:List Int),
   Ground q loose [] XP w s₀ mg mb s₁.heap→YP w s₁.heap→
   s₁.heap.get? fa=some o→o.data= .func (docDef d.name d.params d.body d.scope pm cd doc)→s₁.heap.CodeRec cd d.name→mg d.name=some (.ref fa)→
   s₁.heap.get? a=some {cls:=.type "list",data:=.seq vs.toArray}→IntsAre vs ns→ns.length≤n→s₁.gens= #[]→
   codeAny (model l.prog w) callerA (.call (.ref fa) ⟨[.ref a],[]⟩) (fun r s'=>r= .ok (.ret (.bool true))∧OldK s₁.heap s'.heap∧s'.os=s₁.os∧AllBare s'.gens) s₁):
  WalkO q loose XP YP l.row.toRowW d [] (fun f vs=>yb1 f vs):=by
 intro w s₀ s₁ mg mb G Y fa o pm cd doc dV kV ho hd hcd hD hmg hg args vals as hpre hlay hrd hwl hlo
 obtain rfl:dV= .none:=Dflts.none hD hdf
 obtain rfl:kV= .none:=Dflts.noKw hD
 obtain ⟨a,vs,ns,rfl,rfl,hobj,hints,hlen⟩:=zlA hn hpre hwl
 refine enter_call (codeAny_mono (call w s₀ s₁ mg mb fa o pm cd doc a vs ns G Y ho (fd_plain hd) hcd hmg hobj hints hlen hg) fun r s' hq=>?_)
 obtain ⟨rfl,h2,h3,h4⟩:=hq
 exact ⟨.inl ⟨.bool true,.bool true,[],rfl,fun _=>rfl,.bool true,zla l _,fun _=>⟨List.Pairwise.nil,fun _ hm=>(nomatch hm)⟩⟩,h2,h3,h4⟩
section
variable {prog:Program} {w:World} {A:Around} {E:Value→Shared→Prop} {s:Shared} {K:Frag}
end
end Att
namespace L2
open PySem PySem.Spec PyProof.Rows
theorem zid:∀ {vs:List Value} {ns:List Int},IntsAre vs ns→Vals (ns.map V.int) vs
 | _,_,.nil=>.nil
 | _,_,.cons n t h=>.cons ⟨t,rfl⟩ (zid h)
noncomputable def Only (H:Hp):Prop:=∀ b,H b=none∨∃ o xs,H b=some (.frz o (.lst xs))
theorem zmC {P:Program}{w:World}{K:PySem.W.Frag}{mg mb:Str→Option Value}{CX:CXT}{k:Nat}{fa a:Addr}{fd:FuncData}{x:Str}{sp:Sp}{s₁ :Shared}{vs:List Value}{ns:List Int}
  (KX:K.In s₁.heap) (hns:s₁.heap.Ns qH mg) (hb:s₁.heap.Ns builtinsNs mb) (hbb:∀ x:Str,x≠"__name__"→mb x=bootBuiltins x) (hlim:s₁.heap.NoLimit) (hg:s₁.gens= #[])
  (ha:s₁.heap.get? a=some {cls:=.type "list",data:=.seq vs.toArray}) (hi:IntsAre vs ns) (hl:ns.length≤yH) (hr:Room k callerA)
  (F:∀ base:Heap,K.In base→base.Ns qH mg→FnOk P w K mg base CX k fa fd [x] sp) (hbind:∀ (s:Shared) (u:Value),BindsTo s fd ⟨[u],[]⟩ [(x,u)])
  (hsp:∀ H:Hp,Only H→SqL K H a (ns.map V.int)→sp [.ref a] H (fun v _=>v= .bl true) fun _ _ _=>False)
  (hCX:∀ H e s',CX [] H s₁ (fun _ _ _=>False) e s'→False):
  codeAny (model P w) callerA (.call (.ref fa) ⟨[.ref a],[]⟩) (fun r s'=>r= .ok (.ret (.bool true))∧OldK s₁.heap s'.heap∧s'.os=s₁.os∧AllBare s'.gens) s₁ :=by
 have rv:=zid hi
 have lenV:=hi.length
 have core:∀ H:Hp,Only H→SqL K H a (ns.map V.int)→HOk P w H s₁.heap→(∀ b,H b≠none→b=a)→(H a≠none→K.lookup a=none)→
   codeAny (model P w) callerA (.call (.ref fa) ⟨[.ref a],[]⟩) (fun r s'=>r= .ok (.ret (.bool true))∧OldK s₁.heap s'.heap∧s'.os=s₁.os∧AllBare s'.gens) s₁ :=by
  intro H hO hS hok hA hK
  have base_of:∀ {b:Addr} {o:Obj},s₁.heap.get? b=some o→H b=none→(hidT s₁.heap H).get? b=some o:=fun e n=>zmB e n
  have noA:∀ {b:Addr} {o:Obj} {es:Array DictEntry} {ep:Nat},s₁.heap.get? b=some o→o.data= .dict es ep→H b=none:=fun {b o es ep} e d=>by
   cases q:H b with
   | none=>rfl
   | some u=>
    have e':b=a:=hA b (by rw [q];simp)
    subst e'
    rw [ha] at e;cases e
    have d':Data.seq vs.toArray _=Data.dict es ep:=d
    cases d'
  have nsK:∀ {b:Addr} {m:Str→Option Value},s₁.heap.Ns b m→(hidT s₁.heap H).Ns b m:=fun {b m} ⟨o,es,ep,e,d,r⟩=>⟨o,es,ep,base_of e (noA e d),d,r⟩
  have hKb:K.In (hidT s₁.heap H):=fun b o e=>base_of (KX b o e) (by
   cases q:H b with
   | none=>rfl
   | some u=>
    have e':b=a:=hA b (by rw [q];simp)
    subst e'
    rw [hK (by rw [q];simp)] at e;cases e)
  have hM:Mod K mg (hidT s₁.heap H):=⟨hKb,nsK hns,⟨mb,nsK hb,hbb⟩,let ⟨mc,h1,h2⟩:=hlim;⟨mc,nsK h1,h2⟩⟩
  have e0:Env0 P w K mg (hidT s₁.heap H) callerA [] s₁ H:=⟨rfl,hM,fun b o e=>zoO e,ybE (zkJ _ _),trivial,fun b hb=>absurd (show b∈([]:List Addr) from hb) (by simp),hok,.of_eq hg⟩
  refine codeAny_mono ((F _ hKb (nsK hns)).run callerA [] s₁ H ⟨[.ref a],[]⟩ [.ref a] [.ref a] _ _ hr e0 (hbind s₁ (.ref a)) (.cons rfl .nil) (hsp H hO hS)) fun r s' h=>?_
  cases r with
  | error e=>exact (hCX H e s' h).elim
  | ok fl=>
   cases fl with
   | next=>exact xN h
   | brk=>exact xN h
   | cont=>exact xN h
   | ret u=>
    obtain ⟨v,H',os,bare,un,hok',r',q⟩:=h
    have q':v= .bl true:=q
    subst q'
    obtain rfl:u=Value.bool true:=r'
    refine ⟨rfl,OldK.of_keep fun b o e=>?_,os,bare⟩
    cases q:H b with
    | none=>exact un.keep b o e q (by intro z;exact absurd (show b∈([]:List Addr) from z) (by simp)) (by simp)
    | some u=>
     rcases hO b with z | ⟨ob,xs,z⟩
     ·rw [q] at z;cases z
     ·have z2:=un.frzs b ob _ z
      obtain ⟨e1,_⟩:=hok b _ z
      obtain ⟨e2,_⟩:=hok' b _ z2
      rw [e] at e1;cases e1
      exact e2
 cases hk:K.lookup a with
 | some o=>
  have e:=KX a o hk
  rw [ha] at e
  cases e
  refine core (fun _=>none) (fun _=>.inl rfl) (.inr ⟨_,vs.toArray,_,hk,rfl,rfl,rfl,by rw [qB,lenV];exact hl,by simpa using rv⟩) (fun b u z=>by have z':(none:Option HO)=some u:=z;cases z') (fun b z=>absurd rfl z) fun z=>absurd rfl z
 | none=>
  refine core (fun b=>if b=a then some (.frz {cls:=.type "list",data:=.seq vs.toArray} (.lst (ns.map V.int))) else none) (fun b=>?_) (.inl (.inr ⟨{cls:=.type "list",data:=.seq vs.toArray},if_pos rfl⟩)) (fun b u z=>?_) (fun b z=>?_) fun _=>hk
  ·by_cases hb:b=a
   ·exact .inr ⟨_,_,if_pos hb⟩
   ·exact .inl (if_neg hb)
  ·by_cases hb:b=a
   ·have z':=(if_pos hb).symm.trans z
    cases z'
    subst hb
    exact ⟨ha,by rw [yA];exact hl,vs,_,rv,ha⟩
   ·have z':=(if_neg hb).symm.trans z
    cases z'
  ·by_cases hb:b=a
   ·exact hb
   ·exact absurd (if_neg hb) z
theorem zn3 {l:yaU}{n k:Nat}{q:Program}{loose:List Str}{XP:(Str→Option Value)→Heap→Prop}{YP:World→Heap→Prop}{d:DefRec}{K:Params→PySem.W.Frag}{CX:World→CXT}{sp:World→Sp}{x:Str}
  (hn:l.most=some n) (hn2:n≤yH) (hdf:d.params.defaults= []) (hr:Room k callerA)
  (hY:∀ (w:World) (h:Heap),YP w h→(K w.params).In h)
  (F:∀ (w:World) (mg:Str→Option Value) (fa:Addr) (h:Heap),(K w.params).In h→h.Ns qH mg→mg d.name=some (.ref fa)→
   ∃ fd:FuncData,(∀ (s:Shared) (u:Value),BindsTo s fd ⟨[u],[]⟩ [(x,u)])∧
    ∀ base:Heap,(K w.params).In base→base.Ns qH mg→FnOk l.prog w (K w.params) mg base (CX w) k fa fd [x] (sp w))
  (hsp:∀ (w:World) (H:Hp) (a:Addr) (ns:List Int),ns.length≤n→Only H→SqL (K w.params) H a (ns.map V.int)→sp w [.ref a] H (fun v _=>v= .bl true) fun _ _ _=>False)
  (hCX:∀ (w:World) (H:Hp) (s:Shared) (e:Value) (s':Shared),CX w [] H s (fun _ _ _=>False) e s'→False):
  PySem.W.WalkO q loose XP YP l.row.toRowW d [] (fun f vs=>yb1 f vs):=by
 refine Att.attach_call hn hdf fun w s₀ s₁ mg mb fa o pm cd doc a vs ns G Y ho hd hcd hmg hobj hints hlen hg=>?_
 have KX:=hY w _ Y
 obtain ⟨fd,hb,hF⟩:=F w mg fa _ KX G.T.g hmg
 exact zmC KX G.T.g G.T.b G.T.builtins G.T.nolimit hg hobj hints (jA hlen hn2) hr hF hb (fun H hO hS=>hsp w H a ns hlen hO hS) fun H e s'=>hCX w H s₁ e s'
noncomputable abbrev CX0:CXT:=fun _ _ _ _ _ _=>False
noncomputable abbrev E0:XK:=fun _ _ _=>False
theorem zaC {X:Cx}:zdn CX0 X E0:=fun _ _ _ _ _ _ _ h=>h.elim
structure Fun (K:PySem.W.Frag) (x qual:Str) (st:Stmt) (f:Addr) (fd:FuncData):Prop where
 ex:∃ (oc:Value) (od:Option Addr) (kV doc pm:Value) (an:Option Addr) (cdv ct:Value) (osl:Array (Option Value)),
  fd=PySem.W.fnOf x qual (zbj st) (za1 st) (zak st) .none kV doc pm an cdv ct∧K.lookup f=some ⟨oc,od,.func fd,osl⟩∧PySem.W.codeIn K cdv qual=true
 kp:PySem.W.keepIn K (.ref f)=true
section
variable {P:Program} {w:World} {K:PySem.W.Frag} {mg:Str→Option Value} {base:Heap}
theorem Fun.ok {x qual:Str}{st:Stmt}{f:Addr}{fd:FuncData}{N ps:List Str}{k:Nat}{sp:Sp}(F:Fun K x qual st f fd)(S:zav N ps (zak st))(len:∀ vs H Q E,sp vs H Q E→vs.length=ps.length)
  (hbody:∀ (cdv:Value) (A:Around) (outer:List Env) (s:Shared) (H:Hp) (vs:List V) (Q:VK) (E:XK),Room k (A.deeper (envOfC qual (zak st) s.heap.objs.size f cdv))→sp vs H Q E→
   ∃ t,PSs (cxOf CX0 P w K mg base N qual (zak st) f cdv A outer s H E).nox (za1 st) t∧t {nx:=fun _ H'=>Q .non H',rt:=Q} (start N vs) H):FnOk P w K mg base CX0 (k+1) f fd ps sp:=by
 obtain ⟨oc,od,kV,doc,pm,an,cdv,ct,osl,rfl,lk,hcd⟩:=F.ex
 refine zpg lk hcd S len fun A outer s H vs Q E hr hsp=>?_
 obtain ⟨t,h,q⟩:=hbody cdv A outer s H vs Q E hr hsp
 exact ⟨t,h.nox,q⟩
theorem Fun.binds {x qual:Str}{st:Stmt}{f:Addr}{fd:FuncData}{ps:List Str}(F:Fun K x qual st f fd)
  (h:∀ (kV doc pm:Value) (an:Option Addr) (cdv ct:Value) (us:List Value),us.length=ps.length→bindArgs (PySem.W.fnOf x qual (zbj st) (za1 st) (zak st) .none kV doc pm an cdv ct) ⟨us,[]⟩=pure (ps.zip us)):zdb K fd ps []:=by
 obtain ⟨oc,od,kV,doc,pm,an,cdv,ct,osl,rfl,lk,hcd⟩:=F.ex
 exact .all (h kV doc pm an cdv ct)
theorem ziA {x qual:Str}{st:Stmt}{f:Addr}{oc:Value}{od an:Option Addr}{osl:Array (Option Value)}{kV doc pm cdv ct:Value}(l:K.lookup f=some ⟨oc,od,.func (PySem.W.fnOf x qual (zbj st) (za1 st) (zak st) .none kV doc pm an cdv ct),osl⟩)
  (c:PySem.W.codeIn K cdv qual=true) (k:PySem.W.keepIn K (.ref f)=true):Fun K x qual st f (PySem.W.fnOf x qual (zbj st) (za1 st) (zak st) .none kV doc pm an cdv ct):=⟨⟨oc,od,kV,doc,pm,an,cdv,ct,osl,rfl,l,c⟩,k⟩
end
theorem zkp {A:Around}{k:Nat}(hr:Room k A):A.units+1 < cLine:=ybo (Nat.add_le_add_left (by decide: 1≤64) _) hr.units
section
variable {X:Cx}
end
theorem iteF {A B:Prop}(h:B):if false=true then A else B:=by
 rw [if_neg qG]
 exact h
theorem iteT {A B:Prop}(h:A):if true=true then A else B:=by
 rw [if_pos rfl]
 exact h
theorem ite2 {c A B:Prop}[Decidable c](h1:c→A)(h2:¬c→B):if c then A else B:=by
 by_cases h:c
 ·rw [if_pos h]
  exact h1 h
 ·rw [if_neg h]
  exact h2 h
noncomputable def Same (H H':Hp):Prop:=∀ b o,H b=some o→H' b=some o
theorem Same.refl (H:Hp):Same H H:=fun _ _ h=>h
theorem Same.trans {H H1 H2:Hp}(a:Same H H1)(b:Same H1 H2):Same H H2:=fun c o h=>b c o (a c o h)
theorem Same.free {H H':Hp}(e:Same H H'){l:Addr}(h:H' l=Option.none):H l=Option.none:=by
 cases q:H l with
 | none=>rfl
 | some o=>
  rw [e l o q] at h
  cases h
theorem Same.seq {K:PySem.W.Frag}{H H':Hp}{a:Addr}{xs:List V}(e:Same H H')(h:SqL K H a xs):SqL K H' a xs:=by
 rcases h with (h | ⟨o,h⟩) | h
 ·exact .inl (.inl (e _ _ h))
 ·exact .inl (.inr ⟨o,e _ _ h⟩)
 ·exact .inr h
section
variable {X:Cx}
end
section
variable {κ :Type} [DecidableEq κ]
end
end L2
set_option maxHeartbeats 4000000
namespace L2
open PySem PySem.Spec PyProof.Rows
theorem zgV {prog:Program}{w:World}{A:Around}{R:Result→Shared→Prop}{s:Shared}
  {elt tg iter:Expr} {ifs:List Expr} {scope:Scope} {pos:Pos} {it acc:Value} {env:Env}
  (I:Nat→Shared→Prop)
  (turn:∀ n s,I n s→wpAny (model prog w) A (pyNext it)
   (fun r s1=>match r with
    | none=>R (.ok .next) s1
    | some v=>wpAny (model prog w) A (letOwnedTupleGo tg it v) (fun _ s2=>
      wpAny (model prog w) A (assign tg env v) (fun _ s3=>
      wpAny (model prog w) A
       (forIn ifs true fun c r=>if r=true then do
         let ok ← isTrue c env (eval c env)
         pure (ForInStep.yield ok)
        else pure (ForInStep.yield r))
       (fun ok s4=>if ok=true then
         wpAny (model prog w) A (eval elt env) (fun x s5=>
          wpAny (model prog w) A (call (.builtin "list.append") [acc,x])
           (fun _ s6=>∃ m,m < n∧I m s6) (fun _ _=>False) s5) (fun _ _=>False) s4
        else ∃ m,m < n∧I m s4) (fun _ _=>False) s3) (fun _ _=>False) s2)
      (fun _ _=>False) s1)
   (fun _ _=>False) s)
  (n:Nat) (h:I n s):
  codeAny (model prog w) A (.compLoop (.ListComp elt [⟨tg,iter,ifs,0⟩] scope pos) 0 it acc env) R s:=by
 refine codeAny_loop rfl I (fun n s hI=>?_) n h
 show wpAny _ A ((compTurn _ 0 it acc env).onRaise (fun x=>do noteFrame x env;theTreesLotGoes x)) _ _ s
 refine wpAny_noted (E:=fun e s'=>R (.error e) s') ?_
 rw [compTurn_list]
 refine yD (wpAny_standAt (yD (wpAny_mono (turn n s hI) (fun r s1 h1=>?_) fun _ _ z=>z.elim)))
 cases r with
 | none=>exact yP h1
 | some v=>
  refine yD (wpAny_mono h1 (fun _ s2 h2=>yD (wpAny_mono h2 (fun _ s3 h3=>
   yD (wpAny_mono h3 (fun ok s4 h4=>?_) fun _ _ z=>z.elim)) fun _ _ z=>z.elim)) fun _ _ z=>z.elim)
  cases ok with
  | false=>exact yP ⟨rfl,h4⟩
  | true=>
   exact yD (yD (wpAny_mono h4 (fun x s5 h5=>yD (wpAny_mono h5
    (fun _ s6 h6=>yP (yP ⟨rfl,h6⟩)) fun _ _ z=>z.elim)) fun _ _ z=>z.elim))
theorem zdN {scope:Scope}{env:Env}(h:∀ y∈scope.names,y.2= .free→∃ c,env.cells.lookup y.1=some c):
  ∃ cl,closureFor scope env=pure cl∧(∀ x c,cl.lookup x=some c→env.cells.lookup x=some c)∧
   ∀ y∈scope.names,y.2= .free→∃ c,cl.lookup y.1=some c:=by
 have all:∀ (ns:List (Str×NameKind)),(∀ y∈ns,y.2= .free→∃ c,env.cells.lookup y.1=some c)→∀ cl0:List (Str×Addr),
   (∀ x c,cl0.lookup x=some c→env.cells.lookup x=some c)→
   ∃ cl,(forIn ns cl0 fun (x:Str×NameKind) (r:List (Str×Addr))=>
     (if (x.2==NameKind.free)=true then do
      let a ← cellOf env x.1
      pure (ForInStep.yield ((x.1,a)::r))
     else pure (ForInStep.yield r):Sem _))=pure cl∧(∀ x c,cl.lookup x=some c→env.cells.lookup x=some c)∧
    (∀ x c,cl0.lookup x=some c→∃ c,cl.lookup x=some c)∧∀ y∈ns,y.2= .free→∃ c,cl.lookup y.1=some c:=by
  intro ns
  induction ns with
  | nil=>exact fun _ cl0 h0=>⟨cl0,rfl,h0,fun x c e=>⟨c,e⟩,fun y hy=>nomatch hy⟩
  | cons y r ih=>
   intro hy cl0 h0
   by_cases hk:y.2= .free
   ·obtain ⟨c,hc⟩:=hy y (.head _) hk
    have h1:∀ x d,((y.1,c)::cl0).lookup x=some d→env.cells.lookup x=some d:=fun x d e=>by
     rw [xO] at e
     cases q:x==y.1 with
     | true=>
      rw [q] at e
      have:x=y.1:=eq_of_beq q
      subst this
      exact (yV e) ▸ hc
     | false=>
      rw [q] at e
      exact h0 x d e
    obtain ⟨cl,e,a,b,d⟩:=ih (fun z hz=>hy z (.tail _ hz)) ((y.1,c)::cl0) h1
    have keep:∀ x d,cl0.lookup x=some d→∃ d,cl.lookup x=some d:=fun x d e=>by
     cases q:x==y.1 with
     | true=>exact b x c (by rw [xO,q])
     | false=>exact b x d (by rw [xO,q];exact e)
    refine ⟨cl,?_,a,keep,fun z hz hf=>?_⟩
    ·rw [yad]
     have:(y.2==NameKind.free)=true:=by rw [hk];rfl
     rw [if_pos this]
     have ec:cellOf env y.1=pure c:=by unfold cellOf;rw [hc]
     rw [ec]
     exact e
    ·rcases yN.mp hz with rfl | hz
     ·exact b z.1 c (by rw [xO,beq_self_eq_true])
     ·exact d z hz hf
   ·obtain ⟨cl,e,a,b,d⟩:=ih (fun z hz=>hy z (.tail _ hz)) cl0 h0
    refine ⟨cl,?_,a,b,fun z hz hf=>?_⟩
    ·rw [yad]
     have:¬(y.2==NameKind.free)=true:=by simpa using hk
     rw [if_neg this]
     exact e
    ·rcases yN.mp hz with rfl | hz
     ·exact absurd hf hk
     ·exact d z hz hf
 obtain ⟨cl,e,a,_,d⟩:=all scope.names h [] (fun x c e=>by simp at e)
 exact ⟨cl,congrArg (fun (m:Sem (List (Str×Addr)))=>m >>=fun cs=>pure cs) e,a,d⟩
theorem zeS {scope:Scope}{env:Env}{x:Str}(hc:∀ y∈scope.names,y.2≠.cell)
  (h:(relabel scope env).names.lookup x=some .cell∨(relabel scope env).names.lookup x=some .free):∃ y∈scope.names,y.1=x∧y.2= .free:=by
 have all:∀ ns:List (Str×NameKind),(∀ y∈ns,y.2≠.cell)→∀ k,(k=NameKind.cell∨k=NameKind.free)→
   (ns.map fun (n,k)=>if (k== .free && env.scope.kind== .function && env.kindOf n==some .cell) then (n,.cell) else (n,k)).lookup x=some k→∃ y∈ns,y.1=x∧y.2= .free:=by
  intro ns
  induction ns with
  | nil=>intro _ k _ e;simp at e
  | cons y r ih=>
   intro hn k hk e
   obtain ⟨n,j⟩:=y
   rw [qJ,xO] at e
   have step:(∃ z∈r,z.1=x∧z.2= .free)→∃ z∈(n,j)::r,z.1=x∧z.2= .free:=fun ⟨z,hz,q⟩=>⟨z,.tail _ hz,q⟩
   by_cases hcc:(j==NameKind.free && env.scope.kind== .function && env.kindOf n==some .cell)=true
   ·have hj:j= .free:=by
     simp only [jE,beq_iff_eq] at hcc
     exact hcc.1.1
    simp only [hcc,if_true] at e
    cases q:x==n with
    | true=>exact ⟨(n,j),.head _,(eq_of_beq q).symm,hj⟩
    | false=>
     rw [q] at e
     exact step (ih (fun z hz=>hn z (.tail _ hz)) k hk e)
   ·simp only [hcc,if_false,yao] at e
    cases q:x==n with
    | true=>
     rw [q] at e
     have ej:j=k:=yV e
     refine ⟨(n,j),.head _,(eq_of_beq q).symm,?_⟩
     rcases hk with hk | hk
     ·exact absurd (ej.trans hk) (hn (n,j) (.head _))
     ·exact ej.trans hk
    | false=>
     rw [q] at e
     exact step (ih (fun z hz=>hn z (.tail _ hz)) k hk e)
 rcases h with h | h
 ·exact all scope.names hc _ (.inl rfl) h
 ·exact all scope.names hc _ (.inr rfl) h
noncomputable def za8 (X:Cx) (N:List Str) (scope:Scope) (cl:List (Str×Addr)) (fp:List Addr) (s:Shared) (H:Hp):Cx where
 prog:=X.prog
 w:=X.w
 K:=X.K
 mg:=X.mg
 base:=X.base
 A:=X.A
 N:=N
 s₀ :=s
 H₀ :=H
 env:=compEnvC scope cl s.heap.objs.size X.env
 outer:=X.stack
 stack:=X.stack
 ex:=fp
 fn:=fun _=>false
 calm:=X.calm
 pn:=[]
 xe:=fun _ _=>False
noncomputable def zaS (n:Nat) (cap:List Nat) (σ :St):St:=List.replicate n none++cap.map fun j=>(σ[j]?).join
noncomputable def PTs (X:Cx) (ifs:List Expr) (t:TT):Prop:=
 ∀ (pins:List (Addr×Obj)) (s:Shared) (σ :St) (H:Hp) (Q:Bool→Hp→Prop),Inv X pins σ H s→t σ H Q→
  wpAny (model X.prog X.w) X.A (forIn ifs true fun c r=>if r=true then do
    let ok ← isTrue c X.env (eval c X.env)
    pure (ForInStep.yield ok)
   else pure (ForInStep.yield r)) (TP X pins σ Q) X.xe s
noncomputable def tYes:TT:=fun _ H Q=>Q true H
theorem zoK {X:Cx}:PTs X [] tYes:=fun _ _ _ H _ I h=>wpAny_tests_nil ⟨H,I,h⟩
theorem zn5 {X:Cx}{c:Expr}{t:TT}(h:PT X c t):PTs X [c] t:=fun pins s σ H Q I hw=>wpAny_tests_one (h pins s σ H Q I hw)
noncomputable def zcA (J:It) (D:Addr) (n:Nat) (cap:List Nat) (σ :St) (g:TG) (tt:TT) (te:TE) (Q:VK) (H1:Hp):Prop:=
 ∃ W:Nat→Nat→Hp→Prop,(∃ m,W 0 m (upd H1 D (.lst [])))∧∀ i m H,W i m H→
  (J.stop i H∧Q (.ref D) H)∨(J.go i H∧∃ N:Hp→Prop,(∀ H',N H'→∃ m',m' < m∧W (i+1) m' H')∧∀ x H',J.yld i H x H'→g x (zaS n cap σ) H' fun σ2 H2=>
   tt σ2 H2 fun b H3=>if b=true then te σ2 H3 fun y H4=>∃ xs,H4 D=some (.lst xs)∧xs.length < yH∧N (upd H4 D (.lst (xs++ [y])))
    else N H3)
noncomputable def zix (n:Nat) (cap:List Nat) (wi:TI) (g:TG) (tt:TT) (te:TE):TE:=fun σ H Q=>wi σ H fun J H1=>∀ D,H1 D=none→zcA J D n cap σ g tt te Q H1
section
variable {X:Cx} {elt tg iter:Expr} {ifs:List Expr} {scope:Scope} {pos:Pos} {N:List Str} {n:Nat} {cap:List Nat} {wi:TI} {g:TG} {tt:TT} {te:TE}
structure Blk (X:Cx) (scope:Scope) (N:List Str) (n:Nat) (cap:List Nat):Prop where
 kind:scope.kind= .function
 cell:∀ y∈scope.names,y.2≠.cell
 names:∀ y∈scope.names,y.2= .local→scope.names.lookup y.1=some .local
 free:∀ y∈scope.names,y.2= .free→X.env.kindOf y.1=some .cell∨X.env.kindOf y.1=some .free
 len:N.length=n+cap.length
 caps:∀ (i j:Nat) (x:Str),cap[i]? =some j→N[n+i]? =some x→X.N[j]? =some x∧(scope.names.lookup x=some .free)
end
noncomputable def blkOk (names:List (Str×NameKind)) (N:List Str) (n:Nat) (cap:List Nat) (No:List Str) (so:List (Str×NameKind)):Bool:=
 names.all (fun y=>y.2 != .cell) && names.all (fun y=>y.2 != .local || names.lookup y.1==some .local) &&
 names.all (fun y=>y.2 != .free || (so.lookup y.1==some .cell || so.lookup y.1==some .free)) && (N.length==n+cap.length) &&
 (xK cap.length).all fun i=>match cap[i]?,N[n+i]? with
  | some j,some x=>No[j]? ==some x && names.lookup x==some .free
  | _,_=>true
theorem za7 {X:Cx}{scope:Scope}{N:List Str}{n:Nat}{cap:List Nat}(hk:scope.kind= .function)(h:blkOk scope.names N n cap X.N X.env.scope.names=true):Blk X scope N n cap:=by
 unfold blkOk at h
 simp only [jE,qY] at h
 obtain ⟨⟨⟨⟨h1,h2⟩,h3⟩,h4⟩,h5⟩:=h
 refine ⟨hk,fun y hy z=>?_,fun y hy z=>?_,fun y hy z=>?_,by simpa using h4,fun i j x e1 e2=>?_⟩
 ·have:=h1 y hy
  rw [z] at this
  cases this
 ·have:=h2 y hy
  rw [z] at this
  simpa using this
 ·have:=h3 y hy
  rw [z] at this
  show X.env.scope.names.lookup y.1=some .cell∨X.env.scope.names.lookup y.1=some .free
  simpa using this
 ·have hi:i < cap.length:=(yF.mp e1).1
  have:=h5 i (kA.mpr hi)
  rw [e1,e2] at this
  simpa using this
theorem zhi {n:Nat}{cap:List Nat}{σ :St}{i:Nat}{v:V}(h:(zaS n cap σ)[i]? =some (some v)):
  ∃ k j,i=n+k∧cap[k]? =some j∧σ[j]? =some (some v):=by
 unfold zaS at h
 by_cases hi:i < n
 ·rw [jJ (by simpa using hi),yay,if_pos hi] at h
  cases h
 ·rw [jD (by simpa using yb2.mp hi)] at h
  simp only [yaT,yL] at h
  cases e:cap[i - n]? with
  | none=>rw [e] at h;cases h
  | some j=>
   rw [e] at h
   have h':(σ[j]?).join=some v:=yV h
   refine ⟨i - n,j,by omega,e,?_⟩
   cases q: σ[j]? with
   | none=>rw [q] at h';cases h'
   | some o=>
    rw [q] at h'
    exact congrArg some h'
theorem zeX {scope:Scope}{env:Env}{x:Str}(h:scope.names.lookup x=some .free):
  (relabel scope env).names.lookup x=some .cell∨(relabel scope env).names.lookup x=some .free:=by
 have all:∀ ns:List (Str×NameKind),ns.lookup x=some .free→
   (ns.map fun (n,k)=>if (k== .free && env.scope.kind== .function && env.kindOf n==some .cell) then (n,NameKind.cell) else (n,k)).lookup x=some .cell∨
   (ns.map fun (n,k)=>if (k== .free && env.scope.kind== .function && env.kindOf n==some .cell) then (n,NameKind.cell) else (n,k)).lookup x=some .free:=by
  intro ns
  induction ns with
  | nil=>intro e;simp at e
  | cons y r ih=>
   intro e
   obtain ⟨m,j⟩:=y
   rw [xO] at e
   rw [qJ,xO]
   cases q:x==m with
   | true=>
    rw [q] at e
    have ej:j= .free:=yV e
    subst ej
    by_cases hcc:(NameKind.free==NameKind.free && env.scope.kind== .function && env.kindOf m==some .cell)=true
    ·simp only [hcc,if_true,q,true_or]
    ·simp only [hcc,if_false,yao,q,or_true]
   | false=>
    rw [q] at e
    have h1:=ih e
    by_cases hcc:(j==NameKind.free && env.scope.kind== .function && env.kindOf m==some .cell)=true
    ·simp only [hcc,if_true,q]
     exact h1
    ·simp only [hcc,if_false,yao,q]
     exact h1
 exact all scope.names h
theorem zom {X:Cx}{pins:List (Addr×Obj)}{σ :St}{H:Hp}{s:Shared}{N:List Str}{scope:Scope}{n:Nat}{cap:List Nat}{cl:List (Str×Addr)}{fp:List Addr}
  (I:Inv X pins σ H s) (B:Blk X scope N n cap) (c1:∀ x c,cl.lookup x=some c→X.env.cells.lookup x=some c)
  (c2:∀ y∈scope.names,y.2= .free→∃ c,cl.lookup y.1=some c) (hf:∀ b∈fp,FpOk X pins H b) (hfl:∀ b∈fp,b < s.heap.objs.size):(za8 X N scope cl fp s H).Ok where
 mod:=I.ok.mod
 kind:=by show (relabel scope X.env).kind=_;exact B.kind
 glob:=I.ok.glob
 blt:=I.ok.blt
 above:=yJ _
 inj:=fun x y c e1 e2=>I.ok.inj x y c (c1 x c e1) (c1 y c e2)
 has:=fun x h=>by
  obtain ⟨y,hy,e,k⟩:=zeS B.cell h
  obtain ⟨c,hc⟩:=c2 y hy k
  exact ⟨c,e ▸ hc⟩
 cab:=fun x c h=>nomatch h
 hd:=I.ok.hd
 frames:=I.ok.frames
 stk:=.inl rfl
 exf:=fun b hb=>⟨qL (hfl b hb),fun x c e=>(hf b hb).2.2.2.2.1 x c (c1 x c e)⟩
 bs:=I.bs
 bsz:=jA I.ok.bsz I.sz
 noex:=fun b o e hb=>by
  rcases (hf b hb).2.2.2.1 with z | z
  ·exact I.ok.noex b o e z
  ·exact absurd (qK (yU e) (jA I.ok.bsz z)) (xZ _)
 exfs:=fun b hb z=>by
  rcases yN.mp (I.stkSub b z) with e | e
  ·exact (hf b hb).2.1 e
  ·exact (hf b hb).2.2.1 e
 funs:=I.stack
 frf:=I.stkFree
theorem zeL {X:Cx}{pins:List (Addr×Obj)}{σ :St}{H:Hp}{s:Shared}{h1:Heap}{t1:Nat}{N:List Str}{scope:Scope}{n:Nat}{cap:List Nat}{cl:List (Str×Addr)}{fp:List Addr}{m:Str→Option Value}
  (I:Inv X pins σ H s) (B:Blk X scope N n cap) (c1:∀ x c,cl.lookup x=some c→X.env.cells.lookup x=some c)
  (c2:∀ y∈scope.names,y.2= .free→∃ c,cl.lookup y.1=some c) (hf:∀ b∈fp,FpOk X pins H b) (hfl:∀ b∈fp,b < s.heap.objs.size)
  (hn:h1.Ns s.heap.objs.size m) (k:∀ b o,s.heap.get? b=some o→h1.get? b=some o):
  Inv (za8 X N scope cl fp s H) [] (zaS n cap σ) H {s with heap:=h1,toks:=t1} where
 ok:=zom I B c1 c2 hf hfl
 os:=rfl
 bare:=I.bare
 base:=Un.kept k
 loc:=by
  refine ⟨m,hn,fun i x v e1 e2 e3=>?_⟩
  obtain ⟨k',j,rfl,ec,es⟩:=zhi e2
  obtain ⟨ex,ef⟩:=B.caps k' j x ec e1
  have hy:∃ y∈scope.names,y.1=x∧y.2= .free:=zeS (env:=X.env) B.cell (zeX ef)
  obtain ⟨y,hy,ey,ky⟩:=hy
  have kx:X.env.kindOf x=some .cell∨X.env.kindOf x=some .free:=ey ▸ B.free y hy ky
  obtain ⟨m0,_,hl⟩:=I.loc
  have vis:Vis X.env.scope x:=.inr kx
  obtain ⟨u,r,l⟩:=hl j x v ex es vis
  refine ⟨u,r,.inr ⟨zeX ef,?_⟩⟩
  rcases l with ⟨kl,_⟩ | ⟨_,c,hc,ho⟩
  ·rcases kx with q | q <;> (rw [kl] at q;cases q)
  ·obtain ⟨c',hc'⟩:=c2 y hy ky
   rw [ey] at hc'
   have:=c1 x c' hc'
   rw [hc] at this
   cases this
   obtain ⟨o,eo,d⟩:=ho
   exact ⟨c,hc',o,k c o eo,d⟩
 cell:=fun x c e=>by
  obtain ⟨v,o,eo,d⟩:=I.cell x c (c1 x c e)
  exact ⟨v,o,k c o eo,d⟩
 free:=I.hok.fresh (yJ _)
 freeC:=fun x c e=>I.freeC x c (c1 x c e)
 pin:=fun p hp=>nomatch hp
 hok:=I.hok.kept k
 len:=by show (zaS n cap σ).length=N.length;rw [B.len];unfold zaS;simp
theorem zhz {X:Cx}{pins:List (Addr×Obj)}{σ σ':St}{H H':Hp}{s s':Shared}{N:List Str}{scope:Scope}{cl:List (Str×Addr)}{fp:List Addr}{pl:List (Addr×Obj)}
  (I:Inv X pins σ H s) (I':Inv (za8 X N scope cl fp s H) pl σ' H' s') (hf:∀ b∈fp,FpOk X pins H b):
  Inv X pins σ H' s'∧FpOk X pins H' s.heap.objs.size∧∃ m,s'.heap.Ns s.heap.objs.size m:=by
 obtain ⟨m,hn,_⟩:=I'.loc
 have u:Un (frs X.stack) fp H H' s.heap s'.heap:=I'.base
 have J:Inv X pins σ H' s':=I.call' (ch:=fp) I'.os u I'.hok I'.bare fun b hb=>by
  obtain ⟨_,a1,_,a3,a4,a5⟩:=hf b hb
  exact ⟨a3,a1,a4,a5⟩
 exact ⟨J,I.fpOk (yJ _) I'.free,m,hn⟩
noncomputable def zeN (n:Nat) (g:TG):Prop:=∀ x σ H Q,g x σ H Q→g x σ H fun σ2 H2=>Q σ2 H2∧σ2.length= σ.length∧∀ z,n≤z→σ2[z]? = σ[z]?
noncomputable def zlg (n:Nat) (g:TGs):Prop:=∀ xs σ H Q,g xs σ H Q→g xs σ H fun σ2 H2=>Q σ2 H2∧σ2.length= σ.length∧∀ z,n≤z→σ2[z]? = σ[z]?
theorem zaG {n i:Nat}(h:i < n):zeN n (zdO i):=fun x σ H Q q=>⟨q,by simp,fun z hz=>by rw [xU (by omega)]⟩
theorem zmr {n:Nat}:zlg n gNil:=fun xs σ H Q q=>⟨q.1,q.2,rfl,fun _ _=>rfl⟩
theorem zhH {n i:Nat}{u:TGs}(h:i < n)(hu:zlg n u)(hm:∀ xs σ H (Q Q':St→Hp→Prop),u xs σ H Q→(∀ a b,Q a b→Q' a b)→u xs σ H Q'):zlg n (ziQ (zdO i) u):=fun xs σ H Q q=>by
 obtain ⟨v,r,e,q⟩:=q
 refine ⟨v,r,e,hm r _ H _ _ (hu r _ H _ q) fun σ2 H2 ⟨p,l,k⟩=>⟨p,by rw [l];simp,fun z hz=>?_⟩⟩
 rw [k z hz,xU (by omega)]
theorem zjN:∀ xs σ H (Q Q':St→Hp→Prop),gNil xs σ H Q→(∀ a b,Q a b→Q' a b)→gNil xs σ H Q':=fun xs σ H Q Q' q m=>⟨q.1,m _ _ q.2⟩
theorem zln {i:Nat}{u:TGs}(hm:∀ xs σ H (Q Q':St→Hp→Prop),u xs σ H Q→(∀ a b,Q a b→Q' a b)→u xs σ H Q'):
  ∀ xs σ H (Q Q':St→Hp→Prop),ziQ (zdO i) u xs σ H Q→(∀ a b,Q a b→Q' a b)→ziQ (zdO i) u xs σ H Q':=fun xs σ H Q Q' ⟨v,r,e,q⟩ m=>⟨v,r,e,hm r _ H _ _ q m⟩
theorem zeq {K:PySem.W.Frag}{n m i j:Nat}(hi:i < n)(hj:j < n):zeN n (gTup K m (ziQ (zdO i) (ziQ (zdO j) gNil))):=fun x σ H Q q=>by
 obtain ⟨a,xs,e,hq,hl,q⟩:=q
 exact ⟨a,xs,e,hq,hl,zhH hi (zhH hj zmr zjN) (zln zjN) xs σ H Q q⟩
theorem zig {X:Cx}{elt tg iter:Expr}{ifs:List Expr}{scope:Scope}{pos:Pos}{N:List Str}{n:Nat}{cap:List Nat}{g:TG}{tt:TT}{te:TE}
  {cl:List (Str×Addr)} {RR:Value→Addr→Result→Shared→Prop} {E:Value→Shared→Prop}
  (hc:X.calm=true) (B:Blk X scope N n cap) (c1:∀ x c,cl.lookup x=some c→X.env.cells.lookup x=some c) (c2:∀ y∈scope.names,y.2= .free→∃ c,cl.lookup y.1=some c)
  (hk:zeN n g) (hg:∀ cl fp s H,PG (za8 X N scope cl fp s H) tg g) (ht:∀ cl fp s H,PTs (za8 X N scope cl fp s H) ifs tt) (he:∀ cl fp s H,PE (za8 X N scope cl fp s H) elt te)
  {pins:List (Addr×Obj)} {σ :St} {Q:VK} {itv:Value} {s2:Shared}
  (h:PIE X pins σ tg (fun J H1=>∀ D,H1 D=none→zcA J D n cap σ g tt te Q H1) itv s2)
  (hRR:∀ (D C:Addr) (H':Hp) (s':Shared) (m:Str→Option Value),Inv X pins σ H' s'→FpOk X pins H' C→s'.heap.Ns C m→Q (.ref D) H'→RR (.ref D) C (.ok .next) s'):
  wpAny (model X.prog X.w) X.A (newList []) (fun acc s3=>
   wpAny (model X.prog X.w) X.A (newFunctionEnv scope X.env.globals cl [] X.env.qual none .none (some X.env)) (fun cenv s4=>
    codeAny (model X.prog X.w) X.A (.compStart (.ListComp elt [⟨tg,iter,ifs,0⟩] scope pos) 0 itv acc {cenv with scope:=relabel scope X.env})
     (RR acc cenv.locals) s4) E s3) E s2:=by
 obtain ⟨it,fp,tn,J,H2,e,I2,T,st2,f2,q2⟩:=h
 subst e
 refine wpAny_newObj_type ?_ (by show 0≤yH;decide)
 have hD:H2 s2.heap.objs.size=none:=I2.hok.fresh (yJ _)
 obtain ⟨W,⟨m0,w0⟩,turn⟩:=q2 _ hD
 have I3:Inv X pins σ (upd H2 s2.heap.objs.size (.lst [])) {s2 with heap:=s2.heap.push {cls:=.type "list",data:=.seq ([]:List Value).toArray},toks:=s2.toks}:=
  I2.lnew .nil (by show 0≤yH;decide)
 have st3:tn 0 (s2.heap.push {cls:=.type "list",data:=.seq ([]:List Value).toArray}):=T.keep _ _ _ st2 fun b _ o e=>yG _ e
 have obj2:=T.obj _ _ st2
 have fD:∀ b∈fp,b≠s2.heap.objs.size:=fun b hb=>by
  obtain ⟨o,eo,_⟩:=obj2 b hb
  exact qL (yU eo)
 have f3:∀ b∈fp,FpOk X pins (upd H2 s2.heap.objs.size (.lst [])) b:=fun b hb=>⟨by rw [zah (fD b hb)];exact (f2 b hb).1,(f2 b hb).2⟩
 have go3:∀ (s3:Shared) (H3:Hp),Inv X pins σ H3 s3→tn 0 s3.heap→(∀ b∈fp,FpOk X pins H3 b)→W 0 m0 H3→
   wpAny (model X.prog X.w) X.A (newFunctionEnv scope X.env.globals cl [] X.env.qual none .none (some X.env)) (fun cenv s4=>
    codeAny (model X.prog X.w) X.A (.compStart (.ListComp elt [⟨tg,iter,ifs,0⟩] scope pos) 0 (.ref it) (.ref s2.heap.objs.size) {cenv with scope:=relabel scope X.env})
     (RR (.ref s2.heap.objs.size) cenv.locals) s4) E s3:=by
  intro s3 H3 I3 st3 f3 w0
  refine wpAny_newFunctionEnv B.cell (fun y hy=>nomatch hy) (fun h4 n4 sb4=>?_) B.kind
  have k4:∀ b o,s3.heap.get? b=some o→h4.get? b=some o:=fun b o e=>sb4.extBut b o (qL (yU e)) (yG _ e)
  have fl3:∀ b∈fp,b < s3.heap.objs.size:=fun b hb=>by
   obtain ⟨o,eo,_⟩:=T.obj _ _ st3 b hb
   exact yU eo
  have I4:Inv (za8 X N scope cl fp s3 H3) [] (zaS n cap σ) H3 {s3 with heap:=h4,toks:=s3.toks+([]:List (Str×Value)).length}:=
   zeL I3 B c1 c2 f3 fl3 n4 k4
  have st4:tn 0 h4:=T.keep _ _ _ st3 fun b _ o e=>k4 b o e
  have stat:∀ {H':Hp},(∀ b∈fp,H' b=none)→∀ b∈fp,FpOk (za8 X N scope cl fp s3 H3) [] H' b:=fun hn b hb=>by
   obtain ⟨_,a1,a2,_,a4,_⟩:=f3 b hb
   refine ⟨hn b hb,qL (fl3 b hb),fun z=>?_,.inl hb,fun x c e=>a4 x c (c1 x c e),fun p hp=>nomatch hp⟩
   rcases yN.mp (I3.stkSub b z) with e | e
   ·exact a1 e
   ·exact a2 e
  have loop:∀ s5:Shared,s5= {s3 with heap:=h4,toks:=s3.toks+([]:List (Str×Value)).length}→
    codeAny (model X.prog X.w) X.A (.compLoop (.ListComp elt [⟨tg,iter,ifs,0⟩] scope pos) 0 (.ref it) (.ref s2.heap.objs.size) (compEnvC scope cl s3.heap.objs.size X.env))
     (RR (.ref s2.heap.objs.size) s3.heap.objs.size) s5:=by
   rintro s5 rfl
   refine zgV (fun k s'=>∃ i H',Inv (za8 X N scope cl fp s3 H3) [] (zaS n cap σ) H' s'∧tn i s'.heap∧(∀ b∈fp,H' b=none)∧W i k H') ?_ m0
    ⟨0,H3,I4,st4,fun b hb=>(f3 b hb).1,w0⟩
   rintro k s6 ⟨i,H6,I6,st6,fr6,w6⟩
   rcases turn i k H6 w6 with ⟨stop,qn⟩ | ⟨go,N6,hN6,step⟩
   ·refine thn (T.done (za8 X N scope cl fp s3 H3) rfl rfl rfl hc i [] s6 _ H6 _ I6 (stat fr6) st6 stop) fun r s7 ⟨hr,I7⟩=>?_
    subst hr
    obtain ⟨J7,C7,m7,n7⟩:=zhz I3 I7 f3
    exact hRR _ _ H6 s7 m7 J7 C7 n7 qn
   ·refine thn (T.item (za8 X N scope cl fp s3 H3) rfl rfl rfl hc i [] s6 _ H6 _ I6 (stat fr6) st6 go) fun r s7 ⟨u,hr,h7⟩=>?_
    subst hr
    refine thn h7 fun _ s8 ⟨x,H8,I8,r8,y8,st8,fr8⟩=>?_
    have I8':=I8.pinned (stat fr8) (T.obj _ _ st8)
    refine thn (hg cl fp s3 H3 _ s8 _ H8 x u _ I8' r8 (hk _ _ _ _ (step x H8 y8))) fun _ s9 ⟨σ9,H9,I9,q9,l9,k9⟩=>?_
    refine thn (ht cl fp s3 H3 _ s9 σ9 H9 _ I9 q9) fun b s10 ⟨H10,I10,q10⟩=>?_
    have wk:∀ (z:Nat) v,(zaS n cap σ)[z]? =some (some v)→σ9[z]? =some (some v):=fun z v e=>by
     obtain ⟨kk,j,rfl,_,_⟩:=zhi e
     rw [k9 _ (xP _ _)]
     exact e
    have back:∀ {Ha:Hp} {sa:Shared} {j:Nat},Inv (za8 X N scope cl fp s3 H3) ([]++zfv fp s8.heap) σ9 Ha sa→W (i+1) j Ha→
      ∃ i H',Inv (za8 X N scope cl fp s3 H3) [] (zaS n cap σ) H' sa∧tn i sa.heap∧(∀ b∈fp,H' b=none)∧W i j H':=fun {Ha sa j} Ia wa=>by
     refine ⟨i+1,Ha,(Ia.unpinned).weak l9.symm wk,T.keep _ _ _ st8 fun b hb o e=>(Ia.pin (b,o) (qA _ (qA _ (zbx hb e)))).1,fun b hb=>?_,wa⟩
     obtain ⟨o,e,d⟩:=T.obj _ _ st8 b hb
     exact (Ia.pin (b,o) (qA _ (qA _ (zbx hb e)))).2.1
    cases b with
    | false=>
     rw [if_neg qG] at q10 ⊢
     obtain ⟨m',hm,w'⟩:=hN6 _ q10
     exact ⟨m',hm,back I10 w'⟩
    | true=>
     rw [if_pos rfl] at q10 ⊢
     refine thn (he cl fp s3 H3 _ s10 σ9 H10 _ I10 q10) fun y s11 ⟨yv,H11,I11,r11,q11⟩=>?_
     obtain ⟨xs,eD,hl,q11⟩:=q11
     obtain ⟨m',hm,w'⟩:=hN6 _ q11
     refine thn (zbc _ s11 σ9 H11 (.ref s2.heap.objs.size) [yv] (.ref s2.heap.objs.size) [y] (fun _ Hz=>Hz=upd H11 s2.heap.objs.size (.lst (xs++ [yv]))) I11 rfl (.cons r11 .nil)
      ⟨_,xs,yv,rfl,rfl,eD,hl,rfl⟩) fun _ s12 ⟨_,H12,I12,_,e12⟩=>?_
     subst e12
     exact ⟨m',hm,back I12 w'⟩
  exact codeAny_compStart_list (loop _ rfl) (T.self _ _ _ _ _ st4 (loop _ rfl))
 exact go3 _ _ I3 st3 f3 w0
section
variable {X:Cx} {elt tg iter:Expr} {ifs:List Expr} {scope:Scope} {pos:Pos} {N:List Str} {n:Nat} {cap:List Nat} {wi:TI} {g:TG} {tt:TT} {te:TE}
theorem zoe (hc:X.calm=true)(B:Blk X scope N n cap)(hi:PI X tg iter wi)(hk:zeN n g)
  (hg:∀ cl fp s H,PG (za8 X N scope cl fp s H) tg g) (ht:∀ cl fp s H,PTs (za8 X N scope cl fp s H) ifs tt) (he:∀ cl fp s H,PE (za8 X N scope cl fp s H) elt te)
  (hs:∀ x,foldedSetIterable iter X.env x=pure x:=by intro _;rfl):PE X (.ListComp elt [⟨tg,iter,ifs,0⟩] scope pos) (zix n cap wi g tt te):=by
 intro pins s σ H Q I h
 obtain ⟨cl,ecl,c1,c2⟩:=zdN (scope:=scope) (env:=X.env) fun y hy k=>I.ok.has y.1 (B.free y hy k)
 rw [eval_ListComp]
 refine wpAny_comprehension_free (use:=none) rfl hs ecl B.kind B.names ?_
 refine thn (hi pins s σ H _ I h) fun v s1 h1=>thn h1 fun itv s2 h2=>?_
 refine zig (RR:=fun acc C=>compPost (model X.prog X.w) X.A X.xe none (EP X pins σ Q) acc C) hc B c1 c2 hk hg ht he h2 fun D C H' s' m J f nn q=>?_
 exact ⟨m,nn,fun h' sb=>⟨.ref D,H',J.turned (t':=s'.toks) (fun b o hb e=>sb.extBut b o hb e) f.1 f.2.1 f.2.2.2.1 f.2.2.2.2.1 f.2.2.2.2.2,rfl,q⟩⟩
theorem zoZ {i:Nat}{x:Str}{pos' spos:Pos}(hc:X.calm=true)(B:Blk X scope N n cap)(hN:X.N.Nodup)(hi:X.N[i]? =some x)(hx:X.env.scope.names.lookup x=some .local)(hit:PI X tg iter wi)(hk:zeN n g)
  (hg:∀ cl fp s H,PG (za8 X N scope cl fp s H) tg g) (ht:∀ cl fp s H,PTs (za8 X N scope cl fp s H) ifs tt) (he:∀ cl fp s H,PE (za8 X N scope cl fp s H) elt te)
  (hsw:swapsWith (.ListComp elt [⟨tg,iter,ifs,0⟩] scope pos) (some (.Name x pos')) spos.line X.env=pure true)
  (hs:∀ x,foldedSetIterable iter X.env x=pure x:=by intro _;rfl):
  PS X (.Assign [.Name x pos'] (.ListComp elt [⟨tg,iter,ifs,0⟩] scope pos) spos) (tAsg (zix n cap wi g tt te) (zdO i)):=by
 intro pins s σ H D I h
 obtain ⟨cl,ecl,c1,c2⟩:=zdN (scope:=scope) (env:=X.env) fun y hy k=>I.ok.has y.1 (B.free y hy k)
 rw [exec_Assign_Name_used _ _ _ _ hsw]
 refine yD (wpAny_standAt (yD ?_))
 show wpAny _ X.A (do
  let _ ← comprehension (.ListComp elt [⟨tg,iter,ifs,0⟩] scope pos) scope X.env _ (newList []) false (eval iter X.env)
   (some (assign (.Name x pos') X.env))) _ _ s
 refine yD (thn (wpAny_comprehension_free (use:=some (assign (.Name x pos') X.env)) (Q:=fun _ s'=>SP X pins D .next s') rfl hs ecl B.kind B.names ?_) fun _ s' hq=>yP (yP hq))
 refine thn (hit pins s σ H _ I h) fun v s1 h1=>thn h1 fun itv s2 h2=>?_
 refine zig (Q:=fun y H2=>zdO i y σ H2 D.nx) (RR:=fun acc C=>compPost (model X.prog X.w) X.A X.xe (some (assign (.Name x pos') X.env)) (fun _ s'=>SP X pins D .next s') acc C) hc B c1 c2 hk hg ht he h2 fun Dl C H' s' m J f nn q=>?_
 show wpAny (model X.prog X.w) X.A (assign (.Name x pos') X.env (.ref Dl)) _ X.xe s'
 refine wpAny_assign_Name (zfu J hN hi (.inl hx) (show RelV (.ref Dl) (.ref Dl) from rfl) (fun s3 I3 ⟨a,sb,ha⟩=>?_) (.inr hx))
 have ca:C≠a:=by
  rcases ha with e | e
  ·rw [e];exact f.2.1
  ·exact fun z=>f.2.2.2.2.1 x a e z.symm
 refine ⟨m,nn.sameBut sb ca,fun h' sb'=>⟨_,H',I3.turned (t':=s3.toks) (fun b o hb e=>sb'.extBut b o hb e) f.1 f.2.1 f.2.2.2.1 f.2.2.2.2.1 f.2.2.2.2.2,q⟩⟩
end
section
variable {g:TG} {tt:TT} {te:TE} {n0:Nat} {cap:List Nat} {σ :St} {Q:VK} {D:Addr} {H1:Hp} {K:PySem.W.Frag}
theorem zcg {lo:Int}{n:Nat}(Pv:Nat→Hp→Prop)(h0:Pv 0 (upd H1 D (.lst [])))
  (hs:∀ i H,i < n→Pv i H→g (.int (lo+i)) (zaS n0 cap σ) H fun σ2 H2=>tt σ2 H2 fun b H3=>if b=true then te σ2 H3 fun y H4=>∃ xs,H4 D=some (.lst xs)∧xs.length < yH∧Pv (i+1) (upd H4 D (.lst (xs++ [y]))) else Pv (i+1) H3)
  (hd:∀ H,Pv n H→Q (.ref D) H):
  zcA (Itr lo n) D n0 cap σ g tt te Q H1:=by
 refine ⟨fun i m H=>m=n - i∧i≤n∧Pv i H,⟨n,by simp,qZ _,h0⟩,?_⟩
 rintro i m H ⟨rfl,hi,p⟩
 by_cases hlt:i < n
 ·refine .inr ⟨hlt,Pv (i+1),fun H' p'=>⟨n - (i+1),by omega,rfl,hlt,p'⟩,fun x H' y=>?_⟩
  obtain ⟨e1,e2⟩:=y
  subst e1 e2
  exact hs i _ hlt p
 ·have e:i=n:=by omega
  subst e
  exact .inl ⟨yJ _,hd H p⟩
theorem zaV {a:Addr}{xs:List V}(Pv:Nat→Hp→Prop)(h0:Pv 0 (upd H1 D (.lst [])))(hl:∀ i H,i≤xs.length→Pv i H→SqL K H a xs)
  (hs:∀ i x H,xs[i]? =some x→Pv i H→g x (zaS n0 cap σ) H fun σ2 H2=>tt σ2 H2 fun b H3=>if b=true then te σ2 H3 fun y H4=>∃ xs,H4 D=some (.lst xs)∧xs.length < yH∧Pv (i+1) (upd H4 D (.lst (xs++ [y]))) else Pv (i+1) H3)
  (hd:∀ H,Pv xs.length H→Q (.ref D) H):
  zcA (Itl K a) D n0 cap σ g tt te Q H1:=by
 refine ⟨fun i m H=>m=xs.length - i∧i≤xs.length∧Pv i H,⟨xs.length,by simp,qZ _,h0⟩,?_⟩
 rintro i m H ⟨rfl,hi,p⟩
 have q:=hl i H hi p
 by_cases hlt:i < xs.length
 ·refine .inr ⟨⟨xs,xs[i],q,by simp [hlt]⟩,Pv (i+1),fun H' p'=>⟨xs.length - (i+1),by omega,rfl,hlt,p'⟩,fun x H' y=>?_⟩
  obtain ⟨e1,y⟩:=y
  subst e1
  exact hs i x _ (y xs q) p
 ·have e:i=xs.length:=by omega
  subst e
  exact .inl ⟨⟨xs,q,yJ _⟩,hd H p⟩
theorem zgT {a:Addr}{xs:List V}(Pv:Nat→Hp→Prop)(h0:Pv 0 (upd H1 D (.lst [])))(hl:∀ i H,i≤xs.length→Pv i H→SqT K H a xs)
  (hs:∀ i x H,xs[i]? =some x→Pv i H→g x (zaS n0 cap σ) H fun σ2 H2=>tt σ2 H2 fun b H3=>if b=true then te σ2 H3 fun y H4=>∃ xs,H4 D=some (.lst xs)∧xs.length < yH∧Pv (i+1) (upd H4 D (.lst (xs++ [y]))) else Pv (i+1) H3)
  (hd:∀ H,Pv xs.length H→Q (.ref D) H):
  zcA (Itt K a) D n0 cap σ g tt te Q H1:=by
 refine ⟨fun i m H=>m=xs.length - i∧i≤xs.length∧Pv i H,⟨xs.length,by simp,qZ _,h0⟩,?_⟩
 rintro i m H ⟨rfl,hi,p⟩
 have q:=hl i H hi p
 by_cases hlt:i < xs.length
 ·refine .inr ⟨⟨xs,xs[i],q,by simp [hlt]⟩,Pv (i+1),fun H' p'=>⟨xs.length - (i+1),by omega,rfl,hlt,p'⟩,fun x H' y=>?_⟩
  obtain ⟨e1,y⟩:=y
  subst e1
  exact hs i x _ (y xs q) p
 ·have e:i=xs.length:=by omega
  subst e
  exact .inl ⟨⟨xs,q,yJ _⟩,hd H p⟩
end
theorem Inv.laidC {X:Cx}{pins:List (Addr×Obj)}{σ :St}{H:Hp}{s:Shared}{h':Heap}{a:Addr}{o:HO}{t':Nat}{ch:List Addr}(I:Inv X pins σ H s)
  (hch:∀ b∈ch,FpOk X pins H b) (k:∀ b u,b∉ch→s.heap.get? b=some u→h'.get? b=some u) (hp:s.heap.objs.size≤a)
  (new:zba X.prog X.w (upd H a o) h' a o):Inv X pins σ (upd H a o) {s with heap:=h',toks:=t'}:=by
 have hn:=I.hok.fresh hp
 have nch:∀ c u,H c=some u→c∉ch:=fun c u e z=>by rw [(hch c z).1] at e;cases e
 refine I.step (g':=s.gens) (d':=s.drawn) (ch:=ch) (fun b hb=>⟨(hch b hb).2.2.2.1,(hch b hb).2.1,(hch b hb).2.2.2.2.1,(hch b hb).2.2.2.2.2⟩)
  (fun b u _ _ hc e _=>k b u hc e) (fun b u _ _ hc e _=>⟨u.slots,k b u hc e⟩)
  (fun b u _ e n=>by rw [zah (qL (qK (yU e) hp))];exact n) (fun b u hc e=>⟨u,k b u hc e⟩)
  (fun b xs q=>by rw [zah (zai q hn)];exact q) (fun b u xs q=>by rw [zah (zai q hn)];exact q)
  (fun b ps q=>⟨#[],by rw [zah (zai q hn),q];simp⟩) (fun m hm=>?_) (fun b u e=>?_) I.bare
 ·exact hm.at' fun ob e=>k _ ob (fun z=>(hch _ z).2.1 rfl) e
 ·by_cases hb:b=a
  ·subst hb;rw [zab] at e;cases e;exact new
  ·rw [zah hb] at e
   refine (I.hok b u e).stay (fun c v hc q=>k c v ?_ q) (fun c q=>by rw [zah (zai q hn)];exact q) fun c xs q=>q.upd hn
   rcases hc with rfl | hc
   ·exact nch _ _ e
   ·exact nch _ _ hc
noncomputable def Ite (K:PySem.W.Frag) (a:Addr):It:=
 ⟨fun i H => ∃ xs x, SqL K H a xs ∧ xs[i]? = some x,
  fun i H v H'=>∃ T x,H T=none∧v= .ref T∧H'=upd H T (.tup [.int i,x])∧∀ xs,SqL K H a xs→xs[i]? =some x,
  fun i H=>∃ xs,SqL K H a xs∧xs.length≤i⟩
theorem zlf {P:Program}{w:World}{K:PySem.W.Frag}{elts:List Expr}{k:Nat}{tp:Pos}(a e it:Addr)(hne:e≠it):
  Turn P w K (.Tuple elts k tp) (Ite K a) [e,it] e (fun i h=>(∃ old,IsEnum h e it (i:Nat) old)∧h.IsListIter it a i) where
 mem:=by simp
 obj:=fun i h st b hb=>by
  obtain ⟨⟨old,he⟩,o,eo,c,d⟩:=st
  rcases yN.mp hb with rfl | hb
  ·exact ⟨_,he,fun v z=>nomatch z⟩
  ·have q:b=it:=by simpa using hb
   subst q
   exact ⟨o,eo,fun v z=>by rw [d] at z;cases z⟩
 keep:=fun i h h' st k=>by
  obtain ⟨⟨old,he⟩,hit⟩:=st
  exact ⟨⟨old,k e (by simp) _ he⟩,hit.at fun o q=>k it (by simp) o q⟩
 item:=by
  intro X hP hw hK hc i pins s σ H E I hf st hg
  subst hP hw hK
  obtain ⟨⟨old,he⟩,hit⟩:=st
  obtain ⟨xs,x,hq,hx⟩:=hg
  obtain ⟨its,rv,p,hz⟩:=I.list hq
  obtain ⟨u,hu,ru⟩:=rv.get hx
  have fe:=hf e (by simp)
  have fi:=hf it (by simp)
  refine wpAny_pyNext_enum_item he hit p.isList (x:=u) (by simpa using hu) hne fun h' ho hit' hT hsz hk=>?_
  have eT:e≠s.heap.objs.size:=qL (yU he)
  have iT:it≠s.heap.objs.size:=by
   obtain ⟨o,eo,_⟩:=hit
   exact qL (yU eo)
  have I1:Inv X pins σ (upd H s.heap.objs.size (.tup [.int i,x])) {s with heap:=h',toks:=s.toks+1}:=
   I.laidC (ch:=[e,it]) hf (fun b v hb q=>hk b v (fun z=>hb (by simp [z])) (fun z=>hb (by simp [z])) q) (yJ _)
    ⟨(by show 2≤yH;decide),[.int i s.toks,u],.cons ⟨_,rfl⟩ (.cons ru .nil),_,hT,rfl,_,rfl⟩
  refine ⟨_,rfl,wpAny_letOwnedTupleGo_enum ho fun h2 he2 sb2=>?_⟩
  have I2:Inv X pins σ (upd H s.heap.objs.size (.tup [.int i,x])) {s with heap:=h2,toks:=s.toks+1}:=
   I1.turned (t':=s.toks+1) (fun b o hb q=>(sb2.2 b hb).trans q) (by rw [zah eT];exact fe.1) fe.2.1 fe.2.2.2.1 fe.2.2.2.2.1 fe.2.2.2.2.2
  refine ⟨.ref s.heap.objs.size,_,I2,rfl,⟨_,x,I.hok.fresh (yJ _),rfl,rfl,fun ys hy=>by rw [I.list_inj hy hq];exact hx⟩,⟨⟨u,?_⟩,?_⟩,fun b hb=>?_⟩
  ·have:(((i+1:Nat)):Int)=(i:Int)+1:=by omega
   rw [this]
   exact he2
  ·exact hit'.extBut sb2.extBut (qX hne)
  ·rcases yN.mp hb with rfl | hb
   ·rw [zah eT];exact fe.1
   ·have q:b=it:=by simpa using hb
    subst q
    rw [zah iT];exact fi.1
 done:=by
  intro X hP hw hK hc i pins s σ H E I hf st hg
  subst hP hw hK
  obtain ⟨⟨old,he⟩,hit⟩:=st
  obtain ⟨xs,hq,hx⟩:=hg
  obtain ⟨its,rv,p,hz⟩:=I.list hq
  have fi:=hf it (by simp)
  have hl:=rv.length
  exact wpAny_pyNext_enum_end (I.ok.hd hc) he hit p.isList (by simp;omega) fun h' eb=>
   ⟨rfl,I.turned (t':=s.toks) (fun b o hb q=>eb b o hb q) fi.1 fi.2.1 fi.2.2.2.1 fi.2.2.2.2.1 fi.2.2.2.2.2⟩
 self:=fun _ _ _ _ _ st h=>by
  obtain ⟨⟨old,he⟩,_⟩:=st
  exact wpAny_pyIter_enum he h
noncomputable def iEnum (K:PySem.W.Frag) (ta:TA):TI:=fun σ H R=>ta σ H fun vs H1=>∃ l,vs= [.ref l]∧(∃ xs,SqL K H1 l xs)∧R (Ite K l) H1
theorem zpf {X:Cx}{a:Expr}{ta:TA}{p pos tp:Pos}{elts:List Expr}{k:Nat}(hg:Gl X "enumerate")(hm:X.mg "enumerate" =none)(ha:PA X [a] ta)
  (hs:starEach [a] X.env= [(false,eval a X.env)]:=by rfl):PI X (.Tuple elts k tp) (.Call (.Name "enumerate" p) [a] [] pos) (iEnum X.K ta):=by
 intro pins s σ H R I h
 refine Call_ (zgN I hg hm boot_enumerate (xL (thn (ha pos pins s σ H _ I h) fun us s1 ⟨vs,H1,I1,r1,q1⟩=>?_) hs rfl))
 obtain ⟨l,e,⟨xs,hq⟩,q⟩:=q1
 subst e
 cases r1 with
 | cons r rr=>
  cases rr
  cases r
  obtain ⟨its,rv,pl,hz⟩:=I1.list hq
  refine call_enumerate_list pl.isList fun h' he hit hz' hk=>?_
  refine wpAny_pyIter_enum he ?_
  refine ⟨s1.heap.objs.size+1,[s1.heap.objs.size+1,s1.heap.objs.size],_,_,H1,rfl,I1.kept (t':=s1.toks) hk,zlf l _ _ (Nat.succ_ne_self _),⟨⟨_,he⟩,hit⟩,fun b hb=>?_,q⟩
  have le:s1.heap.objs.size≤b:=by
   rcases yN.mp hb with z | hb
   ·rw [z];exact Nat.le_succ _
   ·have z:b=s1.heap.objs.size:=by simpa using hb
    rw [z];exact yJ _
  exact I1.fpOk le (I1.hok.fresh le)
theorem zg7 {K:PySem.W.Frag}{a:Addr}{xs:List V}{g:TG}{tb:TS}{D:Ends}{σ :St}{H:Hp}(Pv:Nat→St→Hp→Prop)(h0:Pv 0 σ H)
  (hl:∀ i σ H,i≤xs.length→Pv i σ H→SqL K H a xs)
  (hs:∀ i x σ H T,xs[i]? =some x→Pv i σ H→H T=none→g (.ref T) σ (upd H T (.tup [.int i,x])) fun σ2 H2=>tb {D with nx:=Pv (i+1),ct:=Pv (i+1),bk:=D.nx} σ2 H2)
  (hd:∀ σ H,Pv xs.length σ H→D.nx σ H):
  ∃ W:Nat→Nat→St→Hp→Prop,(∃ m,W 0 m σ H)∧∀ i m σ H,W i m σ H→
   ((Ite K a).stop i H ∧ D.nx σ H) ∨ ((Ite K a).go i H ∧ ∃ N : St → Hp → Prop, (∀ σ' H', N σ' H' → ∃ m', m' < m ∧ W (i + 1) m' σ' H') ∧
     ∀ x H',(Ite K a).yld i H x H'→g x σ H' fun σ2 H2=>tb {D with nx:=N,ct:=N,bk:=D.nx} σ2 H2):=by
 refine ⟨fun i m σ H=>m=xs.length - i∧i≤xs.length∧Pv i σ H,⟨xs.length,by simp,qZ _,h0⟩,?_⟩
 rintro i m σ H ⟨rfl,hi,p⟩
 have q:=hl i σ H hi p
 by_cases hlt:i < xs.length
 ·refine .inr ⟨⟨xs,xs[i],q,by simp [hlt]⟩,Pv (i+1),fun σ' H' p'=>⟨xs.length - (i+1),by omega,rfl,hlt,p'⟩,fun x H' y=>?_⟩
  obtain ⟨T,z,hT,e1,e2,y⟩:=y
  subst e1 e2
  exact hs i z σ H T (y xs q) p hT
 ·have e:i=xs.length:=by omega
  subst e
  exact .inl ⟨⟨xs,q,yJ _⟩,hd σ H p⟩
open PySem.W (Dat kqdP kqdPs kqdOk)
mutual
inductive Rep (K:PySem.W.Frag) (H:Hp):V→Dat→Prop
 | non:Rep K H .non .none
 | bl (b:Bool):Rep K H (.bl b) (.bool b)
 | int (i:Int):Rep K H (.int i) (.int i)
 | str (x:Str):Rep K H (.str x) (.str x)
 | tup {a:Addr} {xs:List V} {ds:List Dat}:SqT K H a xs→Reps K H xs ds→Rep K H (.ref a) (.tuple ds)
 | lst {a:Addr} {xs:List V} {ds:List Dat}:SqL K H a xs→Reps K H xs ds→Rep K H (.ref a) (.list ds)
inductive Reps (K:PySem.W.Frag) (H:Hp):List V→List Dat→Prop
 | nil:Reps K H [] []
 | cons {x:V} {xs:List V} {d:Dat} {ds:List Dat}:Rep K H x d→Reps K H xs ds→Reps K H (x::xs) (d::ds)
end
theorem Same.seqT {K:PySem.W.Frag}{H H':Hp}{a:Addr}{xs:List V}(e:Same H H')(h:SqT K H a xs):SqT K H' a xs:=by
 rcases h with h | h
 ·rcases h with h | ⟨o,h⟩
  ·exact .inl (.inl (e _ _ h))
  ·exact .inl (.inr ⟨o,e _ _ h⟩)
 ·exact .inr h
mutual
theorem Rep.mono {K:PySem.W.Frag}{H H':Hp}(s:Same H H'):∀ {v:V} {d:Dat},Rep K H v d→Rep K H' v d
 | _,_,.non=>.non
 | _,_,.bl b=>.bl b
 | _,_,.int i=>.int i
 | _,_,.str x=>.str x
 | _,_,.tup h r=>.tup (s.seqT h) (Reps.mono s r)
 | _,_,.lst h r=>.lst (s.seq h) (Reps.mono s r)
theorem Reps.mono {K:PySem.W.Frag}{H H':Hp}(s:Same H H'):∀ {vs:List V} {ds:List Dat},Reps K H vs ds→Reps K H' vs ds
 | _,_,.nil=>.nil
 | _,_,.cons h r=>.cons (Rep.mono s h) (Reps.mono s r)
end
theorem Reps.length {K:PySem.W.Frag}{H:Hp}:∀ {vs:List V} {ds:List Dat},Reps K H vs ds→vs.length=ds.length
 | _,_,.nil=>rfl
 | _,_,.cons _ r=>congrArg Nat.succ (Reps.length r)
theorem Reps.get {K:PySem.W.Frag}{H:Hp}:∀ {vs:List V} {ds:List Dat} {i:Nat} {v:V},Reps K H vs ds→vs[i]? =some v→∃ d,ds[i]? =some d∧Rep K H v d
 | _,_,_,_,.nil,e=>by simp at e
 | _,_,0,_,.cons h _,e=>by simp at e;subst e;exact ⟨_,rfl,h⟩
 | _,_,i+1,v,.cons _ r,e=>by
  obtain ⟨d,h1,h2⟩:=Reps.get (i:=i) (v:=v) r (by simpa using e)
  exact ⟨d,by simpa using h1,h2⟩
theorem Reps.getD {K:PySem.W.Frag}{H:Hp}:∀ {vs:List V} {ds:List Dat} {i:Nat} {d:Dat},Reps K H vs ds→ds[i]? =some d→∃ v,vs[i]? =some v∧Rep K H v d
 | _,_,_,_,.nil,e=>by simp at e
 | _,_,0,_,.cons h _,e=>by simp at e;subst e;exact ⟨_,rfl,h⟩
 | _,_,i+1,v,.cons _ r,e=>by
  obtain ⟨d,h1,h2⟩:=Reps.getD (i:=i) (d:=v) r (by simpa using e)
  exact ⟨d,by simpa using h1,h2⟩
theorem Reps.append {K:PySem.W.Frag}{H:Hp}:∀ {vs us:List V} {ds es:List Dat},Reps K H vs ds→Reps K H us es→Reps K H (vs++us) (ds++es)
 | _,_,_,_,.nil,s=>s
 | _,_,_,_,.cons h r,s=>.cons h (Reps.append r s)
theorem Reps.snoc {K:PySem.W.Frag}{H:Hp}{vs:List V}{ds:List Dat}{v:V}{d:Dat}(r:Reps K H vs ds)(h:Rep K H v d):Reps K H (vs++ [v]) (ds++ [d]):=r.append (.cons h .nil)
theorem Reps.ints {K:PySem.W.Frag}{H:Hp}:∀ ns:List Int,Reps K H (ns.map V.int) (ns.map Dat.int)
 | []=>.nil
 | n::r=>.cons (.int n) (Reps.ints r)
section
variable {X:Cx} {pins:List (Addr×Obj)} {σ :St} {H:Hp} {s:Shared}
mutual
theorem Rep.reads (I:Inv X pins σ H s):∀ (n:Nat) {v:V} {d:Dat} {u:Value},Rep X.K H v d→RelV v u→kqdOk n d=true→∃ as,Reads s.heap u (kqdP d) as
 | _,_,_,_,.non,r,_=>by cases (show _=_ from r);exact ⟨_,Reads.none⟩
 | _,_,_,_,.bl b,r,_=>by cases (show _=_ from r);exact ⟨_,Reads.bool b⟩
 | _,_,_,_,.int i,r,_=>by obtain ⟨t,rfl⟩:=r;exact ⟨_,Reads.int i t⟩
 | _,_,_,_,.str x,r,_=>by obtain ⟨t,rfl⟩:=r;exact ⟨_,Reads.str x t⟩
 | 0,_,_,_,.tup _ _,_,hk=>by simp [kqdOk] at hk
 | 0,_,_,_,.lst _ _,_,hk=>by simp [kqdOk] at hk
 | n+1,_,_,_,.tup h q,r,hk=>by
  cases (show _=_ from r)
  obtain ⟨its,rv,⟨o,e,c,m,d⟩,_⟩:=I.tuple h
  obtain ⟨as,z⟩:=Reps.reads I n q rv (by simpa [kqdOk] using hk)
  rw [kqdP]
  exact ⟨as,reads_tuple_at e c d (by simpa using z)⟩
 | n+1,_,_,_,.lst h q,r,hk=>by
  cases (show _=_ from r)
  obtain ⟨its,rv,⟨o,m,e,c,_,d⟩,_⟩:=I.list h
  obtain ⟨as,z⟩:=Reps.reads I n q rv (by simpa [kqdOk] using hk)
  rw [kqdP]
  exact ⟨_,reads_list_at e c d (by simpa using z)⟩
theorem Reps.reads (I:Inv X pins σ H s):∀ (n:Nat) {vs:List V} {ds:List Dat} {us:List Value},Reps X.K H vs ds→Vals vs us→(∀ d∈ds,kqdOk n d=true)→∃ as,ReadsAll s.heap us (kqdPs ds) as
 | _,_,_,_,.nil,r,_=>by cases r;exact ⟨_,ReadsAll.nil⟩
 | n,_,_,_,.cons h q,r,hk=>by
  cases r with
  | cons r1 r2=>
   obtain ⟨as,z⟩:=Rep.reads I n h r1 (hk _ (.head _))
   obtain ⟨bs,y⟩:=Reps.reads I n q r2 fun d hm=>hk d (.tail _ hm)
   rw [kqdPs]
   exact ⟨_,ReadsAll.cons z y⟩
end
end
noncomputable def rEqD (K:PySem.W.Frag) (neg:Bool):R2:=fun x y H Q=>∃ dx dy,Rep K H x dx∧Rep K H y dy∧kqdOk 8 dx=true∧kqdOk 8 dy=true∧(dx=dy→Q (.bl (!neg)) H)∧(dx≠dy→Q (.bl neg) H)
section
variable {X:Cx}
theorem zb1 {d:Dat}(h:kqdOk 8 d=true):SeqAt.shaped (kqdP d)=true:=by
 have l:=PySem.W.kqd_lay 8 d h
 unfold SeqAt.shaped
 rw [l.1,Bool.true_and]
 exact decide_eq_true (jA l.2 (by decide))
theorem znC (hu:X.A.units+64 < cLine):OpR X (compareOp .Eq) (rEqD X.K false):=by
 intro pins s σ H x y v u Q I rx ry ⟨dx,dy,hx,hy,kx,ky,q1,q2⟩
 obtain ⟨as,ra⟩:=Rep.reads I 8 hx rx kx
 obtain ⟨bs,rb⟩:=Rep.reads I 8 hy ry ky
 have e:=PySem.W.kqd_eqv 8 dx dy 8 kx ky
 refine eq_dataH ra rb (zb1 kx) (zb1 ky) hu ?_
 cases z:ya3 (kqdP dx) (kqdP dy) with
 | true=>exact ⟨.bl true,H,I,rfl,q1 (e.mp z)⟩
 | false=>exact ⟨.bl false,H,I,rfl,q2 fun w=>by rw [e.mpr w] at z;cases z⟩
theorem op_neD (hu:X.A.units+64 < cLine):OpR X (compareOp .NotEq) (rEqD X.K true):=by
 intro pins s σ H x y v u Q I rx ry ⟨dx,dy,hx,hy,kx,ky,q1,q2⟩
 obtain ⟨as,ra⟩:=Rep.reads I 8 hx rx kx
 obtain ⟨bs,rb⟩:=Rep.reads I 8 hy ry ky
 have e:=PySem.W.kqd_eqv 8 dx dy 8 kx ky
 refine ne_dataH ra rb (zb1 kx) (zb1 ky) hu ?_
 cases z:ya3 (kqdP dx) (kqdP dy) with
 | true=>exact ⟨.bl false,H,I,rfl,q1 (e.mp z)⟩
 | false=>exact ⟨.bl true,H,I,rfl,q2 fun w=>by rw [e.mpr w] at z;cases z⟩
inductive TyR (K:PySem.W.Frag) (H:Hp):V→Value→Prop where
 | of {x:V} {c:Value} (h:TyOf K H x c):TyR K H x c
 | tup {a:Addr} {xs:List V} (h:SqT K H a xs):TyR K H (.ref a) (.type "tuple")
 | lst {a:Addr} {xs:List V} (h:SqL K H a xs):TyR K H (.ref a) (.type "list")
noncomputable def rIsI (K:PySem.W.Frag):List V→Hp→VK→Prop:=fun xs H Q=>∃ x T t b,xs= [x,.ty T]∧TyR K H x t∧PySem.W.kitOne K t (.type T)=some b∧Q (.bl b) H
theorem zjK:zcZ X (.builtin "isinstance") (rIsI X.K):=by
 intro pins s σ H xs us Q I r ⟨x,T,t,b,e,ty,ek,q⟩
 subst e
 obtain ⟨u,w',rfl,rx,rt⟩:=zmq r
 cases (show w'=Value.type T from rt)
 cases ty with
 | of ty=>exact zk3 I rx ty ek fun tk=>⟨.bl b,H,I.tok tk,rfl,q⟩
 | tup h=>
  cases (show u=_ from rx)
  obtain ⟨its,rv,⟨o,e,c,_⟩,_⟩:=I.tuple h
  exact PySem.W.kia_one PySem.W.kitx_tuple I.kIn ⟨o,e,c⟩ ek (fun z=>nomatch z) fun tk=>⟨.bl b,H,I.tok tk,rfl,q⟩
 | lst h=>
  cases (show u=_ from rx)
  obtain ⟨its,rv,⟨o,m,e,c,_⟩,_⟩:=I.list h
  exact PySem.W.kia_one PySem.W.kitx_list I.kIn ⟨o,e,c⟩ ek (fun z=>nomatch z) fun tk=>⟨.bl b,H,I.tok tk,rfl,q⟩
noncomputable def CBits (i j:Int):Prop:=qI i≤2 ^ 20∧qI j≤2 ^ 20
theorem zcS:OpR X (binaryOp .Mult) (rI CBits fun i j=>.int (i * j)):=opI fun i j t u s Q E h q=>mul_int q (IntMulOk.of_bits h.1 h.2)
theorem zc2 {i:Int}{k:Nat}(hk:k≤2 ^ 20)(h1: -(2 ^ k) < i)(h2:i < 2 ^ k):qI i≤2 ^ 20:=by
 unfold qI
 split
 ·exact qZ _
 ·rename_i h0
  have hn:i.natAbs < 2 ^ k:=by
   have e:((2 ^ k:Nat):Int)=2 ^ k:=by norm_cast
   omega
  have:i.natAbs.log2 < k:=by
   refine (Nat.log2_lt ?_).mpr hn
   intro z
   simp at h0
   omega
  omega
end
end L2
namespace L2
open PySem PySem.Spec PyProof.Rows
section
variable {X:Cx} {K:PySem.W.Frag}
theorem zeg (h:X.K=K:=by rfl):IxR X (rIxL K):=by subst h;exact zaJ
theorem zi3 (h:X.K=K:=by rfl):IxR X (rIxT K):=by subst h;exact zax
theorem zgW (h:X.K=K:=by rfl):zcZ X (.builtin "len") (fun xs H Q=>∃ p ys,xs= [.ref p]∧(SqL K H p ys∨SqT K H p ys)∧Q (.int ys.length) H):=by subst h;exact zau
theorem zoW (hu:X.A.units+64 < cLine)(h:X.K=K:=by rfl):OpR X (compareOp .NotEq) (rEqD K true):=by subst h;exact op_neD hu
theorem zoc {es:List Expr}{k:Nat}{t:TGs}{n:Nat}{pos:Pos}(hc:X.calm=true)(h:PGs X es t)(hK:X.K=K:=by rfl)
  (hn:(assignEach es X.env).length=n:=by rfl) (hst:(assignEach es X.env).findIdx? (·.1)=none:=by rfl):PG X (.Tuple es k pos) (gTup K n t):=by subst hK;exact znE hc h hn hst
end
structure Bx (p:Prop):Prop where
 get:p
section
variable {X:Cx} {a b c e l o i f elt tg iter target value:Expr} {es ts rest:List Expr} {st:Stmt} {sts body els:List Stmt} {ta tb tc te td ty tx tv tl to ti:TE} {tA tB':TT} {t tr:TA} {s u tb':TS} {g:TG} {gs:TGs} {wi:TI} {tt:TT}
 {pos apos cpos p pos' spos:Pos} {op op':CmpOp} {bop:Operator} {r r':R2} {lo hi:Option Expr} {tlo thi:TO}
theorem bpv (k:Nat){x:Str}{pos:Pos}(hN:X.N[k]? =some x:=by rfl)(hv:Vis X.env.scope x:=by first | exact Or.inl rfl | exact Or.inr (Or.inl rfl) | exact Or.inr (Or.inr rfl))
  (hd:(x==("__debug__" :Str))=false:=by decide) (hcd:(x==("__classdict__" :Str))=false:=by decide):Bx (PE X (.Name x pos) (tVar k)):=⟨pe_var hN hv hd hcd⟩
theorem zae {k:Int}{j pos}:Bx (PE X (.Constant (.int k) j pos) (tC (.int k))):=⟨pe_int⟩
theorem zhL {k:Bool}{j pos}:Bx (PE X (.Constant (.bool k) j pos) (tC (.bl k))):=⟨pe_bl⟩
theorem zgZ {j pos}:Bx (PE X (.Constant .none j pos) (tC .non)):=⟨pe_non⟩
theorem zaj {x:Str}{j pos}:Bx (PE X (.Constant (.str x) j pos) (tC (.str x))):=⟨pe_str⟩
theorem zbD {x:Str}{v:V}{w:Value}{pos:Pos}(hg:Gl X x)(hm:X.mg x=some w)(r:RelV v w)(hd:(x==("__debug__" :Str))=false:=by decide):Bx (PE X (.Name x pos) (tC v)):=⟨zoH hg hm r hd⟩
theorem zhr {x:Str}{v:V}{w:Value}{pos:Pos}(hg:Gl X x)(hm:X.mg x=none)(hv:bootBuiltins x=some w)(r:RelV v w)(hn:x≠"__name__" :=by decide)(hd:(x==("__debug__" :Str))=false:=by decide):Bx (PE X (.Name x pos) (tC v)):=⟨zoA hg hm hv r hn hd⟩
theorem zao (ho:OpR X (binaryOp bop) r)(ha:Bx (PE X a ta))(hb:Bx (PE X b tb)):Bx (PE X (.BinOp a bop b pos) (tOp r ta tb)):=⟨pe_op ho ha.1 hb.1⟩
theorem zc9 {uop:UnaryOp}{r:V→Hp→VK→Prop}(ho:UnR X (unaryOp uop) r)(ha:Bx (PE X a ta)):Bx (PE X (.UnaryOp uop a pos) (tUn r ta)):=⟨pe_un ho ha.1⟩
theorem zdx (ho:OpR X (compareOp op) r)(ha:Bx (PE X a ta))(hb:Bx (PE X b tb))(hm:behindInMarks op b=false):Bx (PE X (.Compare a [op] [b] pos) (tOp r ta tb)):=⟨zoy ho ha.1 hb.1 hm⟩
theorem zap (ho:OpR X (compareOp op) r)(ha:Bx (PE X a ta))(hb:Bx (PE X b tb))(hm:behindInMarks op b=false):Bx (PT X (.Compare a [op] [b] pos) (tTest (tOp r ta tb))):=⟨zol ho ha.1 hb.1 hm⟩
theorem zh8 (ho:OpR X (compareOp op) r)(ho':OpR X (compareOp op') r')(ha:Bx (PE X a ta))(hb:Bx (PE X b tb))(hc:Bx (PE X c tc))(hm:lastMarks [op,op'] [b,c]=false:=by with_unfolding_all rfl):Bx (PE X (.Compare a [op,op'] [b,c] pos) (znv r r' ta tb tc)):=⟨zni ho ho' ha.1 hb.1 hc.1 hm⟩
theorem zhh {j pos'}(ha:Bx (PE X a ta)):Bx (PC X .Is a (.Constant .none j pos') (tIsN ta)):=⟨pc_isN ha.1⟩
theorem zoa (hu:X.A.units+1 < cLine)(hi:Bx (PE X i ty))(ho:Bx (PE X o td)):Bx (PC X .In i o (tDIn ty td)):=⟨pc_din hu hi.1 ho.1⟩
theorem zlv (h:Bx (PC X op a b te))(h1:behindInMarks op b=false:=by first | exact zfg _ (by decide) (by decide) | rfl):Bx (PE X (.Compare a [op] [b] pos) te):=⟨pe_cmp h.1 h1⟩
theorem ziL (h:Bx (PC X op a b te))(h1:behindInMarks op b=false:=by first | exact zfg _ (by decide) (by decide) | rfl):Bx (PT X (.Compare a [op] [b] pos) (tB te)):=⟨pt_cmp h.1 h1⟩
theorem zd0 (h:Bx (PE X e te))(he:∀ whole,isTrue e X.env whole=(do let v ← whole;standAt e.pos;holding [v] (truthy v)):=by intro _;rfl):Bx (PT X e (tB te)):=⟨pt_val h.1 he⟩
theorem zdR (h:Bx (PW X e tt)):Bx (PT X e tt):=⟨h.1.pt⟩
theorem zfb (ha:Bx (PT X a tA)):Bx (PW X (.BoolOp .And [a] pos) tA):=⟨zo0 ha.1⟩
theorem zeK (ha:Bx (PT X a tA)):Bx (PW X (.BoolOp .Or [a] pos) tA):=⟨pw_or1 ha.1⟩
theorem zhs (ha:Bx (PT X a tA))(hb:Bx (PW X (.BoolOp .And (b::rest) pos) tB')):Bx (PW X (.BoolOp .And (a::b::rest) pos) (tAnd tA tB')):=⟨pw_and ha.1 hb.1⟩
theorem zgB (ha:Bx (PT X a tA))(hb:Bx (PW X (.BoolOp .Or (b::rest) pos) tB')):Bx (PW X (.BoolOp .Or (a::b::rest) pos) (tOr tA tB')):=⟨pw_or ha.1 hb.1⟩
theorem zc3 (ha:Bx (PT X a tA)):Bx (PT X (.UnaryOp .Not a pos) (tNot tA)):=⟨pt_not ha.1⟩
theorem zn8 (ha:Bx (PE X a ta)):Bx (PE X (.UnaryOp .Not a pos) (tNotV ta)):=⟨pe_not ha.1⟩
theorem zfT (hc:Bx (PT X c tA))(ha:Bx (PE X a ta))(hb:Bx (PE X b tb)):Bx (PE X (.IfExp c a b pos) (tIf tA ta tb)):=⟨znr hc.1 ha.1 hb.1⟩
theorem zac:Bx (PA X [] tNil):=⟨pa_nil⟩
theorem zaa (ha:Bx (PE X e te))(hr:Bx (PA X es t))(hs:starEach (e::es) X.env=(false,eval e X.env)::starEach es X.env:=by rfl):Bx (PA X (e::es) (tCons te t)):=⟨znY ha.1 hr.1 hs⟩
theorem zaP {x1}(h:Bx (PA X es t)):Bx (PE X (.Tuple es x1 pos) (tTup t)):=⟨pe_tup h.1⟩
theorem zaD (h:Bx (PA X es t)):Bx (PE X (.List es pos) (tLst t)):=⟨pe_lst h.1⟩
theorem zaq (hr:IxR X r)(ha:Bx (PE X a ta))(hb:Bx (PE X b tb))(hs:zlV b):Bx (PE X (.Subscript a b pos) (tOp r ta tb)):=⟨pe_ix hr ha.1 hb.1 hs⟩
theorem zmt (hu:X.A.units+1 < cLine)(ho:Bx (PE X o td))(hi:Bx (PE X i ty))(hs:NoSl i):Bx (PE X (.Subscript o i pos) (tDGet td ty)):=⟨zoX hu ho.1 hi.1 hs⟩
theorem zcF (hu:X.A.units+1 < cLine)(ho:Bx (PE X o td))(he:Bx (PE X e ty))(hf:Bx (PE X f tx))(m:M2 X o "get" apos e f cpos):Bx (PE X (.Call (.Attribute o "get" apos) [e,f] [] cpos) (znA td ty tx)):=⟨zmp hu ho.1 he.1 hf.1 m⟩
theorem zfs:Bx (PE X (.Dict [] [] pos) znK):=⟨zmf⟩
theorem zjt:Bx (PPs X pos [] [] []):=⟨zph⟩
theorem zbY {ks:List (Option Expr)}{vs:List Expr}{trs:List (TE×TE)}(hk:Bx (PE X a ta))(hv:Bx (PE X b tb))(hr:Bx (PPs X pos ks vs trs)):Bx (PPs X pos (some a::ks) (b::vs) ((ta,tb)::trs)):=⟨zml hk.1 hv.1 hr.1⟩
theorem zjz {keys:List (Option Expr)}{values:List Expr}{trs:List (TE×TE)}(h:Bx (PPs X pos keys values trs))(hall:keys.all (·.isSome)=true)(hl:keys.length=values.length)(h0:keys≠[])(h15:keys.length≤15):Bx (PE X (.Dict keys values pos) (tDisp trs)):=⟨zou h.1 hall hl h0 h15⟩
theorem zes:Bx (PO X none zlh):=⟨zoU⟩
theorem zb5 (h:Bx (PE X e te)):Bx (PO X (some e) (tPart te)):=⟨zoI h.1⟩
theorem zch {r:V→Option Int→Option Int→Hp→VK→Prop}{p2:Pos}(hr:SlR X r)(he:Bx (PE X e te))(hl:Bx (PO X lo tlo))(hu:Bx (PO X hi thi)):Bx (PE X (.Subscript e (.Slice lo hi none p2) pos) (tSl r te tlo thi)):=⟨zno hr he.1 hl.1 hu.1⟩
theorem zat {r:List V→Hp→VK→Prop}{x:Str}{id:String}(hc:zcZ X (.builtin id) r)(hg:Gl X x)(hm:X.mg x=none)(hv:bootBuiltins x=some (.builtin id))(ha:Bx (PA X (e::es) t))(hn:x≠"__name__" :=by decide)(hdb:(x==("__debug__" :Str))=false:=by decide)
  (he:starEach (e::es) X.env=(false,eval e X.env)::starEach es X.env:=by rfl) (hpl:(backTo pos (starEach es X.env)).any (·.1)=false:=by rfl):Bx (PE X (.Call (.Name x p) (e::es) [] pos) (tCB r t)):=⟨zmH hc hg hm hv ha.1 hn hdb he hpl⟩
theorem zaz {r:List V→Hp→VK→Prop}{x:Str}{T:String}(hc:zcZ X (.type T) r)(hg:Gl X x)(hm:X.mg x=none)(hv:bootBuiltins x=some (.type T))(ha:Bx (PA X (e::es) t))(hn:x≠"__name__" :=by decide)(hdb:(x==("__debug__" :Str))=false:=by decide)
  (he:starEach (e::es) X.env=(false,eval e X.env)::starEach es X.env:=by rfl) (hpl:(backTo pos (starEach es X.env)).any (·.1)=false:=by rfl):Bx (PE X (.Call (.Name x p) (e::es) [] pos) (tCB r t)):=⟨zlQ hc hg hm hv ha.1 hn hdb he hpl⟩
theorem zal {CX:CXT}{k:Nat}{fa:Addr}{fd:FuncData}{ps:List Str}{sp:Sp}{dvs:List V}{ds:List Value}{E:XK}{x:Str}(F:FnOk X.prog X.w X.K X.mg X.base CX k fa fd ps sp)(hr:Room k X.A)(hg:Gl X x)(hm:X.mg x=some (.ref fa))(hk:PySem.W.keepIn X.K (.ref fa)=true)
  (hb:zdb X.K fd ps ds) (hd:Vals dvs ds) (hx:zdn CX X E) (ha:Bx (PA X (e::es) t)) (hdb:(x==("__debug__" :Str))=false:=by decide)
  (he:starEach (e::es) X.env=(false,eval e X.env)::starEach es X.env:=by rfl) (hpl:(backTo pos (starEach es X.env)).any (·.1)=false:=by rfl):Bx (PE X (.Call (.Name x p) (e::es) [] pos) (tCall sp dvs E t)):=⟨zn1 F hr hg hm hk hb hd hx ha.1 hdb he hpl⟩
theorem zbm {name:Str}{T id:String}{r:V→List V→Hp→VK→Prop}(pa:PlainAttrs T)(slot:Slot T name id)(hty:typeOf (.builtin id)=pure (.type "method_descriptor"))(hm:MtR X id r)(ho:Bx (PE X o to))(ha:Bx (PA X (e::es) t))
  (h1:attributeBase o name X.env (eval o X.env)=eval o X.env:=by rfl)
  (h2:((backTo cpos (starEach (e::es) X.env)).all (fun x=>!x.1) && (backToKw cpos (keywordEach [] X.env)).all (fun x=>x.1.isSome) && decide ((e::es).length+([]:List Keyword).length+(if ([]:List Keyword).isEmpty then 0 else 1) < 30))=true:=by rfl)
  (h3:(apos.endLine==cpos.line)=true:=by rfl) (h4:starEach (e::es) X.env=(false,eval e X.env)::starEach es X.env:=by rfl) (h5:(backTo cpos (starEach es X.env)).any (·.1)=false:=by rfl):
  Bx (PE X (.Call (.Attribute o name apos) (e::es) [] cpos) (tBM X.K T r to t)):=⟨pe_bm pa slot hty hm ho.1 ha.1 h1 h2 h3 h4 h5⟩
theorem zoC {name:Str}{T id:String}{r:V→List V→Hp→VK→Prop}(pa:PlainAttrs T)(slot:Slot T name id)(hty:typeOf (.builtin id)=pure (.type "method_descriptor"))(hm:MtR X id r)(ho:Bx (PE X o to))
  (hbase:attributeBase o name X.env (eval o X.env)=eval o X.env:=by rfl) (hline:(apos.endLine==cpos.line)=true:=by rfl):Bx (PE X (.Call (.Attribute o name apos) [] [] cpos) (tBM0 X.K T r to)):=⟨pe_bm0 pa slot hty hm ho.1 hbase hline⟩
theorem zas:Bx (PSs X [] tNext):=⟨zoM⟩
theorem zad (h1:Bx (PS X st s))(h2:Bx (PSs X sts u)):Bx (PSs X (st::sts) (tSeq s u)):=⟨zmN h1.1 h2.1⟩
theorem zaf (h1:Bx (PS X st s)):Bx (PSs X [st] s):=⟨zob h1.1⟩
theorem zci:Bx (PS X st zmc):=⟨zmm⟩
theorem zbR (he:Bx (PE X e te))(hs:swapsWith e none pos.line X.env=pure false:=by rfl):Bx (PS X (.Expr e pos) (tDrop te)):=⟨zok he.1 hs⟩
theorem zar (he:Bx (PE X e te)):Bx (PS X (.Return (some e) pos) (tRet te)):=⟨ps_ret he.1⟩
theorem zaA (hc:Bx (PT X c tA))(ha:Bx (PSs X body s))(hb:Bx (PSs X els u)):Bx (PS X (.If c body els pos) (tIfS tA s u)):=⟨ps_if hc.1 ha.1 hb.1⟩
theorem zan {k:Nat}{x:Str}(hN:X.N.Nodup)(hi:X.N[k]? =some x)(hx:Loc X.env.scope x)(hf:X.fn x=true∨X.env.scope.names.lookup x=some .local:=by first | exact .inl rfl | exact .inr rfl | assumption):Bx (PG X (.Name x pos) (zdO k)):=⟨zod hN hi hx hf⟩
theorem zbF:Bx (PGs X [] gNil):=⟨zoT⟩
theorem zaE (h1:Bx (PG X e g))(h2:Bx (PGs X es gs))(hs:(assignEach (e::es) X.env).map (·.2)=assign e X.env::(assignEach es X.env).map (·.2):=by rfl):Bx (PGs X (e::es) (ziQ g gs)):=⟨zm5 h1.1 h2.1 hs⟩
theorem zdU {k n:Nat}(hc:X.calm=true)(h:Bx (PGs X es gs))(hn:(assignEach es X.env).length=n:=by rfl)(hst:(assignEach es X.env).findIdx? (·.1)=none:=by rfl):Bx (PG X (.Tuple es k pos) (gTup X.K n gs)):=⟨znE hc h.1 hn hst⟩
theorem zfa {K:PySem.W.Frag}{k n:Nat}(hc:X.calm=true)(h:Bx (PGs X es gs))(hK:X.K=K:=by rfl)(hn:(assignEach es X.env).length=n:=by rfl)(hst:(assignEach es X.env).findIdx? (·.1)=none:=by rfl):Bx (PG X (.Tuple es k pos) (gTup K n gs)):=⟨zoc hc h.1 hK hn hst⟩
theorem zpc {tset:TSet}(ho:Bx (PE X o to))(hi:Bx (PE X i ti))(hs:PSet X tset)
  (ha:∀ v,assign (.Subscript o i pos) X.env v=(do
   let ov ← holding [v] (eval o X.env)
   let iv ← holding [v,ov] (eval i X.env)
   standAt pos
   holding [v,ov,iv] (setItem ov iv v)
   release [v,ov,iv] []):=by intro _;rfl):Bx (PG X (.Subscript o i pos) (gSub to ti tset)):=⟨pg_sub ho.1 hi.1 hs ha⟩
theorem ziR (he:Bx (PE X e te))(hg:Bx (PG X tg g))(hs:swapsWithSole [tg] e pos.line X.env=pure false:=by rfl)(hw:swappedStores [tg] e X.env=pure none:=by rfl)
  (h1:(assignEach [tg] X.env).map (·.2)= [assign tg X.env]:=by rfl):Bx (PS X (.Assign [tg] e pos) (tAsg te g)):=⟨ps_asg he.1 hg.1 hs hw h1⟩
theorem zam {k:Nat}{x:Str}(hN:X.N.Nodup)(hi:X.N[k]? =some x)(hx:Loc X.env.scope x)(he:Bx (PE X e te))(hs:swapsWith e (some (.Name x pos')) pos.line X.env=pure false:=by rfl)(hf:X.fn x=true∨X.env.scope.names.lookup x=some .local:=by first | exact .inl rfl | exact .inr rfl | assumption):
  Bx (PS X (.Assign [.Name x pos'] e pos) (tAsg te (zdO k))):=⟨ps_set hN hi hx he.1 hs hf⟩
theorem znc (hu:X.A.units+1 < cLine)(ho:Bx (PE X o td))(hi:Bx (PE X i ty))(hv:Bx (PE X value tv))(hs:swapsWith value (some (.Subscript o i pos')) pos.line X.env=pure false:=by rfl):Bx (PS X (.Assign [.Subscript o i pos'] value pos) (sDPut td ty tv)):=⟨zor hu ho.1 hi.1 hv.1 hs⟩
theorem zaY (hp:PassesOwn (model X.prog X.w) X.A X.env X.xe)(hc:X.calm=true)(hi:Bx (PI X tg iter wi))(hg:Bx (PG X tg g))(hb:Bx (PSs X body tb'))(hs:∀ x,foldedSetIterable iter X.env x=pure x:=by intro _;rfl):Bx (PS X (.For tg iter body [] pos) (tFor wi g tb')):=⟨ps_for hp hc hi.1 hg.1 hb.1 hs⟩
theorem zaM (hl:Bx (PE X l tl)):Bx (PI X tg l (iList X.K tl)):=⟨zo4 hl.1⟩
theorem zhe (hl:Bx (PE X l tl)):Bx (PI X tg l (iTup X.K tl)):=⟨pi_tup hl.1⟩
theorem zaO (hg:Gl X "range")(hm:X.mg "range" =none)(ha:Bx (PA X [a] t))(hs:starEach [a] X.env= [(false,eval a X.env)]:=by rfl):Bx (PI X tg (.Call (.Name "range" p) [a] [] pos) (iRng1 t)):=⟨zls hg hm ha.1 hs⟩
theorem zef {elts:List Expr}{k:Nat}{tp:Pos}(hg:Gl X "enumerate")(hm:X.mg "enumerate" =none)(ha:Bx (PA X [a] t))(hs:starEach [a] X.env= [(false,eval a X.env)]:=by rfl):Bx (PI X (.Tuple elts k tp) (.Call (.Name "enumerate" p) [a] [] pos) (iEnum X.K t)):=⟨zpf hg hm ha.1 hs⟩
theorem zaK:Bx (PTs X [] tYes):=⟨zoK⟩
theorem zff (h:Bx (PT X c tA)):Bx (PTs X [c] tA):=⟨zn5 h.1⟩
theorem zaQ {ifs:List Expr}{scope:Scope}{N:List Str}{n:Nat}{cap:List Nat}(hc:X.calm=true)(B:Blk X scope N n cap)(hi:Bx (PI X tg iter wi))(hk:zeN n g)
  (hg:∀ cl fp s H,Bx (PG (za8 X N scope cl fp s H) tg g)) (ht:∀ cl fp s H,Bx (PTs (za8 X N scope cl fp s H) ifs tt)) (he:∀ cl fp s H,Bx (PE (za8 X N scope cl fp s H) elt te))
  (hs:∀ x,foldedSetIterable iter X.env x=pure x:=by intro _;rfl):Bx (PE X (.ListComp elt [⟨tg,iter,ifs,0⟩] scope pos) (zix n cap wi g tt te)):=
 ⟨zoe hc B hi.1 hk (fun cl fp s H=>(hg cl fp s H).1) (fun cl fp s H=>(ht cl fp s H).1) (fun cl fp s H=>(he cl fp s H).1) hs⟩
theorem zen {ifs:List Expr}{scope:Scope}{N:List Str}{n:Nat}{cap:List Nat}{k:Nat}{x:Str}(hc:X.calm=true)(B:Blk X scope N n cap)(hN:X.N.Nodup)(hi:X.N[k]? =some x)(hx:X.env.scope.names.lookup x=some .local)(hit:Bx (PI X tg iter wi))(hk:zeN n g)
  (hg:∀ cl fp s H,Bx (PG (za8 X N scope cl fp s H) tg g)) (ht:∀ cl fp s H,Bx (PTs (za8 X N scope cl fp s H) ifs tt)) (he:∀ cl fp s H,Bx (PE (za8 X N scope cl fp s H) elt te))
  (hsw:swapsWith (.ListComp elt [⟨tg,iter,ifs,0⟩] scope pos) (some (.Name x pos')) spos.line X.env=pure true) (hs:∀ x,foldedSetIterable iter X.env x=pure x:=by intro _;rfl):
  Bx (PS X (.Assign [.Name x pos'] (.ListComp elt [⟨tg,iter,ifs,0⟩] scope pos) spos) (tAsg (zix n cap wi g tt te) (zdO k))):=
 ⟨zoZ hc B hN hi hx hit.1 hk (fun cl fp s H=>(hg cl fp s H).1) (fun cl fp s H=>(ht cl fp s H).1) (fun cl fp s H=>(he cl fp s H).1) hsw hs⟩
end
section
variable {P:Program} {w:World} {K:PySem.W.Frag} {mg:Str→Option Value} {base:Heap}
theorem Fun.okB {x qual:Str}{st:Stmt}{f:Addr}{fd:FuncData}{N ps:List Str}{k:Nat}{sp:Sp}(F:Fun K x qual st f fd)(S:zav N ps (zak st))(len:∀ vs H Q E,sp vs H Q E→vs.length=ps.length)
  (hbody:∀ (cdv:Value) (A:Around) (outer:List Env) (s:Shared) (H:Hp) (vs:List V) (Q:VK) (E:XK),Room k (A.deeper (envOfC qual (zak st) s.heap.objs.size f cdv))→sp vs H Q E→
   ∃ t,Bx (PSs (cxOf CX0 P w K mg base N qual (zak st) f cdv A outer s H E).nox (za1 st) t)∧t {nx:=fun _ H'=>Q .non H',rt:=Q} (start N vs) H):FnOk P w K mg base CX0 (k+1) f fd ps sp:=
 F.ok S len fun cdv A outer s H vs Q E hr h=>let ⟨t,a,b⟩:=hbody cdv A outer s H vs Q E hr h;⟨t,a.1,b⟩
end
section
variable {X:Cx}
theorem znm {bs:List Bool}:∀ {us:List Value} {j:Nat} {v:Value},Vals (bs.map V.bl) us→us[j]? =some v→∃ b,bs[j]? =some b∧v= .bool b:=by
 intro us j v r h
 have hl:=r.length
 have hj:j < us.length:=(yF.mp h).1
 have hb:j < bs.length:=by rw [yA] at hl;omega
 obtain ⟨u,hu,ru⟩:=r.get (i:=j) (x:=.bl bs[j]) (by simp [hb])
 rw [h] at hu
 cases hu
 exact ⟨bs[j],by simp [hb],ru⟩
theorem zlT (bs:List Bool):(xK bs.length).all (fun j=>(bs[j]?).getD true)=bs.all id:=by
 rw [vR,qY,qY]
 constructor
 ·intro h b hb
  obtain ⟨j,hj,e⟩:=List.mem_iff_getElem.mp hb
  have:=h j (kA.mpr hj)
  rw [yQ hj] at this
  simpa [e] using this
 ·intro h j hj
  have hj:=kA.mp hj
  rw [yQ hj]
  exact h _ (vG hj)
theorem zfS (hc:X.calm=true):zcZ X (.builtin "all") (fun xs H Q=>∃ (p:Addr) (bs:List Bool),xs= [.ref p]∧SqL X.K H p (bs.map V.bl)∧Q (.bl (bs.all id)) H):=by
 intro pins s σ H xs us Q I r ⟨p,bs,e,hq,q⟩
 subst e
 obtain ⟨u,rfl,rx⟩:=zhb r
 cases rx
 obtain ⟨its,rv,pl,hz⟩:=I.list hq
 have hl:its.toArray.size=bs.length:=by
  have:=rv.length
  simpa using this.symm
 have hlt:p < s.heap.objs.size:=by
  obtain ⟨o,ho,_⟩:=pl.isList
  exact yU ho
 refine call_all_walk (wpAny_pyIter_list pl.isList ?_)
 refine ⟨_,_,_,_,_,_,fun j=>(bs[j]?).getD true,rfl,Walks.list (A:=X.A.in1) (I.ok.hd hc) _ p (qL hlt) its.toArray,⟨⟨_,yZ _ rfl,rfl,rfl⟩,pl.isList.at fun o e=>yG _ e⟩,?_,fun h' tk hk=>?_⟩
 ·intro j v s' Q' E' hv hQ
  obtain ⟨b,hb,rfl⟩:=znm rv (show its[j]? =some v by simpa using hv)
  dsimp only at hQ
  rw [hb] at hQ
  exact wpAny_truthy_bool hQ
 ·rw [hl,zlT]
  refine ⟨.bl _,H,I.kept (t':=tk) fun b o e=>hk b o ?_ (yG _ e),rfl,q⟩
  intro z
  have:b=s.heap.objs.size:=by simpa using z
  exact qL (yU e) this
end
open PySem.W (Dat kqdP kqdPs kqdOk)
theorem zag {H:Hp}{p:Addr}(h:H p=none)(o:HO):Same H (upd H p o):=fun b u q=>by rw [zah (zai q h)];exact q
theorem Same.upd {H H':Hp}(s:Same H H'){p:Addr}(h:H' p=none)(o:HO):Same H (upd H' p o):=s.trans (zag h o)
theorem Same.write {H H':Hp}(s:Same H H'){p:Addr}(h:H p=none)(o:HO):Same H (L2.upd H' p o):=fun b u q=>by rw [zah (zai q h)];exact s b u q
noncomputable def zbk (p:Addr) (H H':Hp):Prop:=∀ b o,b≠p→H b=some o→H' b=some o
theorem Same.b {H H':Hp}(s:Same H H')(p:Addr):zbk p H H':=fun b o _ h=>s b o h
theorem zbk.trans {p:Addr}{H H1 H2:Hp}(a:zbk p H H1)(b:zbk p H1 H2):zbk p H H2:=fun c o n h=>b c o n (a c o n h)
theorem zbk.write {p:Addr}{H H1:Hp}(a:zbk p H H1)(o:HO):zbk p H (L2.upd H1 p o):=fun c u n h=>by rw [zah n];exact a c u n h
theorem zbk.same {p:Addr}{G H H1:Hp}(s:Same G H)(g:G p=none)(a:zbk p H H1):Same G H1:=fun b o q=>a b o (zai q g) (s b o q)
structure Bld (K:PySem.W.Frag) (H0:Hp) (p:Addr) (xs:List V) (ds:List Dat) (H:Hp):Prop where
 ex:∃ G,Same H0 G∧Same G H∧G p=none∧Reps K G xs ds
 at_:H p=some (.lst xs)
section
variable {K:PySem.W.Frag} {H0 H:Hp} {p T:Addr} {xs vs:List V} {ds es:List Dat}
theorem Bld.start (h:H0 p=none):Bld K H0 p [] [] (upd H0 p (.lst [])):=⟨⟨H0,Same.refl _,zag h _,h,.nil⟩,zab⟩
theorem Bld.same (b:Bld K H0 p xs ds H):Same H0 H:=by
 obtain ⟨G,a,c,_⟩:=b.ex
 exact a.trans c
theorem Bld.reps (b:Bld K H0 p xs ds H):Reps K H xs ds:=by
 obtain ⟨G,_,a,_,r⟩:=b.ex
 exact r.mono a
theorem Bld.len (b:Bld K H0 p xs ds H):xs.length=ds.length:=b.reps.length
theorem Bld.sq (b:Bld K H0 p xs ds H):SqL K H p xs:=.of b.at_
theorem Bld.rep (b:Bld K H0 p xs ds H):Rep K H (.ref p) (.list ds):=.lst b.sq b.reps
theorem Bld.new (b:Bld K H0 p xs ds H)(h:H T=none)(o:HO):Bld K H0 p xs ds (upd H T o):=by
 obtain ⟨G,a,c,n,r⟩:=b.ex
 exact ⟨⟨G,a,c.upd h o,n,r⟩,by rw [zah (zai b.at_ h)];exact b.at_⟩
theorem Bld.pushT (b:Bld K H0 p xs ds H)(h:H T=none)(r:Reps K H0 vs es):Bld K H0 p (xs++ [.ref T]) (ds++ [.tuple es]) (upd (upd H T (.tup vs)) p (.lst (xs++ [.ref T]))):=by
 obtain ⟨G,a,c,n,rs⟩:=b.ex
 have hT:G T=none:=c.free h
 have pT:p≠T:=zai b.at_ h
 have s1:Same G (upd G T (.tup vs)):=zag hT _
 refine ⟨⟨upd G T (.tup vs),a.trans s1,fun x u q=>?_,by rw [zah pT];exact n,(rs.mono s1).snoc (.tup (.of zab) ((r.mono a).mono s1))⟩,zab⟩
 by_cases e:x=T
 ·subst e
  rw [zab] at q
  rw [zah (qX pT),zab]
  exact q
 ·rw [zah e] at q
  rw [zah (zai q n),zah e]
  exact c x u q
end
theorem big {n:Nat}(h:n≤100000):n < yH:=ybo h (by decide)
theorem bigE {n:Nat}(h:n≤100000):n≤yH:=wS (big h)
end L2
namespace L2
open PySem PySem.Spec PyProof.Rows
open PySem.W (Dat kqdP kqdPs kqdOk)
noncomputable def rInD (K:PySem.W.Frag) (neg:Bool):R2:=fun x y H Q=>∃ d ds,Rep K H x d∧Rep K H y (.list ds)∧kqdOk 8 d=true∧(∀ e∈ds,kqdOk 8 e=true)∧(d∈ds→Q (.bl (!neg)) H)∧(d∉ds→Q (.bl neg) H)
section
variable {X:Cx}
open Classical in
theorem zo3 {pins:List (Addr×Obj)}{σ :St}{H:Hp}{s:Shared}{x y:V}{v u:Value}{d:Dat}{ds:List Dat}(I:Inv X pins σ H s)(hu:X.A.units+64 < cLine)(rx:RelV x v)(ry:RelV y u)
  (hx:Rep X.K H x d) (hy:Rep X.K H y (.list ds)) (kd:kqdOk 8 d=true) (ks:∀ e∈ds,kqdOk 8 e=true):
  ∃ (p:Addr) (its:List Value) (e:Value→Bool),u= .ref p∧s.heap.IsList p its.toArray∧(∀ z,z∈its.toArray→jO X.A.in1 s z v (e z))∧(its.toArray.any e=true↔d∈ds):=by
 cases hy with
 | lst hq rq=>
  cases (show _=_ from ry)
  obtain ⟨its,r,pl,hz⟩:=I.list hq
  obtain ⟨as,ra⟩:=Rep.reads I 8 hx rx kd
  have room:∀ di,kqdOk 8 di=true→X.A.in1.units+min (kqdP di).depth (kqdP d).depth < cLine:=fun di k=>by
   have l:=(PySem.W.kqd_lay 8 di k).2
   rw [Around.in1_units]
   omega
  have back:∀ {xs:List V} {us:List Value} {i:Nat} {u:Value},Vals xs us→us[i]? =some u→∃ x,xs[i]? =some x∧RelV x u:=fun {xs us i u} r e=>by
   have hi:i < xs.length:=by rw [r.length];exact (yF.mp e).1
   obtain ⟨u',h1,h2⟩:=r.get (yQ hi)
   rw [e] at h1
   cases h1
   exact ⟨_,yQ hi,h2⟩
  have each:∀ z∈its,∃ di,di∈ds∧∃ bs,Reads s.heap z (kqdP di) bs:=by
   intro z hz
   obtain ⟨i,hi⟩:=jR hz
   obtain ⟨w,hw,rw'⟩:=back r hi
   obtain ⟨di,hdi,rdi⟩:=rq.get hw
   exact ⟨di,yR hdi,Rep.reads I 8 rdi rw' (ks di (yR hdi))⟩
  have same:∀ di,di∈ds→kqdP di=kqdP d→di=d:=fun di hd e=>by
   have z:=(PySem.W.kqd_eqv 8 d d 8 kd kd).mpr rfl
   exact (PySem.W.kqd_eqv 8 di d 8 (ks di hd) kd).mp (by rw [e];exact z)
  refine ⟨_,its,fun z=>decide (∃ bs,Reads s.heap z (kqdP d) bs),rfl,pl.isList,fun z hz=>?_,?_⟩
  ·obtain ⟨di,hd,bs,rb⟩:=each z (by simpa using hz)
   have q:=SeqAt.eqAt_reads _ _ X.A.in1 s z v bs as rb ra (vJ (zb1 (ks di hd))) (vJ (zb1 kd)) (room di (ks di hd))
   have e:ya3 (kqdP di) (kqdP d)=decide (∃ bs,Reads s.heap z (kqdP d) bs):=by
    by_cases h:di=d
    ·subst h
     rw [(PySem.W.kqd_eqv 8 di di 8 kd kd).mpr rfl]
     exact (decide_eq_true ⟨bs,rb⟩).symm
    ·have e1:ya3 (kqdP di) (kqdP d)=false:=by
      cases c:ya3 (kqdP di) (kqdP d) with
      | true=>exact absurd ((PySem.W.kqd_eqv 8 di d 8 (ks di hd) kd).mp c) h
      | false=>rfl
     rw [e1]
     refine (decide_eq_false ?_).symm
     rintro ⟨cs,rc⟩
     exact h (same di hd (ybp _ _ z bs cs (vJ (zb1 (ks di hd))) rb rc))
   show jO X.A.in1 s z v (decide (∃ bs,Reads s.heap z (kqdP d) bs))
   rw [← e]
   exact q
  ·rw [Array.any_eq_true']
   constructor
   ·rintro ⟨z,hz,c⟩
    obtain ⟨cs,rc⟩:=of_decide_eq_true c
    obtain ⟨di,hd,bs,rb⟩:=each z (by simpa using hz)
    have:=same di hd (ybp _ _ z bs cs (vJ (zb1 (ks di hd))) rb rc)
    exact this ▸ hd
   ·intro hd
    obtain ⟨i,hi⟩:=jR hd
    obtain ⟨w,hw,rw'⟩:=rq.getD hi
    obtain ⟨z,hz,rz⟩:=r.get hw
    exact ⟨z,by simpa using yR hz,decide_eq_true (Rep.reads I 8 rw' rz kd)⟩
theorem zk1 (hu:X.A.units+64 < cLine):OpR X (compareOp .NotIn) (rInD X.K true):=by
 intro pins s σ H x y v u Q I rx ry ⟨d,ds,hx,hy,kd,ks,q1,q2⟩
 obtain ⟨p,its,e,rfl,hl,he,hm⟩:=zo3 I hu rx ry hx hy kd ks
 refine ybn e hl he ?_
 by_cases h:d∈ds
 ·rw [hm.mpr h]
  exact ⟨.bl false,H,I,rfl,q1 h⟩
 ·have z:its.toArray.any e=false:=by
   cases c:its.toArray.any e with
   | true=>exact absurd (hm.mp c) h
   | false=>rfl
  rw [z]
  exact ⟨.bl true,H,I,rfl,q2 h⟩
end
section
variable {X:Cx} {K:PySem.W.Frag}
end
section
variable {g:TG} {tt:TT} {te:TE} {n0:Nat} {cap:List Nat} {σ :St} {Q:VK} {D:Addr} {H1:Hp} {K:PySem.W.Frag}
theorem zhJ {a:Addr}{xs:List V}(Pv:Nat→Hp→Prop)(h0:Pv 0 (upd H1 D (.lst [])))(hl:∀ i H,i≤xs.length→Pv i H→SqL K H a xs)
  (hs:∀ i x H T,xs[i]? =some x→Pv i H→H T=none→g (.ref T) (zaS n0 cap σ) (upd H T (.tup [.int i,x])) fun σ2 H2=>tt σ2 H2 fun b H3=>if b=true then te σ2 H3 fun y H4=>∃ xs,H4 D=some (.lst xs)∧xs.length < yH∧Pv (i+1) (upd H4 D (.lst (xs++ [y]))) else Pv (i+1) H3)
  (hd:∀ H,Pv xs.length H→Q (.ref D) H):
  zcA (Ite K a) D n0 cap σ g tt te Q H1:=by
 refine ⟨fun i m H=>m=xs.length - i∧i≤xs.length∧Pv i H,⟨xs.length,by simp,qZ _,h0⟩,?_⟩
 rintro i m H ⟨rfl,hi,p⟩
 have q:=hl i H hi p
 by_cases hlt:i < xs.length
 ·refine .inr ⟨⟨xs,xs[i],q,by simp [hlt]⟩,Pv (i+1),fun H' p'=>⟨xs.length - (i+1),by omega,rfl,hlt,p'⟩,fun x H' y=>?_⟩
  obtain ⟨T,z,hT,e1,e2,y⟩:=y
  subst e1 e2
  exact hs i z H T (y xs q) p hT
 ·have e:i=xs.length:=by omega
  subst e
  exact .inl ⟨⟨xs,q,yJ _⟩,hd H p⟩
end
end L2
namespace L2
open PySem PySem.Spec PyProof.Rows
open PySem.W (Dat kqdP kqdPs kqdOk)
structure Off (M:List Addr) (G H:Hp):Prop where
 same:Same G H
 out:∀ m∈M,G m=none
 there:∀ m∈M,∃ o,H m=some o
section
variable {M:List Addr} {G G1 G2 H H':Hp} {T m:Addr} {o u:HO}
theorem Off.new (f:Off M G H)(h:H T=none)(o:HO):Off M G (upd H T o):=⟨f.same.upd h o,f.out,fun m hm=>by
 obtain ⟨u,e⟩:=f.there m hm
 exact ⟨u,zag h o _ _ e⟩⟩
theorem Off.grow (f:Off M G H)(s:Same H H'):Off M G H':=⟨f.same.trans s,f.out,fun m hm=>by
 obtain ⟨u,e⟩:=f.there m hm
 exact ⟨u,s _ _ e⟩⟩
theorem Off.write (f:Off M G H)(hm:m∈M)(o:HO):Off M G (upd H m o):=⟨f.same.write (f.out m hm) o,f.out,fun k hk=>by
 by_cases e:k=m
 ·subst e
  exact ⟨o,zab⟩
 ·obtain ⟨u,e'⟩:=f.there k hk
  exact ⟨u,by rw [zah e];exact e'⟩⟩
theorem Off.start {p:Addr}(h:H p=none)(o:HO):Off [p] H (upd H p o):=⟨zag h o,fun m hm=>by rw [yK.mp hm];exact h,fun m hm=>by rw [yK.mp hm];exact ⟨o,zab⟩⟩
end
end L2
namespace L2
open PySem PySem.Spec PyProof.Rows
noncomputable def zeV (kvs more:List (List Key×V)):List (List Key×V):=more.foldl (fun acc kv=>putK acc kv.1 kv.2) kvs
noncomputable def storeAll (acc xs:List (List Key×Addr×Value)):List (List Key×Addr×Value):=xs.foldl (fun acc x=>storedH acc x.1 x.2.1 x.2.2) acc
noncomputable abbrev zeG (H:Hp):List V→List (List Key×V)→Prop:=Paired fun x kv=>∃ p kt,x=V.ref p∧H p=some (.tup [.ref kt,kv.2])∧RdT H kt (kv.1.map kV)
theorem zlN:typeLookup (.type "list") "keys" =pure none:=am_miss_of_fast (by kernel_rfl)
theorem zdS:entryFor table "dict.update.loop" =some Builtin.«dict.update.loop» :=entryFor_of_fast (by kernel_rfl)
theorem zbQ:plainId "dict.update.loop" =true:=by decide+kernel
theorem zhn (xs:List (List Key×Addr×Value)){i:Nat}{x:List Key×Addr×Value}(h:xs[i]? =some x):storeAll [] (xs.take (i+1))=storedH (storeAll [] (xs.take i)) x.1 x.2.1 x.2.2:=by
 unfold storeAll
 rw [yT,h,vV]
 rfl
theorem zkd (xs:List (List Key×Addr×Value))(k:List Key)(b:Addr)(v:Value):(storedH xs k b v).length≤xs.length+1:=by
 unfold storedH
 split
 ·rw [yA];omega
 ·rw [yI,qM];omega
theorem zfk:∀ (xs acc:List (List Key×Addr×Value)),(storeAll acc xs).length≤acc.length+xs.length
 | [],acc=>by show acc.length≤acc.length+0;omega
 | x::r,acc=>by
  have h1:=zfk r (storedH acc x.1 x.2.1 x.2.2)
  have h2:=zkd acc x.1 x.2.1 x.2.2
  show (storeAll (storedH acc x.1 x.2.1 x.2.2) r).length≤_
  rw [yO];omega
section
variable {prog:Program} {w:World} {A:Around} {E:Value→Shared→Prop} {s:Shared}
theorem zet {a:Addr}{o:Obj}{xs:Array Value}{k:Nat}{Q:Option Value→Shared→Prop}
  (hx:s.heap.get? a=some o) (hc:o.cls= .type "list") (hdat:o.data= .seq xs k) (hd:o.dict=none) (hA:A.handled=none)
  (h:∀ h' tk,(∀ b ob,s.heap.get? b=some ob→h'.get? b=some ob)→Q none {s with heap:=h',toks:=tk}):
  wpAny (model prog w) A (getAttr? (.ref a) "keys") Q E s:=by
 obtain ⟨c,dct,dat,sl⟩:=o
 simp only at hc hdat hd
 subst hc hdat hd
 obtain ⟨hp,g,d,tk,os⟩:=s
 have hT:∀ tk',(⟨hp,g,d,tk',os⟩:Shared).TypeIs (.ref a) "list" :=fun _=>⟨_,hx,rfl⟩
 have f1:=sub_AttributeError
 have f3:=F.slot_list_getattribute.lookup
 have f4:=F.slot_list_getattribute.bind (.ref a)
 have f5:=am_list_getattr_none
 unfold getAttr? getAttrBy? getAttrBy
 repeat (any_goals (first | assumption | exact hT _ | ((with_reducible show wpAny _ _ (call (Value.builtin "list.__getattribute__") _ _) _ _ _);refine call_meets F.slot_list_getattribute (hT _) am_entry_list_getattribute (F.args_list_getattribute_2 _ _) (meets_getattribute_miss_list a xs k sl "keys" _ zlN (by decide+kernel) (by decide+kernel)) ⟨hx,hA,fun h' tk' e hx'=>?_⟩) | wp_step))
 obtain ⟨t',u',he⟩:=hx'.there
 show wpAny _ _ (getattributeRaised _ _ _ _ _ _ _) _ _ _
 unfold getattributeRaised
 repeat (any_goals (first | assumption | wp_step))
 exact h _ _ hx'.keeps
end
section
variable {prog:Program} {w:World} {A:Around} {R:Result→Shared→Prop}
theorem zjn {h h':Heap}{k:List Key}{a:Addr}(hk:(tupleKind (zaI prog w)).is h k a)(keep:∀ o,h.get? a=some o→h'.get? a=some o):(tupleKind (zaI prog w)).is h' k a:=by
 obtain ⟨o,it,n,e,r⟩:=hk
 exact ⟨o,it,n,keep _ e,r⟩
theorem zjg {h:Heap}{I L:Addr}{i:Nat}(hit:h.IsListIter I L i):∃ oi,h.get? I=some oi∧oi.cls= .type "list_iterator" :=by
 obtain ⟨o,e,c,_⟩:=hit
 exact ⟨o,e,c⟩
theorem zgo {h h':Heap}{I d:Addr}{acc:List (List Key×Addr×Value)}(hm:h.DictOfH (tupleKind (zaI prog w)) d acc)(hI:∃ oi,h.get? I=some oi∧oi.cls= .type "list_iterator")
  (hk:∀ b o,b≠I→h.get? b=some o→h'.get? b=some o):h'.DictOfH (tupleKind (zaI prog w)) d acc:=by
 obtain ⟨o,es,ep,h1,h2,h3,h4,his,h5⟩:=hm
 obtain ⟨oi,e1,e2⟩:=hI
 refine ⟨o,es,ep,hk _ _ ?_ h1,h2,h3,h4,fun x hx=>?_,h5⟩
 ·intro z
  subst z
  rw [h1] at e1
  cases e1
  rw [h2.1] at e2
  exact absurd (Value.type.inj e2) (by decide)
 ·have q:=his x hx
  refine zjn q fun ob ho=>hk _ _ ?_ ho
  intro z
  obtain ⟨o',it,n,e,c,_⟩:=q
  rw [z,e1] at e
  cases e
  rw [e2] at c
  exact absurd (Value.type.inj c) (by decide)
theorem ze4 {d I L:Addr}{items:Array Value}{h0:Heap}{xs:List (List Key×Addr×Value)}
  (hA:A.in1.handled=none) (hu:(tupleKind (zaI prog w)).room A.in1) (hLI:L≠I) (hdI:d≠I) (hdL:d≠L)
  (hd0:h0.get? d=none) (hI0:h0.get? I=none)
  (good:∀ (i:Nat) (x:List Key×Addr×Value),xs[i]? =some x→∃ (p:Addr) (o:Obj) (n:Nat),items[i]? =some (Value.ref p)∧h0.get? p=some o∧o.cls= .type "tuple"∧o.data= .seq #[.ref x.2.1,x.2.2] n∧(tupleKind (zaI prog w)).is h0 x.1 x.2.1)
  (hn:items.size=xs.length) (hz:xs.length < yH):
  ∀ (k i:Nat) (s:Shared) (t:Tok),xs.length - i=k→i≤xs.length→s.heap.IsListIter I L i→s.heap.IsList L items→s.heap.DictOfH (tupleKind (zaI prog w)) d (storeAll [] (xs.take i))→
   (∀ b o,h0.get? b=some o→s.heap.get? b=some o)→
   (∀ h' tk,h'.DictOfH (tupleKind (zaI prog w)) d (storeAll [] xs)→(∀ b o,h0.get? b=some o→h'.get? b=some o)→R (.ok (.ret .none)) {s with heap:=h',toks:=tk})→
   codeAny (model prog w) A (.builtin "dict.update.loop" ⟨[.ref d,.ref I,.int i t,.none],[]⟩) R s:=by
 have W:=Walks.list (prog:=prog) (w:=w) hA I L hLI items
 intro k
 induction k with
 | zero=>
  intro i s t hk hi hit hl hm hkeep hR
  have hin:i=items.size:=by omega
  refine codeAny_builtin zdS ?_
  rw [ya4 zbQ _]
  show wpAny _ A.in1 (pyNext (.ref I) >>=_) _ _ s
  refine yD (W.done s _ _ (by rw [← hin];exact ⟨hit,hl⟩) fun h' tk hk'=>?_)
  have hk2:∀ b o,b≠I→s.heap.get? b=some o→h'.get? b=some o:=fun b o hb e=>hk' b o (by simpa using hb) e
  have et:xs.take i=xs:=xD (by omega)
  rw [et] at hm
  show wpAny _ _ (Builtin.Dict.addKeywords d [] >>=_) _ _ _
  exact yD (yP (yP (hR h' tk (zgo hm (zjg hit) hk2) fun b o e=>hk2 b o (fun z=>by rw [z,hI0] at e;cases e) (hkeep b o e))))
 | succ k ih=>
  intro i s t hk hi hit hl hm hkeep hR
  have hlt:i < xs.length:=by omega
  obtain ⟨p,o,n,hp,ho,hc,hdat,hkey⟩:=good i xs[i] (yQ hlt)
  refine codeAny_builtin zdS ?_
  rw [ya4 zbQ _]
  show wpAny _ A.in1 (pyNext (.ref I) >>=_) _ _ s
  refine yD (W.item i s _ _ (by omega) ⟨hit,hl⟩ fun v h' tk hP hst' hk'=>?_)
  rw [hp] at hP
  cases hP
  have hk2:∀ b o,b≠I→s.heap.get? b=some o→h'.get? b=some o:=fun b o hb e=>hk' b o (by simpa using hb) e
  have hkeep':∀ b o,h0.get? b=some o→h'.get? b=some o:=fun b o e=>hk2 b o (fun z=>by rw [z,hI0] at e;cases e) (hkeep b o e)
  have hm':h'.DictOfH (tupleKind (zaI prog w)) d (storeAll [] (xs.take i)):=zgo hm (zjg hit) hk2
  refine yD (wpAny_holding (yD (wpAny_tryCatch ?_)))
  unfold Builtin.Dict.pairItems
  refine yD (wpAny_typeOf (T:="tuple") ⟨o,hkeep' _ _ ho,hc⟩ ?_)
  rw [if_pos (by decide)]
  refine yD (wpAny_seqItems (hkeep' _ _ ho) hdat (yP ?_))
  show wpAny _ _ (holding [_,_] (dictSet d _ _)) _ _ _
  have l1:=zfk (xs.take i) []
  rw [wE,yW] at l1
  refine wpAny_holding (wpAny_dictSet_heap (hsz:=by omega) hu (zjn hkey fun o e=>hkeep' _ _ e) hm' fun h2 hd2 hs2=>?_)
  have hk3:∀ b o,b≠d→h'.get? b=some o→h2.get? b=some o:=fun b o hb e=>(hs2.2 b hb).trans e
  refine yP ⟨plainId_quiet zbQ _,ih (i+1) _ _ (by omega) (by omega) (hst'.1.at fun o e=>hk3 _ _ (qX hdI) e) (hst'.2.at fun o e=>hk3 _ _ (qX hdL) e) ?_ (fun b o e=>hk3 b o (fun z=>by rw [z,hd0] at e;cases e) (hkeep' b o e)) fun h3 tk3 hd3 hk4=>hR h3 tk3 hd3 hk4⟩
  rw [zhn xs (yQ hlt)]
  exact hd2
end
section
variable {prog:Program} {w:World} {A:Around} {E:Value→Shared→Prop} {s:Shared}
theorem zfK {L:Addr}{o:Obj}{items:Array Value}{m:Nat}{xs:List (List Key×Addr×Value)}{Q:Value→Shared→Prop}(hA:A.handled=none)(hu:A.units+64 < cLine)
  (ho:s.heap.get? L=some o) (hc:o.cls= .type "list") (hd:o.dict=none) (hdat:o.data= .seq items m)
  (good:∀ (i:Nat) (x:List Key×Addr×Value),xs[i]? =some x→∃ (p:Addr) (o:Obj) (n:Nat),items[i]? =some (Value.ref p)∧s.heap.get? p=some o∧o.cls= .type "tuple"∧o.data= .seq #[.ref x.2.1,x.2.2] n∧(tupleKind (zaI prog w)).is s.heap x.1 x.2.1)
  (hn:items.size=xs.length) (hz:xs.length < yH)
  (h:∀ h' tk,h'.DictOfH (tupleKind (zaI prog w)) s.heap.objs.size (storeAll [] xs)→(∀ b o,s.heap.get? b=some o→h'.get? b=some o)→Q (.ref s.heap.objs.size) {s with heap:=h',toks:=tk}):
  wpAny (model prog w) A (call (.type "dict") [.ref L]) Q E s:=by
 refine callType_codes (Q₁ :=fun obj s₁ =>obj= .ref s.heap.objs.size∧s₁ = {s with heap:=s.heap.push {cls:=.type "dict",data:=.dict #[]}}) PySem.F.kt_called_dict (PySem.F.kt_typeCall_dict_1 _) PySem.F.entry_dict_init (kt_code_dict_new _ ⟨rfl,rfl⟩) ?_
 rintro obj s₁ ⟨rfl,rfl⟩
 have hd1:(s.heap.push {cls:=.type "dict",data:=.dict #[]}).get? s.heap.objs.size=some {cls:=.type "dict",data:=.dict #[]}:=yZ _ rfl
 have hL1:(s.heap.push {cls:=.type "dict",data:=.dict #[]}).get? L=some o:=yG _ ho
 have hlt:L < s.heap.objs.size:=yU ho
 refine ⟨⟨_,hd1,rfl⟩,PySem.F.args_dict_init_2 _ _,?_⟩
 unfold Builtin.«dict.__init__»
 refine yD ?_
 unfold Builtin.Dict.selfAndRest
 refine yD (wpAny_notOrdered_dict ⟨_,hd1,rfl⟩ ?_)
 show wpAny _ _ (pure (s.heap.objs.size,[Value.ref L])) _ _ _
 refine yP ?_
 show wpAny _ _ (yaC "dict.__init__" s.heap.objs.size (.ref L) [] .none) _ _ _
 unfold yaC
 refine yD (wpAny_typeOf (T:="list") ⟨_,hL1,hc⟩ ?_)
 rw [if_pos (by decide)]
 refine yD (zet hL1 hc hdat hd hA fun h2 tk2 hk2=>?_)
 rw [if_pos (show (none:Option Value).isNone=true from rfl)]
 refine yD (wpAny_rule ?_)
 have hl2:h2.IsList L items:=⟨o,hk2 _ _ hL1,hc,m,hdat⟩
 refine yD (wpAny_pyIter_list hl2 ?_)
 have hz2:s.heap.objs.size < h2.objs.size:=yU (hk2 _ _ hd1)
 have keep:∀ b ob,s.heap.get? b=some ob→(h2.push {cls:=.type "list_iterator",data:=.fields #[.ref L,.int 0 0]}).get? b=some ob:=fun b ob e=>yG _ (hk2 _ _ (yG _ e))
 refine yP ⟨plainId_quiet zbQ _,ze4 (A:=A.in1) (h0:=s.heap) (L:=L) hA (show A.units+1+1 < cLine by omega) (qL (Nat.lt_trans hlt hz2)) (qL hz2) (qX (qL hlt)) (wY (yJ _)) (wY (wS hz2)) good hn hz
  xs.length 0 _ _ (by omega) (qZ _) ⟨_,yZ _ rfl,rfl,rfl⟩ (hl2.at fun o e=>yG _ e) ?_ keep fun h' tk hd' hk'=>⟨rfl,h h' tk hd' hk'⟩⟩
 exact ⟨_,#[],0,yG _ (hk2 _ _ hd1),⟨rfl,rfl,rfl⟩,rfl,rfl,(fun x hx=>nomatch hx),wQ⟩
end
theorem zeo:∀ (more kvs:List (List Key×V)),(zeV kvs more).length≤kvs.length+more.length
 | [],kvs=>by show kvs.length≤kvs.length+0;omega
 | p::r,kvs=>by
  have h1:=zeo r (putK kvs p.1 p.2)
  have h2:=zcW kvs p.1 p.2
  show (zeV (putK kvs p.1 p.2) r).length≤_
  rw [yO];omega
theorem KT.merge {H:Hp}:∀ {more:List (List Key×V)} {xs:List (List Key×Addr×Value)} {kvs:List (List Key×V)} {ys:List (List Key×Addr×Value)},KT H more xs→KT H kvs ys→KT H (zeV kvs more) (storeAll ys xs)
 | _,_,_,_,.nil,q=>q
 | _,_,kvs,ys,.cons (a:=p) (b:=x) h t,q=>by
  have e:KT H (putK kvs p.1 p.2) (storedH ys x.1 x.2.1 x.2.2):=by
   have:=q.put p.1 h.2.1 h.2.2
   rw [← h.1];exact this
  have z:=KT.merge (kvs:=putK kvs p.1 p.2) (ys:=storedH ys x.1 x.2.1 x.2.2) t e
  exact z
section
variable {X:Cx}
theorem zkz (hc:X.calm=true)(hu:X.A.units+64 < cLine):zcZ X (.type "dict") (fun xs H Q=>∃ (L:Addr) (vs:List V) (kvs:List (List Key×V)),xs= [.ref L]∧H L=some (.lst vs)∧zeG H vs kvs∧kvs.length < yH∧∀ d,H d=none→Q (.ref d) (upd H d (.dT (zeV [] kvs)))):=by
 intro pins s σ H xs us Q I r ⟨L,vs,kvs,e,hL,hp,hz,q⟩
 subst e
 obtain ⟨u,rfl,rx⟩:=zhb r
 cases rx
 obtain ⟨z,its,n,rv,hl,eL⟩:=I.lstM hL
 obtain ⟨ws,kt,gd⟩:∃ ws:List (List Key×Addr×Value),KT H kvs ws∧∀ (i:Nat) (x:List Key×Addr×Value),ws[i]? =some x→∃ p o n,its[i]? =some (.ref p)∧s.heap.get? p=some o∧o.cls= .type "tuple"∧o.data= .seq #[.ref x.2.1,x.2.2] n∧(tupleKind (zaI X.prog X.w)).is s.heap x.1 x.2.1:=by
  clear q hz hL z eL hl
  induction hp generalizing its with
  | nil=>cases rv;exact ⟨[],.nil,fun i x hx=>by simp at hx⟩
  | @cons x kv vs kvs h t ih=>
   cases rv with
   | @cons _ u _ us ru rus=>
    obtain ⟨ws,k1,g1⟩:=ih us rus
    obtain ⟨p,ktt,rfl,h1,h2⟩:=h
    cases ru
    obtain ⟨_,ts,rt,ot,e1,c1,n1,d1⟩:=(show zba X.prog X.w H s.heap p (.tup [.ref ktt,kv.2]) from I.hok p _ h1)
    cases rt with
    | @cons _ t1 _ _ r1 r2=>
     cases r2 with
     | @cons _ t2 _ _ r2 r3=>
      cases r3
      cases r1
      refine ⟨(kv.1,ktt,t2)::ws,.cons ⟨rfl,h2,r2⟩ k1,fun i x hx=>?_⟩
      cases i with
      | zero=>
       simp at hx
       subst hx
       exact ⟨p,ot,n1,rfl,e1,c1,d1,zfl I.hok h2⟩
      | succ i=>
       obtain ⟨p',o',n',a1,a2⟩:=g1 i x (by simpa using hx)
       exact ⟨p',o',n',by simpa using a1,a2⟩
 have lw:kvs.length=ws.length:=vU kt
 have lv:vs.length=kvs.length:=vU hp
 refine zfK (xs:=ws) (I.ok.hd hc) hu eL rfl rfl rfl (fun i x hx=>?_) (by rw [qB];omega) (by omega) fun h' tk hd hk=>?_
 ·obtain ⟨p,o,n,a1,a2⟩:=gd i x hx
  exact ⟨p,o,n,by simpa using a1,a2⟩
 ·have hf:=I.fresh
  obtain ⟨o,es,ep,h1,h2,h3,h4,his,h5⟩:=hd
  have lm:=zeo kvs []
  rw [wE] at lm
  have hb:=I.big
  refine ⟨.ref s.heap.objs.size,_,I.laid (a:=s.heap.objs.size) (o:=.dT (zeV [] kvs)) (t':=tk) hk (yJ _) ⟨by omega,beq_eq_false_iff_ne.mpr (qX (qL hb)),storeAll [] ws,(kt.merge .nil).keeps fun b ys eb=>eb.upd hf,o,es,ep,h1,h2,h3,h4,h5⟩,rfl,q _ hf⟩
end
noncomputable def tRev (K:PySem.W.Frag) (te tk:TE):TE:=fun σ H Q=>te σ H fun x H1=>tk σ H1 fun y H2=>∃ a xs,x= .ref a∧y= .int (-1)∧SqL K H2 a xs∧∀ p,H2 p=none→Q (.ref p) (upd H2 p (.lst xs.reverse))
theorem Vals.rev {xs:List V}{us:List Value}(r:Vals xs us):Vals xs.reverse us.reverse:=by
 induction r with
 | nil=>exact .nil
 | @cons x u xs us h t ih=>
  rw [ybx,ybx]
  exact ih.append (.cons h .nil)
section
variable {X:Cx} {e k:Expr} {te tk:TE} {pos p2:Pos}
theorem pe_rev (he:PE X e te)(hk:PE X k tk):PE X (.Subscript e (.Slice none none (some k) p2) pos) (tRev X.K te tk):=by
 intro pins s σ H Q I h
 refine Subscript_ (thn (he pins s σ H _ I h) fun v s1 ⟨x,H1,I1,r1,q1⟩=>?_)
 refine wpAny_Slice ?_
 rw [evalPart_none]
 refine yP (yP ?_)
 rw [evalPart_some]
 refine thn (hk pins s1 σ H1 _ I1 q1) fun u s2 ⟨y,H2,I2,r2,a,xs,ex,ey,hx,q⟩=>?_
 subst ex ey
 cases (show v=Value.ref a from r1)
 obtain ⟨t,rfl⟩:=(show ∃ t,u=Value.int (-1) t from r2)
 have I4:Inv X pins σ H2 {s2 with heap:=s2.heap.push {cls:=.type "slice",data:=.fields #[.none,.none,.int (-1) t]}}:=I2.kept (t':=s2.toks) fun b ob q=>yG _ q
 show wpAny (model X.prog X.w) X.A (subscriptTail e (.Slice none none (some k) p2) (.ref a) (.ref s2.heap.objs.size)) (EP X pins σ Q) X.xe {s2 with heap:=s2.heap.push {cls:=.type "slice",data:=.fields #[.none,.none,.int (-1) t]}}
 obtain ⟨its,r,ht,hz⟩:=I4.list hx
 have hlen:=r.length
 refine tail_any (ops:=[.ref a,.ref s2.heap.objs.size]) ht.isList.typeIs slot_list_getitem.lookup ?_ (by with_unfolding_all rfl)
 refine wpAny_getItem_list_slice ht.isList (ybl ..) .none .none (.int (-1) t) (by simp) ?_ (by rw [qB] <;> omega)
 rw [PySem.W.krv_pick]
 refine ⟨.ref _,_,I4.laid (a:=_) (t':=s2.toks) (o:=.lst xs.reverse) (fun b ob q=>yG _ q) (yJ _) ?_,rfl,q _ (I4.hok.fresh (yJ _))⟩
 exact ⟨by rw [List.length_reverse];exact hz,its.reverse,0,r.rev,yZ _ rfl⟩
theorem zpb (he:Bx (PE X e te))(hk:Bx (PE X k tk)):Bx (PE X (.Subscript e (.Slice none none (some k) p2) pos) (tRev X.K te tk)):=⟨pe_rev he.1 hk.1⟩
end
section
variable {prog:Program} {w:World} {A:Around} {E:Value→Shared→Prop} {s:Shared}
end
section
variable {X:Cx} {pos:Pos}
end
section
variable {X:Cx}
end
noncomputable def TabK (K:PySem.W.Frag) (a:Addr) (D:List (Str×KTD.Dat)):Prop:=KTD.tabLook (KTD.datLooks fun b=>K.lookup b) (fun b=>K.lookup b) a D=true
section
variable {prog:Program} {w:World} {A:Around} {E:Value→Shared→Prop} {s:Shared}
theorem ziC {δ :Type}{R: δ→Value→Prop}{D:List (Str×δ)}{a:Addr}{k:Str}{tk:Tok}{d0: δ}{Q:Option Value→Shared→Prop}(T:KTD.TabOf R s.heap a D)(hat:KTD.datumAt k D=some d0)
  (good:∀ v,R d0 v→Q (some v) {s with toks:=s.toks+1}):wpAny (model prog w) A (dictGet a (.str k tk)) Q E s:=by
 obtain ⟨_,ob,es,ep,e1,_,e2,rows⟩:=T
 obtain ⟨v0,fv,rv⟩:=rows.find_some hat
 have exs:(es.all fun en=>isExactStrKey en.key)=true:=by
  obtain ⟨l⟩:=es
  simpa using rows.exact
 have fb:findBy (fun x u=>u.isStr x) es k=some v0:=by
  rw [← fv]
  obtain ⟨l⟩:=es
  simp [findBy]
 unfold dictGet
 try with_reducible refine wpAny_holding ?_
 refine yD (wpAny_pyHash_str ?_)
 refine yD (KTD.kt_dictFind_strs (s:={s with toks:=s.toks+1}) e1 e2 exs ?_)
 rw [findBy_of_findIdx?] at fb
 cases hi:es.findIdx? fun en=>en.key.isStr k with
 | none=>rw [hi] at fb;cases fb
 | some i=>
  rw [hi] at fb
  have fb':(es[i]?).map (·.val)=some v0:=fb
  refine yD (wpAny_dictEntries (s:={s with toks:=s.toks+1}) e1 e2 (yP ?_))
  rw [fb']
  exact good v0 rv
end
theorem zgG:∀ {ns:List Int} {vs:List Value},KTD.flatsLook (ns.map PyData.int) vs=true→Vals (ns.map V.int) vs
 | [],[],_=>.nil
 | n::ns,v::vs,h=>by
  have h':(KTD.flatLooks (PyData.int n) v && KTD.flatsLook (ns.map PyData.int) vs)=true:=h
  rw [jE] at h'
  refine .cons ?_ (zgG h'.2)
  have h1:=h'.1
  cases v with
  | int j t=>
   have:n=j:=by simpa [KTD.flatLooks] using h1
   subst this
   exact ⟨t,rfl⟩
  | _=>simp [KTD.flatLooks] at h1
 | [],_::_,h=>by simp [KTD.flatsLook] at h
 | _::_,[],h=>by simp [KTD.flatsLook] at h
theorem znq {K:PySem.W.Frag}{H:Hp}{ns:List Int}{v:Value}(hz:ns.length≤1000)(h:KTD.datLooks (fun b=>K.lookup b) (.tup (ns.map PyData.int)) v=true):∃ p,v= .ref p∧SqT K H p (ns.map V.int):=by
 cases v with
 | ref p=>
  refine ⟨p,rfl,.inr ?_⟩
  simp only [KTD.datLooks] at h
  cases e:K.lookup p with
  | none=>rw [e] at h;cases h
  | some o=>
   rw [e] at h
   simp only [jE] at h
   obtain ⟨h1,h2⟩:=h
   cases ed:o.data with
   | seq vs n=>
    rw [ed] at h2
    have rv:=zgG h2
    have lv:=rv.length
    rw [yA] at lv
    have lz:vs.size=ns.length:=by rw [lv,yY]
    have line:(1000:Nat)≤yH:=by decide
    exact ⟨o,vs,n,rfl,beq_iff_eq.mp h1,ed,by omega,rv⟩
   | _=>rw [ed] at h2;cases h2
 | _=>simp [KTD.datLooks] at h
section
variable {X:Cx}
theorem TabK.at {pins:List (Addr×Obj)}{σ :St}{H:Hp}{s:Shared}{a:Addr}{D:List (Str×KTD.Dat)}(I:Inv X pins σ H s)(h:TabK X.K a D):KTD.TabOf (fun d v=>KTD.datLooks (fun b=>X.K.lookup b) d v=true) s.heap a D:=
 KTD.tab_of_look (fun _ _ z=>z) (fun b o q=>I.kIn b o q) h
theorem TabK.here {pins:List (Addr×Obj)}{σ :St}{H:Hp}{s:Shared}{a:Addr}{D:List (Str×KTD.Dat)}(I:Inv X pins σ H s)(h:TabK X.K a D):KTD.Here s.heap s.heap a D:=
 ⟨PySem.W.kt_text_in I.kIn h,fun _ _ q=>q⟩
noncomputable def rInTab (K:PySem.W.Frag) (neg:Bool):R2:=fun x y H Q=>∃ k a D,x= .str k∧y= .ref a∧TabK K a D∧Q (.bl (if neg then !KTD.inKeys k D else KTD.inKeys k D)) H
theorem zmZ:OpR X (compareOp .In) (rInTab X.K false):=by
 intro pins s σ H x y v u Q I rx ry ⟨k,a,D,e1,e2,h,q⟩
 subst e1 e2
 obtain ⟨t,rfl⟩:=rx
 cases ry
 exact KTD.in_text (h.here I) ⟨.bl _,H,I.tok _,rfl,q⟩
noncomputable def rIxTab (K:PySem.W.Frag):R2:=fun x y H Q=>∃ (a:Addr) (k:Str) (D:List (Str×KTD.Dat)) (ns:List Int),x= .ref a∧y= .str k∧TabK K a D∧KTD.datumAt k D=some (.tup (ns.map PyData.int))∧ns.length≤1000∧∀ p,SqT K H p (ns.map V.int)→Q (.ref p) H
theorem ix_tab:IxR X (rIxTab X.K):=by
 intro value slice pins s σ H x y v u Q I rx ry ⟨a,k,D,ns,e1,e2,h,hat,hz,q⟩ hs
 subst e1 e2
 cases (show v=Value.ref a from rx)
 obtain ⟨t,rfl⟩:=(show ∃ t,u=Value.str k t from ry)
 have hT:=(h.here I).typeIs
 refine tail_any (ops:=[.ref a,.str k t]) hT yaq.lookup ?_ hs
 unfold getItem
 try with_reducible refine wpAny_holding ?_
 refine yD (wpAny_sequenceKey hT (by decide) ?_)
 refine yD (wpAny_callSpecial?_slot (name:=yB "__getitem__") hT slot_dict_getitem (wpAny_call_entry slot_dict_getitem hT entry_dict_getitem ?_ (args_dict_getitem _ _)))
 show wpAny _ _ (dictGet a (.str k t) >>=_) _ _ s
 refine yD (ziC (h.at I) hat fun v hv=>?_)
 obtain ⟨p,rfl,hp⟩:=znq (H:=H) hz hv
 exact yP ⟨_,rfl,yP ⟨.ref p,H,I.tok _,rfl,q p hp⟩⟩
end
end L2
namespace My
open PySem L2
open PySem.W (Dat kqdP kqdPs kqdOk)
structure zaB where
 ins:Int
 gates:List (Str×List Int)
 outs:List Int
noncomputable def zbi (kind:Str) (n:Nat):Prop:=((kind="and"∨kind="or"∨kind="odd")∧2≤n∧n≤4)∨(kind="not"∧n=1)∨(kind="choose"∧n=3)∨((kind="zero"∨kind="one")∧n=0)
structure WF (most:Nat) (w:zaB):Prop where
 i1: 1≤w.ins
 i6:w.ins≤6
 few:w.gates.length≤most
 legs:∀ (k:Nat) g,w.gates[k]? =some g→zbi g.1 g.2.length∧∀ l∈g.2,0≤l∧l < w.ins+k
 o1: 1≤w.outs.length
 o3:w.outs.length≤most+20
 outs:∀ o∈w.outs,0≤o∧o < w.ins+w.gates.length
noncomputable def zez (g:Str×List Int):Dat:=.tuple [.str g.1,.tuple (g.2.map .int)]
noncomputable def zbC (w:zaB):Dat:=.tuple [.int w.ins,.list (w.gates.map zez),.list (w.outs.map .int)]
theorem zbi.le {k:Str}{n:Nat}(h:zbi k n):n≤4:=by
 unfold zbi at h
 omega
noncomputable def zmk (i b:Int):Dat:=.tuple [.str "wire",.int i,.int b]
noncomputable def legF (k i b:Int):Dat:=.tuple [.str "leg",.int k,.int i,.int b]
noncomputable def zjl:Nat→List Dat
 | 0=>[]
 | n+1=>zjl n++ [zmk n 0,zmk n 1]
noncomputable def zmE (k:Int):Nat→List Dat
 | 0=>[]
 | n+1=>zmE k n++ [legF k n 0,legF k n 1]
noncomputable def zjA (gs:List (Str×List Int)):Nat→List Dat
 | 0=>[]
 | n+1=>zjA gs n++zmE n ((gs[n]?.map fun g=>g.2.length).getD 0)
noncomputable def zdk (w:zaB):List Dat:=zjl (w.ins.toNat+w.gates.length)++zjA w.gates w.gates.length
noncomputable def zmb (i:Int):List Dat:=[.str "wire",.int i]
noncomputable def legP (k i:Int):List Dat:=[.str "leg",.int k,.int i]
noncomputable def zco:Nat→List (List Dat)
 | 0=>[]
 | n+1=>zco n++ [zmb n]
noncomputable def zeI (k:Int):Nat→List (List Dat)
 | 0=>[]
 | n+1=>zeI k n++ [legP k n]
noncomputable def zcx (gs:List (Str×List Int)):Nat→List (List Dat)
 | 0=>[]
 | n+1=>zcx gs n++zeI n ((gs[n]?.map fun g=>g.2.length).getD 0)
noncomputable def zd3 (ps:List (List Dat)):List Dat:=ps.flatMap fun p=>[.tuple (p++ [.int 0]),.tuple (p++ [.int 1])]
theorem zbz (a b:List (List Dat)):zd3 (a++b)=zd3 a++zd3 b:=by unfold zd3;rw [List.flatMap_append]
theorem zem (p:List Dat):zd3 [p]= [.tuple (p++ [.int 0]),.tuple (p++ [.int 1])]:=by unfold zd3;simp
theorem zfm:∀ n,zd3 (zco n)=zjl n
 | 0=>rfl
 | n+1=>by rw [zco,zbz,zfm n,zem,zjl];rfl
theorem zgD (k:Int):∀ n,zd3 (zeI k n)=zmE k n
 | 0=>rfl
 | n+1=>by rw [zeI,zbz,zgD k n,zem,zmE];rfl
theorem zfA (gs:List (Str×List Int)):∀ n,zd3 (zcx gs n)=zjA gs n
 | 0=>rfl
 | n+1=>by rw [zcx,zbz,zfA gs n,zgD,zjA]
noncomputable def za3 (w:zaB):List (List Dat):=zco (w.ins.toNat+w.gates.length)++zcx w.gates w.gates.length
theorem zdr (w:zaB):zd3 (za3 w)=zdk w:=by unfold za3 zdk;rw [zbz,zfm,zfA]
theorem zdM:∀ n,(zco n).length=n
 | 0=>rfl
 | n+1=>by rw [zco,yI,zdM n];simp
theorem zft (k:Int):∀ n,(zeI k n).length=n
 | 0=>rfl
 | n+1=>by rw [zeI,yI,zft k n];simp
theorem zmL {m:Nat}{w:zaB}(h:WF m w)(n:Nat):(w.gates[n]?.map fun g=>g.2.length).getD 0≤4:=by
 cases e:w.gates[n]? with
 | none=>simp
 | some g=>simpa using (h.legs n g e).1.le
theorem zeB {m:Nat}{w:zaB}(h:WF m w):∀ n,(zcx w.gates n).length≤4 * n
 | 0=>qZ _
 | n+1=>by
  have:=zeB h n
  have:=zmL h n
  rw [zcx,yI,zft]
  omega
theorem zhY:∀ ps:List (List Dat),(zd3 ps).length=2 * ps.length
 | []=>rfl
 | p::r=>by
  show (zd3 ([p]++r)).length=_
  rw [zbz,zem,yI,zhY r]
  simp
  omega
theorem zgC:∀ n p,p∈zco n→∃ i,p=zmb i
 | 0,p,h=>nomatch h
 | n+1,p,h=>by
  rw [zco] at h
  rcases yS.mp h with h | h
  ·exact zgC n p h
  ·exact ⟨_,yK.mp h⟩
theorem zib (k:Int):∀ n p,p∈zeI k n→∃ i,p=legP k i
 | 0,p,h=>nomatch h
 | n+1,p,h=>by
  rw [zeI] at h
  rcases yS.mp h with h | h
  ·exact zib k n p h
  ·exact ⟨_,yK.mp h⟩
theorem zgm (gs:List (Str×List Int)):∀ n p,p∈zcx gs n→∃ k i,p=legP k i
 | 0,p,h=>nomatch h
 | n+1,p,h=>by
  rw [zcx] at h
  rcases yS.mp h with h | h
  ·exact zgm gs n p h
  ·obtain ⟨i,e⟩:=zib _ _ p h
   exact ⟨_,i,e⟩
theorem zeJ {w:zaB}{p:List Dat}(h:p∈za3 w):(∃ i,p=zmb i)∨∃ k i,p=legP k i:=by
 unfold za3 at h
 rcases yS.mp h with h | h
 ·exact .inl (zgC _ p h)
 ·exact .inr (zgm _ _ p h)
theorem zlU {w:zaB}{i:Nat}(h:(za3 w)[i]? =some []):False:=by
 rcases zeJ (yR h) with ⟨_,e⟩ | ⟨_,_,e⟩ <;> cases e
theorem zkV {w:zaB}{i:Nat}{p:List Dat}(h:(za3 w)[i]? =some p):p.length≤3:=by
 rcases zeJ (yR h) with ⟨_,e⟩ | ⟨_,_,e⟩ <;> (rw [e];simp [zmb,legP])
theorem zj2 {w:zaB}{d:Dat}(h:d∈zdk w):(∃ i b,d=zmk i b)∨∃ k i b,d=legF k i b:=by
 rw [← zdr] at h
 unfold zd3 at h
 obtain ⟨p,hp,hd⟩:=ybI.mp h
 rcases zeJ hp with ⟨i,e⟩ | ⟨k,i,e⟩
 ·left
  rw [e] at hd
  rcases yN.mp hd with e1 | hd
  ·exact ⟨i,0,e1⟩
  ·exact ⟨i,1,yK.mp hd⟩
 ·right
  rw [e] at hd
  rcases yN.mp hd with e1 | hd
  ·exact ⟨k,i,0,e1⟩
  ·exact ⟨k,i,1,yK.mp hd⟩
theorem zje {w:zaB}{d:Dat}(n:Nat)(h:d∈zdk w):kqdOk (n+1) d=true:=by
 rcases zj2 h with ⟨i,b,e⟩ | ⟨k,i,b,e⟩
 ·rw [e]
  have:yaV "wire" =true:=by decide+kernel
  cases n <;> simp [zmk,kqdOk,this]
 ·rw [e]
  have:yaV "leg" =true:=by decide+kernel
  cases n <;> simp [legF,kqdOk,this]
theorem zoF (n:Nat)(ns:List Int):(ns.map Dat.int).all (kqdOk n)=true:=by
 refine qY.mpr fun d h=>?_
 obtain ⟨i,_,rfl⟩:=qE.mp h
 cases n <;> rfl
theorem zbE {K:PySem.W.Frag}{H:Hp}{w:zaB}{x:V}(h:Rep K H x (zbC w)):
  ∃ a ga oa gs os,x= .ref a∧SqT K H a [.int w.ins,.ref ga,.ref oa]∧SqL K H ga gs∧SqL K H oa os∧Reps K H gs (w.gates.map zez)∧Reps K H os (w.outs.map .int):=by
 unfold zbC at h
 cases h with
 | tup ha r=>
  cases r with
  | cons r1 r=>
   cases r with
   | cons r2 r=>
    cases r with
    | cons r3 r=>
     cases r
     cases r1
     cases r2 with
     | lst hg rg=>
      cases r3 with
      | lst ho ro=>exact ⟨_,_,_,_,_,rfl,ha,hg,ho,rg,ro⟩
theorem zcz {K:PySem.W.Frag}{H:Hp}{g:Str×List Int}{x:V}(h:Rep K H x (zez g)):
  ∃ a la,x= .ref a∧SqT K H a [.str g.1,.ref la]∧SqT K H la (g.2.map V.int):=by
 unfold zez at h
 cases h with
 | tup ha r=>
  cases r with
  | cons r1 r=>
   cases r with
   | cons r2 r=>
    cases r
    cases r1
    cases r2 with
    | tup hl rl=>
     have e:∀ (xs:List V) (ns:List Int),Reps K H xs (ns.map Dat.int)→xs=ns.map V.int:=by
      intro xs ns
      induction ns generalizing xs with
      | nil=>intro z;cases z;rfl
      | cons m r ih=>
       intro z
       cases z with
       | cons z1 z2=>
        cases z1
        rw [ih _ z2]
        rfl
     rw [e _ _ rl] at hl
     exact ⟨_,_,rfl,ha,hl⟩
end My
namespace My
open PySem L2
noncomputable def Bits (ns:List Int):Prop:=∀ n∈ns,n=0∨n=1
noncomputable def zca (x:Str) (ns:List Int):Int:=
 if x="and" then (if ns.all (· ==1)=true then 1 else 0)
 else if x="or" then (if ns.any (· ==1)=true then 1 else 0)
 else if x="odd" then ns.sum % 2
 else if x="not" then 1 - ns.getD 0 0
 else if x="choose" then (if ns.getD 0 0=1 then ns.getD 1 0 else ns.getD 2 0)
 else if x="one" then 1 else 0
theorem n_oa:("or" :Str)≠"and" :=by decide+kernel
theorem n_da:("odd" :Str)≠"and" :=by decide+kernel
theorem n_do:("odd" :Str)≠"or" :=by decide+kernel
theorem n_na:("not" :Str)≠"and" :=by decide+kernel
theorem n_no:("not" :Str)≠"or" :=by decide+kernel
theorem n_nd:("not" :Str)≠"odd" :=by decide+kernel
theorem n_ca:("choose" :Str)≠"and" :=by decide+kernel
theorem n_co:("choose" :Str)≠"or" :=by decide+kernel
theorem n_cd:("choose" :Str)≠"odd" :=by decide+kernel
theorem n_cn:("choose" :Str)≠"not" :=by decide+kernel
theorem n_za:("zero" :Str)≠"and" :=by decide+kernel
theorem n_zo:("zero" :Str)≠"or" :=by decide+kernel
theorem n_zd:("zero" :Str)≠"odd" :=by decide+kernel
theorem n_zn:("zero" :Str)≠"not" :=by decide+kernel
theorem n_zc:("zero" :Str)≠"choose" :=by decide+kernel
theorem n_z1:("zero" :Str)≠"one" :=by decide+kernel
theorem n_1a:("one" :Str)≠"and" :=by decide+kernel
theorem n_1o:("one" :Str)≠"or" :=by decide+kernel
theorem n_1d:("one" :Str)≠"odd" :=by decide+kernel
theorem n_1n:("one" :Str)≠"not" :=by decide+kernel
theorem n_1c:("one" :Str)≠"choose" :=by decide+kernel
theorem zlo (ns:List Int):zca "and" ns=if ns.all (· ==1)=true then 1 else 0:=by unfold zca;rw [if_pos rfl]
theorem zo2 (ns:List Int):zca "or" ns=if ns.any (· ==1)=true then 1 else 0:=by unfold zca;rw [if_neg n_oa,if_pos rfl]
theorem zkZ (ns:List Int):zca "odd" ns=ns.sum % 2:=by unfold zca;rw [if_neg n_da,if_neg n_do,if_pos rfl]
theorem zlu (ns:List Int):zca "not" ns=1 - ns.getD 0 0:=by unfold zca;rw [if_neg n_na,if_neg n_no,if_neg n_nd,if_pos rfl]
theorem zfx (ns:List Int):zca "choose" ns=if ns.getD 0 0=1 then ns.getD 1 0 else ns.getD 2 0:=by unfold zca;rw [if_neg n_ca,if_neg n_co,if_neg n_cd,if_neg n_cn,if_pos rfl]
theorem ziI (ns:List Int):zca "zero" ns=0:=by unfold zca;rw [if_neg n_za,if_neg n_zo,if_neg n_zd,if_neg n_zn,if_neg n_zc,if_neg n_z1]
theorem zkF (ns:List Int):zca "one" ns=1:=by unfold zca;rw [if_neg n_1a,if_neg n_1o,if_neg n_1d,if_neg n_1n,if_neg n_1c,if_pos rfl]
theorem zbH {ns:List Int}(b:Bits ns){i:Nat}(h:i < ns.length):ns.getD i 0=0∨ns.getD i 0=1:=by
 rw [jV,yQ h]
 exact b _ (vG h)
theorem zmQ {x:Str}{ns:List Int}(b:Bits ns)(h:zbi x ns.length):zca x ns=0∨zca x ns=1:=by
 rcases h with ⟨h | h | h,l1,l2⟩ | ⟨h,l1⟩ | ⟨h,l1⟩ | ⟨h | h,l1⟩
 ·rw [h,zlo];split <;> simp
 ·rw [h,zo2];split <;> simp
 ·rw [h,zkZ];omega
 ·rw [h,zlu]
  have:=zbH b (i:=0) (by omega)
  omega
 ·rw [h,zfx]
  split
  ·exact zbH b (i:=1) (by omega)
  ·exact zbH b (i:=2) (by omega)
 ·rw [h,ziI];simp
 ·rw [h,zkF];simp
theorem ifY {x y:Str}{A B:Prop}(h:x=y)(a:A):if (decide (V.str x=V.str y))=true then A else B:=by rw [if_pos (decide_eq_true (by rw [h]))];exact a
theorem ifN {x y:Str}{A B:Prop}(h:x≠y)(b:B):if (decide (V.str x=V.str y))=true then A else B:=by rw [if_neg (by rw [decide_eq_true_eq];intro z;exact h (V.str.inj z))];exact b
theorem zbK {ns:List Int}{i:Int}(h0: 0≤i)(h1:i < ns.length):atI (ns.map V.int) i=some (.int (ns.getD i.toNat 0)):=by
 have e:i=((i.toNat:Nat):Int):=by omega
 have hk:i.toNat < ns.length:=by omega
 have q:atI (ns.map V.int) ((i.toNat:Nat):Int)=some (.int ns[i.toNat]):=zb2 (by rw [yL,yQ hk] <;> rfl)
 rw [← e] at q
 rw [q,jV,yQ hk]
 rfl
theorem zjO:∀ {ns:List Int},Bits ns→ns.sum=((ns.filter (· ==1)).length:Int)
 | [],_=>rfl
 | n::r,b=>by
  have ih:=zjO (ns:=r) fun z hz=>b z (.tail _ hz)
  rcases b n (.head _) with e | e
  ·rw [e,vC,ih,vD (by decide)];omega
  ·rw [e,vC,ih,wF (by decide),yO];omega
theorem zjx {ns:List Int}:(ns.filter (· ==1)).length=ns.length↔ns.all (· ==1)=true:=by
 rw [List.length_filter_eq_length_iff,qY]
theorem zju {ns:List Int}: 0 < (ns.filter (· ==1)).length↔ns.any (· ==1)=true:=by
 rw [List.length_filter_pos_iff,ybJ]
theorem k_and {ns:List Int}:(if (decide (V.int ((((ns.filter (· ==1)).map V.int).length:Nat):Int)=V.int (((ns.map V.int).length:Nat):Int)))=true then (1:Int) else 0)=zca "and" ns:=by
 rw [zlo,yA,yA]
 by_cases h:(ns.filter (· ==1)).length=ns.length
 ·rw [if_pos (by simp [h]),if_pos (zjx.mp h)]
 ·rw [if_neg (by simp;omega),if_neg (fun z=>h (zjx.mpr z))]
theorem k_or {ns:List Int}:(if (decide ((0:Int) < ((((ns.filter (· ==1)).map V.int).length:Nat):Int)))=true then (1:Int) else 0)=zca "or" ns:=by
 rw [zo2,yA]
 by_cases h: 0 < (ns.filter (· ==1)).length
 ·rw [if_pos (decide_eq_true (by omega)),if_pos (zju.mp h)]
 ·rw [if_neg (by rw [decide_eq_true_eq];omega),if_neg (fun z=>h (zju.mpr z))]
theorem k_odd {ns:List Int}(b:Bits ns):((((ns.filter (· ==1)).map V.int).length:Nat):Int) % 2=zca "odd" ns:=by
 rw [zkZ,zjO b,yA]
theorem k_not {ns:List Int}(b:Bits ns)(h:ns.length=1): 1 - (if ((((ns.filter (· ==1)).map V.int).length:Nat):Int) < 1 then ((((ns.filter (· ==1)).map V.int).length:Nat):Int) else 1)=zca "not" ns:=by
 rw [zlu,yA]
 match ns,h with
 | [n],_=>
  rcases b n (.head _) with e | e
  ·subst e;rfl
  ·subst e;rfl
theorem zkL {ns:List Int}{j:Nat}{n:Int}(h:ns[j]? =some n):(ns.take (j+1)).filter (· ==1)=(ns.take j).filter (· ==1)++(if n=1 then [n] else []):=by
 rw [yT,h,vN]
 by_cases e:n=1
 ·subst e;rfl
 ·rw [if_neg e]
  congr 1
  show List.filter _ [n]= []
  rw [vD (by simpa using e)]
  rfl
open PySem.W (Dat kqdP kqdPs kqdOk)
noncomputable def zbA:Nat→List (List Int)
 | 0=>[[]]
 | n+1=>(zbA n).map (0:: ·)++(zbA n).map (1:: ·)
theorem zbL:∀ n,(zbA n).length=2 ^ n
 | 0=>rfl
 | n+1=>by rw [zbA,yI,yA,yA,zbL n,wU];omega
theorem zeb:∀ n r,r∈zbA n→r.length=n∧Bits r
 | 0,r,h=>by
  rw [yK.mp h]
  exact ⟨rfl,fun _ z=>nomatch z⟩
 | n+1,r,h=>by
  rcases yS.mp h with h | h
  ·obtain ⟨u,hu,rfl⟩:=qE.mp h
   obtain ⟨a,b⟩:=zeb n u hu
   exact ⟨by rw [yO,a],fun z hz=>by
    rcases yN.mp hz with e | e
    ·exact .inl e
    ·exact b z e⟩
  ·obtain ⟨u,hu,rfl⟩:=qE.mp h
   obtain ⟨a,b⟩:=zeb n u hu
   exact ⟨by rw [yO,a],fun z hz=>by
    rcases yN.mp hz with e | e
    ·exact .inr e
    ·exact b z e⟩
theorem zmR {n:Nat}(h:n≤6):(zbA n).length≤64:=by
 rw [zbL]
 exact jW (n:=2) (by decide) h
inductive At (H:Hp):List Addr→List (List Int)→Prop
 | nil:At H [] []
 | cons {q:Addr} {r:List Int} {qs:List Addr} {rs:List (List Int)}:H q=some (.lst (r.map V.int))→At H qs rs→At H (q::qs) (r::rs)
section
variable {K:PySem.W.Frag} {H H':Hp} {qs qs':List Addr} {rs rs':List (List Int)}
theorem At.mono (s:Same H H')(h:At H qs rs):At H' qs rs:=by
 induction h with
 | nil=>exact .nil
 | cons e _ ih=>exact .cons (s _ _ e) ih
theorem At.append (h:At H qs rs)(h':At H qs' rs'):At H (qs++qs') (rs++rs'):=by
 induction h with
 | nil=>exact h'
 | cons e _ ih=>exact .cons e ih
theorem At.len (h:At H qs rs):qs.length=rs.length:=by
 induction h with
 | nil=>rfl
 | cons e _ ih=>rw [yO,yO,ih]
theorem At.get (h:At H qs rs):∀ {i:Nat} {q:Addr},qs[i]? =some q→∃ r,rs[i]? =some r∧H q=some (.lst (r.map V.int)):=by
 induction h with
 | nil=>intro i q e;cases e
 | cons e _ ih=>
  intro i q z
  cases i with
  | zero=>cases z;exact ⟨_,rfl,e⟩
  | succ i=>exact ih z
theorem At.here (h:At H qs rs){q:Addr}(m:q∈qs):∃ r∈rs,H q=some (.lst (r.map V.int)):=by
 obtain ⟨i,hi⟩:=jR m
 obtain ⟨r,a,b⟩:=h.get hi
 exact ⟨r,yR a,b⟩
theorem At.write {p:Addr}{o:HO}(n:p∉qs)(h:At H qs rs):At (upd H p o) qs rs:=by
 induction h with
 | nil=>exact .nil
 | cons e _ ih=>
  refine .cons ?_ (ih fun z=>n (.tail _ z))
  rename_i q0 _ _ _ _
  have hne:q0≠p:=fun z=>n (by rw [z];exact .head _)
  rw [zah hne]
  exact e
end
structure Rows (H0:Hp) (R:Addr) (qs:List Addr) (rs:List (List Int)) (H:Hp):Prop where
 same:Same H0 H
 out:H0 R=none
 at_:H R=some (.lst (qs.map V.ref))
 rows:At H qs rs
 nd:qs.Nodup
 new:∀ q∈qs,H0 q=none∧q≠R
section
variable {K:PySem.W.Frag} {H0 H H1 H2:Hp} {R D D1 D2 T q:Addr} {qs qs1 qs2:List Addr} {rs rs1 rs2:List (List Int)}
theorem Rows.start (s:Same H0 H)(h:H D=none):Rows H0 D [] [] (upd H D (.lst [])):=⟨s.upd h _,s.free h,zab,.nil,.nil,fun _ z=>nomatch z⟩
theorem Rows.sq (b:Rows H0 R qs rs H):SqL K H R (qs.map V.ref):=.of b.at_
theorem Rows.push {o:HO}{r:List Int}{vs:List V}(b:Rows H0 D qs rs H)(hT:H T=none)(hq:upd H T o q=none)(e:vs=r.map V.int):
  Rows H0 D (qs++ [q]) (rs++ [r]) (upd (upd (upd H T o) q (.lst vs)) D (.lst (qs.map V.ref++ [.ref q]))):=by
 subst e
 have s1:Same H (upd (upd H T o) q (.lst (r.map V.int))):=(zag hT _).upd hq _
 have q0:H q=none:=(zag hT o).free hq
 have qD:q≠D:=qX (zai b.at_ q0)
 have nq:q∉qs:=fun z=>by
  obtain ⟨r,_,e⟩:=b.rows.here z
  rw [q0] at e
  cases e
 refine ⟨(b.same.trans s1).write b.out _,b.out,by rw [zab,yM];rfl,?_,?_,fun z hz=>?_⟩
 ·refine At.write (fun z=>?_) (At.append (b.rows.mono s1) (.cons zab .nil))
  rcases yS.mp z with z | z
  ·exact (b.new D z).2 rfl
  ·exact qD (yK.mp z).symm
 ·refine vW.mpr ⟨b.nd,vS.mpr ⟨(fun z=>nomatch z),wQ⟩,fun x hx y hy e=>?_⟩
  rw [yK.mp hy] at e
  exact nq (e ▸ hx)
 ·rcases yS.mp hz with hz | hz
  ·exact b.new z hz
  ·rw [yK.mp hz]
   exact ⟨b.same.free q0,qD⟩
theorem Rows.cat (a:Rows H0 D1 qs1 rs1 H1)(b:Rows H1 D2 qs2 rs2 H2)(h:H2 R=none):Rows H0 R (qs1++qs2) (rs1++rs2) (upd H2 R (.lst (qs1.map V.ref++qs2.map V.ref))):=by
 have s:=a.same.trans b.same
 have t:At H2 (qs1++qs2) (rs1++rs2):=(a.rows.mono b.same).append b.rows
 refine ⟨s.upd h _,s.free h,by rw [zab,yM],t.mono (zag h _),?_,fun q hq=>?_⟩
 ·refine vW.mpr ⟨a.nd,b.nd,fun x hx y hy e=>?_⟩
  subst e
  obtain ⟨r,_,e⟩:=a.rows.here hx
  rw [(b.new x hy).1] at e
  cases e
 ·refine ⟨?_,fun e=>?_⟩
  ·rcases yS.mp hq with hq | hq
   ·exact (a.new q hq).1
   ·exact a.same.free (b.new q hq).1
  ·obtain ⟨r,_,z⟩:=t.here hq
   rw [e,h] at z
   cases z
end
theorem zdu {K:PySem.W.Frag}{H:Hp}:∀ {xs:List V} {ns:List Int},Reps K H xs (ns.map Dat.int)→xs=ns.map V.int
 | _,[],h=>by cases h;rfl
 | _,n::ns,h=>by
  cases h with
  | cons h1 h2=>
   cases h1
   rw [zdu h2]
   rfl
noncomputable def zdo (w:zaB) (ws:List Int):List Int:=w.outs.map fun o=>ws.getD o.toNat 0
theorem zg5 {r:List Int}{rs:List (List Int)}{j:Nat}(f:List Int→List Int)(h:rs[j]? =some r):(rs.take (j+1)).map f=(rs.take j).map f++ [f r]:=by
 rw [yT,h,yM]
 rfl
end My
namespace My
open PySem L2
open PySem.W (Dat kqdP kqdPs kqdOk)
end My
namespace My
open PySem L2
open PySem.W (Dat kqdP kqdPs kqdOk)
structure Flt where
 place:List Key
 worth:Int
noncomputable def kD:Key→Dat
 | .inl n=>.int n
 | .inr s=>.str s
noncomputable def fltD (f:Flt):Dat:=.tuple (f.place.map kD++ [.int f.worth])
noncomputable def zcE (i:Int):List Key:=[Sum.inr "wire",Sum.inl i]
noncomputable def legK (k i:Int):List Key:=[Sum.inr "leg",Sum.inl k,Sum.inl i]
noncomputable def zgr:Nat→List (List Key)
 | 0=>[]
 | n+1=>zgr n++ [zcE n]
noncomputable def zjX (k:Int):Nat→List (List Key)
 | 0=>[]
 | n+1=>zjX k n++ [legK k n]
noncomputable def zgH (gs:List (Str×List Int)):Nat→List (List Key)
 | 0=>[]
 | n+1=>zgH gs n++zjX n ((gs[n]?.map fun g=>g.2.length).getD 0)
noncomputable def zi7 (w:zaB):List (List Key):=zgr (w.ins.toNat+w.gates.length)++zgH w.gates w.gates.length
theorem zjo:∀ n,(zgr n).map (·.map kD)=zco n
 | 0=>rfl
 | n+1=>by rw [zgr,yM,zjo n,zco];rfl
theorem zlI (k:Int):∀ n,(zjX k n).map (·.map kD)=zeI k n
 | 0=>rfl
 | n+1=>by rw [zjX,yM,zlI k n,zeI];rfl
theorem zjh (gs:List (Str×List Int)):∀ n,(zgH gs n).map (·.map kD)=zcx gs n
 | 0=>rfl
 | n+1=>by rw [zgH,yM,zjh gs n,zcx,zlI]
theorem zkD (w:zaB):(zi7 w).map (·.map kD)=za3 w:=by unfold zi7 za3;rw [yM,zjo,zjh]
theorem zgs:∀ {n:Nat} {p:List Key},p∈zgr n→∃ i:Nat,i < n∧p=zcE i
 | n+1,p,h=>by
  rcases yS.mp h with h | h
  ·obtain ⟨i,a,b⟩:=zgs h
   exact ⟨i,by omega,b⟩
  ·exact ⟨n,by omega,yK.mp h⟩
theorem zh4:∀ {n i:Nat},i < n→zcE i∈zgr n
 | n+1,i,h=>by
  by_cases e:i=n
  ·subst e
   exact yS.mpr (.inr (yK.mpr rfl))
  ·exact yS.mpr (.inl (zh4 (by omega)))
theorem ziq {k:Int}:∀ {n:Nat} {p:List Key},p∈zjX k n→∃ i:Nat,i < n∧p=legK k i
 | n+1,p,h=>by
  rcases yS.mp h with h | h
  ·obtain ⟨i,a,b⟩:=ziq h
   exact ⟨i,by omega,b⟩
  ·exact ⟨n,by omega,yK.mp h⟩
theorem zjq {k:Int}:∀ {n i:Nat},i < n→legK k i∈zjX k n
 | n+1,i,h=>by
  by_cases e:i=n
  ·subst e
   exact yS.mpr (.inr (yK.mpr rfl))
  ·exact yS.mpr (.inl (zjq (by omega)))
theorem zgz {gs:List (Str×List Int)}:∀ {n:Nat} {p:List Key},p∈zgH gs n→∃ k i:Nat,k < n∧i < ((gs[k]?.map fun g=>g.2.length).getD 0)∧p=legK k i
 | n+1,p,h=>by
  rcases yS.mp h with h | h
  ·obtain ⟨k,i,a,b,c⟩:=zgz h
   exact ⟨k,i,by omega,b,c⟩
  ·obtain ⟨i,a,b⟩:=ziq h
   exact ⟨n,i,by omega,a,b⟩
theorem zhD {gs:List (Str×List Int)}:∀ {n k i:Nat},k < n→i < ((gs[k]?.map fun g=>g.2.length).getD 0)→legK k i∈zgH gs n
 | n+1,k,i,h,hi=>by
  by_cases e:k=n
  ·subst e
   exact yS.mpr (.inr (zjq hi))
  ·exact yS.mpr (.inl (zhD (by omega) hi))
noncomputable def zdt (w:zaB) (f:Flt):Prop:=f.place∈zi7 w∧(f.worth=0∨f.worth=1)
theorem zjG {w:zaB}{f:Flt}(h:zdt w f):fltD f∈zdk w:=by
 rw [← zdr,← zkD]
 unfold zd3
 refine ybI.mpr ⟨f.place.map kD,qE.mpr ⟨_,h.1,rfl⟩,?_⟩
 unfold fltD
 rcases h.2 with e | e
 ·rw [e];exact .head _
 ·rw [e];exact .tail _ (.head _)
theorem ziu {w:zaB}{i:Nat}{b:Int}(hi:i < w.ins.toNat+w.gates.length)(hb:b=0∨b=1):zdt w ⟨zcE i,b⟩:=⟨yS.mpr (.inl (zh4 hi)),hb⟩
theorem zm6 {w:zaB}{k i:Nat}{g:Str×List Int}{b:Int}(hk:w.gates[k]? =some g)(hi:i < g.2.length)(hb:b=0∨b=1):zdt w ⟨legK k i,b⟩:=
 ⟨yS.mpr (.inr (zhD (yF.mp hk).1 (by rw [hk];exact hi))),hb⟩
noncomputable def zdP (fs:List Flt):Prop:=(fs.map (·.place)).Nodup
noncomputable def tabV (fs:List Flt):List (List Key×V):=fs.map fun f=>(f.place,V.int f.worth)
noncomputable def look (fs:List Flt) (p:List Key):Option Int:=(fs.find? fun f=>decide (f.place=p)).map (·.worth)
noncomputable def pick (fs:List Flt) (p:List Key) (v:Int):Int:=(look fs p).getD v
theorem zhd (p:List Key):∀ fs:List Flt,valV (tabV fs) p=(look fs p).map V.int
 | []=>rfl
 | f::fs=>by
  show valV ((f.place,V.int f.worth)::tabV fs) p=_
  unfold look
  by_cases e:f.place=p
  ·rw [zfd e,yaI (by simpa using e)]
   rfl
  ·rw [ze9 e,List.find?_cons_of_neg (by simpa using e),zhd p fs]
   rfl
theorem zdy (fs:List Flt)(p:List Key)(v:Int):(valV (tabV fs) p).getD (.int v)= .int (pick fs p v):=by
 rw [zhd]
 unfold pick
 cases look fs p <;> rfl
theorem zin {fs:List Flt}{p:List Key}(h:p∉fs.map (·.place)):look fs p=none:=by
 unfold look
 rw [wG.mpr]
 ·rfl
 ·intro f hf z
  exact h (qE.mpr ⟨f,hf,of_decide_eq_true z⟩)
theorem zm3 {fs:List Flt}{p:List Key}{b:Int}(h:look fs p=some b):⟨p,b⟩∈fs:=by
 unfold look at h
 obtain ⟨f,hf,rfl⟩:=xC.mp h
 have e0:=List.find?_some hf
 have e:f.place=p:=by simpa using e0
 rw [← e]
 exact kI hf
theorem zg8 {fs:List Flt}{p:List Key}{v:Int}(hb:∀ f∈fs,f.worth=0∨f.worth=1)(hv:v=0∨v=1):pick fs p v=0∨pick fs p v=1:=by
 unfold pick
 cases e:look fs p with
 | none=>exact hv
 | some b=>exact hb _ (zm3 e)
noncomputable def zdT (fs:List Flt) (k:Int) (ns:List Int):List Int:=ns.mapIdx fun i v=>pick fs (legK k i) v
noncomputable def rowS (fs:List Flt) (ns:List Int):List Int:=ns.mapIdx fun i v=>pick fs (zcE i) v
noncomputable def zaX (fs:List Flt) (gs:List (Str×List Int)) (row:List Int):Nat→List Int
 | 0=>rowS fs row
 | n+1=>zaX fs gs row n++ [pick fs (zcE ((row.length+n:Nat):Int)) (match gs[n]? with
   | some g=>zca g.1 (zdT fs n (g.2.map fun l=>(zaX fs gs row n).getD l.toNat 0))
   | none=>0)]
theorem zg1 (fs:List Flt)(ns:List Int):(rowS fs ns).length=ns.length:=by unfold rowS;rw [ybq]
theorem zcG (fs:List Flt)(k:Int)(ns:List Int):(zdT fs k ns).length=ns.length:=by unfold zdT;rw [ybq]
theorem zkP (fs:List Flt)(ns:List Int)(v:Int):rowS fs (ns++ [v])=rowS fs ns++ [pick fs (zcE ns.length) v]:=by unfold rowS;rw [ybr]
theorem zgu (fs:List Flt)(k:Int)(ns:List Int)(v:Int):zdT fs k (ns++ [v])=zdT fs k ns++ [pick fs (legK k ns.length) v]:=by unfold zdT;rw [ybr]
theorem zby (fs:List Flt)(gs:List (Str×List Int))(row:List Int):∀ n,(zaX fs gs row n).length=row.length+n
 | 0=>zg1 fs row
 | n+1=>by rw [zaX,yI,zby fs gs row n];simp;omega
theorem zkO {fs:List Flt}(hb:∀ f∈fs,f.worth=0∨f.worth=1){ns:List Int}(b:Bits ns):Bits (rowS fs ns):=by
 intro z hz
 unfold rowS at hz
 obtain ⟨i,h,e⟩:=yaW.mp hz
 rw [← e]
 exact zg8 hb (b _ (vG h))
theorem zeO {fs:List Flt}(hb:∀ f∈fs,f.worth=0∨f.worth=1){k:Int}{ns:List Int}(b:Bits ns):Bits (zdT fs k ns):=by
 intro z hz
 unfold zdT at hz
 obtain ⟨i,h,e⟩:=yaW.mp hz
 rw [← e]
 exact zg8 hb (b _ (vG h))
theorem zd2 {fs:List Flt}(hb:∀ f∈fs,f.worth=0∨f.worth=1){m:Nat}{w:zaB}{row:List Int}(wf:WF m w)(hl:(row.length:Int)=w.ins)(b:Bits row):∀ n,n≤w.gates.length→Bits (zaX fs w.gates row n)
 | 0,_=>zkO hb b
 | n+1,h=>by
  have ih:=zd2 hb wf hl b n (by omega)
  obtain ⟨g,hg⟩:∃ g,w.gates[n]? =some g:=⟨_,yQ (by omega)⟩
  rw [zaX,hg]
  intro z hz
  rcases yS.mp hz with hz | hz
  ·exact ih z hz
  ·rw [yK.mp hz]
   obtain ⟨l1,l2⟩:=wf.legs n g hg
   refine zg8 hb (zmQ (zeO hb fun y hy=>?_) (by rw [zcG,yA];exact l1))
   obtain ⟨l,hl',rfl⟩:=qE.mp hy
   have:=l2 l hl'
   exact zbH ih (by rw [zby];omega)
noncomputable def zf6 (fs:List Flt) (gs:List (Str×List Int)) (row:List Int) (i:Nat):List Int:=(zaX fs gs row (i - row.length)).take i
theorem zj0 (fs:List Flt)(gs:List (Str×List Int))(row:List Int):zf6 fs gs row 0= []:=by unfold zf6;simp
theorem zk9 (fs:List Flt)(gs:List (Str×List Int))(row:List Int)(i:Nat):(zf6 fs gs row i).length=i:=by
 unfold zf6
 rw [yW,zby]
 omega
theorem zlx {fs:List Flt}{gs:List (Str×List Int)}{row:List Int}{i:Nat}(h:i < row.length):zf6 fs gs row (i+1)=zf6 fs gs row i++ [pick fs (zcE i) (row.getD i 0)]:=by
 unfold zf6
 have e1:i+1 - row.length=0:=by omega
 have e2:i - row.length=0:=by omega
 rw [e1,e2]
 show (rowS fs row).take (i+1)=(rowS fs row).take i++_
 have e3:(rowS fs row)[i]? =some (pick fs (zcE i) (row.getD i 0)):=by
  unfold rowS
  rw [yaa,yQ h,jV,yQ h]
  rfl
 rw [yT,e3]
 rfl
theorem zeD {fs:List Flt}{gs:List (Str×List Int)}{row:List Int}{n:Nat}:zf6 fs gs row (row.length+n)=zaX fs gs row n:=by
 unfold zf6
 have e:row.length+n - row.length=n:=by omega
 rw [e,xD (by rw [zby];omega)]
theorem zfR {K:PySem.W.Frag}{H:Hp}{b:Int}:∀ {ks:List Key} {vs:List V},Reps K H vs (ks.map kD++ [.int b])→vs=ks.map kV++ [.int b]
 | [],_,h=>by
  cases h with
  | cons h1 h2=>cases h1;cases h2;rfl
 | .inl n::ks,_,h=>by
  cases h with
  | cons h1 h2=>cases h1;rw [zfR h2];rfl
 | .inr n::ks,_,h=>by
  cases h with
  | cons h1 h2=>cases h1;rw [zfR h2];rfl
theorem zfP {K:PySem.W.Frag}{H:Hp}{b:Int}:∀ (ks:List Key),Reps K H (ks.map kV++ [.int b]) (ks.map kD++ [.int b])
 | []=>.cons (.int _) .nil
 | .inl n::ks=>.cons (.int _) (zfP ks)
 | .inr n::ks=>.cons (.str _) (zfP ks)
theorem flt_at {K:PySem.W.Frag}{H:Hp}{f:Flt}{x:V}(h:Rep K H x (fltD f)):∃ a,x= .ref a∧SqT K H a (f.place.map kV++ [.int f.worth]):=by
 unfold fltD at h
 cases h with
 | tup ha r=>exact ⟨_,rfl,by rw [← zfR r];exact ha⟩
theorem zox {K:PySem.W.Frag}{H:Hp}{f:Flt}{a:Addr}(h:SqT K H a (f.place.map kV++ [.int f.worth])):Rep K H (.ref a) (fltD f):=.tup h (zfP _)
theorem zjc (xs:List V)(v:V):cutV (xs++ [v]) none (some (-1))=xs:=by
 have e1:HT.sIx (xs++ [v]).length 0 none=0:=rfl
 have e2:HT.sIx (xs++ [v]).length (xs++ [v]).length (some (-1))=xs.length:=by
  simp only [HT.sIx,yI,qM]
  rw [if_pos (by decide)]
  omega
 unfold cutV
 rw [e1,e2]
 simp
theorem zmo (xs:List V)(v:V):¬(HT.sIx (xs++ [v]).length 0 none=0∧HT.sIx (xs++ [v]).length (xs++ [v]).length (some (-1))=(xs++ [v]).length):=by
 rintro ⟨_,z⟩
 simp only [HT.sIx,yI,qM] at z
 rw [if_pos (by decide)] at z
 omega
theorem zeM (xs:List V)(v:V):atI (xs++ [v]) (-1)=some v:=by
 unfold atI ixN
 have e:((-1:Int)+((xs++ [v]).length:Nat)).toNat=xs.length:=by rw [yI,qM];omega
 rw [if_neg (by decide),if_pos (by rw [yI,qM];omega),e]
 simp
end My
namespace My
open PySem L2
open PySem.W (Dat kqdP kqdPs kqdOk)
theorem zjU {H H':Hp}(s:Same H H'){xs:List V}{kvs:List (List Key×V)}(h:zeG H xs kvs):zeG H' xs kvs:=Paired.mapP h fun _ _ ⟨p,kt,e,h1,h2⟩=>⟨p,kt,e,s _ _ h1,h2.same s⟩
theorem zi1 {H:Hp}{D:Addr}{l:List V}{o:HO}(hD:H D=some (.lst l)){xs:List V}{kvs:List (List Key×V)}(h:zeG H xs kvs):zeG (upd H D o) xs kvs:=Paired.mapP h fun _ _ ⟨p,kt,e,h1,h2⟩=>
 ⟨p,kt,e,by rw [zah (zh3 h1 hD (fun z=>nomatch z))];exact h1,h2.write hD⟩
theorem zis:∀ (fs gs:List Flt),zdP (gs++fs)→zeV (tabV gs) (tabV fs)=tabV (gs++fs)
 | [],gs,_=>by rw [wC];rfl
 | f::fs,gs,h=>by
  have nl:look gs f.place=none:=zin fun z=>by
   unfold zdP at h
   rw [yM] at h
   exact (vW.mp h).2.2 _ z _ (qE.mpr ⟨f,.head _,rfl⟩) rfl
  have nv:valV (tabV gs) f.place=none:=by rw [zhd,nl];rfl
  show zeV (putK (tabV gs) f.place (V.int f.worth)) (tabV fs)=_
  rw [zjJ _ nv]
  have e:tabV gs++ [(f.place,V.int f.worth)]=tabV (gs++ [f]):=by unfold tabV;rw [yM];rfl
  rw [e,zis fs (gs++ [f]) (by rw [jF];exact h),jF]
  rfl
end My
namespace L2
end L2
namespace My
open PySem L2
open PySem.W (Dat kqdP kqdPs kqdOk)
end My
namespace My
open PySem L2
open PySem.W (Dat kqdP kqdPs kqdOk)
end My
namespace My
open PySem L2
open PySem.W (Dat kqdP kqdPs kqdOk)
noncomputable abbrev Gts:=List (Str×List Int)
section
variable {ins:Int} {gl:Gts} {row:List Int} {w:Int} {x:Str} {ls:List Int}
end
section
variable {ins n0:Int} {gl:Gts} {ss:List Int} {one other b l r:Int}
end
section
variable {K:PySem.W.Frag} {M:List Addr} {m D T:Addr} {ins:Int} {gl:Gts} {G H:Hp} {o:HO}
end
end My
namespace My
open PySem L2
open PySem.W (Dat kqdP kqdPs kqdOk)
noncomputable def sh (W l:Int):Int:=l+(if W≤l then 1 else 0)
noncomputable def turned (W:Int) (g p n:Nat) (ls:List Int):List Int:=if n=g then (ls.map (sh W)).set p W else ls.map (sh W)
end My
namespace L2
end L2
namespace L2
open PySem PySem.Spec PyProof.Rows
theorem zbX (h:Heap):∀ fs:List Addr,∃ B:Heap,∀ b,(b∈fs→B.get? b=none)∧(b∉fs→B.get? b=h.get? b)
 | []=>⟨h,fun b=>⟨(fun z=>(nomatch z)),fun _=>rfl⟩⟩
 | a::r=>by
  obtain ⟨B,hB⟩:=zbX h r
  refine ⟨B.update a fun o=>{o with data:=.freed},fun b=>⟨fun z=>?_,fun z=>?_⟩⟩
  ·by_cases e:b=a
   ·subst e
    obtain ⟨objs,l⟩:=B
    unfold Heap.update Heap.get?
    rw [Array.getElem?_modify,if_pos rfl]
    cases objs[b]? <;> rfl
   ·rw [vH _ _ (qX e)]
    exact (hB b).1 ((yN.mp z).resolve_left e)
  ·have e:b≠a:=fun q=>z (q ▸ .head _)
   rw [vH _ _ (qX e)]
   exact (hB b).2 fun q=>z (.tail _ q)
theorem zbv {h h' base base':Heap}:∀ {l:List Env},h.FunFrames base l→(∀ b∈frs l,∀ o,h.get? b=some o→∃ sl,h'.get? b=some {o with slots:=sl})→(∀ b∈frs l,base'.get? b=none)→h'.FunFrames base' l
 | [],_,_,_=>trivial
 | env::r,hl,k,kb=>by
  obtain ⟨hk,⟨L,o,hf,hn,ho,hd⟩,hr⟩:=hl
  have hm:∀ b,b∈frs r→b∈frs (env::r):=fun b z=>by
   unfold frs at z ⊢
   rw [vA,hf]
   exact .tail _ z
  have hL:L∈frs (env::r):=by
   unfold frs
   rw [vA,hf]
   exact .head _
  obtain ⟨sl,hs⟩:=k L hL o ho
  exact ⟨hk,⟨L,_,hf,kb L hL,hs,hd⟩,zbv hr (fun b z=>k b (hm b z)) fun b z=>kb b (hm b z)⟩
structure Air (C:Value) (h0:Heap) (x:Addr) (H':Hp) (h:Heap):Prop where
 newx:h0.get? x=none
 hx:H' x=none
 tr:∃ T a0 oe vs oT ts,h.get? x=some oe∧(oe.cls=C∧vs[0]? =some a0)∧oe.data= .fields vs∧vs[1]? =some (.ref T)∧h0.get? T=none∧H' T=none∧T≠x∧h.get? T=some oT∧oT.data= .fields ts∧ts[3]? =some .none
noncomputable def CXC (P:Program) (w:World) (C:Value):CXT:=fun outer H s E e s'=>∃ x H',e= .ref x∧s'.os=s.os∧AllBare s'.gens∧Un (frs outer) [] H H' s.heap s'.heap∧HOk P w H' s'.heap∧Air C s.heap x H' s'.heap∧E e (some x) H'
theorem zba.there {P:Program}{w:World}{H:Hp}{h:Heap}{a:Addr}{o:HO}(x:zba P w H h a o):∃ ob,h.get? a=some ob:=by
 cases o with
 | lst xs=>obtain ⟨_,_,_,_,e⟩:=x;exact ⟨_,e⟩
 | tup xs=>obtain ⟨_,_,_,ob,e,_⟩:=x;exact ⟨_,e⟩
 | dK kvs=>obtain ⟨_,_,_,_,o,_,_,e,_⟩:=x;exact ⟨_,e⟩
 | dT kvs=>obtain ⟨_,_,_,_,o,_,_,e,_⟩:=x;exact ⟨_,e⟩
 | set S n=>obtain ⟨o,_,_,_,e,_⟩:=x;exact ⟨_,e⟩
 | ins C dx fs=>obtain ⟨_,_,_,e,_⟩:=x;exact ⟨_,e⟩
 | own y=>obtain ⟨_,e⟩:=x;exact ⟨_,e⟩
 | xd fs=>obtain ⟨_,⟨_,_,_,e,_⟩,_⟩:=x;exact ⟨_,e⟩
 | rng lo hi=>obtain ⟨_,_,_,e⟩:=x;exact ⟨_,e⟩
 | frz ob u=>obtain ⟨e,_⟩:=x;exact ⟨_,e⟩
 | tbl ps=>exact ⟨_,x⟩
 | met f y=>exact ⟨_,x⟩
 | ext φ =>obtain ⟨_,⟨_,e⟩,_⟩:=x;exact ⟨_,e⟩
theorem Un.left {fs:List Addr}{H H':Hp}{h h' h'':Heap}{x T:Addr}(u:Un fs [] H H' h h')(nx:h.get? x=none)(nT:h.get? T=none)(k:∀ b o,b∉fs→b≠x→b≠T→h'.get? b=some o→h''.get? b=some o)
  (ks:∀ b o,b∈fs→h'.get? b=some o→∃ sl,h''.get? b=some {o with slots:=sl}):Un fs [] H H' h h'':=by
 have nn:∀ {b o},h.get? b=some o→b≠x∧b≠T:=fun {b o} e=>⟨(fun z=>by rw [z,nx] at e;cases e),(fun z=>by rw [z,nT] at e;cases e)⟩
 refine ⟨fun b o e n hb hx=>k b o hb (nn e).1 (nn e).2 (u.keep b o e n hb hx),fun b o e n hb hx=>?_,u.free,fun b o e hx=>?_,u.tups,u.frzs,u.tbls⟩
 ·obtain ⟨sl,q⟩:=u.slot b o e n hb hx
  obtain ⟨sl',q'⟩:=ks b _ hb q
  exact ⟨sl',q'⟩
 ·obtain ⟨o',q⟩:=u.there b o e hx
  by_cases hb:b∈fs
  ·obtain ⟨sl,q'⟩:=ks b o' hb q
   exact ⟨_,q'⟩
  ·exact ⟨o',k b o' hb (nn e).1 (nn e).2 q⟩
theorem HOk.left {P:Program}{w:World}{fs:List Addr}{H':Hp}{h' h'':Heap}{x T:Addr}(ok:HOk P w H' h')(nf:∀ b∈fs,H' b=none)(nx:H' x=none)(nT:H' T=none)(k:∀ b o,b∉fs→b≠x→b≠T→h'.get? b=some o→h''.get? b=some o):HOk P w H' h'':=fun a o e=>by
 have key:∀ b u,H' b=some u→∀ q,h'.get? b=some q→h''.get? b=some q:=fun b u e q eq=>k b q (fun z=>by rw [nf b z] at e;cases e) (fun z=>by rw [z,nx] at e;cases e) (fun z=>by rw [z,nT] at e;cases e) eq
 refine (ok a o e).stay (fun b u hb q=>?_) (fun _ q=>q) fun _ _ q=>q
 rcases hb with rfl | hb
 ·exact key _ _ e u q
 ·exact key _ _ hb u q
section
variable {P:Program} {w:World} {C:Value} {M:Model} {A:Around} {env:Env} {outer:List Env} {L:Addr} {H:Hp} {s s':Shared} {E:XK} {e:Value} {base:Heap} {E1:Value→Shared→Prop}
theorem zky (hfr:A.frames=some (env::outer))(hf:env.frame=some L)(fun0:s.heap.FunFrames base (env::outer))(frf:∀ b∈frs (env::outer),H b=none)(cx:CXC P w C (env::outer) H s E e s'):
  wpAny M A (leaving env e) (fun _ s''=>CXC P w C (env::outer) H s E e s'') E1 s':=by
 obtain ⟨x,H',rfl,hos,hb,un,ok,⟨newx,hx,T,a0,oe,vs,oT,ts,ex,ec,ed,e1,nT,hT,Tx,eT,edT,e3⟩,q⟩:=cx
 obtain ⟨B,hB⟩:=zbX s'.heap (x::T::frs (env::outer))
 have fr0:∀ b∈frs (env::outer),∃ o,s.heap.get? b=some o∧∀ vs,o.data≠.fields vs:=fun b z=>(fun0.mem z).2
 have frs':∀ b∈frs (env::outer),H' b=none:=fun b z=>by
  obtain ⟨o,ho,_⟩:=fr0 b z
  exact un.free b o ho (frf b z) (by simp)
 have fl:s'.heap.FunFrames B (env::outer):=zbv fun0 (fun b z o ho=>un.slot b o ho (frf b z) z (by simp)) fun b z=>(hB b).1 (.tail _ (.tail _ z))
 have st:B.StaysIn s'.heap:=fun b o hb=>by
  by_cases z:b∈x::T::frs (env::outer)
  ·rw [(hB b).1 z] at hb;cases hb
  ·rw [(hB b).2 z] at hb;exact hb
 refine wpAny_leaving_nextW (base:=B) (cls:=C) (a0:=a0) hfr fl hf ⟨oe,vs,T,oT,ts,ex,ec,ed,e1,(hB T).1 (.tail _ (.head _)),Tx,eT,edT,e3⟩ st ((hB x).1 (.head _)) fun h'' hL=>?_
 obtain ⟨k1,k2,⟨oe',vs',T',oT',ts',ex',ec',ed',e1',nT',Tx',eT',edT',e3'⟩,k4⟩:=hL
 have k:∀ b o,b∉frs (env::outer)→b≠x→b≠T→s'.heap.get? b=some o→h''.get? b=some o:=fun b o n1 n2 n3 eb=>k1 b o (by
  rw [(hB b).2 fun z=>by
   rcases yN.mp z with z | z
   ·exact n2 z
   ·rcases yN.mp z with z | z
    ·exact n3 z
    ·exact n1 z]
  exact eb)
 have ks:∀ b o,b∈frs (env::outer)→s'.heap.get? b=some o→∃ sl,h''.get? b=some {o with slots:=sl}:=fun b o z eb=>k4 b o eb (by
  obtain ⟨_,o2,h2,h3⟩:=fl.mem z
  rw [eb] at h2
  cases h2
  exact h3)
 have Tf:T'∉frs (env::outer):=fun z=>by
  obtain ⟨_,o2,h2,h3⟩:=k2.mem z
  rw [eT'] at h2
  cases h2
  exact h3 _ edT'
 have gT:s'.heap.get? T'=none∨T'=T:=by
  by_cases z:T'=T
  ·exact .inr z
  ·refine .inl ?_
   rw [← (hB T').2 fun y=>?_]
   ·exact nT'
   ·rcases yN.mp y with y | y
    ·exact Tx' y
    ·rcases yN.mp y with y | y
     ·exact z y
     ·exact Tf y
 have n0:s.heap.get? T'=none:=by
  rcases gT with g | rfl
  ·cases z:s.heap.get? T' with
   | none=>rfl
   | some o=>
    obtain ⟨o',y⟩:=un.there T' o z (by simp)
    rw [g] at y
    cases y
  ·exact nT
 have n1:H' T'=none:=by
  rcases gT with g | rfl
  ·cases z:H' T' with
   | none=>rfl
   | some o=>
    obtain ⟨ob,y⟩:=(ok T' o z).there
    rw [g] at y
    cases y
  ·exact hT
 exact ⟨x,H',rfl,hos,hb,un.left newx nT k ks,ok.left frs' hx hT k,⟨newx,hx,T',a0,oe',vs',oT',ts',ex',ec',ed',e1',n0,n1,Tx',eT',edT',e3'⟩,q⟩
end
theorem CXC.up {X:Cx}{pins:List (Addr×Obj)}{σ :St}{H:Hp}{s s':Shared}{C:Value}{E:XK}{e:Value}(I:Inv X pins σ H s)(hx:X.ex= [])(cx:CXC X.prog X.w C X.stack H s E e s'):CXC X.prog X.w C X.outer X.H₀ X.s₀ E e s':=by
 obtain ⟨x,H',rfl,hos,hb,un,ok,⟨newx,hx',T,a0,oe,vs,oT,ts,ex,ec,ed,e1,nT,hT,Tx,eT,edT,e3⟩,q⟩:=cx
 have J:=I.call' hos un ok hb (fun b z=>absurd z (by simp))
 have nn:∀ {b:Addr},s.heap.get? b=none→X.s₀.heap.get? b=none:=fun {b} z=>by
  cases y:X.s₀.heap.get? b with
  | none=>rfl
  | some o=>
   obtain ⟨o',y'⟩:=I.base.there b o y (by rw [hx];simp)
   rw [z] at y'
   cases y'
 have jb:=J.base
 rw [hx] at jb
 exact ⟨x,H',rfl,J.os,J.bare,jb,J.hok,⟨nn newx,hx',T,a0,oe,vs,oT,ts,ex,ec,ed,e1,nn nT,hT,Tx,eT,edT,e3⟩,q⟩
theorem zb7 {P:Program}{w:World}{H:Hp}{h:Heap}(ok:HOk P w H h){a:Addr}(e:h.get? a=none):H a=none:=by
 cases z:H a with
 | none=>rfl
 | some o=>
  obtain ⟨ob,y⟩:=(ok a o z).there
  rw [e] at y
  cases y
section
variable {P:Program} {w:World} {M:Model} {A:Around} {env:Env} {outer:List Env} {L C x:Addr} {H:Hp} {s:Shared} {E:XK} {base h':Heap} {E1:Value→Shared→Prop} {us:List Value}
theorem ziB (hfr:A.frames=some (env::outer))(hf:env.frame=some L)(fun0:s.heap.FunFrames base (env::outer))(frf:∀ b∈frs (env::outer),H b=none)(ok:HOk P w H s.heap)(hg:AllBare s.gens)(mx:Heap.MadeExcOf s.heap h' x (.ref C) us)(q:E (.ref x) (some x) H):
  wpAny M A (leaving env (.ref x)) (fun _ s''=>CXC P w (.ref C) (env::outer) H s E (.ref x) s'') E1 {s with heap:=h'}:=by
 obtain ⟨keeps,newx,t,ex,nt,et⟩:=mx
 have hx:H x=none:=zb7 ok newx
 obtain ⟨B,hB⟩:=zbX h' (x::frs (env::outer))
 have fl:h'.FunFrames B (env::outer):=zbv fun0 (fun b z o ho=>⟨o.slots,keeps b o ho⟩) fun b z=>(hB b).1 (.tail _ z)
 have st:B.StaysIn h':=fun b o hb=>by
  by_cases z:b∈x::frs (env::outer)
  ·rw [(hB b).1 z] at hb;cases hb
  ·rw [(hB b).2 z] at hb;exact hb
 refine wpAny_leaving_firstW (base:=B) (s:={s with heap:=h'}) (a0:=.ref t) hfr fl hf ex st ((hB x).1 (.head _)) rfl rfl rfl fun h'' hL=>?_
 obtain ⟨k1,k2,⟨oe',vs',T',oT',ts',ex',ec',ed',e1',nT',Tx',eT',edT',e3'⟩,k4⟩:=hL
 have k:∀ b o,b∉frs (env::outer)→b≠x→b≠x→h'.get? b=some o→h''.get? b=some o:=fun b o n1 n2 _ eb=>k1 b o (by
  rw [(hB b).2 fun z=>by
   rcases yN.mp z with z | z
   ·exact n2 z
   ·exact n1 z]
  exact eb)
 have ks:∀ b o,b∈frs (env::outer)→h'.get? b=some o→∃ sl,h''.get? b=some {o with slots:=sl}:=fun b o z eb=>k4 b o eb (by
  obtain ⟨_,o2,h2,h3⟩:=fl.mem z
  rw [eb] at h2
  cases h2
  exact h3)
 have Tf:T'∉frs (env::outer):=fun z=>by
  obtain ⟨_,o2,h2,h3⟩:=k2.mem z
  rw [eT'] at h2
  cases h2
  exact h3 _ edT'
 have g0:h'.get? T'=none:=by
  rw [← (hB T').2 fun y=>?_]
  ·exact nT'
  ·rcases yN.mp y with y | y
   ·exact Tx' y
   ·exact Tf y
 have n0:s.heap.get? T'=none:=by
  cases z:s.heap.get? T' with
  | none=>rfl
  | some o=>
   have y:=keeps _ _ z
   rw [g0] at y
   cases y
 exact ⟨x,H,rfl,rfl,hg,(Un.kept keeps).left newx newx k ks,(ok.kept keeps).left (fun b z=>frf b z) hx hx k,⟨newx,hx,T',.ref t,oe',vs',oT',ts',ex',ec',ed',e1',n0,zb7 ok n0,Tx',eT',edT',e3'⟩,q⟩
end
theorem zmw {K:PySem.W.Frag}{h:Heap}{C:Addr}{bB:List Value}{nid:String}(X:K.In h)(q:PySem.W.excIn K C bB nid=true):
  ∃ tl N nm qn bs hd sn sub ab col dd a0 a1 a2 a3 a5 mN,h.get? C=some (excClassObj nm qn C N bs tl hd sn sub ab col dd a0 a1 a2 a3 a5 nid)∧h.Ns N mN∧mN "__init__" =none∧OwnTail h bB tl:=by
 unfold PySem.W.excIn at q
 split at q
 case h_2=>cases q
 case h_1 dd cd sl ho=>
  split at q
  case h_2=>cases q
  case h_1 C2 tl a0 a1 a2 a3 nn a5 hm hs=>
   simp only [jE,beq_iff_eq,yby] at q
   obtain ⟨⟨⟨⟨⟨w1,w2⟩,w3⟩,w4⟩,w5⟩,w6⟩:=q
   subst w1 w2
   cases cd with
   | mk nm bs mro ns qn hd sn sub ab col del=>
    dsimp only at hm w3 w5 w6
    subst hm w3
    have e:sl= #[a0,a1,a2,a3,some (.builtin nn),a5]:=by
     cases sl with
     | mk l=>exact congrArg Array.mk hs
    subst e
    exact ⟨tl,ns,nm,qn,bs,hd,sn,sub,ab,col,dd,a0,a1,a2,a3,a5,_,X _ _ ho,Heap.Ns.of_isNs (PySem.W.isNs_of_in X w5),PySem.W.nsMap_none_of_in X w5 w6,PySem.W.tail_of_in X w4⟩
noncomputable def zg3 (C:Addr) (X:Cx) (E:XK):Prop:=∀ (pins:List (Addr×Obj)) (σ :St) (H:Hp) (s:Shared) (h':Heap) (x:Addr) (us:List Value),Inv X pins σ H s→Heap.MadeExcOf s.heap h' x (.ref C) us→E (.ref x) (some x) H→X.xe (.ref x) {s with heap:=h'}
noncomputable def znx (E:XK) (t:TA):TS:=fun _ σ H=>t σ H fun vs H1=>vs.length≤yH∧∀ x,H1 x=none→E (.ref x) (some x) H1
section
variable {X:Cx} {C:Addr} {E:XK} {B nid iid:String} {bB:List Value} {x:Str} {np cpos pos:Pos} {e:Expr} {es:List Expr} {t:TA}
theorem znp (F:ExcBaseFacts B nid iid bB)(hc:PySem.W.excIn X.K C bB nid=true)(hcalm:X.calm=true)(hg:Gl X x)(hm:X.mg x=some (.ref C))(hx:zg3 C X E)(ha:PA X (e::es) t)(hdb:(x==("__debug__" :Str))=false:=by decide)
  (he:starEach (e::es) X.env=(false,eval e X.env)::starEach es X.env:=by rfl) (hpl:(backTo cpos (starEach es X.env)).any (·.1)=false:=by rfl):PS X (.Raise (some (.Call (.Name x np) (e::es) [] cpos)) none pos) (znx E t):=by
 intro pins s σ H D I h
 obtain ⟨tl,N,nm,qn,bs,hd,sn,sub,ab,col,dd,a0,a1,a2,a3,a5,mN,oC,oN,oi,oT⟩:=zmw I.ok.mod.kin hc
 have hplain:(backTo cpos (starEach (e::es) X.env)).any (·.1)=false:=by
  rw [he]
  show (false || (backTo cpos (starEach es X.env)).any (·.1))=false
  rw [hpl]
  rfl
 refine wpAny_Raise_call_subT (C:=C) (nm:=nm) (q:=qn) (N:=N) (bs:=bs) (bm:=tl) (hdct:=hd) (sn:=sn) (sub:=sub) (ab:=ab) (col:=col) (dd:=dd) (k0:=a0) (k1:=a1) (k2:=a2) (k3:=a3) (k5:=a5) F (mN:=mN) (oT.hasType F.hasBase) (I.ok.hd hcalm) hplain oi (zfY I hg hm ⟨rfl,?_⟩ hdb)
 have z:=ha cpos pins s σ H _ I h
 rw [he] at z ⊢
 refine wZ (thn z fun us s1 ⟨vs,H1,I1,r,q1,q2⟩=>⟨rfl,by rw [← r.length];exact q1,I1.bk _ _ oC,oN.keeps I1.bk,oT.keeps I1.bk,fun h2 x2 mx=>?_⟩)
 exact hx pins σ H1 s1 h2 x2 us I1 mx (q2 x2 (zb7 I1.hok mx.new))
end
section
variable {P:Program} {w:World} {K:PySem.W.Frag} {mg:Str→Option Value} {base:Heap} {N:List Str} {qual:Str} {scope:Scope} {f C:Addr} {cd:Value} {A:Around} {outer:List Env} {s:Shared} {H:Hp} {E:XK}
theorem zo1:zdn (CXC P w (.ref C)) (cxOf (CXC P w (.ref C)) P w K mg base N qual scope f cd A outer s H E) E:=fun pins σ H1 s1 e s' I cx=>by
 refine wpAny_mono (zky I.ok.frames rfl I.env0.funs I.stkFree cx) (fun _ s2 cx2=>?_) fun _ _ z=>z
 exact CXC.up (X:=cxOf (CXC P w (.ref C)) P w K mg base N qual scope f cd A outer s H E) I rfl cx2
theorem zcO:zg3 C (cxOf (CXC P w (.ref C)) P w K mg base N qual scope f cd A outer s H E) E:=fun pins σ H1 s1 h' x us I mx q=>by
 refine wpAny_mono (ziB I.ok.frames rfl I.env0.funs I.stkFree I.hok I.bare mx q) (fun _ s2 cx2=>?_) fun _ _ z=>z
 exact CXC.up (X:=cxOf (CXC P w (.ref C)) P w K mg base N qual scope f cd A outer s H E) I rfl cx2
end
section
variable {X:Cx}
theorem za2 {C:Addr}{E:XK}{B nid iid:String}{bB:List Value}{x:Str}{np cpos pos:Pos}{e:Expr}{es:List Expr}{t:TA}(F:ExcBaseFacts B nid iid bB)(hc:PySem.W.excIn X.K C bB nid=true)(hcalm:X.calm=true)(hg:Gl X x)(hm:X.mg x=some (.ref C))(hx:zg3 C X E)(ha:Bx (PA X (e::es) t))(hdb:(x==("__debug__" :Str))=false:=by decide)
  (he:starEach (e::es) X.env=(false,eval e X.env)::starEach es X.env:=by rfl) (hpl:(backTo cpos (starEach es X.env)).any (·.1)=false:=by rfl):Bx (PS X (.Raise (some (.Call (.Name x np) (e::es) [] cpos)) none pos) (znx E t)):=⟨znp F hc hcalm hg hm hx ha.1 hdb he hpl⟩
end
section
variable {P:Program} {w:World} {K:PySem.W.Frag} {mg:Str→Option Value} {base:Heap}
theorem Fun.okC {x qual:Str}{st:Stmt}{f C:Addr}{fd:FuncData}{N ps:List Str}{k:Nat}{sp:Sp}(F:Fun K x qual st f fd)(S:zav N ps (zak st))(len:∀ vs H Q E,sp vs H Q E→vs.length=ps.length)
  (hbody:∀ (cdv:Value) (A:Around) (outer:List Env) (s:Shared) (H:Hp) (vs:List V) (Q:VK) (E:XK),Room k (A.deeper (envOfC qual (zak st) s.heap.objs.size f cdv))→sp vs H Q E→
   ∃ t,Bx (PSs (cxOf (CXC P w (.ref C)) P w K mg base N qual (zak st) f cdv A outer s H E) (za1 st) t)∧t {nx:=fun _ H2=>Q .non H2,rt:=Q} (start N vs) H):FnOk P w K mg base (CXC P w (.ref C)) (k+1) f fd ps sp:=by
 obtain ⟨oc,od,kV,doc,pm,an,cdv,ct,osl,rfl,lk,hcd⟩:=F.ex
 refine zpg lk hcd S len fun A outer s H vs Q E hr hsp=>?_
 obtain ⟨t,h,q⟩:=hbody cdv A outer s H vs Q E hr hsp
 exact ⟨t,h.1,q⟩
variable {N:List Str} {qual:Str} {scope:Scope} {f C:Addr} {cd:Value} {A:Around} {outer:List Env} {s:Shared} {H:Hp} {E:XK}
theorem zgv:PassesOwn (model P w) (A.deeper (envOfC qual scope s.heap.objs.size f cd)) (envOfC qual scope s.heap.objs.size f cd) (cxOf (CXC P w (.ref C)) P w K mg base N qual scope f cd A outer s H E).xe:=PassesOwn.leaving
end
noncomputable def zir (K:PySem.W.Frag) (C:Addr):List Value:=match K.lookup C with
 | some ⟨_,_,.cls cd,_⟩=>cd.mro
 | _=>[]
theorem zdh {K:PySem.W.Frag}{h:Heap}{C:Addr}{bB:List Value}{nid:String}(X:K.In h)(q:PySem.W.excIn K C bB nid=true):
  ∃ tl N nm qn bs hd sn sub ab col dd a0 a1 a2 a3 a5,h.get? C=some (excClassObj nm qn C N bs tl hd sn sub ab col dd a0 a1 a2 a3 a5 nid)∧zir K C= .ref C::tl∧OwnTail h bB tl:=by
 unfold PySem.W.excIn at q
 split at q
 case h_2=>cases q
 case h_1 dd cd sl ho=>
  split at q
  case h_2=>cases q
  case h_1 C2 tl a0 a1 a2 a3 nn a5 hm hs=>
   simp only [jE,beq_iff_eq,yby] at q
   obtain ⟨⟨⟨⟨⟨w1,w2⟩,w3⟩,w4⟩,w5⟩,w6⟩:=q
   subst w1 w2
   have em:zir K C2= .ref C2::tl:=by
    unfold zir
    rw [ho]
    exact hm
   cases cd with
   | mk nm bs mro ns qn hd sn sub ab col del=>
    dsimp only at hm w3 w5 w6
    subst hm w3
    have e:sl= #[a0,a1,a2,a3,some (.builtin nn),a5]:=by
     cases sl with
     | mk l=>exact congrArg Array.mk hs
    subst e
    exact ⟨tl,ns,nm,qn,bs,hd,sn,sub,ab,col,dd,a0,a1,a2,a3,a5,X _ _ ho,em,PySem.W.tail_of_in X w4⟩
section
variable {M:Model} {A:Around} {E:Value→Shared→Prop}
variable {nm q nm2 q2:Str} {C N S N2:Addr} {bs bm bs2 bm2:List Value} {hdct hd2:Bool} {sn sn2:List Str} {sub sub2:List Value} {ab ab2:Bool} {col col2:Option Bool} {dd dd2:Option Addr} {k0 k1 k2 k3 k5 l0 l1 l2 l3 l5:Option Value} {newId newId2:String}
theorem zhf {h:Heap}{g:Array GenState}{d:Drawn}{t:Nat}{os:OsState}{e:Addr}{oe:Obj}{Q:Bool→Shared→Prop}
  (hC:h.get? C=some (excClassObj nm q C N bs bm hdct sn sub ab col dd k0 k1 k2 k3 k5 newId)) (hS:h.get? S=some (excClassObj nm2 q2 S N2 bs2 bm2 hd2 sn2 sub2 ab2 col2 dd2 l0 l1 l2 l3 l5 newId2))
  (he:h.get? e=some oe) (hcls:oe.cls= .ref C) (hb2:bm2.contains (.type "BaseException")=true) (hin:bm.contains (.ref S)=true)
  (hq:Q true ⟨h,g,d,t,os⟩):wpAny M A (excMatches (.ref e) (.ref S)) Q E ⟨h,g,d,t,os⟩:=by
 have hcB:(Value.ref S::bm2).contains (.type "BaseException")=true:=by rw [wH,hb2,Bool.or_true]
 have hcC:(Value.ref C::bm).contains (.ref S)=true:=by rw [wH,hin,Bool.or_true]
 have f:=tc_notTuple
 unfold excMatches
 repeat (first | (with_reducible refine wpAny_loadPart_at he ?_;rw [hcls]) | with_reducible refine wpAny_loadPart_at hS ?_ | (with_reducible refine wpAny_isSubtype_exc hS ?_;rw [hcB]) | (with_reducible refine wpAny_isSubtype_exc hC ?_;rw [hcC]) | wp_step)
 exact hq
end
noncomputable def excO (x C:Addr):HO:=.ext fun h=>∃ ob,h.get? x=some ob∧ob.cls= .ref C
theorem Un.track {P:Program}{w:World}{fs:List Addr}{H H':Hp}{h h':Heap}{x:Addr}{o:HO}(u:Un fs [] H H' h h')(nx:h.get? x=none)(ok:HOk P w H h):Un fs [] H (upd H' x o) h h':=by
 have ne:∀ {b ob},h.get? b=some ob→b≠x:=fun {b ob} e z=>by rw [z,nx] at e;cases e
 have ne2:∀ {b ob},H b=some ob→b≠x:=fun {b ob} e=>by
  obtain ⟨q,hq⟩:=(ok b ob e).there
  exact ne hq
 exact ⟨u.keep,u.slot,fun b ob e n hx=>by rw [zah (ne e)];exact u.free b ob e n hx,u.there,fun b xs e=>by rw [zah (ne2 e)];exact u.tups b xs e,fun b ob v e=>by rw [zah (ne2 e)];exact u.frzs b ob v e,fun b ps e=>by
  obtain ⟨more,z⟩:=u.tbls b ps e
  exact ⟨more,by rw [zah (ne2 e)];exact z⟩⟩
theorem HOk.track {P:Program}{w:World}{H':Hp}{h:Heap}{x:Addr}{o:HO}(ok:HOk P w H' h)(nx:H' x=none)(new:zba P w (upd H' x o) h x o):HOk P w (upd H' x o) h:=fun a ob e=>by
 have ne:∀ {b u},H' b=some u→b≠x:=fun {b u} q z=>by rw [z,nx] at q;cases q
 by_cases z:a=x
 ·subst z
  rw [zab] at e
  cases e
  exact new
 ·rw [zah z] at e
  exact (ok a ob e).stay (fun _ _ _ q=>q) (fun b q=>by rw [zah (ne q)];exact q) fun b xs q=>q.keep fun u eu _=>by rw [zah (ne eu)];exact eu
section
variable {X:Cx} {pins:List (Addr×Obj)} {σ :St} {H:Hp} {s:Shared}
theorem zlt {M:Model}{A:Around}{E:Value→Shared→Prop}{j:Nat}{n:Str}{pos:Pos}{Q:Unit→Shared→Prop}(I:Inv X pins σ H s)(hN:X.N.Nodup)(hj:X.N[j]? =some n)(hk:X.env.scope.names.lookup n=some .local)
  (h:∀ s',Inv X pins (σ.set j none) H s'→Q () s'):wpAny M A (do bindName X.env n .none;unbindBehindTheSuite X.env n pos) Q E s:=by
 obtain ⟨m,hn,hl⟩:=id I.loc
 have hc:(X.env.scope.kind== .class || (X.env.scope.kind== .module && X.env.locals !=X.env.globals))=false:=by rw [I.ok.kind];rfl
 refine wpAny_nameGoes_keeps hk hn hc fun h' v hn' hs=>h _ ?_
 obtain ⟨oL,_,_,hoL,_⟩:=id hn
 have low:∀ {b o},X.s₀.heap.get? b=some o→b≠X.env.locals:=fun {b o} e=>qL (qK (yU e) I.ok.above)
 refine ⟨I.ok,I.os,I.bare,⟨fun b o e n1 hb hx=>(hs.2 b (low e)).trans (I.base.keep b o e n1 hb hx),fun b o e n1 hb hx=>?_,I.base.free,fun b o e hx=>?_,I.base.tups,I.base.frzs,I.base.tbls⟩,⟨_,hn',fun i y v' e1 e2 e3=>?_⟩,fun y c e=>?_,I.free,I.freeC,fun p hp=>?_,fun b ob e=>?_,by simpa using I.len⟩
 ·obtain ⟨sl,q⟩:=I.base.slot b o e n1 hb hx
  exact ⟨sl,(hs.2 b (low e)).trans q⟩
 ·obtain ⟨o',q⟩:=I.base.there b o e hx
  exact ⟨o',(hs.2 b (low e)).trans q⟩
 ·by_cases z:i=j
  ·subst z
   have li:i < σ.length:=by rw [I.len];exact (yF.mp hj).1
   rw [wM li] at e2
   cases e2
  ·rw [xU (qX z)] at e2
   obtain ⟨u,r,q⟩:=hl i y v' e1 e2 e3
   have yn:y≠n:=fun q=>z (zht hN e1 (q ▸ hj))
   refine ⟨u,r,?_⟩
   rcases q with ⟨q1,q2⟩ | ⟨q1,c,q2,q3⟩
   ·exact .inl ⟨q1,(if_neg yn).trans q2⟩
   ·exact .inr ⟨q1,c,q2,q3.sameBut hs (I.cne y c q2)⟩
 ·obtain ⟨v2,q⟩:=I.cell y c e
  exact ⟨v2,q.sameBut hs (I.cne y c e)⟩
 ·obtain ⟨q1,q2,q3,q4,q5⟩:=I.pin p hp
  exact ⟨(hs.2 p.1 q3).trans q1,q2,q3,q4,q5⟩
 ·refine (I.hok b ob e).stay (fun c u hc2 q=>(hs.2 c fun z=>?_).trans q) (fun _ q=>q) fun _ _ q=>q
  have fr:=I.free
  rcases hc2 with y | y
  ·rw [← y,z,fr] at e;cases e
  ·rw [z,fr] at y;cases y
noncomputable def Cx.marked (X:Cx) (x:Addr):Cx:={X with A:=X.A.mark (some (.ref x)),calm:=false,xe:=fun _ _=>False}
theorem Inv.marked (I:Inv X pins σ H s)(x:Addr):Inv (X.marked x) pins σ H s:=
 ⟨⟨I.ok.mod,I.ok.kind,I.ok.glob,I.ok.blt,I.ok.above,I.ok.inj,I.ok.has,I.ok.cab,(fun z=>nomatch z),I.ok.frames,I.ok.stk,I.ok.exf,I.ok.bs,I.ok.bsz,I.ok.noex,I.ok.exfs,I.ok.funs,I.ok.frf⟩,I.os,I.bare,I.base,I.loc,I.cell,I.free,I.freeC,I.pin,I.hok,I.len⟩
theorem Inv.unmarked {x:Addr}(hd:X.calm=true→X.A.handled=none)(I:Inv (X.marked x) pins σ H s):Inv X pins σ H s:=
 ⟨⟨I.ok.mod,I.ok.kind,I.ok.glob,I.ok.blt,I.ok.above,I.ok.inj,I.ok.has,I.ok.cab,hd,I.ok.frames,I.ok.stk,I.ok.exf,I.ok.bs,I.ok.bsz,I.ok.noex,I.ok.exfs,I.ok.funs,I.ok.frf⟩,I.os,I.bare,I.base,I.loc,I.cell,I.free,I.freeC,I.pin,I.hok,I.len⟩
end
section
variable {X:Cx} {pins:List (Addr×Obj)} {σ :St} {H1:Hp} {s1 s':Shared} {C S:Addr} {nid nid2:String} {bB bB2:List Value} {sx n:Str} {np hpos:Pos} {b₀ :Stmt} {suite:List Stmt} {j:Nat} {ts:TS} {D:Ends} {E':XK} {e:Value}
noncomputable def D1 (D:Ends) (j:Nat):Ends:={nx:=fun σ' H'=>D.nx (σ'.set j none) H',rt:=fun _ _=>False}
theorem zlp (I1:Inv X pins σ H1 s1)(hcalm:X.calm=true)(hst:X.stack=X.env::X.outer)(hfm:X.env.frame=some X.env.locals)(hgS:Gl X sx)(hmS:X.mg sx=some (.ref S))
  (cC:PySem.W.excIn X.K C bB nid=true) (cS:PySem.W.excIn X.K S bB2 nid2=true) (b2:bB2.contains (.type "BaseException")=true) (hin:(zir X.K C).tail.contains (.ref S)=true)
  (hN:X.N.Nodup) (hj:X.N[j]? =some n) (hn:X.env.scope.names.lookup n=some .local) (hs:∀ x,PSs (X.marked x) (b₀ ::suite) ts) (hdb:(sx==("__debug__" :Str))=false)
  (cx:CXC X.prog X.w (.ref C) X.stack H1 s1 E' e s') (hE:∀ x H2,E' (.ref x) (some x) H2→H2 x=none→ts (D1 D j) (σ.set j (some (.ref x))) (upd H2 x (excO x C))):
  wpAny (model X.prog X.w) X.A (noteFrame e X.env) (fun _ s₂ =>wpAny (model X.prog X.w) X.A (setFlight e none) (fun _ s₃ =>wpAny (model X.prog X.w) X.A (handleBy e X.env [.ExceptHandler (some (.Name sx np)) (some n) (b₀ ::suite) hpos]) (SP X pins D) X.xe s₃) X.xe s₂) X.xe s':=by
 obtain ⟨x,H',rfl,hos,hbr,un,ok,⟨newx,hx,T,a0,oe,vs,oT,tv,ex,ec,ed,e1,nT,hT,Tx,eT,edT,e3⟩,q⟩:=cx
 have fun0:=I1.env0.funs
 have frf:=I1.stkFree
 obtain ⟨B,hB⟩:=zbX s'.heap (x::T::frs X.stack)
 have frs':∀ b∈frs X.stack,H' b=none:=fun b z=>by
  obtain ⟨_,o,ho,_⟩:=fun0.mem z
  exact un.free b o ho (frf b z) (by simp)
 have fl:s'.heap.FunFrames B X.stack:=zbv fun0 (fun b z o ho=>un.slot b o ho (frf b z) z (by simp)) fun b z=>(hB b).1 (.tail _ (.tail _ z))
 have st:B.StaysIn s'.heap:=fun b o hb=>by
  by_cases z:b∈x::T::frs X.stack
  ·rw [(hB b).1 z] at hb;cases hb
  ·rw [(hB b).2 z] at hb;exact hb
 have fly:Heap.FlyingW B X.stack x (.ref C) a0 s'.heap:=⟨st,(hB x).1 (.head _),fl,oe,vs,T,oT,tv,ex,ec,ed,e1,(hB T).1 (.tail _ (.head _)),Tx,eT,edT,e3⟩
 have mkInv:∀ h,Heap.FlyingW B X.stack x (.ref C) a0 h→s'.heap.UpToSlots h→Inv X pins σ (upd H' x (excO x C)) {s' with heap:=h}:=fun h fh sm=>by
  have k:∀ b o,b∉frs X.stack→b≠x→b≠T→s'.heap.get? b=some o→h.get? b=some o:=fun b o n1 n2 n3 eb=>fh.1 b o (by
   rw [(hB b).2 fun z=>by
    rcases yN.mp z with z | z
    ·exact n2 z
    ·rcases yN.mp z with z | z
     ·exact n3 z
     ·exact n1 z]
   exact eb)
  have ks:∀ b o,b∈frs X.stack→s'.heap.get? b=some o→∃ sl,h.get? b=some {o with slots:=sl}:=fun b o z eb=>sm b o eb (by
   obtain ⟨_,o2,h2,h3⟩:=fl.mem z
   rw [eb] at h2
   cases h2
   exact h3)
  obtain ⟨ob,hob,hcl⟩:=fh.there
  exact I1.call' (s':={s' with heap:=h}) hos ((un.left newx nT k ks).track newx I1.hok) ((ok.left frs' hx hT k).track hx ⟨⟨ob,hob,hcl⟩,⟨ob,hob⟩,fun h1 h2 ⟨o1,z1,z2⟩ kk=>⟨o1,kk _ z1,z2⟩⟩) hbr (fun b z=>absurd z (by simp))
 rw [hst] at fly
 refine wpAny_looks_onW (env:=X.env) (outer:=X.outer) (by rw [I1.ok.frames,hst]) hfm fly fun h₄ held sm₄ =>?_
 refine wpAny_landsW (s:={s' with heap:=h₄}) held fun h₅ fly₅ sm₅ =>?_
 refine wpAny_handleBy_cons (codeAny_handlers_test ?_) (by intro z;cases z)
 have sm5:=sm₄.trans sm₅
 have J₅ :=mkInv h₅ (by rw [hst];exact fly₅) sm5
 obtain ⟨tl,N,nm,qn,bs,hd,sn,sub,ab,col,dd,a0',a1,a2,a3,a5,oC,mC,oT'⟩:=zdh I1.ok.mod.kin cC
 obtain ⟨tl2,N2,nm2,qn2,bs2,hd2,sn2,sub2,ab2,col2,dd2,c0,c1,c2,c3,c5,oS,mS,oTS⟩:=zdh I1.ok.mod.kin cS
 obtain ⟨ob,hob,hcl⟩:=fly₅.there
 refine zfY (X:=X.marked x) (J₅.marked x) hgS hmS ?_ hdb
 refine zhf (J₅.bk _ _ oC) (J₅.bk _ _ oS) hob hcl (oTS.hasType b2) (by rw [mC] at hin;exact hin) ?_
 refine codeAny_handlers_suite_as ?_
 refine lands_againW (s:={s' with heap:=h₅}) fly₅ fun h₆ fly₆ sm₆ =>?_
 refine zfi (v:=.ref x) (mkInv h₆ (by rw [hst];exact fly₆) (sm5.trans sm₆)) hN hj (.inl hn) rfl (fun s7 I7=>?_) (.inr hn)
 refine wpAny_mono (hs x pins s7 _ _ (D1 D j) (I7.marked x) (hE x H' q hx)) (fun f s8 q8=>?_) fun _ _ z=>z.elim
 cases f with
 | next=>
  obtain ⟨σ',H8,I8,q⟩:=q8
  exact zlt (I8.unmarked I1.ok.hd) hN hj hn fun s9 I9=>⟨_,H8,I9,q⟩
 | brk=>obtain ⟨_,_,_,z⟩:=q8;exact z.elim
 | cont=>obtain ⟨_,_,_,z⟩:=q8;exact z.elim
 | ret u=>obtain ⟨_,_,_,_,_,z⟩:=q8;exact z.elim
end
section
variable {X:Cx} {C S f:Addr} {k:Nat} {fd:FuncData} {ps:List Str} {sp:Sp} {dvs:List V} {ds:List Value} {nid nid2:String} {bB bB2:List Value} {fx sx n:Str} {p np hpos cpos epos pos:Pos} {b₀ :Stmt} {suite:List Stmt} {j:Nat} {t:TA} {ts:TS} {e:Expr} {es:List Expr}
end
section
variable {prog:Program} {w:World} {A:Around} {E:Value→Shared→Prop} {h:Heap} {g:Array GenState} {d:Drawn} {t:Nat} {os:OsState} {a:Addr} {o:Obj} {K:PySem.W.Frag}
 {nm q:Str} {C N:Addr} {bs bm bmB:List Value} {hdct:Bool} {sn:List Str} {sub:List Value} {ab:Bool} {col:Option Bool} {dd:Option Addr} {k0 k1 k2 k3 k5:Option Value} {B newId:String}
theorem xc_get {R:Result→Shared→Prop}(hC:h.get? C=some (excClassObj nm q C N bs bm hdct sn sub ab col dd k0 k1 k2 k3 k5 newId))(ho:bm.contains (.type "object")=true)
  (hx:h.get? a=some o) (hc:o.cls= .ref C) (hq:R (.ok (.ret (.ref C))) ⟨h,g,d,t,os⟩):
  codeAny (model prog w) A (.call (.builtin "getset_descriptor.__get__") ⟨[.builtin "object.__class__",.ref a,.ref C],[]⟩) R ⟨h,g,d,t,os⟩:=by
 have hT5:(⟨h,g,d,t,os⟩:Shared).TypeIs (.builtin "object.__class__") "getset_descriptor" :=F.typeOf_object_class
 have hcB:(Value.ref C::bm).contains (.type (".".intercalate ("object.__class__".cutAt '.').dropLast))=true:=by
  rw [F.owner_object_class,wH,ho];rfl
 refine codeAny_call_builtin F.slot_gs_get.plain F.entry_gs_get (F.slot_gs_get.check _ _ _ _ _ _ _ _ hT5 (F.args_gs_get _ _ _) ?_)
 repeat (any_goals (first | assumption | (with_reducible refine wpAny_loadPart_at hx ?_;rw [hc]) | (with_reducible refine wpAny_isSubtype_exc hC ?_;rw [hcB]) | wp_step))
 refine ⟨Code.quiet_builtin _ (by decide+kernel),codeAny_builtin F.entry_object_class ?_⟩
 repeat (any_goals (first | assumption | (with_reducible refine wpAny_loadPart_at hx ?_;rw [hc]) | wp_step))
theorem zmX {tk:Tok}{Q:Fin→Shared→Prop}(X:K.In h)(hca:PySem.W.findIn K (.ref C) "__class__" =some (some (.builtin "object.__class__")))(hC:h.get? C=some (excClassObj nm q C N bs bm hdct sn sub ab col dd k0 k1 k2 k3 k5 newId))(ho:bm.contains (.type "object")=true)
  (hx:h.get? a=some o) (hc:o.cls= .ref C) (hq:Q (.done (.ret (.ref C))) ⟨h,g,d,t,os⟩):
  wpAny (model prog w) A (Builtin.«object.__getattribute__» ⟨[.ref a,.str "__class__" tk],[]⟩) Q E ⟨h,g,d,t,os⟩:=by
 have hT5:(⟨h,g,d,t,os⟩:Shared).TypeIs (.builtin "object.__class__") "getset_descriptor" :=F.typeOf_object_class
 have f5:=F.typeOf_object_class
 have f6:=F.slot_gs_get.lookup
 have f7:=F.slot_gs_set.lookup
 have L:=PySem.W.looks_findIn (M:=model prog w) X hca
 repeat (any_goals (first | assumption | (with_reducible refine wpAny_loadPart_at hx ?_;rw [hc]) | with_reducible refine L.at ?_ | wp_step))
 refine xc_get hC ho hx hc ?_
 repeat (any_goals (first | assumption | wp_step))
theorem zmv {M:Model}{nameV:Value}{Q:Unit→Shared→Prop}(hC:h.get? C=some (excClassObj nm q C N bs bm hdct sn sub ab col dd k0 k1 k2 k3 k5 newId))(hb:bm.contains (.type "BaseException")=true)
  (hx:h.get? a=some o) (hc:o.cls= .ref C) (hq:Q () ⟨h,g,d,t,os⟩):wpAny M A (checkBuiltinCall "BaseException.__getattribute__" ⟨[.ref a,nameV],[]⟩) Q E ⟨h,g,d,t,os⟩:=by
 have hk:builtinKind "BaseException.__getattribute__" =some .slot:=by decide+kernel
 have hsp:splitId "BaseException.__getattribute__" =some ("BaseException","__getattribute__"):=by decide+kernel
 have hcB:(Value.ref C::bm).contains (.type "BaseException")=true:=by rw [wH,hb];rfl
 have ha:=F.args_bexc_ga (.ref a) nameV
 simp only [checkBuiltinCall,hk,hsp]
 refine yD ?_
 unfold isInstance
 repeat (first | (with_reducible refine wpAny_loadPart_at hx ?_;rw [hc]) | (with_reducible refine wpAny_isSubtype_exc hC ?_;rw [hcB]) | wp_step)
 exact hq
theorem xc_by {tk:Tok}{Q:Value→Shared→Prop}(FB:ExcAttrFacts B)(X:K.In h)(hga:PySem.W.findIn K (.ref C) "__getattribute__" =some (some (.builtin "BaseException.__getattribute__")))(hgn:PySem.W.findIn K (.ref C) "__getattr__" =some none)
  (hca:PySem.W.findIn K (.ref C) "__class__" =some (some (.builtin "object.__class__"))) (hC:h.get? C=some (excClassObj nm q C N bs bm hdct sn sub ab col dd k0 k1 k2 k3 k5 newId)) (ho:bm.contains (.type "object")=true) (hb:bm.contains (.type "BaseException")=true)
  (hx:h.get? a=some o) (hc:o.cls= .ref C) (hq:Q (.ref C) ⟨h,g,d,t,os⟩):wpAny (model prog w) A (getAttrBy (.ref a) (.str "__class__" tk) false) Q E ⟨h,g,d,t,os⟩:=by
 have f3:=FB.ga.bind (.ref a)
 have hx2:(Value.builtin "BaseException.__getattribute__" ==Value.builtin "object.__getattribute__")=false:=by decide+kernel
 have hx1:(onTheHeap (Value.ref C) && Value.builtin "BaseException.__getattribute__" ==Value.builtin "object.__getattribute__")=false:=by rw [hx2];rfl
 have L1:=PySem.W.looks_findIn (M:=model prog w) X hga
 have L2:=PySem.W.looks_findIn (M:=model prog w) X hgn
 repeat (any_goals (first | assumption | (with_reducible refine wpAny_loadPart_at hx ?_;rw [hc]) | with_reducible refine L1.at ?_ | with_reducible refine L2.at ?_ | wp_step))
 refine codeAny_call_builtin FB.ga.plain F.entry_bexc_ga (zmv hC hb hx hc (zmX X hca hC ho hx hc ?_))
 repeat (any_goals (first | assumption | wp_step))
theorem zo6 {Q:Option Value→Shared→Prop}(FB:ExcAttrFacts B)(X:K.In h)(hga:PySem.W.findIn K (.ref C) "__getattribute__" =some (some (.builtin "BaseException.__getattribute__")))(hgn:PySem.W.findIn K (.ref C) "__getattr__" =some none)
  (hca:PySem.W.findIn K (.ref C) "__class__" =some (some (.builtin "object.__class__"))) (hC:h.get? C=some (excClassObj nm q C N bs bm hdct sn sub ab col dd k0 k1 k2 k3 k5 newId)) (ho:bm.contains (.type "object")=true) (hb:bm.contains (.type "BaseException")=true)
  (hx:h.get? a=some o) (hc:o.cls= .ref C) (hq:Q (some (.ref C)) ⟨h,g,d,t+1,os⟩):wpAny (model prog w) A (getAttr? (.ref a) "__class__") Q E ⟨h,g,d,t,os⟩:=by
 unfold getAttr? getAttrBy?
 repeat (any_goals (first | assumption | with_reducible apply xc_by FB X hga hgn hca hC ho hb hx hc | wp_step))
end
structure XcOk (K:PySem.W.Frag) (C:Addr) (B nid:String) (bB:List Value):Prop where
 ex:PySem.W.excIn K C bB nid=true
 attr:ExcAttrFacts B
 ga:PySem.W.findIn K (.ref C) "__getattribute__" =some (some (.builtin "BaseException.__getattribute__"))
 gn:PySem.W.findIn K (.ref C) "__getattr__" =some none
 ca:PySem.W.findIn K (.ref C) "__class__" =some (some (.builtin "object.__class__"))
 ho:bB.contains (.type "object")=true
 hb:bB.contains (.type "BaseException")=true
theorem zjk {K:PySem.W.Frag}{C x:Addr}{B nid:String}{bB:List Value}(Z:XcOk K C B nid bB):PySem.W.KitX K (.ref x) (.ref C) (fun h=>∃ ob,h.get? x=some ob∧ob.cls= .ref C) where
 ty:=fun M h _ ⟨ob,e,c⟩=>c ▸ (PySem.W.Looks.ld e).andThen .now
 it:=fun M h X _=>by
  obtain ⟨tl,N,nm,qn,bs,hd,sn,sub,ab,col,dd,a0,a1,a2,a3,a5,oC,_,_⟩:=zdh X Z.ex
  intro A2 Q2 E2 s2 k2 q2
  unfold isType loadHead
  exact yD (wpAny_loadPart (k2 _ _ oC) (yP q2))
 ne:=fun h tp dd its n sl X htp=>by
  obtain ⟨tl,N,nm,qn,bs,hd,sn,sub,ab,col,dd2,a0,a1,a2,a3,a5,oC,_,_⟩:=zdh X Z.ex
  refine yaw.mpr fun z=>?_
  have e:C=tp:=Value.ref.inj (beq_iff_eq.mp z)
  subst e
  have y:=congrArg (fun o=>o.data) (yV (oC.symm.trans htp))
  exact absurd y (fun w=>nomatch w)
 ca:=fun {prog w A E Q s} X ⟨ob,e,c⟩ k2=>by
  obtain ⟨tl,N,nm,qn,bs,hd,sn,sub,ab,col,dd2,a0,a1,a2,a3,a5,oC,_,oT⟩:=zdh X Z.ex
  obtain ⟨hh,g,d,t,os⟩:=s
  exact zo6 Z.attr X Z.ga Z.gn Z.ca oC (oT.hasType Z.ho) (oT.hasType Z.hb) e c k2
noncomputable def rIsX (K:PySem.W.Frag) (C:Addr):List V→Hp→VK→Prop:=fun xs H Q=>∃ x S b,xs= [.ref x,.ref S]∧H x=some (excO x C)∧PySem.W.kitOne K (.ref C) (.ref S)=some b∧Q (.bl b) H
noncomputable def rIsXT (K:PySem.W.Frag) (C:Addr):List V→Hp→VK→Prop:=fun xs H Q=>∃ x T b,xs= [.ref x,.ty T]∧H x=some (excO x C)∧PySem.W.kitOne K (.ref C) (.type T)=some b∧Q (.bl b) H
section
variable {X:Cx} {C:Addr} {B nid:String} {bB:List Value}
theorem znt (Z:XcOk X.K C B nid bB):zcZ X (.builtin "isinstance") (rIsX X.K C):=by
 intro pins s σ H xs us Q I r ⟨x,S,b,e,hx,ek,q⟩
 subst e
 obtain ⟨u,w',rfl,rx,rt⟩:=zmq r
 cases (show w'=Value.ref S from rt)
 cases (show u=Value.ref x from rx)
 obtain ⟨p,_⟩:=I.hok x _ hx
 exact PySem.W.kia_one (zjk Z) I.kIn p ek (fun z=>nomatch z) fun tk=>⟨.bl b,H,I.tok tk,rfl,q⟩
theorem zll (Z:XcOk X.K C B nid bB):zcZ X (.builtin "isinstance") (rIsXT X.K C):=by
 intro pins s σ H xs us Q I r ⟨x,T,b,e,hx,ek,q⟩
 subst e
 obtain ⟨u,w',rfl,rx,rt⟩:=zmq r
 cases (show w'=Value.type T from rt)
 cases (show u=Value.ref x from rx)
 obtain ⟨p,_⟩:=I.hok x _ hx
 exact PySem.W.kia_one (zjk Z) I.kIn p ek (fun z=>nomatch z) fun tk=>⟨.bl b,H,I.tok tk,rfl,q⟩
end
section
variable {X:Cx}
end
end L2
namespace My
open PySem L2
open PySem.W (Dat kqdP kqdPs kqdOk)
end My
namespace My
open PySem L2
open PySem.W (Dat kqdP kqdPs kqdOk)
noncomputable def zbe (w:zaB) (fs gs:List Flt):Option (List Int):=(zbA w.ins.toNat).find? fun r=>decide (zdo w (zaX fs w.gates r w.gates.length)≠zdo w (zaX gs w.gates r w.gates.length))
theorem zj4 {w:zaB}{fs gs:List Flt}{row:List Int}(h:zbe w fs gs=some row):row.length=w.ins.toNat∧Bits row:=zeb _ row (kI h)
theorem zjL {α :Type}{p: α→Bool}{xs:List α}{i:Nat}{x: α}(h:xs[i]? =some x)(hp:p x=true)(no:∀ y∈xs.take i,p y=false):xs.find? p=some x:=by
 have e:xs=xs.take i++x::xs.drop (i+1):=by
  have h2:=yF.mp h
  rw [← h2.2]
  simp
 rw [e,List.find?_append,wG.mpr (fun y hy=>by rw [no y hy];decide),yaI hp]
 rfl
theorem zi2 (w:zaB)(fs gs:List Flt):zbe w fs gs=zbe w gs fs:=by
 unfold zbe
 congr 1
 funext r
 exact decide_eq_decide.mpr ⟨qX,qX⟩
end My
namespace L2
open PySem PySem.Spec PyProof.Rows
section
open PySem.SeqAt
open PySem.AutoSeq1 (wpAny_loadPart')
open PySem.MeetsSeq PySem.MeetsSeq2 PySem.MeetsSeq3
end
section
variable {X:Cx}
end
end L2
namespace My
open PySem L2
open PySem.W (Dat kqdP kqdPs kqdOk)
end My
namespace L2
open PySem PySem.Spec PyProof.Rows
section
open PySem.Sem (wp)
end
section
variable {X:Cx}
end
structure FunD (K:PySem.W.Frag) (x qual:Str) (st:Stmt) (f:Addr) (fd:FuncData) (T:Addr):Prop where
 ex:∃ (oc:Value) (od:Option Addr) (kV doc pm:Value) (an:Option Addr) (cdv ct:Value) (osl:Array (Option Value)),
  fd=PySem.W.fnOf x qual (zbj st) (za1 st) (zak st) (.ref T) kV doc pm an cdv ct∧K.lookup f=some ⟨oc,od,.func fd,osl⟩∧PySem.W.codeIn K cdv qual=true
 kp:PySem.W.keepIn K (.ref f)=true
section
variable {P:Program} {w:World} {K:PySem.W.Frag} {mg:Str→Option Value} {base:Heap}
theorem FunD.okB {x qual:Str}{st:Stmt}{f T:Addr}{fd:FuncData}{N ps:List Str}{k:Nat}{sp:Sp}(F:FunD K x qual st f fd T)(S:zav N ps (zak st))(len:∀ vs H Q E,sp vs H Q E→vs.length=ps.length)
  (hbody:∀ (cdv:Value) (A:Around) (outer:List Env) (s:Shared) (H:Hp) (vs:List V) (Q:VK) (E:XK),Room k (A.deeper (envOfC qual (zak st) s.heap.objs.size f cdv))→sp vs H Q E→
   ∃ t,Bx (PSs (cxOf CX0 P w K mg base N qual (zak st) f cdv A outer s H E).nox (za1 st) t)∧t {nx:=fun _ H2=>Q .non H2,rt:=Q} (start N vs) H):FnOk P w K mg base CX0 (k+1) f fd ps sp:=by
 obtain ⟨oc,od,kV,doc,pm,an,cdv,ct,osl,rfl,lk,hcd⟩:=F.ex
 refine zpg lk hcd S len fun A outer s H vs Q E hr hsp=>?_
 obtain ⟨t,h,q⟩:=hbody cdv A outer s H vs Q E hr hsp
 exact ⟨t,h.1.nox,q⟩
theorem FunD.binds {x qual:Str}{st:Stmt}{f T:Addr}{fd:FuncData}{ps:List Str}{ds:List Value}(F:FunD K x qual st f fd T)
  (h:∀ (kV doc pm:Value) (an:Option Addr) (cdv ct:Value) (s:Shared) (us:List Value),K.In s.heap→(us++ds).length=ps.length→
   BindsTo s (PySem.W.fnOf x qual (zbj st) (za1 st) (zak st) (.ref T) kV doc pm an cdv ct) ⟨us,[]⟩ (ps.zip (us++ds))):zdb K fd ps ds:=by
 obtain ⟨oc,od,kV,doc,pm,an,cdv,ct,osl,rfl,lk,hcd⟩:=F.ex
 exact h kV doc pm an cdv ct
theorem ziU {x qual:Str}{st:Stmt}{f T:Addr}{oc:Value}{od an:Option Addr}{osl:Array (Option Value)}{kV doc pm cdv ct:Value}(l:K.lookup f=some ⟨oc,od,.func (PySem.W.fnOf x qual (zbj st) (za1 st) (zak st) (.ref T) kV doc pm an cdv ct),osl⟩)
  (c:PySem.W.codeIn K cdv qual=true) (k:PySem.W.keepIn K (.ref f)=true):FunD K x qual st f (PySem.W.fnOf x qual (zbj st) (za1 st) (zak st) (.ref T) kV doc pm an cdv ct) T:=⟨⟨oc,od,kV,doc,pm,an,cdv,ct,osl,rfl,l,c⟩,k⟩
end
end L2
namespace My
open PySem L2
noncomputable def zex (o:Int) (x:Str) (ns:List Int):Int:=
 if x="not" then qP o (ns.getD 0 0)
 else if x="choose" then qS (qO (ns.getD 0 0) (ns.getD 1 0)) (qO (qP o (ns.getD 0 0)) (ns.getD 2 0))
 else ns.foldl (fun a b=>if x="and" then qO a b else if x="or" then qS a b else qP a b) (if x="and"∨x="one" then o else 0)
theorem zmi {a b:Int}(ha:a=0∨a=1)(hb:b=0∨b=1):qO a b=if a=1∧b=1 then 1 else 0:=by
 rcases ha with rfl | rfl <;> rcases hb with rfl | rfl <;> decide
theorem zow {a b:Int}(ha:a=0∨a=1)(hb:b=0∨b=1):qS a b=if a=1∨b=1 then 1 else 0:=by
 rcases ha with rfl | rfl <;> rcases hb with rfl | rfl <;> decide
theorem zna {a b:Int}(ha:a=0∨a=1)(hb:b=0∨b=1):qP a b=(a+b) % 2:=by
 rcases ha with rfl | rfl <;> rcases hb with rfl | rfl <;> decide
theorem zjf:∀ (ns:List Int) {a:Int},(a=0∨a=1)→Bits ns→ns.foldl qO a=if a=1∧ns.all (· ==1)=true then 1 else 0
 | [],a,ha,_=>by rcases ha with rfl | rfl <;> decide
 | n::ns,a,ha,b=>by
  have hn:=b n (.head _)
  have e:=zmi ha hn
  rw [vT,zjf ns (by rw [e];split <;> simp) fun z hz=>b z (.tail _ hz),e]
  rcases ha with rfl | rfl <;> rcases hn with rfl | rfl <;> simp
theorem zlk:∀ (ns:List Int) {a:Int},(a=0∨a=1)→Bits ns→ns.foldl qS a=if a=1∨ns.any (· ==1)=true then 1 else 0
 | [],a,ha,_=>by rcases ha with rfl | rfl <;> decide
 | n::ns,a,ha,b=>by
  have hn:=b n (.head _)
  have e:=zow ha hn
  rw [vT,zlk ns (by rw [e];split <;> simp) fun z hz=>b z (.tail _ hz),e]
  rcases ha with rfl | rfl <;> rcases hn with rfl | rfl <;> simp
theorem zjr:∀ (ns:List Int) {a:Int},(a=0∨a=1)→Bits ns→ns.foldl qP a=(a+ns.sum) % 2
 | [],a,ha,_=>by rcases ha with rfl | rfl <;> decide
 | n::ns,a,ha,b=>by
  have hn:=b n (.head _)
  have e:=zna ha hn
  rw [vT,zjr ns (by rw [e];omega) fun z hz=>b z (.tail _ hz),e,vC]
  omega
theorem n_an:("and" :Str)≠"not" :=by decide+kernel
theorem n_ac:("and" :Str)≠"choose" :=by decide+kernel
theorem n_on:("or" :Str)≠"not" :=by decide+kernel
theorem n_oc:("or" :Str)≠"choose" :=by decide+kernel
theorem n_o1:("or" :Str)≠"one" :=by decide+kernel
theorem n_dn:("odd" :Str)≠"not" :=by decide+kernel
theorem n_dc:("odd" :Str)≠"choose" :=by decide+kernel
theorem n_d1:("odd" :Str)≠"one" :=by decide+kernel
theorem zly {x:Str}{ns:List Int}(b:Bits ns)(h:zbi x ns.length):zex 1 x ns=zca x ns:=by
 rcases h with ⟨h | h | h,l1,l2⟩ | ⟨h,l1⟩ | ⟨h,l1⟩ | ⟨h | h,l1⟩ <;> subst h <;> unfold zex
 ·rw [zlo,if_neg n_an,if_neg n_ac,if_pos (.inl rfl)]
  simp only [if_pos]
  rw [zjf ns (.inr rfl) b]
  simp
 ·rw [zo2,if_neg n_on,if_neg n_oc,if_neg (fun z=>z.elim n_oa n_o1)]
  simp only [if_neg n_oa,if_pos]
  rw [zlk ns (.inl rfl) b]
  simp
 ·rw [zkZ,if_neg n_dn,if_neg n_dc,if_neg (fun z=>z.elim n_da n_d1)]
  simp only [if_neg n_da,if_neg n_do]
  rw [zjr ns (.inl rfl) b,xQ]
 ·rw [zlu,if_pos rfl]
  rcases zbH b (i:=0) (by omega) with e | e <;> rw [e] <;> decide
 ·rw [zfx,if_neg n_cn,if_pos rfl]
  rcases zbH b (i:=0) (by omega) with e | e <;> rcases zbH b (i:=1) (by omega) with f | f <;> rcases zbH b (i:=2) (by omega) with g | g <;> rw [e,f,g] <;> decide
 ·obtain rfl:ns= []:=jT.mp l1
  rw [ziI,if_neg n_zn,if_neg n_zc,if_neg (fun z=>z.elim n_za n_z1)]
  rfl
 ·obtain rfl:ns= []:=jT.mp l1
  rw [zkF,if_neg n_1n,if_neg n_1c,if_pos (.inr rfl)]
  rfl
theorem gi_not (o:Int)(ns:List Int):zex o "not" ns=qP o (ns.getD 0 0):=by unfold zex;rw [if_pos rfl]
theorem zlS (o:Int)(ns:List Int):zex o "choose" ns=qS (qO (ns.getD 0 0) (ns.getD 1 0)) (qO (qP o (ns.getD 0 0)) (ns.getD 2 0)):=by unfold zex;rw [if_neg n_cn,if_pos rfl]
theorem zoQ {x:Str}(hn:x≠"not")(hc:x≠"choose")(o:Int)(ns:List Int):zex o x ns=ns.foldl (fun a b=>if x="and" then qO a b else if x="or" then qS a b else qP a b) (if x="and"∨x="one" then o else 0):=by unfold zex;rw [if_neg hn,if_neg hc]
theorem zm7 {n:Nat}(h:zbi "not" n):n=1:=by
 rcases h with ⟨h | h | h,l1,l2⟩ | ⟨h,l1⟩ | ⟨h,l1⟩ | ⟨h | h,l1⟩ <;> first | exact l1 | exact absurd h (by decide+kernel)
theorem ziV {n:Nat}(h:zbi "choose" n):n=3:=by
 rcases h with ⟨h | h | h,l1,l2⟩ | ⟨h,l1⟩ | ⟨h,l1⟩ | ⟨h | h,l1⟩ <;> first | exact l1 | exact absurd h (by decide+kernel)
theorem in_two (x a b:Str):inV (.str x) [.str a,.str b]=decide (x=a∨x=b):=by
 show ((eqV (.str a) (.str x)) || ((eqV (.str b) (.str x)) || false))=_
 have e:∀ y z:Str,eqV (.str y) (.str z)=decide (z=y):=fun y z=>by
  show (y==z)=_
  rw [vR,beq_iff_eq,decide_eq_true_eq]
  exact eq_comm
 rw [e,e,ybm]
 by_cases q:x=a <;> by_cases q2:x=b <;> simp [q,q2]
noncomputable def zbW (o:Int) (fs:List Flt) (gs:List (Str×List Int)) (row:List Int):Nat→List Int
 | 0=>rowS fs row
 | n+1=>zbW o fs gs row n++ [pick fs (zcE ((row.length+n:Nat):Int)) (match gs[n]? with
   | some g=>zex o g.1 (zdT fs n (g.2.map fun l=>(zbW o fs gs row n).getD l.toNat 0))
   | none=>0)]
theorem zeP (o:Int)(fs:List Flt)(gs:List (Str×List Int))(row:List Int):∀ n,(zbW o fs gs row n).length=row.length+n
 | 0=>zg1 fs row
 | n+1=>by rw [zbW,yI,zeP o fs gs row n];simp;omega
end My
namespace L2
open PySem PySem.Spec PyProof.Rows
noncomputable def zc7:List Str→List Value→Bool
 | [],[]=>true
 | x::xs,.str y _::vs=>x==y && zc7 xs vs
 | _,_=>false
noncomputable def TupK (K:PySem.W.Frag) (a:Addr) (xs:List Str):Prop:=(match K.lookup a with
 | some o=>(o.cls== .type "tuple" && o.dict.isNone) && (match o.data with
  | .seq vs _=>zc7 xs vs.toList
  | _=>false)
 | none=>false)=true
theorem zhO:∀ {xs:List Str} {vs:List Value},zc7 xs vs=true→Vals (xs.map V.str) vs
 | [],[],_=>.nil
 | x::xs,v::vs,h=>by
  cases v with
  | str y t=>
   have h':(x==y && zc7 xs vs)=true:=h
   rw [jE] at h'
   have e:x=y:=eq_of_beq h'.1
   subst e
   exact .cons ⟨t,rfl⟩ (zhO h'.2)
  | _=>simp [zc7] at h
 | [],_::_,h=>by simp [zc7] at h
 | _::_,[],h=>by simp [zc7] at h
theorem TupK.sq {K:PySem.W.Frag}{H:Hp}{a:Addr}{xs:List Str}(h:TupK K a xs)(hz:xs.length≤1000):SqT K H a (xs.map V.str):=by
 unfold TupK at h
 cases e:K.lookup a with
 | none=>rw [e] at h;cases h
 | some o=>
  rw [e] at h
  simp only [jE] at h
  obtain ⟨⟨h1,_⟩,h2⟩:=h
  cases ed:o.data with
  | seq vs n=>
   rw [ed] at h2
   have rv:=zhO h2
   have lv:=rv.length
   rw [yA] at lv
   have lz:vs.size=xs.length:=by rw [lv,yY]
   have line:(1000:Nat)≤yH:=by decide
   exact .inr ⟨o,vs,n,e,beq_iff_eq.mp h1,ed,by omega,rv⟩
  | _=>rw [ed] at h2;cases h2
section
variable {X:Cx} {o e:Expr} {apos cpos:Pos} {td ty:TE}
end
section
variable {X:Cx} {e:Expr} {te:TE} {p p' pos pos':Pos}
end
open PySem.W (Dat kqdP kqdPs kqdOk)
section
variable {X:Cx}
open Classical in
end
section
variable {X:Cx} {K:PySem.W.Frag}
end
end L2
namespace My
open PySem L2
theorem zgR (a b:Nat):qO (a:Int) (b:Int)=((a &&& b:Nat):Int):=by
 unfold qO
 rw [decide_eq_true (vM a),decide_eq_true (vM b)]
 rfl
theorem znI (a b:Nat):qS (a:Int) (b:Int)=((a ||| b:Nat):Int):=by
 have h:∀ n:Nat,decide (0≤jP (n:Int))=false:=fun n=>decide_eq_false (by unfold jP;omega)
 have t:∀ n:Nat,(jP (jP (n:Int))).toNat=n:=fun n=>by unfold jP;omega
 have e:qO (jP (a:Int)) (jP (b:Int))=jP ((a ||| b:Nat):Int):=by
  unfold qO
  rw [h a,h b]
  show jP (((jP (jP (a:Int))).toNat ||| (jP (jP (b:Int))).toNat:Nat):Int)=_
  rw [t a,t b]
 unfold qS
 rw [e]
 unfold jP
 omega
theorem zjZ:∀ a b:Nat,a ||| b=(a ^^^ b)+(a &&& b):=by
 intro a
 induction a using yae with
 | ind a ih=>
  intro b
  by_cases ha:a=0
  ·subst ha
   simp
  ·have h:=ih (a / 2) (by omega) (b / 2)
   have e1:=Nat.or_div_two (a:=a) (b:=b)
   have e2:=Nat.xor_div_two (a:=a) (b:=b)
   have e3:=Nat.and_div_two (a:=a) (b:=b)
   have m1:(a ||| b) % 2=(a ^^^ b) % 2+(a &&& b) % 2:=by
    have t:∀ n:Nat,n % 2=if n.testBit 0 then 1 else 0:=fun n=>by
     rw [Nat.testBit_zero]
     by_cases hn:n % 2=1
     ·simp [hn]
     ·have:n % 2=0:=by omega
      simp [this]
    rw [t (a ||| b),t (a ^^^ b),t (a &&& b),Nat.testBit_or,ybU,ybV]
    cases a.testBit 0 <;> cases b.testBit 0 <;> rfl
   omega
theorem zoG (a b:Nat):qP (a:Int) (b:Int)=((a ^^^ b:Nat):Int):=by
 unfold qP
 rw [znI,zgR]
 have:=zjZ a b
 omega
noncomputable def bitI (j:Nat) (x:Int):Int:=if x.toNat.testBit j then 1 else 0
noncomputable def zaT (R:Nat) (x:Int):Prop:=0≤x∧x.toNat < 2 ^ R
theorem zfe (j:Nat)(x:Int):bitI j x=0∨bitI j x=1:=by unfold bitI;split <;> simp
theorem zbd {R:Nat}{x:Int}(h:zaT R x):∃ n:Nat,x=(n:Int)∧n < 2 ^ R:=⟨x.toNat,by have:=h.1;omega,h.2⟩
theorem zcP {R n:Nat}(h:n < 2 ^ R):zaT R (n:Int):=⟨by omega,by rw [xB];exact h⟩
theorem zaW (j n:Nat):bitI j (n:Int)=if n.testBit j then 1 else 0:=by unfold bitI;rw [xB]
theorem zfj {R:Nat}{x y:Int}(hx:zaT R x)(hy:zaT R y):zaT R (qO x y)∧∀ j,bitI j (qO x y)=qO (bitI j x) (bitI j y):=by
 obtain ⟨a,rfl,ha⟩:=zbd hx
 obtain ⟨b,rfl,hb⟩:=zbd hy
 rw [zgR]
 refine ⟨zcP (Nat.and_lt_two_pow _ hb),fun j=>?_⟩
 rw [zaW,zaW,zaW,ybV]
 cases a.testBit j <;> cases b.testBit j <;> decide
theorem zg2 {R:Nat}{x y:Int}(hx:zaT R x)(hy:zaT R y):zaT R (qS x y)∧∀ j,bitI j (qS x y)=qS (bitI j x) (bitI j y):=by
 obtain ⟨a,rfl,ha⟩:=zbd hx
 obtain ⟨b,rfl,hb⟩:=zbd hy
 rw [znI]
 refine ⟨zcP (Nat.or_lt_two_pow ha hb),fun j=>?_⟩
 rw [zaW,zaW,zaW,Nat.testBit_or]
 cases a.testBit j <;> cases b.testBit j <;> decide
theorem zee {R:Nat}{x y:Int}(hx:zaT R x)(hy:zaT R y):zaT R (qP x y)∧∀ j,bitI j (qP x y)=qP (bitI j x) (bitI j y):=by
 obtain ⟨a,rfl,ha⟩:=zbd hx
 obtain ⟨b,rfl,hb⟩:=zbd hy
 rw [zoG]
 refine ⟨zcP (Nat.xor_lt_two_pow ha hb),fun j=>?_⟩
 rw [zaW,zaW,zaW,ybU]
 cases a.testBit j <;> cases b.testBit j <;> decide
noncomputable def zaN (R:Nat):Int:=((2 ^ R - 1:Nat):Int)
theorem zce (R:Nat):zaT R (zaN R):=zcP (by have:=wI R;omega)
theorem ze8 {R j:Nat}(h:j < R):bitI j (zaN R)=1:=by
 unfold zaN
 rw [zaW,yaf]
 simp [h]
theorem zfh (j:Nat):bitI j 0=0:=by
 show bitI j ((0:Nat):Int)=0
 rw [zaW,ybK]
 rfl
theorem zcN (R:Nat):zaT R 0:=zcP (n:=0) (wI R)
theorem zeF {R:Nat}{ns:List Int}(h:∀ n∈ns,zaT R n)(i:Nat):zaT R (ns.getD i 0):=by
 rw [jV]
 cases e:ns[i]? with
 | none=>exact zcN R
 | some n=>exact h n (yR e)
theorem zcH (j:Nat)(ns:List Int)(i:Nat):bitI j (ns.getD i 0)=(ns.map (bitI j)).getD i 0:=by
 rw [jV,jV,yL]
 cases ns[i]? with
 | none=>exact zfh j
 | some n=>rfl
theorem zgy {R:Nat}{f:Int→Int→Int}(hf:∀ x y,zaT R x→zaT R y→zaT R (f x y)∧∀ j,bitI j (f x y)=f (bitI j x) (bitI j y)):∀ (ns:List Int) {a:Int},zaT R a→(∀ n∈ns,zaT R n)→zaT R (ns.foldl f a)∧∀ j,bitI j (ns.foldl f a)=(ns.map (bitI j)).foldl f (bitI j a)
 | [],a,ha,_=>⟨ha,fun _=>rfl⟩
 | n::ns,a,ha,h=>by
  obtain ⟨h1,h2⟩:=hf a n ha (h n (.head _))
  obtain ⟨h3,h4⟩:=zgy hf ns h1 fun z hz=>h z (.tail _ hz)
  refine ⟨h3,fun j=>?_⟩
  rw [vT,h4 j,qJ,vT,h2 j]
theorem zjY {R:Nat}(x:Str){ns:List Int}(h:∀ n∈ns,zaT R n):zaT R (zex (zaN R) x ns)∧∀ j,j < R→bitI j (zex (zaN R) x ns)=zex 1 x (ns.map (bitI j)):=by
 have hg:=zeF h
 unfold zex
 by_cases hn:x="not"
 ·rw [if_pos hn]
  obtain ⟨h1,h2⟩:=zee (zce R) (hg 0)
  refine ⟨h1,fun j hj=>?_⟩
  rw [if_pos hn,h2 j,ze8 hj,zcH]
 rw [if_neg hn]
 by_cases hc:x="choose"
 ·rw [if_pos hc]
  obtain ⟨a1,a2⟩:=zfj (hg 0) (hg 1)
  obtain ⟨b1,b2⟩:=zee (zce R) (hg 0)
  obtain ⟨c1,c2⟩:=zfj b1 (hg 2)
  obtain ⟨d1,d2⟩:=zg2 a1 c1
  refine ⟨d1,fun j hj=>?_⟩
  rw [if_neg hn,if_pos hc,d2 j,a2 j,c2 j,b2 j,ze8 hj,zcH,zcH,zcH]
 rw [if_neg hc]
 have ha:zaT R (if x="and"∨x="one" then zaN R else 0):=by
  split
  ·exact zce R
  ·exact zcN R
 have hf:∀ a b,zaT R a→zaT R b→zaT R ((fun a b=>if x="and" then qO a b else if x="or" then qS a b else qP a b) a b)∧∀ j,bitI j ((fun a b=>if x="and" then qO a b else if x="or" then qS a b else qP a b) a b)=(fun a b=>if x="and" then qO a b else if x="or" then qS a b else qP a b) (bitI j a) (bitI j b):=by
  intro a b h1 h2
  by_cases e1:x="and"
  ·simp only [if_pos e1]
   exact zfj h1 h2
  ·by_cases e2:x="or"
   ·simp only [if_neg e1,if_pos e2]
    exact zg2 h1 h2
   ·simp only [if_neg e1,if_neg e2]
    exact zee h1 h2
 obtain ⟨h1,h2⟩:=zgy hf ns ha h
 refine ⟨h1,fun j hj=>?_⟩
 rw [if_neg hn,if_neg hc,h2 j]
 congr 1
 split
 ·exact ze8 hj
 ·exact zfh j
noncomputable def zb3 (R:Nat) (fs:List Flt):List Flt:=fs.map fun f=>⟨f.place,f.worth * zaN R⟩
theorem zlP (R:Nat)(fs:List Flt)(p:List Key):look (zb3 R fs) p=(look fs p).map (· * zaN R):=by
 unfold look zb3
 induction fs with
 | nil=>rfl
 | cons f fs ih=>
  rw [qJ,xM,xM]
  by_cases h:f.place=p
  ·simp [h]
  ·simpa [h] using ih
theorem zmg {R:Nat}{v:Int}(h:v=0∨v=1):zaT R (v * zaN R)∧∀ j,j < R→bitI j (v * zaN R)=v:=by
 rcases h with rfl | rfl
 ·rw [Int.zero_mul]
  exact ⟨zcN R,fun j _=>zfh j⟩
 ·rw [Int.one_mul]
  exact ⟨zce R,fun j hj=>ze8 hj⟩
theorem zfV {R:Nat}{fs:List Flt}(fb:∀ f∈fs,f.worth=0∨f.worth=1)(p:List Key){v:Int}(h:zaT R v):zaT R (pick (zb3 R fs) p v)∧∀ j,j < R→bitI j (pick (zb3 R fs) p v)=pick fs p (bitI j v):=by
 unfold pick
 rw [zlP]
 cases e:look fs p with
 | none=>exact ⟨h,fun _ _=>rfl⟩
 | some b=>
  have hb:b=0∨b=1:=by
   unfold look at e
   obtain ⟨f,hf,rfl⟩:=xC.mp e
   exact fb f (kI hf)
  exact zmg hb
theorem zjM {R:Nat}{fs:List Flt}(fb:∀ f∈fs,f.worth=0∨f.worth=1)(key:Nat→List Key){ns:List Int}(h:∀ n∈ns,zaT R n):(∀ n∈ns.mapIdx (fun i v=>pick (zb3 R fs) (key i) v),zaT R n)∧∀ j,j < R→(ns.mapIdx (fun i v=>pick (zb3 R fs) (key i) v)).map (bitI j)=(ns.map (bitI j)).mapIdx (fun i v=>pick fs (key i) v):=by
 constructor
 ·intro n hn
  obtain ⟨i,hi,e⟩:=yaW.mp hn
  rw [← e]
  exact (zfV fb _ (h _ (vG hi))).1
 ·intro j hj
  refine List.ext_getElem? fun i=>?_
  rw [yL,yaa,yaa,yL]
  cases e:ns[i]? with
  | none=>rfl
  | some v=>exact congrArg some ((zfV fb _ (h v (yR e))).2 j hj)
theorem zgi {R:Nat}{fs:List Flt}(fb:∀ f∈fs,f.worth=0∨f.worth=1){m:Nat}{w:zaB}{cols:List Int}(wf:WF m w)(hl:(cols.length:Int)=w.ins)(h:∀ n∈cols,zaT R n):
  ∀ n,n≤w.gates.length→(∀ v∈zbW (zaN R) (zb3 R fs) w.gates cols n,zaT R v)∧∀ j,j < R→(zbW (zaN R) (zb3 R fs) w.gates cols n).map (bitI j)=zaX fs w.gates (cols.map (bitI j)) n
 | 0,_=>zjM fb (fun i=>zcE i) h
 | n+1,hn=>by
  obtain ⟨h1,h2⟩:=zgi fb wf hl h n (by omega)
  obtain ⟨g,hg⟩:∃ g,w.gates[n]? =some g:=⟨_,yQ (by omega)⟩
  obtain ⟨lk,lb⟩:=wf.legs n g hg
  have hr:∀ v∈g.2.map (fun l=>(zbW (zaN R) (zb3 R fs) w.gates cols n).getD l.toNat 0),zaT R v:=fun v hv=>by
   obtain ⟨l,_,rfl⟩:=qE.mp hv
   exact zeF h1 _
  obtain ⟨l1,l2⟩:=zjM fb (fun i=>legK (n:Int) (i:Int)) hr
  obtain ⟨g1,g2⟩:=zjY g.1 l1
  obtain ⟨p1,p2⟩:=zfV fb (zcE ((cols.length+n:Nat):Int)) g1
  rw [zbW,hg]
  refine ⟨fun v hv=>?_,fun j hj=>?_⟩
  ·rcases yS.mp hv with hv | hv
   ·exact h1 v hv
   ·rw [yK.mp hv]
    exact p1
  ·have bw:Bits (cols.map (bitI j)):=fun z hz=>by obtain ⟨v,_,rfl⟩:=qE.mp hz;exact zfe j v
   have hl':((cols.map (bitI j)).length:Int)=w.ins:=by rw [yA];exact hl
   have bS:=zd2 fb wf hl' bw n (by omega)
   rw [yM,h2 j hj,zaX,hg]
   congr 1
   refine congrArg (fun z=>[z]) ((p2 j hj).trans ?_)
   rw [g2 j hj,l2 j hj,yA]
   have e1:(g.2.map (fun l=>(zbW (zaN R) (zb3 R fs) w.gates cols n).getD l.toNat 0)).map (bitI j)=g.2.map fun l=>(zaX fs w.gates (cols.map (bitI j)) n).getD l.toNat 0:=by
    rw [jX]
    refine jM fun l _=>?_
    show bitI j (List.getD _ _ 0)=_
    rw [zcH,h2 j hj]
   rw [e1]
   refine congrArg (pick fs _) (zly ?_ ?_)
   ·exact zeO (k:=(n:Int)) fb fun z hz=>by
     obtain ⟨l,hl2,rfl⟩:=qE.mp hz
     exact zbH bS (by rw [zby,yA];have:=lb l hl2;omega)
   ·show zbi g.1 (zdT fs n _).length
    rw [zcG,yA]
    exact lk
noncomputable def zc5:Nat→List Int
 | 0=>[]
 | n+1=>zaN (2 ^ n) * (zaN (2 ^ n)+1)::(zc5 n).map fun v=>v+v * (zaN (2 ^ n)+1)
theorem zej (R:Nat):zaN R+1=((2 ^ R:Nat):Int):=by
 unfold zaN
 have:=wI R
 omega
theorem zlJ (n:Nat):zaN (2 ^ n)+zaN (2 ^ n) * (zaN (2 ^ n)+1)=zaN (2 ^ (n+1)):=by
 have h:=wI (2 ^ n)
 have e: 2 ^ (2 ^ (n+1))=2 ^ 2 ^ n * 2 ^ 2 ^ n:=by rw [← ybW];congr 1;rw [wU];omega
 rw [zej]
 unfold zaN
 rw [e]
 generalize 2 ^ 2 ^ n=q at h
 obtain ⟨p,rfl⟩:∃ p,q=p+1:=⟨q - 1,by omega⟩
 have e2:(p+1) * (p+1) - 1=p+p * (p+1):=by
  rw [Nat.add_mul,Nat.one_mul]
  omega
 rw [e2,ybs]
 push_cast
 rfl
theorem zf3 {R a b:Nat}(hb:b < 2 ^ R)(j:Nat):(2 ^ R * a+b).testBit j=if j < R then b.testBit j else a.testBit (j - R):=Nat.testBit_two_pow_mul_add a hb j
theorem zhU {R a b:Nat}(ha:a < 2 ^ R)(hb:b < 2 ^ R): 2 ^ R * a+b < 2 ^ (R+R):=by
 rw [ybW]
 have: 2 ^ R * a+2 ^ R≤2 ^ R * 2 ^ R:=by
  rw [← Nat.mul_succ]
  exact Nat.mul_le_mul_left _ ha
 omega
theorem zeh:∀ n,(∀ v∈zc5 n,zaT (2 ^ n) v)∧(zc5 n).length=n∧∀ j,j < 2 ^ n→(zbA n)[j]? =some ((zc5 n).map (bitI j))
 | 0=>⟨(fun _ z=>nomatch z),rfl,fun j hj=>by
  have:j=0:=by simpa using hj
  subst this
  rfl⟩
 | n+1=>by
  obtain ⟨h1,h2,h3⟩:=zeh n
  have hR: 2 ^ (n+1)=2 ^ n+2 ^ n:=by rw [wU];omega
  have pos:=wI (2 ^ n)
  have eh:zaN (2 ^ n) * (zaN (2 ^ n)+1)=((2 ^ 2 ^ n * (2 ^ 2 ^ n - 1)+0:Nat):Int):=by
   rw [zej]
   unfold zaN
   rw [Nat.add_zero,Nat.mul_comm]
   push_cast
   rfl
  have ev:∀ v:Nat,(v:Int)+(v:Int) * (zaN (2 ^ n)+1)=((2 ^ 2 ^ n * v+v:Nat):Int):=fun v=>by
   rw [zej,Nat.mul_comm]
   push_cast
   omega
  refine ⟨fun v hv=>?_,by show ((zc5 n).map _).length+1=n+1;rw [yA,h2],fun j hj=>?_⟩
  ·rw [hR]
   rcases yN.mp (show v∈_::_ from hv) with rfl | hv
   ·rw [eh]
    exact zcP (zhU (by omega) pos)
   ·obtain ⟨u,hu,rfl⟩:=qE.mp hv
    obtain ⟨k,rfl,hk⟩:=zbd (h1 u hu)
    rw [ev k]
    exact zcP (zhU hk hk)
  ·rw [hR] at hj
   have bits:∀ i,bitI j (zaN (2 ^ n) * (zaN (2 ^ n)+1))=(if j < 2 ^ n then 0 else 1)∧∀ u∈zc5 n,(i=if j < 2 ^ n then j else j - 2 ^ n)→bitI j (u+u * (zaN (2 ^ n)+1))=bitI i u:=fun i=>by
    constructor
    ·rw [eh,zaW,zf3 pos]
     by_cases h:j < 2 ^ n
     ·rw [if_pos h,if_pos h,ybK]
      rfl
     ·rw [if_neg h,if_neg h,yaf,decide_eq_true (by omega)]
      rfl
    ·intro u hu hi
     obtain ⟨k,rfl,hk⟩:=zbd (h1 u hu)
     rw [ev k,zaW,zf3 hk,zaW,hi]
     by_cases h:j < 2 ^ n
     ·rw [if_pos h,if_pos h]
     ·rw [if_neg h,if_neg h]
   show ((zbA n).map (0:: ·)++(zbA n).map (1:: ·))[j]? =some ((_::(zc5 n).map _).map (bitI j))
   have ln:=zbL n
   rw [qJ,jX]
   by_cases h:j < 2 ^ n
   ·rw [jJ (by rw [yA,ln];exact h),yL,h3 j h,(bits j).1,if_pos h]
    refine congrArg some (congrArg (List.cons 0) (jM fun u hu=>?_))
    exact ((bits j).2 u hu (by rw [if_pos h])).symm
   ·rw [jD (by rw [yA,ln];omega),yA,ln,yL,h3 (j - 2 ^ n) (by omega),(bits j).1,if_neg h]
    refine congrArg some (congrArg (List.cons 1) (jM fun u hu=>?_))
    exact ((bits (j - 2 ^ n)).2 u hu (by rw [if_neg h])).symm
noncomputable def zc6 (xs ys:List Int):Int:=(xs.zip ys).foldl (fun u p=>qS u (qP p.1 p.2)) 0
theorem zd4 {R:Nat}:∀ (xs ys:List Int) {a:Int},xs.length=ys.length→(∀ v∈xs,zaT R v)→(∀ v∈ys,zaT R v)→zaT R a→
  zaT R ((xs.zip ys).foldl (fun u p=>qS u (qP p.1 p.2)) a)∧∀ j,bitI j ((xs.zip ys).foldl (fun u p=>qS u (qP p.1 p.2)) a)=1↔bitI j a=1∨xs.map (bitI j)≠ys.map (bitI j)
 | [],[],a,_,_,_,ha=>⟨ha,fun j=>by show bitI j a=1↔_;simp⟩
 | x::xs,y::ys,a,hl,hx,hy,ha=>by
  obtain ⟨x1,x2⟩:=zee (hx x (.head _)) (hy y (.head _))
  obtain ⟨o1,o2⟩:=zg2 ha x1
  obtain ⟨h1,h2⟩:=zd4 xs ys (a:=qS a (qP x y)) (yaX hl) (fun v hv=>hx v (.tail _ hv)) (fun v hv=>hy v (.tail _ hv)) o1
  refine ⟨h1,fun j=>?_⟩
  rw [List.zip_cons_cons,vT]
  refine (h2 j).trans ?_
  rw [o2 j,x2 j,qJ,qJ]
  have ba:=zfe j a
  have bx:=zfe j x
  have by':=zfe j y
  generalize bitI j a=p at *
  generalize bitI j x=q at *
  generalize bitI j y=r at *
  have hc:((q::xs.map (bitI j))≠(r::ys.map (bitI j)))↔(q≠r∨xs.map (bitI j)≠ys.map (bitI j)):=by
   constructor
   ·intro z
    by_cases e:q=r
    ·exact .inr fun z2=>z (by rw [e,z2])
    ·exact .inl e
   ·rintro (z | z) e
    ·injection e with e1 _
     exact z e1
    ·injection e with _ e2
     exact z e2
  rw [hc]
  have key:(qS p (qP q r)=1)↔(p=1∨q≠r):=by
   rcases ba with rfl | rfl <;> rcases bx with rfl | rfl <;> rcases by' with rfl | rfl <;> decide
  rw [key,or_assoc]
end My
namespace L2
open PySem PySem.Spec PyProof.Rows
noncomputable def Itz (a b:Addr):It:=
 ⟨fun i H => ∃ xs ys x y, H a = some (.lst xs) ∧ H b = some (.lst ys) ∧ xs[i]? = some x ∧ ys[i]? = some y,
  fun i H v H'=>∃ T x y,H T=none∧v= .ref T∧H'=upd H T (.tup [x,y])∧∀ xs ys,H a=some (.lst xs)→H b=some (.lst ys)→xs[i]? =some x∧ys[i]? =some y,
  fun i H=>∃ xs ys,H a=some (.lst xs)∧H b=some (.lst ys)∧(xs.length≤i∨ys.length≤i)⟩
theorem far {n:Nat}(i j:Nat)(h:i≠j):(n+i:Nat)≠n+j:=by omega
theorem Inv.turnedC {X:Cx}{pins:List (Addr×Obj)}{σ :St}{H:Hp}{s:Shared}{h':Heap}{t':Nat}{ch:List Addr}(I:Inv X pins σ H s)
  (hch:∀ b∈ch,FpOk X pins H b) (k:∀ b u,b∉ch→s.heap.get? b=some u→h'.get? b=some u):Inv X pins σ H {s with heap:=h',toks:=t'}:=by
 have nch:∀ c u,H c=some u→c∉ch:=fun c u e z=>by rw [(hch c z).1] at e;cases e
 refine I.step (g':=s.gens) (d':=s.drawn) (ch:=ch) (fun b hb=>⟨(hch b hb).2.2.2.1,(hch b hb).2.1,(hch b hb).2.2.2.2.1,(hch b hb).2.2.2.2.2⟩)
  (fun b u _ _ hc e _=>k b u hc e) (fun b u _ _ hc e _=>⟨u.slots,k b u hc e⟩) (fun _ _ _ _ q=>q) (fun b u hc e=>⟨u,k b u hc e⟩)
  (fun _ _ q=>q) (fun _ _ _ q=>q) (fun b ps q=>⟨#[],by rw [q];simp⟩) (fun m hm=>?_) (fun b u e=>?_) I.bare
 ·exact hm.at' fun ob e=>k _ ob (fun z=>(hch _ z).2.1 rfl) e
 ·refine (I.hok b u e).stay (fun c v hc q=>k c v ?_ q) (fun c q=>q) fun c xs q=>q
  rcases hc with rfl | hc
  ·exact nch _ _ e
  ·exact nch _ _ hc
theorem zjs {n:Nat}{l1 l2:Addr}(a1:l1≠n+4)(a2:l1≠n+3)(a3:l1≠n)(a4:l1≠n+1)(b1:l2≠n+4)(b2:l2≠n+3)(b3:l2≠n)(b4:l2≠n+1):ZipApart (n+4) (n+2) (n+3) n (n+1) l1 l2:=
 ⟨far 2 4 (by decide),far 3 4 (by decide),far 0 4 (by decide),far 1 4 (by decide),far 2 3 (by decide),far 2 0 (by decide),far 2 1 (by decide),far 3 0 (by decide),far 3 1 (by decide),far 0 1 (by decide),a1,a2,a3,a4,b1,b2,b3,b4⟩
theorem zmx {P:Program}{w:World}{K:PySem.W.Frag}{elts:List Expr}{k:Nat}{tp:Pos}(a b:Addr)(n:Nat):
  Turn P w K (.Tuple elts k tp) (Itz a b) [n+4,n+2,n+3,n,n+1] (n+4)
   (fun i h=>IsZip h (n+4) (n+2) (n+3) .none∧IsPair h (n+2) (.ref n) (.ref (n+1))∧(∃ u v,IsPair h (n+3) u v)∧h.IsListIter n a i∧h.IsListIter (n+1) b i) where
 mem:=by simp
 obj:=fun i h st c hc=>by
  obtain ⟨hz,hI,⟨u,v,hO⟩,⟨o1,e1,_,d1⟩,⟨o2,e2,_,d2⟩⟩:=st
  simp only [yN,wW,or_false] at hc
  rcases hc with rfl | rfl | rfl | rfl | rfl
  ·exact ⟨_,hz,fun v z=>nomatch z⟩
  ·exact ⟨_,hI,fun v z=>nomatch z⟩
  ·exact ⟨_,hO,fun v z=>nomatch z⟩
  ·exact ⟨o1,e1,fun v z=>by rw [d1] at z;cases z⟩
  ·exact ⟨o2,e2,fun v z=>by rw [d2] at z;cases z⟩
 keep:=fun i h h' st kp=>by
  obtain ⟨hz,hI,⟨u,v,hO⟩,h1,h2⟩:=st
  exact ⟨kp _ (by simp) _ hz,kp _ (by simp) _ hI,⟨u,v,kp _ (by simp) _ hO⟩,h1.at fun o q=>kp _ (by simp) o q,h2.at fun o q=>kp _ (by simp) o q⟩
 item:=by
  intro X hP hw hK hc i pins s σ H E I hf st hg
  subst hP hw hK
  obtain ⟨hz,hI,⟨u,v,hO⟩,h1,h2⟩:=st
  obtain ⟨xs,ys,x,y,ha,hb,hx,hy⟩:=hg
  obtain ⟨its,rv,p1,_⟩:=I.list (.of ha)
  obtain ⟨its2,rv2,p2,_⟩:=I.list (.of hb)
  obtain ⟨u1,hu1,ru1⟩:=rv.get hx
  obtain ⟨u2,hu2,ru2⟩:=rv2.get hy
  have no:∀ {l:Addr} {o:HO},H l=some o→∀ c∈[n+4,n+2,n+3,n,n+1],l≠c:=fun e c hc z=>by
   rw [z,(hf c hc).1] at e
   cases e
  have D:ZipApart (n+4) (n+2) (n+3) n (n+1) a b:=zjs (no ha (n+4) (by simp)) (no ha (n+3) (by simp)) (no ha n (by simp)) (no ha (n+1) (by simp)) (no hb (n+4) (by simp)) (no hb (n+3) (by simp)) (no hb n (by simp)) (no hb (n+1) (by simp))
  refine wpAny_pyNext_zip_item D hz hI hO h1 h2 p1.isList p2.isList (x:=u1) (y:=u2) (by simpa using hu1) (by simpa using hu2) fun h' z1 z2 z3 z4 z5 z6 hk=>?_
  have new:∀ {c:Addr} {o:Obj},s.heap.get? c=some o→c≠s.heap.objs.size:=fun e=>qL (yU e)
  have I1:Inv X pins σ (upd H s.heap.objs.size (.tup [x,y])) {s with heap:=h'}:=
   I.laidC (t':=s.toks) (ch:=[n+4,n+2,n+3,n,n+1]) hf (fun c o hc q=>hk c o (fun z=>hc (by simp [z])) (fun z=>hc (by simp [z])) (fun z=>hc (by simp [z])) (fun z=>hc (by simp [z])) q) (yJ _)
    ⟨(by show 2≤yH;decide),[u1,u2],.cons ru1 (.cons ru2 .nil),_,z5,rfl,_,rfl⟩
  refine ⟨_,rfl,wpAny_letOwnedTupleGo_zip z1 fun h2' w1 sb=>?_⟩
  have fz:=hf (n+4) (by simp)
  have I2:Inv X pins σ (upd H s.heap.objs.size (.tup [x,y])) {s with heap:=h2'}:=
   I1.turned (t':=s.toks) (fun c o hc q=>(sb.2 c hc).trans q) (by rw [zah (new hz)];exact fz.1) fz.2.1 fz.2.2.2.1 fz.2.2.2.2.1 fz.2.2.2.2.2
  refine ⟨.ref s.heap.objs.size,_,I2,rfl,⟨_,x,y,I.hok.fresh (yJ _),rfl,rfl,fun xs' ys' hxs hys=>?_⟩,⟨w1,?_,⟨u1,u2,?_⟩,?_,?_⟩,fun c hc=>?_⟩
  ·rw [ha] at hxs
   rw [hb] at hys
   cases hxs
   cases hys
   exact ⟨hx,hy⟩
  ·exact sb.extBut _ _ (far 2 4 (by decide)) (hk _ _ (far 2 4 (by decide)) (far 2 3 (by decide)) (far 2 0 (by decide)) (far 2 1 (by decide)) hI)
  ·exact sb.extBut _ _ (far 3 4 (by decide)) z2
  ·exact z3.extBut sb.extBut (far 0 4 (by decide))
  ·exact z4.extBut sb.extBut (far 1 4 (by decide))
  ·have hn:c≠s.heap.objs.size:=by
    simp only [yN,wW,or_false] at hc
    rcases hc with rfl | rfl | rfl | rfl | rfl
    ·exact new hz
    ·exact new hI
    ·exact new hO
    ·obtain ⟨o,e,_⟩:=h1;exact new e
    ·obtain ⟨o,e,_⟩:=h2;exact new e
   rw [zah hn]
   exact (hf c hc).1
 done:=by
  intro X hP hw hK hc i pins s σ H E I hf st hg
  subst hP hw hK
  obtain ⟨hz,hI,⟨u,v,hO⟩,h1,h2⟩:=st
  obtain ⟨xs,ys,ha,hb,hx⟩:=hg
  obtain ⟨its,rv,p1,_⟩:=I.list (.of ha)
  obtain ⟨its2,rv2,p2,_⟩:=I.list (.of hb)
  have no:∀ {l:Addr} {o:HO},H l=some o→∀ c∈[n+4,n+2,n+3,n,n+1],l≠c:=fun e c hc z=>by
   rw [z,(hf c hc).1] at e
   cases e
  have D:ZipApart (n+4) (n+2) (n+3) n (n+1) a b:=zjs (no ha (n+4) (by simp)) (no ha (n+3) (by simp)) (no ha n (by simp)) (no ha (n+1) (by simp)) (no hb (n+4) (by simp)) (no hb (n+3) (by simp)) (no hb n (by simp)) (no hb (n+1) (by simp))
  have l1:=rv.length
  have l2:=rv2.length
  refine wpAny_pyNext_zip_end (I.ok.hd hc) D hz hI hO h1 h2 p1.isList p2.isList (hx.elim (fun q=>.inl (by simp;omega)) fun q=>.inr (by simp;omega)) fun h' hk=>⟨rfl,?_⟩
  exact I.turnedC (t':=s.toks) (ch:=[n+4,n+2,n+3,n,n+1]) hf fun c o hc q=>hk c o (fun z=>hc (by simp [z])) (fun z=>hc (by simp [z])) (fun z=>hc (by simp [z])) (fun z=>hc (by simp [z])) q
 self:=fun _ _ _ _ _ st h=>wpAny_pyIter_zip st.1 h
noncomputable def iZip (ta:TA):TI:=fun σ H R=>ta σ H fun vs H1=>∃ a b xs ys,vs= [.ref a,.ref b]∧H1 a=some (.lst xs)∧H1 b=some (.lst ys)∧R (Itz a b) H1
theorem pi_zip {X:Cx}{e1 e2:Expr}{ta:TA}{p pos tp:Pos}{elts:List Expr}{k:Nat}(hg:Gl X "zip")(hm:X.mg "zip" =none)(ha:PA X [e1,e2] ta)
  (hs:starEach [e1,e2] X.env= [(false,eval e1 X.env),(false,eval e2 X.env)]:=by rfl) (hs2:starEach [e2] X.env= [(false,eval e2 X.env)]:=by rfl):PI X (.Tuple elts k tp) (.Call (.Name "zip" p) [e1,e2] [] pos) (iZip ta):=by
 intro pins s σ H R I h
 refine Call_ (zgN I hg hm boot_zip (xL (thn (ha pos pins s σ H _ I h) fun us s1 ⟨vs,H1,I1,r1,q1⟩=>?_) (by rw [hs,hs2]) (by rw [hs2];rfl)))
 obtain ⟨a,b,xs,ys,e,ha',hb',q⟩:=q1
 subst e
 cases r1 with
 | cons r rr=>
  cases rr with
  | cons r' rr=>
   cases rr
   cases r
   cases r'
   obtain ⟨its,rv,p1,_⟩:=I1.list (.of ha')
   obtain ⟨its2,rv2,p2,_⟩:=I1.list (.of hb')
   refine call_zip_2 p1.isList p2.isList fun h' z1 z2 z3 z4 z5 z6 hk=>wpAny_pyIter_zip z1 ?_
   refine ⟨s1.heap.objs.size+4,[s1.heap.objs.size+4,s1.heap.objs.size+2,s1.heap.objs.size+3,s1.heap.objs.size,s1.heap.objs.size+1],_,_,H1,rfl,I1.kept (t':=s1.toks) hk,zmx a b s1.heap.objs.size,⟨z1,z2,⟨_,_,z3⟩,z4,z5⟩,fun c hc=>?_,q⟩
   have le:s1.heap.objs.size≤c:=by
    simp only [yN,wW,or_false] at hc
    rcases hc with rfl | rfl | rfl | rfl | rfl
    ·exact xP _ _
    ·exact xP _ _
    ·exact xP _ _
    ·exact yJ _
    ·exact xP _ _
   exact I1.fpOk le (I1.hok.fresh le)
theorem zov {a b:Addr}{xs ys:List V}{g:TG}{tb:TS}{D:Ends}{σ :St}{H:Hp}(hlen:xs.length=ys.length)(Pv:Nat→St→Hp→Prop)(h0:Pv 0 σ H)
  (hl:∀ i σ H,i≤xs.length→Pv i σ H→H a=some (.lst xs)∧H b=some (.lst ys))
  (hs:∀ i x y σ H T,xs[i]? =some x→ys[i]? =some y→Pv i σ H→H T=none→g (.ref T) σ (upd H T (.tup [x,y])) fun σ2 H2=>tb {D with nx:=Pv (i+1),ct:=Pv (i+1),bk:=D.nx} σ2 H2)
  (hd:∀ σ H,Pv xs.length σ H→D.nx σ H):
  ∃ W:Nat→Nat→St→Hp→Prop,(∃ m,W 0 m σ H)∧∀ i m σ H,W i m σ H→
   ((Itz a b).stop i H ∧ D.nx σ H) ∨ ((Itz a b).go i H ∧ ∃ N : St → Hp → Prop, (∀ σ' H', N σ' H' → ∃ m', m' < m ∧ W (i + 1) m' σ' H') ∧
     ∀ x H',(Itz a b).yld i H x H'→g x σ H' fun σ2 H2=>tb {D with nx:=N,ct:=N,bk:=D.nx} σ2 H2):=by
 refine ⟨fun i m σ H=>m=xs.length - i∧i≤xs.length∧Pv i σ H,⟨xs.length,by simp,qZ _,h0⟩,?_⟩
 rintro i m σ H ⟨rfl,hi,p⟩
 obtain ⟨qa,qb⟩:=hl i σ H hi p
 by_cases hlt:i < xs.length
 ·refine .inr ⟨⟨xs,ys,xs[i],ys[i],qa,qb,by simp [hlt],yQ _⟩,Pv (i+1),fun σ' H' p'=>⟨xs.length - (i+1),by omega,rfl,hlt,p'⟩,fun x H' y=>?_⟩
  obtain ⟨T,u,v,hT,e1,e2,y⟩:=y
  subst e1 e2
  obtain ⟨y1,y2⟩:=y xs ys qa qb
  exact hs i u v σ H T y1 y2 p hT
 ·have e:i=xs.length:=by omega
  subst e
  exact .inl ⟨⟨xs,ys,qa,qb,.inl (yJ _)⟩,hd σ H p⟩
theorem zoE {X:Cx}{e1 e2:Expr}{ta:TA}{p pos tp:Pos}{elts:List Expr}{k:Nat}(hg:Gl X "zip")(hm:X.mg "zip" =none)(ha:Bx (PA X [e1,e2] ta))
  (hs:starEach [e1,e2] X.env= [(false,eval e1 X.env),(false,eval e2 X.env)]:=by rfl) (hs2:starEach [e2] X.env= [(false,eval e2 X.env)]:=by rfl):Bx (PI X (.Tuple elts k tp) (.Call (.Name "zip" p) [e1,e2] [] pos) (iZip ta)):=⟨pi_zip hg hm ha.1 hs hs2⟩
theorem zl8 {X:Cx}:MtR X "int.bit_length" (fun x xs H Q=>∃ i:Int,x= .int i∧xs= []∧Q (.int ((qI i:Nat):Int)) H):=by
 intro pins s σ H x xs v us Q I rx rs h
 obtain ⟨i,rfl,rfl,q⟩:=h
 obtain ⟨t,rfl⟩:=rx
 cases rs
 exact call_int_bit_length ⟨.int _,H,I.kept (t':=s.toks+1) fun _ _ e=>e,⟨_,rfl⟩,q⟩
theorem zoJ (n:Nat):n < 2 ^ qI (n:Int):=by
 unfold qI
 by_cases h:n=0
 ·subst h
  decide
 ·have:((n:Int)==0)=false:=by simpa using h
  rw [this]
  show n < 2 ^ ((n:Int).natAbs.log2+1)
  rw [Int.natAbs_natCast]
  exact Nat.lt_log2_self
noncomputable def EntD (h:Heap) (d:Addr) (es:Array DictEntry) (ep:Nat):Prop:=∃ ob,h.get? d=some ob∧ob.ExactDict∧ob.data= .dict es ep
section
variable {prog:Program} {w:World} {A:Around} {E:Value→Shared→Prop} {s:Shared}
theorem zko {d:Addr}{es:Array DictEntry}{ep:Nat}{Q:Value→Shared→Prop}(nd:(d==sysModules)=false)(hE:EntD s.heap d es ep)
  (q:Q (.ref s.heap.objs.size) {s with heap:=s.heap.push {cls:=.type "dict_items",data:=.fields #[.ref d]}}):wpAny (model prog w) A (call (.builtin "dict.items") [.ref d]) Q E s:=by
 obtain ⟨ob,e1,⟨e2,_,_⟩,e3⟩:=hE
 have ty:s.TypeIs (.ref d) "dict" :=⟨ob,e1,e2⟩
 refine wpAny_call_entry yaD ty PySem.F.entry_dict_items ?_ (PySem.F.args_dict_items_1 _)
 unfold Builtin.«dict.items» Builtin.Dict.noArgs
 refine yD (yD (wpAny_notOrdered_dict ty ?_))
 show wpAny _ _ (pure d) _ _ s
 refine yP (?_:wpAny _ _ (yaY d >>=_) _ _ s)
 unfold yaY
 rw [nd]
 exact yD (yP (yD (wpAny_newObj_type (yP ⟨_,rfl,q⟩))))
theorem zj7 {v d:Addr}{es:Array DictEntry}{ep:Nat}{Q:Value→Shared→Prop}(hv:s.heap.IsItemsView v d)(hE:EntD s.heap d es ep)
  (q:Q (.ref s.heap.objs.size) {s with heap:=s.heap.push {cls:=.type "dict_itemiterator",data:=.fields #[.none,.bool false,.ref d,.int 0 0,.int es.size 0,.int ep 0,.none,.none]}}):
  wpAny (model prog w) A (pyIter (.ref v)) Q E s:=by
 obtain ⟨vo,v1,v2,v3⟩:=id hv
 obtain ⟨ob,e1,_,e3⟩:=hE
 refine wpAny_pyIter_slot hv.typeIs yab (wpAny_call_entry yab hv.typeIs PySem.F.entry_dict_items_iter ?_ (PySem.F.args_dict_items_iter_1 _))
 unfold Builtin.«dict_items.__iter__»
 refine yD (yP (yD ?_))
 unfold Builtin.Dict_items.dictOf
 refine yD (wpAny_field v1 v3 (x:=.ref d) rfl (yP (yD ?_)))
 unfold Builtin.Dict_items.newIterator
 refine yD (wpAny_dictEntries e1 e3 (yD (wpAny_dictEpoch e1 e3 ?_)))
 simp only [show vO "dict_itemiterator" =true by decide,if_true]
 refine wpAny_newObj_type (yP ⟨_,rfl,"dict_itemiterator",_,⟨_,yZ _ rfl,rfl⟩,jN.lookup,?_⟩)
  (by simp only [sizeOk,kQ,qB,yI,yO,wE,sizeLine_eq];omega)
 simpa [rawInt,kQ] using q
theorem zkt {it d:Addr}{i ep:Nat}{es:Array DictEntry}{en:DictEntry}{a b:Value}{Q:Option Value→Shared→Prop}(hJ:IsItemIter s.heap it d i es.size ep a b)(hE:EntD s.heap d es ep)(hx:es[i]? =some en)
  (q:∀ h',IsItemIterOut h' it d (i+1) es.size ep en.key en.val s.heap.objs.size→h'.get? s.heap.objs.size=some {cls:=.type "tuple",data:=.seq #[en.key,en.val]}→
   (∀ c o,c≠it→s.heap.get? c=some o→h'.get? c=some o)→Q (some (.ref s.heap.objs.size)) {s with heap:=h'}):wpAny (model prog w) A (pyNext (.ref it)) Q E s:=by
 obtain ⟨hp,gg,dr,tk,os⟩:=s
 obtain ⟨ob,e1,_,e3⟩:=hE
 have ty:Shared.TypeIs ⟨hp,gg,dr,tk,os⟩ (.ref it) "dict_itemiterator" :=⟨_,hJ,rfl⟩
 have li:i < es.size:=(vY.mp hx).1
 have ei:es[i]=en:=(vY.mp hx).2
 unfold pyNext
 refine yD (wpAny_attempt (wpAny_callSpecial?_slot (name:=yB "__next__") ty jN
  (wpAny_call_entry jN ty kK ?_ (vZ _))))
 refine yD (yP (yD (yD ?_)))
 first | refine yD (wpAny_typeNameOfWhole_itemiter ty (yP ?_)) | refine yD (wpAny_typeNameOf_itemiter ty (yP ?_))
 refine yD (wpAny_fieldsOf hJ rfl ?_)
 simp only [show vO "dict_itemiterator" =true by decide,if_true]
 show wpAny _ _ (if (Value.ref d==Value.none)=true then _ else _) _ _ _
 rw [show (Value.ref d==Value.none)=false from rfl,if_neg qG]
 refine yD (yP (yD (wpAny_dictEntries e1 e3 ?_)))
 rw [if_neg (by simp)]
 refine yD (yP (yD (wpAny_dictEpoch e1 e3 ?_)))
 rw [if_neg (by simp)]
 refine yP ?_
 simp only [show ¬(i:Int) < 0 from by omega,if_false,xB,hx]
 refine yD ?_
 first | refine yD (wpAny_typeNameOfWhole_itemiter ty (yP ?_)) | refine yD (wpAny_typeNameOf_itemiter ty (yP ?_))
 refine yD (wpAny_isOneOf_itemiter ty ?_)
 show wpAny _ _ (setField (.ref it) 3 (rawInt ((i:Int)+1)) >>=_) _ _ ⟨hp,gg,dr,tk,os⟩
 refine yD (wpAny_setField_rec hJ (by simp) fun k1 j1 t1=>?_)
 have t1':jL it hp k1:=t1
 have j1':IsItemIter k1 it d (i+1) es.size ep a b:=by
  unfold IsItemIter
  rw [show ((i+1:Nat):Int)=(i:Int)+1 by omega]
  simpa [rawInt] using j1
 have ty1:Shared.TypeIs ⟨k1,gg,dr,tk,os⟩ (.ref it) "dict_itemiterator" :=⟨_,j1',rfl⟩
 refine yD (wpAny_holding (yD (wpAny_isOneOf_itemiter ty1 (yD (wpAny_isOneOf_itemiter ty1 ?_)))))
 show wpAny _ _ (wL (.ref it) 6 en.key en.val) _ _ ⟨k1,gg,dr,tk,os⟩
 unfold wL
 refine yD (wpAny_newTuple ?_)
 have size1:k1.objs.size=hp.objs.size:=t1'.1
 have lit:it < hp.objs.size:=yU hJ
 obtain ⟨k2,ek2⟩:∃ k2,k1.push {cls:=.type "tuple",data:=.seq #[en.key,en.val]}=k2:=⟨_,rfl⟩
 have j2:IsItemIter k2 it d (i+1) es.size ep a b:=by rw [← ek2];exact yG _ j1'
 have p2:k2.get? hp.objs.size=some {cls:=.type "tuple",data:=.seq #[en.key,en.val]}:=by rw [← ek2,← size1];exact yZ _ rfl
 have m2:∀ c o,c≠it→hp.get? c=some o→k2.get? c=some o:=fun c o hc e=>by rw [← ek2];exact yG _ (t1'.extBut c o hc e)
 show wpAny _ _ (kW (.ref it) >>=_) _ _ ⟨k1.push {cls:=.type "tuple",data:=.seq #[en.key,en.val]},gg,dr,tk,os⟩
 rw [ek2,size1]
 refine yD ?_
 unfold kW
 refine yD (wpAny_field j2 rfl (x:=.none) rfl (yP ?_))
 simp only [if_true]
 refine yD (wpAny_field j2 rfl (x:=a) rfl (yD (wpAny_field j2 rfl (x:=b) rfl ?_)))
 refine yD (wpAny_setField_rec j2 (by simp) fun k3 j3 t3=>?_)
 have j3':IsItemIter k3 it d (i+1) es.size ep en.key b:=j3
 refine yD (wpAny_setField_rec j3' (by simp) fun k4 j4 t4=>?_)
 have j4':IsItemIter k4 it d (i+1) es.size ep en.key en.val:=j4
 refine yD (wpAny_setField_rec j4' (by simp) fun k5 j5 t5=>?_)
 have j5':IsItemIterOut k5 it d (i+1) es.size ep en.key en.val hp.objs.size:=j5
 refine yD (wpAny_setField_rec j5' (by simp) fun k6 j6 t6=>?_)
 have j6':IsItemIterOut k6 it d (i+1) es.size ep en.key en.val hp.objs.size:=j6
 have all:∀ c o,c≠it→k2.get? c=some o→k6.get? c=some o:=fun c o hc e=>
  kX (show jL it k5 k6 from t6) c o hc (kX (show jL it k4 k5 from t5) c o hc (kX (show jL it k3 k4 from t4) c o hc (kX (show jL it k2 k3 from t3) c o hc e)))
 exact yD (wpAny_letGo (yP (yP ⟨_,rfl,yP (q k6 j6' (all _ _ (Nat.ne_of_gt lit) p2) fun c o hc e=>all c o hc (m2 c o hc e))⟩)))
theorem zl5 {it d:Addr}{i ep:Nat}{es:Array DictEntry}{a b:Value}{Q:Option Value→Shared→Prop}(hh:A.handled=none)(hJ:IsItemIter s.heap it d i es.size ep a b)(hE:EntD s.heap d es ep)(hx:es.size≤i)
  (q:∀ h',Heap.ExtBut it s.heap h'→Q none {s with heap:=h'}):wpAny (model prog w) A (pyNext (.ref it)) Q E s:=by
 obtain ⟨ob,e1,_,e3⟩:=hE
 have ty:s.TypeIs (.ref it) "dict_itemiterator" :=⟨_,hJ,rfl⟩
 unfold pyNext
 refine yD (wpAny_attempt (wpAny_callSpecial?_slot (name:=yB "__next__") ty jN
  (wpAny_call_entry jN ty kK ?_ (vZ _))))
 refine yD (yP (yD (yD ?_)))
 first | refine yD (wpAny_typeNameOfWhole_itemiter ty (yP ?_)) | refine yD (wpAny_typeNameOf_itemiter ty (yP ?_))
 refine yD (wpAny_fieldsOf hJ rfl ?_)
 simp only [show vO "dict_itemiterator" =true by decide,if_true]
 show wpAny _ _ (if (Value.ref d==Value.none)=true then _ else _) _ _ s
 rw [show (Value.ref d==Value.none)=false from rfl,if_neg qG]
 refine yD (yP (yD (wpAny_dictEntries e1 e3 ?_)))
 rw [if_neg (by simp)]
 refine yD (yP (yD (wpAny_dictEpoch e1 e3 ?_)))
 rw [if_neg (by simp)]
 refine yP ?_
 simp only [show ¬(i:Int) < 0 from by omega,if_false,xB,yaJ hx]
 refine yD ?_
 first | refine yD (wpAny_typeNameOfWhole_itemiter ty (yP ?_)) | refine yD (wpAny_typeNameOf_itemiter ty (yP ?_))
 show wpAny _ _ (setField (.ref it) 2 .none >>=_) _ _ s
 refine yD (wpAny_setField hJ rfl (by simp) ?_)
 show wpAny _ _ (newExc (.type "StopIteration") [] >>=_) _ _ _
 refine yD ?_
 simp only [newExc,newTuple]
 refine yD (wpAny_newObj_type ?_ (by size_fits))
 refine yD (m:=firstArgMember _ _) (wpAny_of_eq (a:=Value.none) (by first | rfl | (simp only [firstArgMember];rfl)) (wpAny_newObj_type ?_ (by size_fits)))
 simp only [raiseNew]
 refine yD (wpAny_handled ?_)
 rw [show A.in1.handled=none from hh]
 refine yD (yP (wpAny_throw (?_:wpAny _ _ _ _ _ _)))
 refine yD (wpAny_isInstance (b:=true) (T:="StopIteration") ⟨_,yZ _ rfl,rfl⟩ isSubtype_stop ?_)
 exact yP (q _ (((jL.update ..).extBut.push _).push _))
end
theorem Inv.freeze {X:Cx}{pins:List (Addr×Obj)}{σ :St}{H:Hp}{s:Shared}{d:Addr}{kvs:List (List Key×V)}{ob:Obj}(I:Inv X pins σ H s)(hd:H d=some (.dT kvs))(ho:s.heap.get? d=some ob):
  Inv X pins σ (upd H d (.frz ob (.dT kvs))) s:=by
 have nT:∀ {b:Addr} {u:HO},H b=some u→u≠.dT kvs→b≠d:=fun e n z=>by
  rw [z,hd] at e
  exact n (yV e).symm
 refine I.step (h':=s.heap) (g':=s.gens) (d':=s.drawn) (t':=s.toks) (ch:=[]) (fun b hb=>(wW hb).elim) (fun b u _ _ _ e _=>e) (fun b u _ _ _ e _=>⟨u.slots,e⟩)
  (fun b u _ _ n=>by rw [zah (fun z=>by rw [z,hd] at n;cases n)];exact n) (fun b u _ e=>⟨u,e⟩)
  (fun b xs q=>by rw [zah (nT q (fun z=>by cases z))];exact q) (fun b u xs q=>by rw [zah (nT q (fun z=>by cases z))];exact q)
  (fun b ps q=>⟨#[],by rw [zah (nT q (fun z=>by cases z)),q];simp⟩) (fun m hm=>hm) (fun b u e=>?_) I.bare
 have go:∀ u',zba X.prog X.w H s.heap b u'→zba X.prog X.w (upd H d (.frz ob (.dT kvs))) s.heap b u':=fun u' h=>
  h.stay (fun c v _ q=>q) (fun c q=>by rw [zah (nT q (fun z=>by cases z))];exact q) fun c xs q=>q.keep fun u eu hu=>by rw [zah (nT eu (fun z=>by obtain ⟨ys,hu | ⟨_,hu⟩⟩:=hu <;> (rw [hu] at z;cases z)))];exact eu
 by_cases hb:b=d
 ·subst hb
  rw [zab] at e
  cases e
  exact ⟨ho,go _ (I.hok b _ hd)⟩
 ·rw [zah hb] at e
  exact go u (I.hok b u e)
noncomputable def Iti (d:Addr) (ob:Obj):It:=
 ⟨fun i H => ∃ kvs p, H d = some (.frz ob (.dT kvs)) ∧ kvs[i]? = some p,
  fun i H v H'=>∃ T b k x,H T=none∧v= .ref T∧H'=upd H T (.tup [.ref b,x])∧RdT H b (k.map kV)∧∀ kvs,H d=some (.frz ob (.dT kvs))→kvs[i]? =some (k,x),
  fun i H=>∃ kvs,H d=some (.frz ob (.dT kvs))∧kvs.length≤i⟩
theorem zgx {α β :Type}{r: α→β→Prop}:∀ {xs:List α} {ys:List β} {i:Nat} {x: α},Paired r xs ys→xs[i]? =some x→∃ y,ys[i]? =some y∧r x y
 | _,_,0,_,.cons h _,e=>by cases e;exact ⟨_,rfl,h⟩
 | _,_,i+1,_,.cons _ t,e=>zgx (i:=i) t e
theorem zl0 {X:Cx}{pins:List (Addr×Obj)}{σ :St}{H:Hp}{s:Shared}{d:Addr}{ob:Obj}{kvs:List (List Key×V)}{es:Array DictEntry}{ep:Nat}(I:Inv X pins σ H s)(hd:H d=some (.frz ob (.dT kvs)))(hx:ob.ExactDict)(he:ob.data= .dict es ep):
  EntD s.heap d es ep∧es.size=kvs.length∧∀ (i:Nat) p,kvs[i]? =some p→∃ (en:DictEntry) (b:Addr),es[i]? =some en∧en.key= .ref b∧RdT H b (p.1.map kV)∧RelV p.2 en.val:=by
 obtain ⟨h1,_,_,xs,pr,o,es',ep',e1,_,e3,e4,_⟩:=(show zba X.prog X.w H s.heap d (.frz ob (.dT kvs)) from I.hok d _ hd)
 rw [h1] at e1
 cases e1
 rw [he] at e3
 cases e3
 have ls:es.size=xs.length:=by
  have:=congrArg wP e4
  simpa using this
 refine ⟨⟨ob,h1,hx,he⟩,by rw [ls];exact (vU pr).symm,fun i p hp=>?_⟩
 obtain ⟨y,hy,r1,r2,r3⟩:=zgx pr hp
 have hz:es.toList[i]? =some (entryOfKey (tupleKind (zaI X.prog X.w)) y):=by rw [e4,yL,hy];rfl
 exact ⟨_,y.2.1,by simpa using hz,rfl,r2,r3⟩
theorem zj8 {P:Program}{w:World}{K:PySem.W.Frag}{elts:List Expr}{k:Nat}{tp:Pos}{ob:Obj}{es:Array DictEntry}{ep:Nat}(d it:Addr)(hx:ob.ExactDict)(he:ob.data= .dict es ep):
  Turn P w K (.Tuple elts k tp) (Iti d ob) [it] it (fun i h=>∃ u v,IsItemIter h it d i es.size ep u v) where
 mem:=by simp
 obj:=fun i h st c hc=>by
  obtain ⟨u,v,hJ⟩:=st
  rw [yK.mp hc]
  exact ⟨_,hJ,fun v z=>nomatch z⟩
 keep:=fun i h h' st kp=>by
  obtain ⟨u,v,hJ⟩:=st
  exact ⟨u,v,kp it (by simp) _ hJ⟩
 item:=by
  intro X hP hw hK hc i pins s σ H E I hf st hg
  subst hP hw hK
  obtain ⟨u,v,hJ⟩:=st
  obtain ⟨kvs,p,hd,hp⟩:=hg
  obtain ⟨hE,hz,each⟩:=zl0 I hd hx he
  obtain ⟨en,b,h1,h2,h3,h4⟩:=each i p hp
  have fi:=hf it (by simp)
  have iT:it≠s.heap.objs.size:=qL (yU hJ)
  refine zkt hJ hE h1 fun h' z1 z2 hk=>?_
  have I1:Inv X pins σ (upd H s.heap.objs.size (.tup [.ref b,p.2])) {s with heap:=h'}:=
   I.laidC (t':=s.toks) (ch:=[it]) hf (fun c o hc q=>hk c o (fun z=>hc (by simp [z])) q) (yJ _)
    ⟨(by show 2≤yH;decide),[en.key,en.val],.cons h2 (.cons h4 .nil),_,z2,rfl,_,rfl⟩
  refine ⟨_,rfl,wpAny_letOwnedTupleGo_items z1 fun h2' w1 sb=>?_⟩
  have I2:Inv X pins σ (upd H s.heap.objs.size (.tup [.ref b,p.2])) {s with heap:=h2'}:=
   I1.turned (t':=s.toks) (fun c o hc q=>(sb.2 c hc).trans q) (by rw [zah iT];exact fi.1) fi.2.1 fi.2.2.2.1 fi.2.2.2.2.1 fi.2.2.2.2.2
  refine ⟨.ref s.heap.objs.size,_,I2,rfl,⟨_,b,p.1,p.2,I.hok.fresh (yJ _),rfl,rfl,h3,fun kvs' hd'=>?_⟩,⟨_,_,w1⟩,fun c hc=>?_⟩
  ·rw [hd] at hd'
   cases hd'
   exact hp
  ·rw [yK.mp hc,zah iT]
   exact fi.1
 done:=by
  intro X hP hw hK hc i pins s σ H E I hf st hg
  subst hP hw hK
  obtain ⟨u,v,hJ⟩:=st
  obtain ⟨kvs,hd,hp⟩:=hg
  obtain ⟨hE,hz,_⟩:=zl0 I hd hx he
  have fi:=hf it (by simp)
  exact zl5 (I.ok.hd hc) hJ hE (by omega) fun h' eb=>⟨rfl,I.turned (t':=s.toks) (fun c o hc q=>eb c o hc q) fi.1 fi.2.1 fi.2.2.2.1 fi.2.2.2.2.1 fi.2.2.2.2.2⟩
 self:=fun A i s Q E st h=>by
  obtain ⟨u,v,hJ⟩:=st
  exact PySem.W.kcp_self hJ h
noncomputable def znU (td:TE):TI:=fun σ H R=>td σ H fun x H1=>∃ d kvs,x= .ref d∧H1 d=some (.dT kvs)∧∀ ob,R (Iti d ob) (upd H1 d (.frz ob (.dT kvs)))
theorem zmU {X:Cx}{o:Expr}{td:TE}{apos cpos tp:Pos}{elts:List Expr}{k:Nat}(ho:PE X o td)
  (hbase:attributeBase o "items" X.env (eval o X.env)=eval o X.env:=by rfl) (hline:(apos.endLine==cpos.line)=true:=by rfl):PI X (.Tuple elts k tp) (.Call (.Attribute o "items" apos) [] [] cpos) (znU td):=by
 intro pins s σ H R I h
 refine wpAny_Call_method0_late hbase hline (thn (ho pins s σ H _ I h) fun v s1 ⟨x,H1,I1,r1,d,kvs,ex,hd,q⟩=>?_)
 subst ex
 cases r1
 obtain ⟨_,nsys,xs,pr,ob,es,ep,e1,e2,e3,e4,e5⟩:=(show zba X.prog X.w H1 s1.heap d (.dT kvs) from I1.hok d _ hd)
 have I2:=I1.freeze hd e1
 refine ⟨"dict","dict.items",yaB,yaD,PySem.F.type_dict_items,⟨ob,e1,e2.1⟩,fun a z=>by cases z;exact ⟨ob,e1,e2.2.1⟩,vI rfl (ybb ?_)⟩
 refine zko (es:=es) (ep:=ep) nsys ⟨ob,e1,e2,e3⟩ ?_
 have hE:EntD (s1.heap.push {cls:=.type "dict_items",data:=.fields #[.ref d]}) d es ep:=⟨ob,yG _ e1,e2,e3⟩
 refine zj7 (es:=es) (ep:=ep) ⟨_,yZ _ rfl,rfl,rfl⟩ hE ?_
 have I3:Inv X pins σ (upd H1 d (.frz ob (.dT kvs))) {s1 with heap:=(s1.heap.push {cls:=.type "dict_items",data:=.fields #[.ref d]})}:=I2.kept (t':=s1.toks) fun b u e=>yG _ e
 refine ⟨(s1.heap.push {cls:=.type "dict_items",data:=.fields #[.ref d]}).objs.size,[(s1.heap.push {cls:=.type "dict_items",data:=.fields #[.ref d]}).objs.size],_,_,_,rfl,I3.kept (t':=s1.toks) fun b u e=>yG _ e,
  zj8 d _ e2 e3,⟨_,_,yZ _ rfl⟩,fun b hb=>?_,q ob⟩
 rw [yK.mp hb]
 exact I3.fpOk (yJ _) (I3.hok.fresh (yJ _))
theorem zk7 {X:Cx}{o:Expr}{td:TE}{apos cpos tp:Pos}{elts:List Expr}{k:Nat}(ho:Bx (PE X o td))
  (hbase:attributeBase o "items" X.env (eval o X.env)=eval o X.env:=by rfl) (hline:(apos.endLine==cpos.line)=true:=by rfl):Bx (PI X (.Tuple elts k tp) (.Call (.Attribute o "items" apos) [] [] cpos) (znU td)):=⟨zmU ho.1 hbase hline⟩
section
variable {g:TG} {tt:TT} {te:TE} {n0:Nat} {cap:List Nat} {σ :St} {Q:VK} {D:Addr} {H1:Hp}
theorem zkk {d:Addr}{ob:Obj}{kvs:List (List Key×V)}(Pv:Nat→Hp→Prop)(h0:Pv 0 (upd H1 D (.lst [])))(hl:∀ i H,i≤kvs.length→Pv i H→H d=some (.frz ob (.dT kvs)))
  (hs:∀ i b p H T,kvs[i]? =some p→Pv i H→H T=none→RdT H b (p.1.map kV)→g (.ref T) (zaS n0 cap σ) (upd H T (.tup [.ref b,p.2])) fun σ2 H2=>tt σ2 H2 fun c H3=>if c=true then te σ2 H3 fun y H4=>∃ xs,H4 D=some (.lst xs)∧xs.length < yH∧Pv (i+1) (upd H4 D (.lst (xs++ [y]))) else Pv (i+1) H3)
  (hd:∀ H,Pv kvs.length H→Q (.ref D) H):zcA (Iti d ob) D n0 cap σ g tt te Q H1:=by
 refine ⟨fun i m H=>m=kvs.length - i∧i≤kvs.length∧Pv i H,⟨kvs.length,by simp,qZ _,h0⟩,?_⟩
 rintro i m H ⟨rfl,hi,p⟩
 have q:=hl i H hi p
 by_cases hlt:i < kvs.length
 ·refine .inr ⟨⟨kvs,kvs[i],q,by simp [hlt]⟩,Pv (i+1),fun H' p'=>⟨kvs.length - (i+1),by omega,rfl,hlt,p'⟩,fun x H' y=>?_⟩
  obtain ⟨T,b,k,z,hT,e1,e2,hb,y⟩:=y
  subst e1 e2
  exact hs i b (k,z) H T (y kvs q) p hT hb
 ·have e:i=kvs.length:=by omega
  subst e
  exact .inl ⟨⟨kvs,q,yJ _⟩,hd H p⟩
end
theorem HOk.thaw {P:Program}{w:World}{H:Hp}{h:Heap}{d:Addr}{ob:Obj}{kvs:List (List Key×V)}(k:HOk P w H h)(hd:H d=some (.frz ob (.dT kvs))):HOk P w (upd H d (.dT kvs)) h:=by
 have nT:∀ {b:Addr} {u:HO},H b=some u→u≠.frz ob (.dT kvs)→b≠d:=fun e n z=>by
  rw [z,hd] at e
  exact n (yV e).symm
 have go:∀ (b:Addr) u',zba P w H h b u'→zba P w (upd H d (.dT kvs)) h b u':=fun b u' x=>
  x.stay (fun c v _ q=>q) (fun c q=>by rw [zah (nT q (fun z=>by cases z))];exact q) fun c xs q=>q.keep fun u eu hu=>by rw [zah (nT eu (fun z=>by obtain ⟨ys,hu | ⟨_,hu⟩⟩:=hu <;> (rw [hu] at z;cases z)))];exact eu
 intro b u e
 by_cases hb:b=d
 ·subst hb
  rw [zab] at e
  cases e
  exact go b _ (k b _ hd).2
 ·rw [zah hb] at e
  exact go b u (k b u e)
theorem Un.thaw {fs ex:List Addr}{H H':Hp}{h h':Heap}{d:Addr}{o u:HO}(x:Un fs ex H H' h h')(hd:H d=some o)(n1:∀ xs,o≠.tup xs)(n2:∀ a b,o≠.frz a b)(n3:∀ ps,o≠.tbl ps):Un fs ex H (upd H' d u) h h' where
 keep:=x.keep
 slot:=x.slot
 free:=fun b ob q n hx=>by
  rw [zah (fun z=>by rw [z,hd] at n;cases n)]
  exact x.free b ob q n hx
 there:=x.there
 tups:=fun b xs q=>by
  rw [zah (fun z=>by rw [z,hd] at q;exact n1 _ (yV q))]
  exact x.tups b xs q
 frzs:=fun b a c q=>by
  rw [zah (fun z=>by rw [z,hd] at q;exact n2 _ _ (yV q))]
  exact x.frzs b a c q
 tbls:=fun b ps q=>by
  rw [zah (fun z=>by rw [z,hd] at q;exact n3 _ (yV q))]
  exact x.tbls b ps q
theorem FnOk.thaw {P:Program}{w:World}{K:PySem.W.Frag}{mg:Str→Option Value}{base:Heap}{CX:CXT}{k:Nat}{f:Addr}{fd:FuncData}{ps:List Str}{sp:Sp}(F:FnOk P w K mg base CX k f fd ps sp):
  FnOk P w K mg base CX k f fd ps (fun vs H Q E=>sp vs H (fun v H'=>∃ d ob k0 kvs,H d=some (.dT k0)∧H' d=some (.frz ob (.dT kvs))∧Q v (upd H' d (.dT kvs))) E):=by
 refine ⟨fun vs H Q E h=>F.len vs H _ E h,fun A outer s H args us vs Q E hr he hb hv hs=>?_⟩
 refine codeAny_mono (F.run A outer s H args us vs _ E hr he hb hv hs) fun r s' hq=>?_
 unfold CR at hq ⊢
 cases r with
 | error e=>exact hq
 | ok r=>
  cases r with
  | ret u=>
   obtain ⟨v,H',h1,h2,h3,h4,h5,d,ob,k0,kvs,hd,hd',q⟩:=hq
   exact ⟨v,_,h1,h2,h3.thaw hd (fun _ z=>by cases z) (fun _ _ z=>by cases z) (fun _ z=>by cases z),h4.thaw hd',h5,q⟩
  | _=>exact hq
theorem RdT.dw {H:Hp}{d c:Addr}{kvs:List (List Key×V)}{o:HO}{xs:List V}(q:RdT H c xs)(hd:H d=some (.dT kvs)):RdT (L2.upd H d o) c xs:=by
 rcases q with q | ⟨u,q⟩
 ·exact RdT.put (.inl q) (zh3 q hd (fun z=>nomatch z))
 ·exact RdT.put (.inr ⟨u,q⟩) (zh3 q hd (fun z=>nomatch z))
noncomputable def znz (tk tv:TE):TE:=fun σ H Q=>∀ p,H p=none→tk σ (upd H p (.dT [])) fun x H1=>tv σ H1 fun y H2=>H2 p=some (.dT [])∧∃ b ks,x= .ref b∧RdT H2 b (ks.map kV)∧Q (.ref p) (upd H2 p (.dT [(ks,y)]))
theorem zmO {X:Cx}{pos:Pos}{k v:Expr}{tk tv:TE}(hu:X.A.units+1 < cLine)(hk:PE X k tk)(hv:PE X v tv):PE X (.Dict [some k] [v] pos) (znz tk tv):=by
 intro pins s σ H Q I q
 have hn:=I.hok.fresh (yJ s.heap.objs.size)
 have I1:=I.laid (a:=s.heap.objs.size) (o:=.dT []) (h':=s.heap.push {cls:=.type "dict",data:=.dict #[]}) (t':=s.toks) (fun _ _ q=>yG _ q) (yJ _) (zjB s.heap I.big)
 refine wpAny_Dict_any rfl rfl (by simp) (by show 1≤15;decide) ?_
 refine pairTrees_cons_walk (thn (hk pins _ σ _ _ I1 (q _ hn)) fun u s1 ⟨x,H1,I2,rx,q1⟩=>thn (hv pins s1 σ H1 _ I2 q1) fun w2 s2 ⟨y,H2,I3,ry,q2⟩=>pairTrees_nil_walk ?_)
 obtain ⟨e,b,ks,rfl,eb,q3⟩:=q2
 cases (show u=Value.ref b from rx)
 show wpAny _ _ (PySem.storeAll s.heap.objs.size [(Value.ref b,w2)]) _ _ s2
 unfold PySem.storeAll
 rw [yad]
 obtain ⟨z,hd,xs0,r0,dd⟩:=dt_of I3.hok e
 cases r0
 refine yD (yD (wpAny_dictSet_heap (knd:=tupleKind (zaI X.prog X.w)) (by show X.A.units < cLine;omega) (zfl I3.hok eb) dd (fun h' dd' hs=>?_) (qZ _)))
 refine yP ?_
 show wpAny _ _ (forIn ([]:List (Value×Value)) PUnit.unit _) _ _ _
 rw [List.forIn_nil]
 refine yP ⟨.ref s.heap.objs.size,_,?_,rfl,q3⟩
 obtain ⟨qo,es,ep,hq,h2,h3,h4,_,h5⟩:=dd'
 refine zg0 I3 (by rw [e];exact True.intro) hs ⟨qo,hq⟩ ⟨(by show 1≤yH;decide),hd,_,((show KT H2 [] [] from .nil).put ks eb ry).keeps fun c ys ec=>RdT.dw ec e,qo,es,ep,hq,h2,h3,h4,h5⟩
theorem zfo {X:Cx}{pos:Pos}{k v:Expr}{tk tv:TE}(hu:X.A.units+1 < cLine)(hk:Bx (PE X k tk))(hv:Bx (PE X v tv)):Bx (PE X (.Dict [some k] [v] pos) (znz tk tv)):=⟨zmO hu hk.1 hv.1⟩
section
variable {prog:Program} {w:World} {A:Around} {E:Value→Shared→Prop} {s:Shared} {Ky:Type} [DecidableEq Ky] {knd:HeapKind prog w Ky}
end
section
variable {prog:Program} {w:World} {A:Around} {E:Value→Shared→Prop} {s:Shared}
end
section
variable {prog:Program} {w:World} {A:Around} {E:Value→Shared→Prop} {s:Shared}
end
section
variable {X:Cx} {o:Expr} {td:TE} {p ap cp pos:Pos}
end
section
variable {g:TG} {tt:TT} {te:TE} {n0:Nat} {cap:List Nat} {σ :St} {Q:VK} {D:Addr} {H1:Hp}
end
open PySem.W (Dat kqdP kqdPs kqdOk)
section
variable {X:Cx}
open Classical in
end
end L2
namespace L2
open PySem PySem.Spec PyProof.Rows
section
variable {prog:Program} {w:World} {A:Around} {E:Value→Shared→Prop} {s:Shared}
end
section
variable {X:Cx}
end
end L2
namespace L2
open PySem
end L2
namespace L2
open PySem PySem.Spec PyProof.Rows
noncomputable def rNe0 (K:PySem.W.Frag):R2:=fun x y H Q=>∃ a b xs,x= .ref a∧y= .ref b∧SqL K H a xs∧SqL K H b []∧Q (.bl (decide (xs≠[]))) H
section
variable {X:Cx}
theorem op_ne0 (hu:X.A.units+64 < cLine):OpR X (compareOp .NotEq) (rNe0 X.K):=by
 intro pins s σ H x y v u Q I rx ry h
 obtain ⟨a,b,xs,rfl,rfl,ha,hb,q⟩:=h
 cases rx
 cases ry
 obtain ⟨its,r1,⟨⟨c1,dd,data,sl⟩,n1,ho,hc,hd0,hd⟩,_⟩:=I.list ha
 obtain ⟨its2,r2,⟨⟨c2,dd2,data2,sl2⟩,n2,ho2,hc2,hd02,hd2⟩,_⟩:=I.list hb
 simp only at hc hd hc2 hd2
 subst hc hd hc2 hd2
 have l1:=r1.length
 have l2:=r2.length
 cases its2 with
 | cons z zs=>cases l2
 | nil=>
 by_cases e:xs= []
 ·subst e
  cases its with
  | cons z zs=>cases l1
  | nil=>
  refine richCompare_meets_room (op:=.NotEq) ⟨_,ho,rfl⟩ ⟨_,ho2,rfl⟩ ya5 yaZ (yaK _ _) (PySem.SeqAt.list_neAt a b #[] #[] n1 n2 dd dd2 sl sl2 rfl (fun _=>true))
   ⟨ho,ho2,fun j h1=>absurd h1 (Nat.not_lt_zero _),show Value.bool _≠Value.notImplemented∧_ from ⟨(fun z=>nomatch z),⟨.bl _,H,I,rfl,q⟩⟩⟩ (by omega)
 ·have ne:(its.toArray.size !=([]:List Value).toArray.size)=true:=by
   cases its with
   | nil=>exact absurd (jT.mp l1) e
   | cons z zs=>simp
  rw [decide_eq_true e] at q
  exact richCompare_meets_room (op:=.NotEq) ⟨_,ho,rfl⟩ ⟨_,ho2,rfl⟩ ya5 yaZ (yaK _ _) (PySem.SeqAt.list_ne_lengthsAt a b its.toArray #[] n1 n2 dd dd2 sl sl2 ne)
   ⟨ho,ho2,show Value.bool true≠Value.notImplemented∧_ from ⟨(fun z=>nomatch z),⟨.bl true,H,I,rfl,q⟩⟩⟩ (by omega)
end
section
variable {prog:Program} {w:World} {A:Around} {E:Value→Shared→Prop} {s:Shared}
end
section
variable {prog:Program} {w:World} {A:Around} {E:Value→Shared→Prop} {s:Shared}
end
section
variable {prog:Program} {w:World} {A:Around} {E:Value→Shared→Prop} {s:Shared}
end
section
variable {prog:Program} {w:World} {A:Around} {E:Value→Shared→Prop} {s:Shared}
end
end L2
namespace L2
open PySem
end L2
namespace L2
open PySem PySem.Spec PyProof.Rows
section
variable {X:Cx}
end
section
variable {X:Cx} {tg:Expr}
end
section
end
section
variable {prog:Program} {w:World} {A:Around} {E:Value→Shared→Prop} {s:Shared}
end
section
variable {X:Cx} {pins:List (Addr×Obj)} {σ :St} {H1:Hp} {s1 s':Shared} {C S:Addr} {nid nid2:String} {bB bB2:List Value} {sx n:Str} {np hpos:Pos} {b₀ :Stmt} {suite:List Stmt} {j:Nat} {ts:TS} {D:Ends} {E':XK} {e:Value}
end
section
variable {X:Cx} {C S f:Addr} {k:Nat} {fd:FuncData} {ps:List Str} {sp:Sp} {dvs:List V} {ds:List Value} {nid nid2:String} {bB bB2:List Value} {fx sx n:Str} {p np hpos cpos epos pos:Pos} {b₀ :Stmt} {suite:List Stmt} {j:Nat} {t:TA} {ts:TS} {e:Expr} {es:List Expr}
end
theorem unB {p:Prop}(h:Bx p):p:=h.1
section
variable {X:Cx}
end
section
variable {K:PySem.W.Frag} {c:Addr} {xs:List Str}
end
noncomputable def Its (x:Str):It:=⟨fun i _=>i < x.cps.size,fun i H v H'=>H'=H∧∃ c,x.cps[i]? =some c∧v= .str ⟨#[c]⟩,fun i _=>x.cps.size≤i⟩
theorem zmG {P:Program}{w:World}{K:PySem.W.Frag}{tg:Expr}(it:Addr)(x:Str)(t:Tok):Turn P w K tg (Its x) [it] it (fun i h=>h.IsStrIter it "str_ascii_iterator" x t i) where
 mem:=by simp
 obj:=fun i h st b hb=>by
  have e:b=it:=by simpa using hb
  subst e
  obtain ⟨o,e,c,d⟩:=st
  exact ⟨o,e,fun v z=>by rw [d] at z;cases z⟩
 keep:=fun i h h' st k=>by
  obtain ⟨o,e,c,d⟩:=st
  exact ⟨o,k it (by simp) o e,c,d⟩
 item:=by
  intro X hP hw hK hc i pins s σ H E I hf st hg
  subst hP hw hK
  have hx:x.cps[i]? =some x.cps[i]:=Array.getElem?_eq_getElem hg
  obtain ⟨f0,f1,f2,f3,f4,f5⟩:=hf it (by simp)
  refine wpAny_pyNext_ascii_item st hx fun h' st' sb=>?_
  have I1:Inv X pins σ H {s with heap:=h',toks:=s.toks+1}:=I.turned (t':=s.toks+1) (fun b o hb e=>(sb.2 b hb).trans e) f0 f1 f3 f4 f5
  obtain ⟨o,e,c,d⟩:=id st'
  exact ⟨_,rfl,zmK (s:={s with heap:=h',toks:=s.toks+1}) e c d (by decide) ⟨.str ⟨#[x.cps[i]]⟩,H,I1,⟨_,rfl⟩,⟨rfl,_,hx,rfl⟩,st',fun b hb=>(hf b hb).1⟩⟩
 done:=by
  intro X hP hw hK hc i pins s σ H E I hf st hg
  subst hP hw hK
  obtain ⟨f0,f1,f2,f3,f4,f5⟩:=hf it (by simp)
  exact wpAny_pyNext_ascii_end (I.ok.hd hc) st (yaJ hg) fun h' eb=>⟨rfl,I.turned (t':=s.toks) (fun b o hb e=>eb b o hb e) f0 f1 f3 f4 f5⟩
 self:=fun _ _ _ _ _ st h=>wpAny_pyIter_striter_ascii st h
noncomputable def iStr (te:TE):TI:=fun σ H R=>te σ H fun v H1=>∃ x:Str,v= .str x∧x.cps.all (· < 128)=true∧R (Its x) H1
theorem pi_str {X:Cx}{tg e:Expr}{te:TE}(he:PE X e te):PI X tg e (iStr te):=by
 intro pins s σ H R I h
 refine thn (he pins s σ H _ I h) fun v s1 ⟨y,H1,I1,r1,x,ex,ha,q⟩=>?_
 subst ex
 obtain ⟨t,rfl⟩:=r1
 refine wpAny_pyIter_ascii ha ?_
 refine ⟨s1.heap.objs.size,[s1.heap.objs.size],_,_,H1,rfl,I1.kept (t':=s1.toks) fun b o e=>yG _ e,zmG _ x t,⟨_,yZ _ rfl,rfl,rfl⟩,fun b hb=>?_,q⟩
 have e:b=s1.heap.objs.size:=by simpa using hb
 subst e
 exact I1.fpOk (yJ _) (I1.hok.fresh (yJ _))
theorem zog {X:Cx}{tg e:Expr}{te:TE}(he:Bx (PE X e te)):Bx (PI X tg e (iStr te)):=⟨pi_str he.1⟩
theorem zn6 {x:Str}{g:TG}{tb:TS}{D:Ends}{σ :St}{H:Hp}(Pv:Nat→St→Hp→Prop)(h0:Pv 0 σ H)
  (hs:∀ i c σ H,x.cps.toList[i]? =some c→Pv i σ H→g (.str ⟨#[c]⟩) σ H fun σ2 H2=>tb {D with nx:=Pv (i+1),ct:=Pv (i+1),bk:=D.nx} σ2 H2) (hd:∀ σ H,Pv x.cps.toList.length σ H→D.nx σ H):
  ∃ W:Nat→Nat→St→Hp→Prop,(∃ m,W 0 m σ H)∧∀ i m σ H,W i m σ H→
   ((Its x).stop i H∧D.nx σ H)∨((Its x).go i H∧∃ N:St→Hp→Prop,(∀ σ' H',N σ' H'→∃ m',m' < m∧W (i+1) m' σ' H')∧∀ y H',(Its x).yld i H y H'→g y σ H' fun σ2 H2=>tb {D with nx:=N,ct:=N,bk:=D.nx} σ2 H2):=by
 have es:x.cps.toList.length=x.cps.size:=yY
 refine ⟨fun i m σ H=>m=x.cps.size - i∧i≤x.cps.size∧Pv i σ H,⟨x.cps.size,by simp,qZ _,h0⟩,?_⟩
 rintro i m σ H ⟨rfl,hi,p⟩
 by_cases hlt:i < x.cps.size
 ·refine .inr ⟨hlt,Pv (i+1),fun σ' H' p'=>⟨x.cps.size - (i+1),by omega,rfl,hlt,p'⟩,fun y H' z=>?_⟩
  obtain ⟨e,c,hc,rfl⟩:=z
  subst e
  exact hs i c σ _ (by rw [Array.getElem?_toList];exact hc) p
 ·have e:i=x.cps.size:=by omega
  subst e
  exact .inl ⟨yJ _,hd σ H (by rw [es];exact p)⟩
theorem zfB:∀ {zs:List Str} {us:List Value},Vals (zs.map V.str) us→∃ l:List (Str×Tok),us=strValues l∧l.map (·.1)=zs
 | [],us,h=>by
  cases h
  exact ⟨[],rfl,rfl⟩
 | z::zs,us,h=>by
  cases h with
  | cons r t=>
   obtain ⟨tk,rfl⟩:=r
   obtain ⟨l,rfl,rfl⟩:=zfB t
   exact ⟨(z,tk)::l,rfl,rfl⟩
theorem zhV:∀ (zs:List Str) (k:Nat),Vals (zs.map V.str) (strsFrom k zs)
 | [],_=>.nil
 | _::zs,k=>.cons ⟨_,rfl⟩ (zhV zs (k+1))
noncomputable def rJoin:V→List V→Hp→VK→Prop:=fun x vs H Q=>∃ (sep:Str) (l:Addr) (zs:List Str),x= .str sep∧vs= [.ref l]∧H l=some (.lst (zs.map V.str))∧1≤zs.length∧(zs.map (·.length)).sum+zs.length * sep.length≤100000∧Q (.str (xE sep zs)) H
theorem zoY {X:Cx}:MtR X "str.join" rJoin:=by
 intro pins s σ H x vs v us Q I rx rv h
 obtain ⟨sep,l,zs,rfl,rfl,hH,h2,hz,q⟩:=h
 obtain ⟨tk,rfl⟩:=rx
 obtain ⟨u,rfl,ru⟩:=rv.one
 cases ru
 obtain ⟨z,its,n,r,hl,e⟩:=I.lstM hH
 obtain ⟨ps,rfl,ez⟩:=zfB r
 have tl:ybc ((ps.map (·.1)).toArray.foldl (· + ·.length+sep.length) 0)=false:=by
  rw [StrLaws.joinTotal,ez]
  have:yH=16777216:=by decide
  unfold ybc
  rw [decide_eq_false (by omega)]
 refine call_meets F.slot_str_join (typeIs_str s sep tk) F.entry_str_join (F.args_str_join_2 _ _) (meets_str_join_list sep tk l ps tl) ⟨⟨_,e,rfl,n,rfl⟩,?_⟩
 have lp:ps.length=zs.length:=by rw [← ez,yA]
 match ps,lp,ez with
 | p1::p2::ps,_,ez=>
  show (Made.str (ybz sep ((p1::p2::ps).map (·.1)))).post _ s
  rw [ez,ya0]
  refine ⟨?_,⟨.str _,H,I.tok _,⟨_,rfl⟩,q⟩⟩
  have:=yaL sep zs
  have sl:yH=16777216:=by decide
  omega
 | [],h,_=>exact absurd h2 (by rw [← h];decide)
 | [p1],_,ez=>
  rw [← ez] at q
  exact ⟨.str p1.1,H,I,⟨_,rfl⟩,q⟩
theorem zku (z:Str)(k:Nat):xY z [] k= [z]:=by
 show [jS z 0 z.length]= [z]
 congr 1
 cases z with
 | mk a=>simp [jS,ybv]
noncomputable def rSplit:V→List V→Hp→VK→Prop:=fun x vs H Q=>∃ (z y:Str),x= .str z∧vs= [.str y]∧(decide (z.length < y.length) || decide (xA z < xA y))=false∧(y.length==0)=false∧z.length≤100000∧
 ∀ D,H D=none→Q (.ref D) (upd H D (.lst ((xY z (qR z y 0 z.length (z.length+1)) y.length).map V.str)))
theorem zji {X:Cx}:MtR X "str.split" rSplit:=by
 intro pins s σ H x vs v us Q I rx rv h
 obtain ⟨z,y,rfl,rfl,h1,hy,hz,q⟩:=h
 obtain ⟨tk,rfl⟩:=rx
 obtain ⟨u,rfl,ru⟩:=rv.one
 obtain ⟨tu,rfl⟩:=ru
 have sl:yH=16777216:=by decide
 have hn:(xY z (qR z y 0 z.length (z.length+1)) y.length).length≤yH:=by
  rw [length_partsBetween]
  have:=StrLaws.occ_length_le z y 0 z.length (z.length+1)
  omega
 cases hf:(qR z y 0 z.length (z.length+1)).isEmpty with
 | true=>
  have e0:qR z y 0 z.length (z.length+1)= []:=List.isEmpty_iff.mp hf
  rw [e0,zku] at q
  refine call_meets F.slot_str_split (typeIs_str s z tk) F.entry_str_split (F.args_str_split_2 _ _) (meets_str_split_not_found z y tk tu h1 hy hf) ?_
  refine ⟨.ref s.heap.objs.size,_,I.laid (t':=s.toks) (fun b u e=>yG _ e) (yJ _) ?_,rfl,q _ (I.hok.fresh (yJ _))⟩
  exact ⟨(by show 1≤yH;decide),_,0,.cons ⟨_,rfl⟩ .nil,yZ _ rfl⟩
 | false=>
 refine call_meets F.slot_str_split (typeIs_str s z tk) F.entry_str_split (F.args_str_split_2 _ _) (meets_str_split_sep z y tk tu h1 hy hf (by omega) hn) ?_
 refine ⟨.ref s.heap.objs.size,_,I.laid (fun b u e=>yG _ e) (yJ _) ?_,rfl,q _ (I.hok.fresh (yJ _))⟩
 exact ⟨by rw [yA];exact hn,_,0,zhV _ _,yZ _ rfl⟩
theorem zmV {X:Cx}:MtR X "str.index" (fun x vs H Q=>∃ (z y:Str) (i:Nat) (rest:List Nat),x= .str z∧vs= [.str y]∧qR z y 0 z.length 1=i::rest∧Q (.int (i:Int)) H):=by
 intro pins s σ H x vs v us Q I rx rv h
 obtain ⟨z,y,i,rest,rfl,rfl,h1,q⟩:=h
 obtain ⟨tk,rfl⟩:=rx
 obtain ⟨u,rfl,ru⟩:=rv.one
 obtain ⟨tu,rfl⟩:=ru
 refine call_gives F.slot_str_index (typeIs_str s z tk) F.entry_str_index (F.args_str_index_2 _ _) (gives_str_index z y tk tu i rest h1) ⟨.int _,H,I.tok _,⟨_,rfl⟩,q⟩
end L2
namespace My
open PySem L2
open PySem.Builtin.Str (occurrences partsBetween strSub subAt)
noncomputable def zbr (c:Nat):List (List Nat)→List Nat
 | []=>[]
 | [p]=>p
 | p::q::r=>p++c::zbr c (q::r)
theorem zhc (z:Str)(c lim:Nat):∀ (k a:Nat) (st:Array Nat×Nat),st.2≤a→st.1.size+k≤lim→
  (forIn (kY a k) st (ybX z ⟨#[c]⟩ z.length lim)).run.fst.toList=st.1.toList++(kY a k).filter fun i=>decide (z.cps.toList[i]? =some c)
 | 0,a,st,_,_=>by simp
 | k+1,a,st,hf,hs=>by
  rw [ybL,yad]
  unfold ybX
  have key:=yax z c a
  by_cases h:z.cps.toList[a]? =some c
  ·obtain ⟨h1,h2⟩:=key.mpr h
   rw [if_pos ⟨⟨⟨by omega,hf⟩,h1⟩,h2⟩,wF (by simpa using h)]
   have:=zhc z c lim k (a+1) (st.1.push a,a+1) (yJ _) (by simp;omega)
   refine Eq.trans this ?_
   simp
  ·rw [if_neg (fun hc=>h (key.mp ⟨hc.1.2,hc.2⟩)),vD (by simpa using h)]
   exact zhc z c lim k (a+1) st (by omega) (by omega)
theorem zo8 (z:Str)(c:Nat):occurrences z ⟨#[c]⟩ 0 z.length (z.length+1)=(kY 0 (z.length+1)).filter fun i=>decide (z.cps.toList[i]? =some c):=by
 rw [StrLaws.occ_eq]
 have:=zhc z c (z.length+1) (z.length+1) 0 (#[],0) (yJ _) (by simp)
 simpa using this
theorem zhT {z:Str}{pre p rest:List Nat}(e:z.cps.toList=pre++p++rest):strSub z pre.length (pre.length+p.length)=⟨p.toArray⟩:=by
 have h:=xR z pre.length (pre.length+p.length)
 rw [e,jF,ya9,Nat.add_sub_cancel_left,yba] at h
 cases hs:strSub z pre.length (pre.length+p.length) with
 | mk a=>
  rw [hs] at h
  congr 1
  exact xI.mp (by simpa using h)
theorem zfG {c:Nat}{L pre p rest:List Nat}(e:L=pre++p++rest)(hp:c∉p):(kY pre.length p.length).filter (fun i=>decide (L[i]? =some c))= []:=by
 refine List.filter_eq_nil_iff.mpr fun i hi=>?_
 have hr:=List.mem_range'_1.mp hi
 rw [decide_eq_true_eq,e,jF,jD (by omega),jJ (by omega)]
 exact fun z=>hp (yR z)
theorem zgq {z:Str}{c:Nat}:∀ (parts:List (List Nat)) (pre:List Nat),parts≠[]→(∀ p∈parts,c∉p)→z.cps.toList=pre++zbr c parts→
  ybA z 1 pre.length ((kY pre.length (z.length+1 - pre.length)).filter fun i=>decide (z.cps.toList[i]? =some c))=parts.map fun p=>⟨p.toArray⟩
 | [],_,h,_,_=>absurd rfl h
 | [p],pre,_,hc,e=>by
  have e':z.cps.toList=pre++p++ []:=by rw [wC];exact e
  have hl:z.length=pre.length+p.length:=by
   have:=congrArg wP e
   rw [yI] at this
   exact this
  rw [hl,show pre.length+p.length+1 - pre.length=p.length+1 by omega,List.range'_1_concat,vN,zfG e' (hc p (.head _))]
  rw [vD (by
   rw [decide_eq_true_eq,List.getElem?_eq_none (by rw [e',wC,yI];exact yJ _)]
   exact fun z=>nomatch z)]
  show [strSub z pre.length z.length]= [_]
  rw [hl,zhT e']
 | p::q::r,pre,_,hc,e=>by
  have e1:z.cps.toList=pre++p++(c::zbr c (q::r)):=by rw [e,jF];rfl
  have e2:z.cps.toList=(pre++p++ [c])++zbr c (q::r):=by rw [e1,jF (pre++p)];rfl
  have l2:(pre++p++ [c]).length=pre.length+p.length+1:=by rw [yI,yI];rfl
  have hl:pre.length+p.length+1≤z.length:=by
   have:=congrArg wP e2
   rw [yI,l2] at this
   have h2:z.cps.toList.length=z.length:=rfl
   omega
  have ih:=zgq (q::r) (pre++p++ [c]) (fun h=>nomatch h) (fun s hs=>hc s (.tail _ hs)) e2
  rw [l2] at ih
  have split:kY pre.length (z.length+1 - pre.length)=kY pre.length p.length++(pre.length+p.length)::kY (pre.length+p.length+1) (z.length+1 - (pre.length+p.length+1)):=by
   rw [show z.length+1 - pre.length=p.length+(z.length+1 - (pre.length+p.length+1)+1) by omega,← List.range'_append_1,ybL]
  rw [split,vN,zfG e1 (hc p (.head _)),wF (by
   rw [decide_eq_true_eq,e1,jD (by rw [yI];exact yJ _),yI,Nat.sub_self]
   rfl)]
  show strSub z pre.length (pre.length+p.length)::ybA z 1 (pre.length+p.length+1) _=_
  rw [ih,zhT e1]
  rfl
theorem ziT {z:Str}{c:Nat}{parts:List (List Nat)}(h:parts≠[])(hc:∀ p∈parts,c∉p)(e:z.cps.toList=zbr c parts):
  partsBetween z (occurrences z ⟨#[c]⟩ 0 z.length (z.length+1)) (⟨#[c]⟩:Str).length=parts.map fun p=>⟨p.toArray⟩:=by
 rw [zo8,yaE]
 exact zgq parts [] h hc e
noncomputable def digs (n:Nat):List Nat:=(Nat.toDigits 10 n).map Char.toNat
theorem zil {d:Nat}(h:d < 10):(Nat.digitChar d).toNat=48+d:=by
 match d,h with
 | 0,_ | 1,_ | 2,_ | 3,_ | 4,_ | 5,_ | 6,_ | 7,_ | 8,_ | 9,_=>rfl
theorem zdg (n:Nat):digs n=if n < 10 then [48+n] else digs (n / 10)++ [48+n % 10]:=by
 unfold digs
 by_cases h:n < 10
 ·rw [if_pos h,Nat.toDigits_of_lt_base h,vP,zil h]
 ·rw [if_neg h,Nat.toDigits_of_base_le (by decide) (by omega),yM,vP,zil (Nat.mod_lt _ (by decide))]
theorem ziM (n:Nat):digs n≠[]:=by
 rw [zdg]
 split <;> simp
theorem zfq (n:Nat):∀ c∈digs n,48≤c∧c < 58:=by
 induction n using yae with
 | _ n ih=>
  rw [zdg]
  split
  ·intro c hc
   rw [yK.mp hc]
   omega
  ·intro c hc
   rcases yS.mp hc with hc | hc
   ·exact ih (n / 10) (by omega) c hc
   ·rw [yK.mp hc]
    omega
noncomputable def ze7 (l:List Nat):Nat:=l.foldl (fun a c=>a * 10+(c - 48)) 0
theorem zgk (l:List Nat)(c:Nat):ze7 (l++ [c])=ze7 l * 10+(c - 48):=by
 unfold ze7
 rw [vV]
 rfl
theorem zhX (n:Nat):ze7 (digs n)=n:=by
 induction n using yae with
 | _ n ih=>
  rw [zdg]
  split
  ·show 0 * 10+(48+n - 48)=n
   omega
  ·rw [zgk,ih (n / 10) (by omega)]
   omega
theorem zkq (n:Nat):∀ r,digs n=48::r→r= []:=by
 induction n using yae with
 | _ n ih=>
  intro r e
  rw [zdg] at e
  split at e
  ·injection e with _ e
   exact e.symm
  ·cases h:digs (n / 10) with
   | nil=>exact absurd h (ziM _)
   | cons x l=>
    rw [h] at e
    injection e with e1 e2
    subst e1
    have l0:=ih (n / 10) (by omega) l h
    subst l0
    have:=zhX (n / 10)
    rw [h] at this
    have:n / 10=0:=this.symm
    omega
theorem zha (n:Nat)(k:Nat):n < 10 ^ k→1≤k→(digs n).length≤k:=by
 induction k generalizing n with
 | zero=>intro _ h;exact absurd h (by decide)
 | succ k ih=>
  intro h _
  rw [zdg]
  split
  ·exact yag _ _
  ·rw [yI,qM]
   have h1:n / 10 < 10 ^ k:=by
    rw [wU] at h
    omega
   have hk: 1≤k:=by
    rcases Nat.eq_zero_or_pos k with h0 | h0
    ·subst h0
     have:n / 10 < 1:=h1
     omega
    ·exact h0
   have:=ih (n / 10) h1 hk
   omega
theorem zm9 (n:Nat):(yB (toString (n:Int))).cps.toList=digs n:=by
 have e:toString (n:Int)=String.ofList (Nat.toDigits 10 n):=by
  show (n:Int).repr=_
  rw [← Nat.repr_eq_ofList_toDigits]
  rfl
 rw [e,Str.ofString_eq_toList]
 simp [digs]
end My
namespace L2
open PySem PySem.Spec PyProof.Rows
theorem zlG {e:Value}{a b:Env}(h:a.frame=b.frame):noteFrame e a=noteFrame e b:=by
 unfold noteFrame PySem.frameOf
 rw [h]
noncomputable def zk0 (X:Cx) (c:Env) (x:Value) (s1:Shared):Prop:=∃ m,s1.heap.Ns c.locals m∧∀ h',jL c.locals s1.heap h'→
 wpAny (model X.prog X.w) X.A (passOn "comprehension.variables-let-go" x c:Sem Value) (fun _ _=>False) X.xe {s1 with heap:=h'}
noncomputable def zne (X:Cx) (QQ:Value→Shared→Prop) (acc:Value) (c:Env):Result→Shared→Prop
 | .ok _,s1=>∃ m,s1.heap.Ns c.locals m∧∀ h',jL c.locals s1.heap h'→QQ acc {s1 with heap:=h'}
 | .error x,s1=>zk0 X c x s1
theorem zl4 {X:Cx}{s:Shared}{e:Expr}{scope:Scope}{pos:Pos}{mk first:Sem Value}{g:Comprehension}{gs:List Comprehension}{cl:List (Str×Addr)}{QQ:Value→Shared→Prop}
  (ec:clausesOf e=g::gs) (es:∀ x,foldedSetIterable g.iter X.env x=pure x) (el:closureFor scope X.env=pure cl) (ek:scope.kind= .function) (en:∀ y∈scope.names,y.2= .local→scope.names.lookup y.1=some .local)
  (h:wpAny (model X.prog X.w) X.A first (fun x s1=>wpAny (model X.prog X.w) X.A (pyIter x) (fun it s2=>wpAny (model X.prog X.w) X.A mk (fun acc s3=>
   wpAny (model X.prog X.w) X.A (newFunctionEnv scope X.env.globals cl [] X.env.qual none .none (some X.env)) (fun c s4=>
    codeAny (model X.prog X.w) X.A (.compStart e 0 it acc {c with scope:=relabel scope X.env}) (zne X QQ acc {c with scope:=relabel scope X.env}) s4) X.xe s3) X.xe s2) X.xe s1) X.xe s):
  wpAny (model X.prog X.w) X.A (comprehension e scope X.env pos mk false first) QQ X.xe s:=by
 unfold comprehension
 rw [el,ec]
 refine yD (thn h fun x s1 h1=>yD (wpAny_standAt (yD (wpAny_of_eq (es x) (yD (wpAny_holding (thn h1 fun it s2 h2=>?_)))))))
 refine wpAny_standIf (yD (thn h2 fun acc s3 h3=>yD (yP (yD (thn h3 fun c s4 h4=>?_)))))
 dsimp only
 have kv:∀ y∈(scope.names.filter fun y=>(y.2== .local || y.2== .cell) && y.1 !=(".0" :Str)).reverse,y.2= .local→
   yb3 {c with scope:=relabel scope X.env} y.1=some .local:=fun y hy hl=>lookup_relabel_local (en y (wB.mp (ybM.mp hy)).1 hl)
 refine wpAny_holding (yD (wpAny_attempt (wpAny_holding (wpAny_run (codeAny_mono h4 fun r s5 hr=>?_)))))
 cases r with
 | ok f=>
  obtain ⟨m,hn,hq⟩:=hr
  exact yD (wpAny_holding (wpAny_comp_letGo (cenv:={c with scope:=relabel scope X.env}) ek _ s5 m kv hn fun h' _ _ sb=>yP (hq h' sb)))
 | error x=>
  obtain ⟨m,hn,hq⟩:=hr
  exact yD (wpAny_holding (wpAny_comp_letGo (cenv:={c with scope:=relabel scope X.env}) ek _ s5 m kv hn fun h' _ _ sb=>wpAny_mono (hq h' sb) (fun _ _ z=>z.elim) fun _ _ z=>z))
noncomputable abbrev zaH (X:Cx) (N:List Str) (scope:Scope) (cl:List (Str×Addr)) (fp:List Addr) (s:Shared) (H:Hp):Cx:=
 (za8 X N scope cl fp s H).wish (notedBy (model X.prog X.w) X.A (compEnvC scope cl s.heap.objs.size X.env) (zk0 X (compEnvC scope cl s.heap.objs.size X.env)))
noncomputable def OutC (X:Cx) (fp:List Addr) (s:Shared) (H:Hp):Prop:=∃ pins σ,Inv X pins σ H s∧∀ b∈fp,FpOk X pins H b
theorem zgI {prog:Program}{w:World}{A:Around}{R:Result→Shared→Prop}{s:Shared}
  {elt tg iter:Expr} {ifs:List Expr} {scope:Scope} {pos:Pos} {it acc:Value} {env:Env}
  (I:Nat→Shared→Prop)
  (turn:∀ n s,I n s→wpAny (model prog w) A (pyNext it)
   (fun r s1=>match r with
    | none=>R (.ok .next) s1
    | some v=>wpAny (model prog w) A (letOwnedTupleGo tg it v) (fun _ s2=>
      wpAny (model prog w) A (assign tg env v) (fun _ s3=>
      wpAny (model prog w) A
       (forIn ifs true fun c r=>if r=true then do
         let ok ← isTrue c env (eval c env)
         pure (ForInStep.yield ok)
        else pure (ForInStep.yield r))
       (fun ok s4=>if ok=true then
         wpAny (model prog w) A (eval elt env) (fun x s5=>
          wpAny (model prog w) A (call (.builtin "list.append") [acc,x])
           (fun _ s6=>∃ m,m < n∧I m s6) (notedBy (model prog w) A env fun x s1=>R (.error x) s1) s5) (notedBy (model prog w) A env fun x s1=>R (.error x) s1) s4
        else ∃ m,m < n∧I m s4) (notedBy (model prog w) A env fun x s1=>R (.error x) s1) s3) (notedBy (model prog w) A env fun x s1=>R (.error x) s1) s2)
      (notedBy (model prog w) A env fun x s1=>R (.error x) s1) s1)
   (notedBy (model prog w) A env fun x s1=>R (.error x) s1) s)
  (n:Nat) (h:I n s):
  codeAny (model prog w) A (.compLoop (.ListComp elt [⟨tg,iter,ifs,0⟩] scope pos) 0 it acc env) R s:=by
 refine codeAny_loop rfl I (fun n s hI=>?_) n h
 show wpAny _ A ((compTurn _ 0 it acc env).onRaise (fun x=>do noteFrame x env;theTreesLotGoes x)) _ _ s
 refine wpAny_noted (E:=fun e s'=>R (.error e) s') ?_
 rw [compTurn_list]
 refine yD (wpAny_standAt (yD (wpAny_mono (turn n s hI) (fun r s1 h1=>?_) fun _ _ z=>z)))
 cases r with
 | none=>exact yP h1
 | some v=>
  refine yD (wpAny_mono h1 (fun _ s2 h2=>yD (wpAny_mono h2 (fun _ s3 h3=>
   yD (wpAny_mono h3 (fun ok s4 h4=>?_) fun _ _ z=>z)) fun _ _ z=>z)) fun _ _ z=>z)
  cases ok with
  | false=>exact yP ⟨rfl,h4⟩
  | true=>
   exact yD (yD (wpAny_mono h4 (fun x s5 h5=>yD (wpAny_mono h5
    (fun _ s6 h6=>yP (yP ⟨rfl,h6⟩)) fun _ _ z=>z)) fun _ _ z=>z))
theorem zkg {X:Cx}{elt tg iter:Expr}{ifs:List Expr}{scope:Scope}{pos:Pos}{N:List Str}{n:Nat}{cap:List Nat}{g:TG}{tt:TT}{te:TE}
  {cl:List (Str×Addr)} {E:Value→Shared→Prop} {QQ:Value→Shared→Prop}
  (hc:X.calm=true) (B:Blk X scope N n cap) (c1:∀ x c,cl.lookup x=some c→X.env.cells.lookup x=some c) (c2:∀ y∈scope.names,y.2= .free→∃ c,cl.lookup y.1=some c)
  (hk:zeN n g) (hg:∀ cl fp s H,PG (zaH X N scope cl fp s H) tg g) (ht:∀ cl fp s H,PTs (zaH X N scope cl fp s H) ifs tt) (he:∀ cl fp s H,OutC X fp s H→PE (zaH X N scope cl fp s H) elt te)
  {pins:List (Addr×Obj)} {σ :St} {Q:VK} {itv:Value} {s2:Shared}
  (h:PIE X pins σ tg (fun J H1=>∀ D,H1 D=none→zcA J D n cap σ g tt te Q H1) itv s2)
  (hRR:∀ (D C:Addr) (H':Hp) (s':Shared) (m:Str→Option Value),Inv X pins σ H' s'→FpOk X pins H' C→s'.heap.Ns C m→Q (.ref D) H'→∀ h',jL C s'.heap h'→QQ (.ref D) {s' with heap:=h'}):
  wpAny (model X.prog X.w) X.A (newList []) (fun acc s3=>
   wpAny (model X.prog X.w) X.A (newFunctionEnv scope X.env.globals cl [] X.env.qual none .none (some X.env)) (fun cenv s4=>
    codeAny (model X.prog X.w) X.A (.compStart (.ListComp elt [⟨tg,iter,ifs,0⟩] scope pos) 0 itv acc {cenv with scope:=relabel scope X.env})
     (zne X QQ acc {cenv with scope:=relabel scope X.env}) s4) E s3) E s2:=by
 obtain ⟨it,fp,tn,J,H2,e,I2,T,st2,f2,q2⟩:=h
 subst e
 refine wpAny_newObj_type ?_ (by show 0≤yH;decide)
 have hD:H2 s2.heap.objs.size=none:=I2.hok.fresh (yJ _)
 obtain ⟨W,⟨m0,w0⟩,turn⟩:=q2 _ hD
 have I3:Inv X pins σ (upd H2 s2.heap.objs.size (.lst [])) {s2 with heap:=s2.heap.push {cls:=.type "list",data:=.seq ([]:List Value).toArray},toks:=s2.toks}:=
  I2.lnew .nil (by show 0≤yH;decide)
 have st3:tn 0 (s2.heap.push {cls:=.type "list",data:=.seq ([]:List Value).toArray}):=T.keep _ _ _ st2 fun b _ o e=>yG _ e
 have obj2:=T.obj _ _ st2
 have fD:∀ b∈fp,b≠s2.heap.objs.size:=fun b hb=>by
  obtain ⟨o,eo,_⟩:=obj2 b hb
  exact qL (yU eo)
 have f3:∀ b∈fp,FpOk X pins (upd H2 s2.heap.objs.size (.lst [])) b:=fun b hb=>⟨by rw [zah (fD b hb)];exact (f2 b hb).1,(f2 b hb).2⟩
 have go3:∀ (s3:Shared) (H3:Hp),Inv X pins σ H3 s3→tn 0 s3.heap→(∀ b∈fp,FpOk X pins H3 b)→W 0 m0 H3→
   wpAny (model X.prog X.w) X.A (newFunctionEnv scope X.env.globals cl [] X.env.qual none .none (some X.env)) (fun cenv s4=>
    codeAny (model X.prog X.w) X.A (.compStart (.ListComp elt [⟨tg,iter,ifs,0⟩] scope pos) 0 (.ref it) (.ref s2.heap.objs.size) {cenv with scope:=relabel scope X.env})
     (zne X QQ (.ref s2.heap.objs.size) {cenv with scope:=relabel scope X.env}) s4) E s3:=by
  intro s3 H3 I3 st3 f3 w0
  refine wpAny_newFunctionEnv B.cell (fun y hy=>nomatch hy) (fun h4 n4 sb4=>?_) B.kind
  have k4:∀ b o,s3.heap.get? b=some o→h4.get? b=some o:=fun b o e=>sb4.extBut b o (qL (yU e)) (yG _ e)
  have fl3:∀ b∈fp,b < s3.heap.objs.size:=fun b hb=>by
   obtain ⟨o,eo,_⟩:=T.obj _ _ st3 b hb
   exact yU eo
  have I4:Inv (zaH X N scope cl fp s3 H3) [] (zaS n cap σ) H3 {s3 with heap:=h4,toks:=s3.toks+([]:List (Str×Value)).length}:=
   (zeL I3 B c1 c2 f3 fl3 n4 k4).wish _
  have st4:tn 0 h4:=T.keep _ _ _ st3 fun b _ o e=>k4 b o e
  have stat:∀ {H':Hp},(∀ b∈fp,H' b=none)→∀ b∈fp,FpOk (zaH X N scope cl fp s3 H3) [] H' b:=fun hn b hb=>by
   obtain ⟨_,a1,a2,_,a4,_⟩:=f3 b hb
   refine ⟨hn b hb,qL (fl3 b hb),fun z=>?_,.inl hb,fun x c e=>a4 x c (c1 x c e),fun p hp=>nomatch hp⟩
   rcases yN.mp (I3.stkSub b z) with e | e
   ·exact a1 e
   ·exact a2 e
  have loop:∀ s5:Shared,s5= {s3 with heap:=h4,toks:=s3.toks+([]:List (Str×Value)).length}→
    codeAny (model X.prog X.w) X.A (.compLoop (.ListComp elt [⟨tg,iter,ifs,0⟩] scope pos) 0 (.ref it) (.ref s2.heap.objs.size) (compEnvC scope cl s3.heap.objs.size X.env))
     (zne X QQ (.ref s2.heap.objs.size) (compEnvC scope cl s3.heap.objs.size X.env)) s5:=by
   rintro s5 rfl
   refine zgI (fun k s'=>∃ i H',Inv (zaH X N scope cl fp s3 H3) [] (zaS n cap σ) H' s'∧tn i s'.heap∧(∀ b∈fp,H' b=none)∧W i k H') ?_ m0
    ⟨0,H3,I4,st4,fun b hb=>(f3 b hb).1,w0⟩
   rintro k s6 ⟨i,H6,I6,st6,fr6,w6⟩
   rcases turn i k H6 w6 with ⟨stop,qn⟩ | ⟨go,N6,hN6,step⟩
   ·refine thn (T.done (zaH X N scope cl fp s3 H3) rfl rfl rfl hc i [] s6 _ H6 _ I6 (stat fr6) st6 stop) fun r s7 ⟨hr,I7⟩=>?_
    subst hr
    obtain ⟨J7,C7,m7,n7⟩:=zhz I3 I7.unwish f3
    exact ⟨m7,n7,hRR _ _ H6 s7 m7 J7 C7 n7 qn⟩
   ·refine thn (T.item (zaH X N scope cl fp s3 H3) rfl rfl rfl hc i [] s6 _ H6 _ I6 (stat fr6) st6 go) fun r s7 ⟨u,hr,h7⟩=>?_
    subst hr
    refine thn h7 fun _ s8 ⟨x,H8,I8,r8,y8,st8,fr8⟩=>?_
    have I8':=I8.pinned (stat fr8) (T.obj _ _ st8)
    refine thn (hg cl fp s3 H3 _ s8 _ H8 x u _ I8' r8 (hk _ _ _ _ (step x H8 y8))) fun _ s9 ⟨σ9,H9,I9,q9,l9,k9⟩=>?_
    refine thn (ht cl fp s3 H3 _ s9 σ9 H9 _ I9 q9) fun b s10 ⟨H10,I10,q10⟩=>?_
    have wk:∀ (z:Nat) v,(zaS n cap σ)[z]? =some (some v)→σ9[z]? =some (some v):=fun z v e=>by
     obtain ⟨kk,j,rfl,_,_⟩:=zhi e
     rw [k9 _ (xP _ _)]
     exact e
    have back:∀ {Ha:Hp} {sa:Shared} {j:Nat},Inv (zaH X N scope cl fp s3 H3) ([]++zfv fp s8.heap) σ9 Ha sa→W (i+1) j Ha→
      ∃ i H',Inv (zaH X N scope cl fp s3 H3) [] (zaS n cap σ) H' sa∧tn i sa.heap∧(∀ b∈fp,H' b=none)∧W i j H':=fun {Ha sa j} Ia wa=>by
     refine ⟨i+1,Ha,(Ia.unpinned).weak l9.symm wk,T.keep _ _ _ st8 fun b hb o e=>(Ia.pin (b,o) (qA _ (qA _ (zbx hb e)))).1,fun b hb=>?_,wa⟩
     obtain ⟨o,e,d⟩:=T.obj _ _ st8 b hb
     exact (Ia.pin (b,o) (qA _ (qA _ (zbx hb e)))).2.1
    cases b with
    | false=>
     rw [if_neg qG] at q10 ⊢
     obtain ⟨m',hm,w'⟩:=hN6 _ q10
     exact ⟨m',hm,back I10 w'⟩
    | true=>
     rw [if_pos rfl] at q10 ⊢
     refine thn (he cl fp s3 H3 ⟨pins,σ,I3,f3⟩ _ s10 σ9 H10 _ I10 q10) fun y s11 ⟨yv,H11,I11,r11,q11⟩=>?_
     obtain ⟨xs,eD,hl,q11⟩:=q11
     obtain ⟨m',hm,w'⟩:=hN6 _ q11
     refine thn (zbc _ s11 σ9 H11 (.ref s2.heap.objs.size) [yv] (.ref s2.heap.objs.size) [y] (fun _ Hz=>Hz=upd H11 s2.heap.objs.size (.lst (xs++ [yv]))) I11 rfl (.cons r11 .nil)
      ⟨_,xs,yv,rfl,rfl,eD,hl,rfl⟩) fun _ s12 ⟨_,H12,I12,_,e12⟩=>?_
     subst e12
     exact ⟨m',hm,back I12 w'⟩
  exact codeAny_compStart_list (loop _ rfl) (T.self _ _ _ _ _ st4 (loop _ rfl))
 exact go3 _ _ I3 st3 f3 w0
section
variable {X:Cx} {elt tg iter:Expr} {ifs:List Expr} {scope:Scope} {pos:Pos} {N:List Str} {n:Nat} {cap:List Nat} {wi:TI} {g:TG} {tt:TT} {te:TE}
theorem zmj (hc:X.calm=true)(B:Blk X scope N n cap)(hi:PI X tg iter wi)(hk:zeN n g)
  (hg:∀ cl fp s H,PG (zaH X N scope cl fp s H) tg g) (ht:∀ cl fp s H,PTs (zaH X N scope cl fp s H) ifs tt) (he:∀ cl fp s H,OutC X fp s H→PE (zaH X N scope cl fp s H) elt te)
  (hs:∀ x,foldedSetIterable iter X.env x=pure x:=by intro _;rfl):PE X (.ListComp elt [⟨tg,iter,ifs,0⟩] scope pos) (zix n cap wi g tt te):=by
 intro pins s σ H Q I h
 obtain ⟨cl,ecl,c1,c2⟩:=zdN (scope:=scope) (env:=X.env) fun y hy k=>I.ok.has y.1 (B.free y hy k)
 rw [eval_ListComp]
 refine zl4 rfl hs ecl B.kind B.names ?_
 refine thn (hi pins s σ H _ I h) fun v s1 h1=>thn h1 fun itv s2 h2=>?_
 refine zkg (QQ:=EP X pins σ Q) hc B c1 c2 hk hg ht he h2 fun D C H' s' m J f nn q h' sb=>?_
 exact ⟨.ref D,H',J.turned (t':=s'.toks) (fun b o hb e=>sb.extBut b o hb e) f.1 f.2.1 f.2.2.2.1 f.2.2.2.2.1 f.2.2.2.2.2,rfl,q⟩
end
theorem Un.leftX {fs ex:List Addr}{H H':Hp}{h h' h'':Heap}(u:Un fs ex H H' h h')(k:∀ b o ob,b∉fs→b∉ex→h.get? b=some ob→h'.get? b=some o→h''.get? b=some o)
  (ks:∀ b o,b∈fs→h'.get? b=some o→∃ sl,h''.get? b=some {o with slots:=sl}):Un fs ex H H' h h'':=by
 refine ⟨fun b o e n hb hx=>k b o o hb hx e (u.keep b o e n hb hx),fun b o e n hb hx=>?_,u.free,fun b o e hx=>?_,u.tups,u.frzs,u.tbls⟩
 ·obtain ⟨sl,q⟩:=u.slot b o e n hb hx
  obtain ⟨sl',q'⟩:=ks b _ hb q
  exact ⟨sl',q'⟩
 ·obtain ⟨o',q⟩:=u.there b o e hx
  by_cases hb:b∈fs
  ·obtain ⟨sl,q'⟩:=ks b o' hb q
   exact ⟨_,q'⟩
  ·exact ⟨o',k b o' o hb hx e q⟩
section
variable {P:Program} {w:World} {K:PySem.W.Frag} {mg:Str→Option Value} {base:Heap} {N:List Str} {qual:Str} {scope:Scope} {f C:Addr} {cd:Value} {A:Around} {outer:List Env} {s:Shared} {H:Hp} {E:XK}
theorem zhK {N':List Str}{scope':Scope}{cl:List (Str×Addr)}{fp:List Addr}{s3:Shared}{H3:Hp}(o:OutC (cxOf (CXC P w (.ref C)) P w K mg base N qual scope f cd A outer s H E) fp s3 H3):
  zdn (CXC P w (.ref C)) (zaH (cxOf (CXC P w (.ref C)) P w K mg base N qual scope f cd A outer s H E) N' scope' cl fp s3 H3) E:=by
 intro pins σ H1 s1 e s' I cx
 obtain ⟨pins0,σ0,I0,f0⟩:=o
 obtain ⟨x,H',rfl,hos,hb,un,ok,⟨newx,hx,T,a0,oe,vs,oT,ts,ex,ec,ed,e1,nT,hT,Tx,eT,edT,e3⟩,q⟩:=cx
 have IB:=I.call' hos un ok hb (fun b z=>absurd z (by simp))
 have u:Un (frs (envOfC qual scope s.heap.objs.size f cd::outer)) fp H3 H' s3.heap s'.heap:=IB.base
 have u1:Un (frs (envOfC qual scope s.heap.objs.size f cd::outer)) fp H3 H1 s3.heap s1.heap:=I.base
 have fr0:s1.heap.FunFrames base (envOfC qual scope s.heap.objs.size f cd::outer):=I.stack
 have frf:∀ b∈frs (envOfC qual scope s.heap.objs.size f cd::outer),H1 b=none:=I.stkFree
 obtain ⟨B,hB⟩:=zbX s'.heap (x::T::s3.heap.objs.size::frs (envOfC qual scope s.heap.objs.size f cd::outer))
 have frs':∀ b∈frs (envOfC qual scope s.heap.objs.size f cd::outer),H' b=none:=IB.stkFree
 have fl:s'.heap.FunFrames B (envOfC qual scope s.heap.objs.size f cd::outer):=
  zbv fr0 (fun b z o ho=>un.slot b o ho (frf b z) z (by simp)) fun b z=>(hB b).1 (.tail _ (.tail _ (.tail _ z)))
 have st:B.StaysIn s'.heap:=fun b o hb=>by
  by_cases z:b∈x::T::s3.heap.objs.size::frs (envOfC qual scope s.heap.objs.size f cd::outer)
  ·rw [(hB b).1 z] at hb;cases hb
  ·rw [(hB b).2 z] at hb;exact hb
 show wpAny _ _ (noteFrame (.ref x) (compEnvC scope' cl s3.heap.objs.size (envOfC qual scope s.heap.objs.size f cd))) _ _ s'
 rw [zlG (a:=compEnvC scope' cl s3.heap.objs.size (envOfC qual scope s.heap.objs.size f cd)) (b:=envOfC qual scope s.heap.objs.size f cd) rfl]
 refine wpAny_noteFrame_onW (base:=B) (cls:=.ref C) (a0:=a0) I.ok.frames fl rfl ⟨oe,vs,T,oT,ts,ex,ec,ed,e1,(hB T).1 (.tail _ (.head _)),Tx,eT,edT,e3⟩ st ((hB x).1 (.head _)) fun h1 ⟨k1,k2,k3,k4⟩=>?_
 obtain ⟨m,hn,_⟩:=IB.loc
 have hn1:h1.Ns s3.heap.objs.size m:=Heap.UpToSlots.ns k4 hn
 refine ⟨m,hn1,fun h2 sb=>?_⟩
 have nof:∀ {b:Addr} {ob:Obj} {ws:Array Value},h1.get? b=some ob→ob.data= .fields ws→b≠s3.heap.objs.size:=fun {b ob ws} eb db z=>by
  obtain ⟨o2,es,ep,ho,hd,_⟩:=hn1
  rw [← z,eb] at ho
  cases ho
  rw [db] at hd
  cases hd
 have same:∀ b,b≠s3.heap.objs.size→h2.get? b=h1.get? b:=fun b hb=>sb.2 b hb
 have st2:B.StaysIn h2:=fun b o eb=>by
  rw [same b fun z=>by rw [z,(hB _).1 (.tail _ (.tail _ (.head _)))] at eb;cases eb]
  exact k1 b o eb
 have fC:∀ b∈frs (envOfC qual scope s.heap.objs.size f cd::outer),b≠s3.heap.objs.size:=fun b z y=>by
  obtain ⟨_,o2,h2',_⟩:=I0.stack.mem z
  exact absurd (yU h2') (by rw [y];exact xZ _)
 have fl2:h2.FunFrames B (envOfC qual scope s.heap.objs.size f cd::outer):=zbv k2 (fun b z o ho=>⟨o.slots,by rw [same b (fC b z)];exact ho⟩) fun b z=>(hB b).1 (.tail _ (.tail _ (.tail _ z)))
 have tr2:h2.TracedAtW B x (.ref C) a0 (rawInt s.heap.objs.size):=by
  obtain ⟨oe1,vs1,T1,oT1,ts1,ex1,ec1,ed1,e11,nT1,Tx1,eT1,edT1,e31⟩:=k3
  exact ⟨oe1,vs1,T1,oT1,ts1,by rw [same _ (nof ex1 ed1)];exact ex1,ec1,ed1,e11,nT1,Tx1,by rw [same _ (nof eT1 edT1)];exact eT1,edT1,e31⟩
 obtain ⟨oe1,vs1,T1,oT1,ts1,ex1,ec1,ed1,e11,nT1,Tx1,eT1,edT1,e31⟩:=id tr2
 show wpAny _ _ (passOn _ (.ref x) _) _ _ {s' with heap:=h2}
 unfold PySem.passOn
 refine yD (wpAny_field ex1 ed1 e11 ?_)
 rw [if_neg (show ¬((Value.ref T1==Value.none)=true) from by simp)]
 have fin:wpAny (model P w) (A.deeper (envOfC qual scope s.heap.objs.size f cd)) (leaving (envOfC qual scope s.heap.objs.size f cd) (.ref x)) (fun _ s''=>CXC P w (.ref C) outer H s E (.ref x) s'') (fun e' s''=>CXC P w (.ref C) outer H s E e' s'') {s' with heap:=h2}:=by
  unfold leaving
  refine yD (wpAny_noteFrame_againW (L:=s.heap.objs.size) rfl tr2 ?_)
  refine wpAny_setFlight_noneW (base:=B) (l:=envOfC qual scope s.heap.objs.size f cd::outer) st2 fl2 tr2 fun h3 j1 j2 j3 j4=>?_
  have k:∀ b o,b∉s3.heap.objs.size::frs (envOfC qual scope s.heap.objs.size f cd::outer)→b≠x→b≠T→s'.heap.get? b=some o→h3.get? b=some o:=fun b o n1 n2 n3 eb=>j1 b o (by
   rw [(hB b).2 fun z=>by
    rcases yN.mp z with z | z
    ·exact n2 z
    ·rcases yN.mp z with z | z
     ·exact n3 z
     ·exact n1 z]
   exact eb)
  have ks:∀ b o,b∈frs (envOfC qual scope s.heap.objs.size f cd::outer)→s'.heap.get? b=some o→∃ sl,h3.get? b=some {o with slots:=sl}:=fun b o z eb=>by
   have nf:∀ ws,o.data≠.fields ws:=by
    obtain ⟨_,o2,h2',h3'⟩:=fl.mem z
    rw [eb] at h2'
    cases h2'
    exact h3'
   obtain ⟨sl,y⟩:=k4 b o eb nf
   exact ⟨sl,j4 b _ ((same b (fC b z)).trans y) nf⟩
  have un4:Un (frs (envOfC qual scope s.heap.objs.size f cd::outer)) fp H3 H' s3.heap h3:=u.leftX (fun b o ob nb nx eb eo=>by
   obtain ⟨o1,e1'⟩:=u1.there b ob eb nx
   refine k b o (fun z=>?_) (fun z=>?_) (fun z=>?_) eo
   ·rcases yN.mp z with z | z
    ·exact absurd (yU eb) (by rw [z];exact xZ _)
    ·exact nb z
   ·rw [z,newx] at e1';cases e1'
   ·rw [z,nT] at e1';cases e1') ks
  have ok4:HOk P w H' h3:=ok.left (fun b z=>by
   rcases yN.mp z with z | z
   ·rw [z];exact IB.free
   ·exact frs' b z) hx hT k
  have J:=I0.call' (s':={s' with heap:=h3}) (ch:=fp) IB.os un4 ok4 hb fun b z=>by
   obtain ⟨_,c1,_,c3,c4,c5⟩:=f0 b z
   exact ⟨c3,c1,c4,c5⟩
  have n0:∀ {b:Addr},s1.heap.get? b=none→s.heap.get? b=none:=fun {b} z=>by
   cases y:s.heap.get? b with
   | none=>rfl
   | some ob=>
    obtain ⟨o',y'⟩:=I0.base.there b ob y (by show b∉[];simp)
    obtain ⟨o'',y''⟩:=u1.there b o' y' fun hm=>by
     rcases (f0 b hm).2.2.2.1 with z | z
     ·exact nomatch z
     ·exact absurd (yU y) (yb2.mpr z)
    rw [z] at y''
    cases y''
  have nC:s.heap.get? s3.heap.objs.size=none:=by
   cases y:s.heap.get? s3.heap.objs.size with
   | none=>rfl
   | some ob=>exact absurd (yU y) (yb2.mpr I0.sz)
  obtain ⟨oe3,vs3,T3,oT3,ts3,ex3,ec3,ed3,e13,nT3,Tx3,eT3,edT3,e33⟩:=j3
  have gT:s.heap.get? T3=none∧H' T3=none:=by
   by_cases z:T3∈x::T::s3.heap.objs.size::frs (envOfC qual scope s.heap.objs.size f cd::outer)
   ·rcases yN.mp z with z | z
    ·exact absurd z Tx3
    rcases yN.mp z with z | z
    ·rw [z];exact ⟨n0 nT,hT⟩
    rcases yN.mp z with z | z
    ·rw [z];exact ⟨nC,IB.free⟩
    ·obtain ⟨_,o2,h2',h3'⟩:=j2.mem z
     rw [eT3] at h2'
     cases h2'
     exact absurd edT3 (h3' _)
   ·have z':s'.heap.get? T3=none:=by rw [← (hB T3).2 z];exact nT3
    refine ⟨n0 ?_,zb7 ok z'⟩
    cases y:s1.heap.get? T3 with
    | none=>rfl
    | some ob=>
     obtain ⟨o',y'⟩:=un.there T3 ob y (by simp)
     rw [z'] at y'
     cases y'
  exact ⟨x,H',rfl,J.os,hb,J.base,ok4,⟨n0 newx,hx,T3,a0,oe3,vs3,oT3,ts3,ex3,ec3,ed3,e13,gT.1,gT.2,Tx3,eT3,edT3,e33⟩,q⟩
 have step:wpAny (model P w) (A.deeper (envOfC qual scope s.heap.objs.size f cd)) (setFlight (.ref x) (some s.heap.objs.size)) (fun _ s''=>wpAny (model P w) (A.deeper (envOfC qual scope s.heap.objs.size f cd)) (throw (.ref x):Sem Value) (fun _ _=>False) (cxOf (CXC P w (.ref C)) P w K mg base N qual scope f cd A outer s H E).xe s'') (cxOf (CXC P w (.ref C)) P w K mg base N qual scope f cd A outer s H E).xe {s' with heap:=h2}:=by
  unfold setFlight
  refine yD (wpAny_field ex1 ed1 e11 ?_)
  rw [if_pos (show (Value.ref T1 !=Value.none)=true from by simp)]
  show wpAny _ _ (setField (.ref T1) 3 (rawInt s.heap.objs.size)) _ _ _
  refine wpAny_setField eT1 edT1 (vY.mp e31).1 ?_
  show wpAny _ _ _ _ _ {s' with heap:=h2.update T1 (Obj.mapFields (·.setIfInBounds 3 (rawInt s.heap.objs.size)))}
  rw [Heap.update_setField_same h2 T1 oT1 ts1 3 (rawInt s.heap.objs.size) eT1 edT1 e31]
  exact wpAny_throw fin
 first
  | exact yD (yP (yD step))
  | exact yD step
end
theorem zkN {X:Cx}{elt tg iter:Expr}{ifs:List Expr}{scope:Scope}{pos:Pos}{N:List Str}{n:Nat}{cap:List Nat}{wi:TI}{g:TG}{tt:TT}{te:TE}(hc:X.calm=true)(B:Blk X scope N n cap)(hi:Bx (PI X tg iter wi))(hk:zeN n g)
  (hg:∀ cl fp s H,Bx (PG (zaH X N scope cl fp s H) tg g)) (ht:∀ cl fp s H,Bx (PTs (zaH X N scope cl fp s H) ifs tt)) (he:∀ cl fp s H,OutC X fp s H→Bx (PE (zaH X N scope cl fp s H) elt te))
  (hs:∀ x,foldedSetIterable iter X.env x=pure x:=by intro _;rfl):Bx (PE X (.ListComp elt [⟨tg,iter,ifs,0⟩] scope pos) (zix n cap wi g tt te)):=
 ⟨zmj hc B hi.1 hk (fun a b c d=>(hg a b c d).1) (fun a b c d=>(ht a b c d).1) (fun a b c d o=>(he a b c d o).1) hs⟩
section
variable {X:Cx}
end
noncomputable def cutL (c:Nat):List Nat→List (List Nat)
 | []=>[[]]
 | a::l=>if a=c then []::cutL c l else match cutL c l with
  | []=>[[a]]
  | p::ps=>(a::p)::ps
theorem zg9 (c:Nat):∀ l,cutL c l≠[]
 | []=>fun z=>nomatch z
 | a::l=>by
  unfold cutL
  split
  ·exact fun z=>nomatch z
  ·split <;> exact fun z=>nomatch z
theorem zcK (c:Nat):∀ l,∀ p∈cutL c l,c∉p
 | [],p,hp=>by
  rw [yK.mp hp]
  exact fun z=>nomatch z
 | a::l,p,hp=>by
  have ih:=zcK c l
  unfold cutL at hp
  split at hp
  ·rcases yN.mp hp with e | hp
   ·rw [e];exact fun z=>nomatch z
   ·exact ih p hp
  ·rename_i ne
   split at hp
   ·rw [yK.mp hp]
    exact fun z=>ne (yK.mp z).symm
   ·rename_i q qs e
    rcases yN.mp hp with e2 | hp
    ·rw [e2]
     intro z
     rcases yN.mp z with z | z
     ·exact ne z.symm
     ·exact ih q (by rw [e];exact .head _) z
    ·exact ih p (by rw [e];exact .tail _ hp)
theorem zfQ (c:Nat):∀ l,My.zbr c (cutL c l)=l
 | []=>rfl
 | a::l=>by
  have ih:=zfQ c l
  have ne:=zg9 c l
  unfold cutL
  split
  ·rename_i e
   subst e
   cases h:cutL a l with
   | nil=>exact absurd h ne
   | cons q qs=>
    rw [h] at ih
    show []++a::My.zbr a (q::qs)=_
    rw [ih]
    rfl
  ·cases h:cutL c l with
   | nil=>exact absurd h ne
   | cons q qs=>
    rw [h] at ih
    show My.zbr c ((a::q)::qs)=_
    cases qs with
    | nil=>
     show a::q=_
     rw [show q=l from ih]
    | cons r rs=>
     show (a::q)++c::My.zbr c (r::rs)=_
     rw [← ih]
     rfl
section
variable {X:Cx}
theorem zfZ:MtR X "str.split" (fun x vs H Q=>∃ (z:Str) (c:Nat) (y:Str),x= .str z∧vs= [.str y]∧y=⟨#[c]⟩∧xA y=1∧z.length≤100000∧
  ∀ D,H D=none→Q (.ref D) (upd H D (.lst ((cutL c z.cps.toList).map fun p=>V.str ⟨p.toArray⟩)))):=by
 intro pins s σ H x vs v us Q I rx rv h
 obtain ⟨z,c,y,rfl,rfl,ey,hy,hz,q⟩:=h
 by_cases h0:z.length=0
 ·obtain ⟨tk,rfl⟩:=rx
  obtain ⟨u,rfl,ru⟩:=rv.one
  obtain ⟨tu,rfl⟩:=ru
  have e0:z.cps.toList= []:=jT.mp (by rw [yY];exact h0)
  have ez:z=⟨([]:List Nat).toArray⟩:=by
   cases z with
   | mk a=>congr 1;exact xI.mp (by simpa using e0)
  rw [e0] at q
  have y1:y.length=1:=by rw [ey];rfl
  refine call_meets F.slot_str_split (typeIs_str s z tk) F.entry_str_split (F.args_str_split_2 _ _) (meets_str_split_cannot_occur z y tk tu (by rw [h0,y1];rfl)) ?_
  refine ⟨.ref s.heap.objs.size,_,I.laid (t':=s.toks) (fun b u e=>yG _ e) (yJ _) ?_,rfl,q _ (I.hok.fresh (yJ _))⟩
  exact ⟨(by show 1≤yH;decide),_,0,.cons (show RelV (.str ⟨([]:List Nat).toArray⟩) (.str z tk) from ⟨tk,by rw [ez]⟩) .nil,yZ _ rfl⟩
 ·refine zji pins s σ H _ _ v us Q I rx rv ⟨z,y,rfl,rfl,?_,by rw [ey];rfl,hz,fun D hD=>?_⟩
  ·have h2: 1≤xA z:=by
    unfold xA
    split
    ·decide
    ·split <;> decide
   have h3:y.length=1:=by rw [ey];rfl
   rw [hy,h3,decide_eq_false (by omega),decide_eq_false (by omega)]
   rfl
  ·subst ey
   rw [My.ziT (z:=z) (c:=c) (parts:=cutL c z.cps.toList) (zg9 _ _) (zcK _ _) (zfQ _ _).symm,jX]
   exact q D hD
variable {D:Addr} {n0:Nat} {cap:List Nat} {σ :St} {g:TG} {tt:TT} {te:TE} {Q:VK} {H1:Hp}
end
section
variable {X:Cx} {pins:List (Addr×Obj)} {σ :St} {H:Hp} {s:Shared}
open PySem.Builtin PySem.Builtin.Str in
open PySem.Builtin PySem.Builtin.Str in
end
section
variable {X:Cx}
theorem zdZ (x y:Str):(x++y).length=x.length+y.length:=by
 show (x.cps++y.cps).size=_
 rw [ybB]
 rfl
end
section
variable {X:Cx} {C S f:Addr} {k:Nat} {fd:FuncData} {ps:List Str} {sp:Sp} {dvs:List V} {ds:List Value} {nid nid2:String} {bB bB2:List Value} {fx sx n y:Str} {p np hpos cpos epos pos pos':Pos} {b₀ :Stmt} {suite:List Stmt} {i j:Nat} {t:TA} {ts:TS} {e:Expr} {es:List Expr}
end
noncomputable def rJoinA:V→List V→Hp→VK→Prop:=fun x vs H Q=>∃ (sep:Str) (l:Addr) (zs:List Str),x= .str sep∧vs= [.ref l]∧H l=some (.lst (zs.map V.str))∧(zs.map (·.length)).sum+zs.length * sep.length≤100000∧Q (.str (xE sep zs)) H
theorem zdA {X:Cx}:MtR X "str.join" rJoinA:=by
 intro pins s σ H x vs v us Q I rx rv h
 obtain ⟨sep,l,zs,ex,ev,hH,hz,q⟩:=h
 cases zs with
 | cons z zs=>exact zoY pins s σ H x vs v us Q I rx rv ⟨sep,l,z::zs,ex,ev,hH,by rw [yO];omega,hz,q⟩
 | nil=>
  subst ex ev
  obtain ⟨tk,rfl⟩:=rx
  obtain ⟨u,rfl,ru⟩:=rv.one
  cases ru
  obtain ⟨z,its,n,r,hl,e⟩:=I.lstM hH
  obtain ⟨ps,rfl,ez⟩:=zfB (zs:=[]) r
  have ep:ps= []:=yah.mp ez
  subst ep
  refine call_meets F.slot_str_join (typeIs_str s sep tk) F.entry_str_join (F.args_str_join_2 _ _) (meets_str_join_list sep tk l [] rfl) ⟨⟨_,e,rfl,n,rfl⟩,?_⟩
  show (Made.str (ybz sep [])).post _ s
  rw [ya0]
  exact ⟨(by show 0≤yH;decide),⟨.str _,H,I.tok _,⟨_,rfl⟩,q⟩⟩
section
variable {prog:Program} {w:World} {A:Around} {E:Value→Shared→Prop} {s:Shared}
end
section
variable {prog:Program} {w:World}
end
section
variable {prog:Program} {w:World} {A:Around} {R:Result→Shared→Prop}
end
section
variable {prog:Program} {w:World} {A:Around} {E:Value→Shared→Prop} {s:Shared}
end
section
variable {prog:Program} {w:World} {A:Around} {E:Value→Shared→Prop} {s:Shared}
end
section
variable {prog:Program} {w:World} {A:Around} {E:Value→Shared→Prop} {s:Shared}
end
section
variable {prog:Program} {w:World} {A:Around} {E:Value→Shared→Prop} {s:Shared}
end
section
variable {prog:Program} {w:World} {A:Around} {E:Value→Shared→Prop} {s:Shared}
end
section
variable {X:Cx} {e:Expr} {te:TE} {p p' pos pos':Pos} {xs xt:Str}
end
section
variable {prog:Program} {w:World} {A:Around} {E:Value→Shared→Prop} {s:Shared}
end
section
variable {X:Cx}
end
end L2
namespace My
open PySem L2
end My
namespace L2
open PySem PySem.Spec PyProof.Rows
section
variable {prog:Program} {w:World} {A:Around} {R:Result→Shared→Prop} {I:Addr} {fp wr:List Addr} {n:Nat} {P:Nat→Value→Prop} {St:Nat→Heap→Prop}
end
section
variable {prog:Program} {w:World} {A:Around} {E:Value→Shared→Prop} {s:Shared} {l:Addr} {xs:Array (Int×Tok)}
end
section
variable {X:Cx}
end
open PySem.W (Dat kqdP kqdPs kqdOk)
noncomputable def znH:List Int→List Nat
 | []=>[]
 | [b]=>[48+b.toNat]
 | b::c::r=>(48+b.toNat):: 44:: 32::znH (c::r)
theorem zkT {b:Int}(h:b=0∨b=1):(yB (toString b)).cps.toList= [48+b.toNat]:=by
 rcases h with rfl | rfl <;> decide+kernel
theorem zlF (a b:Str):(a++b).cps.toList=a.cps.toList++b.cps.toList:=by
 show (a.cps++b.cps).toList=_
 rw [vE]
theorem zdH:∀ ns:List Int,(∀ b∈ns,b=0∨b=1)→(xE ", " (ns.map fun n=>((toString n:String):Str))).cps.toList=znH ns
 | [],_=>rfl
 | [b],h=>zkT (h b (.head _))
 | b::c::r,h=>by
  have e1:=zkT (h b (.head _))
  have e2:=zdH (c::r) fun x hx=>h x (.tail _ hx)
  show (yB (toString b)++", " ++xE ", " ((c::r).map fun n=>((toString n:String):Str))).cps.toList=_
  rw [zlF,zlF,e1,e2]
  rfl
section
variable {X:Cx}
end
end L2
namespace L2
open PySem PySem.Spec PyProof.Rows
section
variable {prog:Program} {w:World} {A:Around} {E:Value→Shared→Prop} {s:Shared}
end
section
variable {X:Cx}
end
section
open PySem.SeqAt
open PySem.AutoSeq1 (wpAny_loadPart')
open PySem.MeetsSeq PySem.MeetsSeq2 PySem.MeetsSeq3
end
section
variable {prog:Program} {w:World} {A:Around} {E:Value→Shared→Prop} {s:Shared}
end
section
variable {X:Cx}
end
end L2
namespace My
open PySem L2
open PySem.W (Dat kqdP kqdPs kqdOk)
section
variable {m:Nat} {a b:zaB} {fs gs:List Flt}
end
end My
namespace My
open PySem L2
open PySem.W (Dat kqdP kqdPs kqdOk)
section
variable {m:Nat} {w:zaB} {st F:List Flt} {row:List Int}
end
section
variable {m:Nat} {w:zaB} {keep:Nat→Bool} {fs:List Flt} {row:List Int}
end
end My
namespace L2
open PySem PySem.Spec PyProof.Rows
section
variable {M:Model} {A:Around} {E:Value→Shared→Prop}
variable {nm q nm2 q2:Str} {C N S N2:Addr} {bs bm bs2 bm2:List Value} {hdct hd2:Bool} {sn sn2:List Str} {sub sub2:List Value} {ab ab2:Bool} {col col2:Option Bool} {dd dd2:Option Addr} {k0 k1 k2 k3 k5 l0 l1 l2 l3 l5:Option Value} {newId newId2:String}
end
section
variable {X:Cx} {pins:List (Addr×Obj)} {σ :St} {H1:Hp} {s1 s':Shared} {C S:Addr} {nid nid2:String} {bB bB2:List Value} {sx n:Str} {np hpos:Pos} {b₀ :Stmt} {suite:List Stmt} {j:Nat} {ts:TS} {D:Ends} {E':XK} {e:Value}
end
theorem zoB:bootBuiltins "ValueError" =some (.type "ValueError"):=by kernel_rfl
theorem zcJ {X:Cx}{K0:PySem.W.Frag}{C:Addr}{B nid:String}{bB:List Value}(Z:XcOk K0 C B nid bB)(hK:X.K=K0):zcZ X (.builtin "isinstance") (rIsX K0 C):=by subst hK;exact znt Z
theorem zks {X:Cx}{K0:PySem.W.Frag}{C:Addr}{B nid:String}{bB:List Value}(Z:XcOk K0 C B nid bB)(hK:X.K=K0):zcZ X (.builtin "isinstance") (rIsXT K0 C):=by subst hK;exact zll Z
section
variable {X:Cx} {C S f:Addr} {k k2:Nat} {fd:FuncData} {ps:List Str} {spG spX:Sp} {dvs:List V} {ds:List Value} {nid nid2:String} {bB bB2:List Value} {fx sx n:Str} {p np hpos cpos epos pos:Pos} {b₀ :Stmt} {suite body a b:List Stmt} {j:Nat} {ta:TA} {tc:TT} {ts:TS} {t u:(Addr→Hp→Prop)→TS} {e c:Expr} {es:List Expr}
end
section
variable {X:Cx} {pins:List (Addr×Obj)} {σ :St} {H:Hp} {s:Shared}
end
section
variable {X:Cx}
end
section
variable {X:Cx} {e l k:Expr} {te tl tk:TE} {pos p2:Pos}
end
section
variable {D:Addr} {n0:Nat} {cap:List Nat} {σ :St} {g:TG} {tt:TT} {te:TE} {Q:VK} {H1:Hp}
end
noncomputable def zmA (X:Cx) (OK:Value→Env→Shared→Prop) (acc:Value) (c:Env):Result→Shared→Prop
 | .ok _,s1=>OK acc c s1
 | .error x,s1=>zk0 X c x s1
noncomputable def okU (X:Cx) (u:Value→Sem Unit) (QQ:Value→Shared→Prop) (acc:Value) (c:Env) (s1:Shared):Prop:=
 wpAny (model X.prog X.w) X.A (u acc) (fun _ s2=>∃ m,s2.heap.Ns c.locals m∧∀ h',jL c.locals s2.heap h'→QQ .none {s2 with heap:=h'}) X.xe s1
theorem zjW {X:Cx}{s:Shared}{e:Expr}{scope:Scope}{pos:Pos}{mk first:Sem Value}{g:Comprehension}{gs:List Comprehension}{cl:List (Str×Addr)}{u:Value→Sem Unit}{QQ:Value→Shared→Prop}
  (ec:clausesOf e=g::gs) (es:∀ x,foldedSetIterable g.iter X.env x=pure x) (el:closureFor scope X.env=pure cl) (ek:scope.kind= .function) (en:∀ y∈scope.names,y.2= .local→scope.names.lookup y.1=some .local)
  (h:wpAny (model X.prog X.w) X.A first (fun x s1=>wpAny (model X.prog X.w) X.A (pyIter x) (fun it s2=>wpAny (model X.prog X.w) X.A mk (fun acc s3=>
   wpAny (model X.prog X.w) X.A (newFunctionEnv scope X.env.globals cl [] X.env.qual none .none (some X.env)) (fun c s4=>
    codeAny (model X.prog X.w) X.A (.compStart e 0 it acc {c with scope:=relabel scope X.env}) (zmA X (okU X u QQ) acc {c with scope:=relabel scope X.env}) s4) X.xe s3) X.xe s2) X.xe s1) X.xe s):
  wpAny (model X.prog X.w) X.A (comprehension e scope X.env pos mk false first (some u)) QQ X.xe s:=by
 unfold comprehension
 rw [el,ec]
 refine yD (thn h fun x s1 h1=>yD (wpAny_standAt (yD (wpAny_of_eq (es x) (yD (wpAny_holding (thn h1 fun it s2 h2=>?_)))))))
 refine wpAny_standIf (yD (thn h2 fun acc s3 h3=>yD (yP (yD (thn h3 fun c s4 h4=>?_)))))
 dsimp only
 have kv:∀ y∈(scope.names.filter fun y=>(y.2== .local || y.2== .cell) && y.1 !=(".0" :Str)).reverse,y.2= .local→
   yb3 {c with scope:=relabel scope X.env} y.1=some .local:=fun y hy hl=>lookup_relabel_local (en y (wB.mp (ybM.mp hy)).1 hl)
 have kv':∀ x∈(scope.names.filter fun x=>(x.2== .local || x.2== .cell) && x.1 !=(".0" :Str)).reverse.drop 1++(scope.names.filter fun x=>(x.2== .local || x.2== .cell) && x.1 !=(".0" :Str)).reverse.take 1,
   x.2= .local→yb3 {c with scope:=relabel scope X.env} x.1=some .local:=fun x hx hl=>by
  rcases yS.mp hx with h1 | h1
  ·exact kv x (List.mem_of_mem_drop h1) hl
  ·exact kv x (ya6 h1) hl
 refine wpAny_holding (yD (wpAny_attempt (wpAny_holding (wpAny_run (codeAny_mono h4 fun r s5 hr=>?_)))))
 cases r with
 | ok f=>
  refine yD (wpAny_rule (yD (wpAny_holding (wpAny_mono (show okU X u QQ acc _ s5 from hr) (fun _ s6 hr'=>?_) fun _ _ h'=>h'))))
  obtain ⟨m,hn,hq⟩:=hr'
  exact yD (wpAny_comp_letGo (cenv:={c with scope:=relabel scope X.env}) ek _ s6 m kv' hn fun h' m' _ hs'=>yP (hq h' hs'))
 | error x=>
  obtain ⟨m,hn,hq⟩:=hr
  exact yD (wpAny_holding (wpAny_comp_letGo (cenv:={c with scope:=relabel scope X.env}) ek _ s5 m kv hn fun h' _ _ sb=>wpAny_mono (hq h' sb) (fun _ _ z=>z.elim) fun _ _ z=>z))
theorem zkc {X:Cx}{elt tg iter:Expr}{ifs:List Expr}{scope:Scope}{pos:Pos}{N:List Str}{n:Nat}{cap:List Nat}{g:TG}{tt:TT}{te:TE}
  {cl:List (Str×Addr)} {E:Value→Shared→Prop} {OK:Value→Env→Shared→Prop}
  (hc:X.calm=true) (B:Blk X scope N n cap) (c1:∀ x c,cl.lookup x=some c→X.env.cells.lookup x=some c) (c2:∀ y∈scope.names,y.2= .free→∃ c,cl.lookup y.1=some c)
  (hk:zeN n g) (hg:∀ cl fp s H,PG (zaH X N scope cl fp s H) tg g) (ht:∀ cl fp s H,PTs (zaH X N scope cl fp s H) ifs tt) (he:∀ cl fp s H,OutC X fp s H→PE (zaH X N scope cl fp s H) elt te)
  {pins:List (Addr×Obj)} {σ :St} {Q:VK} {itv:Value} {s2:Shared}
  (h:PIE X pins σ tg (fun J H1=>∀ D,H1 D=none→zcA J D n cap σ g tt te Q H1) itv s2)
  (hRR:∀ (D C:Addr) (H':Hp) (s':Shared) (m:Str→Option Value) (c:Env),c.locals=C→Inv X pins σ H' s'→FpOk X pins H' C→s'.heap.Ns C m→Q (.ref D) H'→OK (.ref D) c s'):
  wpAny (model X.prog X.w) X.A (newList []) (fun acc s3=>
   wpAny (model X.prog X.w) X.A (newFunctionEnv scope X.env.globals cl [] X.env.qual none .none (some X.env)) (fun cenv s4=>
    codeAny (model X.prog X.w) X.A (.compStart (.ListComp elt [⟨tg,iter,ifs,0⟩] scope pos) 0 itv acc {cenv with scope:=relabel scope X.env})
     (zmA X OK acc {cenv with scope:=relabel scope X.env}) s4) E s3) E s2:=by
 obtain ⟨it,fp,tn,J,H2,e,I2,T,st2,f2,q2⟩:=h
 subst e
 refine wpAny_newObj_type ?_ (by show 0≤yH;decide)
 have hD:H2 s2.heap.objs.size=none:=I2.hok.fresh (yJ _)
 obtain ⟨W,⟨m0,w0⟩,turn⟩:=q2 _ hD
 have I3:Inv X pins σ (upd H2 s2.heap.objs.size (.lst [])) {s2 with heap:=s2.heap.push {cls:=.type "list",data:=.seq ([]:List Value).toArray},toks:=s2.toks}:=
  I2.lnew .nil (by show 0≤yH;decide)
 have st3:tn 0 (s2.heap.push {cls:=.type "list",data:=.seq ([]:List Value).toArray}):=T.keep _ _ _ st2 fun b _ o e=>yG _ e
 have obj2:=T.obj _ _ st2
 have fD:∀ b∈fp,b≠s2.heap.objs.size:=fun b hb=>by
  obtain ⟨o,eo,_⟩:=obj2 b hb
  exact qL (yU eo)
 have f3:∀ b∈fp,FpOk X pins (upd H2 s2.heap.objs.size (.lst [])) b:=fun b hb=>⟨by rw [zah (fD b hb)];exact (f2 b hb).1,(f2 b hb).2⟩
 have go3:∀ (s3:Shared) (H3:Hp),Inv X pins σ H3 s3→tn 0 s3.heap→(∀ b∈fp,FpOk X pins H3 b)→W 0 m0 H3→
   wpAny (model X.prog X.w) X.A (newFunctionEnv scope X.env.globals cl [] X.env.qual none .none (some X.env)) (fun cenv s4=>
    codeAny (model X.prog X.w) X.A (.compStart (.ListComp elt [⟨tg,iter,ifs,0⟩] scope pos) 0 (.ref it) (.ref s2.heap.objs.size) {cenv with scope:=relabel scope X.env})
     (zmA X OK (.ref s2.heap.objs.size) {cenv with scope:=relabel scope X.env}) s4) E s3:=by
  intro s3 H3 I3 st3 f3 w0
  refine wpAny_newFunctionEnv B.cell (fun y hy=>nomatch hy) (fun h4 n4 sb4=>?_) B.kind
  have k4:∀ b o,s3.heap.get? b=some o→h4.get? b=some o:=fun b o e=>sb4.extBut b o (qL (yU e)) (yG _ e)
  have fl3:∀ b∈fp,b < s3.heap.objs.size:=fun b hb=>by
   obtain ⟨o,eo,_⟩:=T.obj _ _ st3 b hb
   exact yU eo
  have I4:Inv (zaH X N scope cl fp s3 H3) [] (zaS n cap σ) H3 {s3 with heap:=h4,toks:=s3.toks+([]:List (Str×Value)).length}:=
   (zeL I3 B c1 c2 f3 fl3 n4 k4).wish _
  have st4:tn 0 h4:=T.keep _ _ _ st3 fun b _ o e=>k4 b o e
  have stat:∀ {H':Hp},(∀ b∈fp,H' b=none)→∀ b∈fp,FpOk (zaH X N scope cl fp s3 H3) [] H' b:=fun hn b hb=>by
   obtain ⟨_,a1,a2,_,a4,_⟩:=f3 b hb
   refine ⟨hn b hb,qL (fl3 b hb),fun z=>?_,.inl hb,fun x c e=>a4 x c (c1 x c e),fun p hp=>nomatch hp⟩
   rcases yN.mp (I3.stkSub b z) with e | e
   ·exact a1 e
   ·exact a2 e
  have loop:∀ s5:Shared,s5= {s3 with heap:=h4,toks:=s3.toks+([]:List (Str×Value)).length}→
    codeAny (model X.prog X.w) X.A (.compLoop (.ListComp elt [⟨tg,iter,ifs,0⟩] scope pos) 0 (.ref it) (.ref s2.heap.objs.size) (compEnvC scope cl s3.heap.objs.size X.env))
     (zmA X OK (.ref s2.heap.objs.size) (compEnvC scope cl s3.heap.objs.size X.env)) s5:=by
   rintro s5 rfl
   refine zgI (fun k s'=>∃ i H',Inv (zaH X N scope cl fp s3 H3) [] (zaS n cap σ) H' s'∧tn i s'.heap∧(∀ b∈fp,H' b=none)∧W i k H') ?_ m0
    ⟨0,H3,I4,st4,fun b hb=>(f3 b hb).1,w0⟩
   rintro k s6 ⟨i,H6,I6,st6,fr6,w6⟩
   rcases turn i k H6 w6 with ⟨stop,qn⟩ | ⟨go,N6,hN6,step⟩
   ·refine thn (T.done (zaH X N scope cl fp s3 H3) rfl rfl rfl hc i [] s6 _ H6 _ I6 (stat fr6) st6 stop) fun r s7 ⟨hr,I7⟩=>?_
    subst hr
    obtain ⟨J7,C7,m7,n7⟩:=zhz I3 I7.unwish f3
    exact hRR _ _ H6 s7 m7 _ rfl J7 C7 n7 qn
   ·refine thn (T.item (zaH X N scope cl fp s3 H3) rfl rfl rfl hc i [] s6 _ H6 _ I6 (stat fr6) st6 go) fun r s7 ⟨u,hr,h7⟩=>?_
    subst hr
    refine thn h7 fun _ s8 ⟨x,H8,I8,r8,y8,st8,fr8⟩=>?_
    have I8':=I8.pinned (stat fr8) (T.obj _ _ st8)
    refine thn (hg cl fp s3 H3 _ s8 _ H8 x u _ I8' r8 (hk _ _ _ _ (step x H8 y8))) fun _ s9 ⟨σ9,H9,I9,q9,l9,k9⟩=>?_
    refine thn (ht cl fp s3 H3 _ s9 σ9 H9 _ I9 q9) fun b s10 ⟨H10,I10,q10⟩=>?_
    have wk:∀ (z:Nat) v,(zaS n cap σ)[z]? =some (some v)→σ9[z]? =some (some v):=fun z v e=>by
     obtain ⟨kk,j,rfl,_,_⟩:=zhi e
     rw [k9 _ (xP _ _)]
     exact e
    have back:∀ {Ha:Hp} {sa:Shared} {j:Nat},Inv (zaH X N scope cl fp s3 H3) ([]++zfv fp s8.heap) σ9 Ha sa→W (i+1) j Ha→
      ∃ i H',Inv (zaH X N scope cl fp s3 H3) [] (zaS n cap σ) H' sa∧tn i sa.heap∧(∀ b∈fp,H' b=none)∧W i j H':=fun {Ha sa j} Ia wa=>by
     refine ⟨i+1,Ha,(Ia.unpinned).weak l9.symm wk,T.keep _ _ _ st8 fun b hb o e=>(Ia.pin (b,o) (qA _ (qA _ (zbx hb e)))).1,fun b hb=>?_,wa⟩
     obtain ⟨o,e,d⟩:=T.obj _ _ st8 b hb
     exact (Ia.pin (b,o) (qA _ (qA _ (zbx hb e)))).2.1
    cases b with
    | false=>
     rw [if_neg qG] at q10 ⊢
     obtain ⟨m',hm,w'⟩:=hN6 _ q10
     exact ⟨m',hm,back I10 w'⟩
    | true=>
     rw [if_pos rfl] at q10 ⊢
     refine thn (he cl fp s3 H3 ⟨pins,σ,I3,f3⟩ _ s10 σ9 H10 _ I10 q10) fun y s11 ⟨yv,H11,I11,r11,q11⟩=>?_
     obtain ⟨xs,eD,hl,q11⟩:=q11
     obtain ⟨m',hm,w'⟩:=hN6 _ q11
     refine thn (zbc _ s11 σ9 H11 (.ref s2.heap.objs.size) [yv] (.ref s2.heap.objs.size) [y] (fun _ Hz=>Hz=upd H11 s2.heap.objs.size (.lst (xs++ [yv]))) I11 rfl (.cons r11 .nil)
      ⟨_,xs,yv,rfl,rfl,eD,hl,rfl⟩) fun _ s12 ⟨_,H12,I12,_,e12⟩=>?_
     subst e12
     exact ⟨m',hm,back I12 w'⟩
  exact codeAny_compStart_list (loop _ rfl) (T.self _ _ _ _ _ st4 (loop _ rfl))
 exact go3 _ _ I3 st3 f3 w0
section
variable {X:Cx} {elt tg iter:Expr} {ifs:List Expr} {scope:Scope} {pos:Pos} {N:List Str} {n:Nat} {cap:List Nat} {wi:TI} {g:TG} {tt:TT} {te:TE}
theorem znb {i:Nat}{x:Str}{pos' spos:Pos}(hc:X.calm=true)(B:Blk X scope N n cap)(hN:X.N.Nodup)(hi:X.N[i]? =some x)(hx:X.env.scope.names.lookup x=some .local)(hit:PI X tg iter wi)(hk:zeN n g)
  (hg:∀ cl fp s H,PG (zaH X N scope cl fp s H) tg g) (ht:∀ cl fp s H,PTs (zaH X N scope cl fp s H) ifs tt) (he:∀ cl fp s H,OutC X fp s H→PE (zaH X N scope cl fp s H) elt te)
  (hsw:swapsWith (.ListComp elt [⟨tg,iter,ifs,0⟩] scope pos) (some (.Name x pos')) spos.line X.env=pure true)
  (hs:∀ x,foldedSetIterable iter X.env x=pure x:=by intro _;rfl):
  PS X (.Assign [.Name x pos'] (.ListComp elt [⟨tg,iter,ifs,0⟩] scope pos) spos) (tAsg (zix n cap wi g tt te) (zdO i)):=by
 intro pins s σ H D I h
 obtain ⟨cl,ecl,c1,c2⟩:=zdN (scope:=scope) (env:=X.env) fun y hy k=>I.ok.has y.1 (B.free y hy k)
 rw [exec_Assign_Name_used _ _ _ _ hsw]
 refine yD (wpAny_standAt (yD ?_))
 show wpAny _ X.A (do
  let _ ← comprehension (.ListComp elt [⟨tg,iter,ifs,0⟩] scope pos) scope X.env _ (newList []) false (eval iter X.env)
   (some (assign (.Name x pos') X.env))) _ _ s
 refine yD (thn (zjW (u:=assign (.Name x pos') X.env) (QQ:=fun _ s'=>SP X pins D .next s') rfl hs ecl B.kind B.names ?_) fun _ s' hq=>yP (yP hq))
 refine thn (hit pins s σ H _ I h) fun v s1 h1=>thn h1 fun itv s2 h2=>?_
 refine zkc (Q:=fun y H2=>zdO i y σ H2 D.nx) (OK:=okU X (assign (.Name x pos') X.env) (fun _ s'=>SP X pins D .next s')) hc B c1 c2 hk hg ht he h2 fun Dl C H' s' m c ec J f nn q=>?_
 unfold okU
 rw [ec]
 refine wpAny_assign_Name (zfu J hN hi (.inl hx) (show RelV (.ref Dl) (.ref Dl) from rfl) (fun s3 I3 ⟨a,sb,ha⟩=>?_) (.inr hx))
 have ca:C≠a:=by
  rcases ha with e | e
  ·rw [e];exact f.2.1
  ·exact fun z=>f.2.2.2.2.1 x a e z.symm
 refine ⟨m,nn.sameBut sb ca,fun h' sb'=>⟨_,H',I3.turned (t':=s3.toks) (fun b o hb e=>sb'.extBut b o hb e) f.1 f.2.1 f.2.2.2.1 f.2.2.2.2.1 f.2.2.2.2.2,q⟩⟩
theorem zkE {k:Nat}{x:Str}{pos' spos:Pos}(hc:X.calm=true)(B:Blk X scope N n cap)(hN:X.N.Nodup)(hi:X.N[k]? =some x)(hx:X.env.scope.names.lookup x=some .local)(hit:Bx (PI X tg iter wi))(hk:zeN n g)
  (hg:∀ cl fp s H,Bx (PG (zaH X N scope cl fp s H) tg g)) (ht:∀ cl fp s H,Bx (PTs (zaH X N scope cl fp s H) ifs tt)) (he:∀ cl fp s H,OutC X fp s H→Bx (PE (zaH X N scope cl fp s H) elt te))
  (hsw:swapsWith (.ListComp elt [⟨tg,iter,ifs,0⟩] scope pos) (some (.Name x pos')) spos.line X.env=pure true)
  (hs:∀ x,foldedSetIterable iter X.env x=pure x:=by intro _;rfl):
  Bx (PS X (.Assign [.Name x pos'] (.ListComp elt [⟨tg,iter,ifs,0⟩] scope pos) spos) (tAsg (zix n cap wi g tt te) (zdO k))):=
 ⟨znb hc B hN hi hx hit.1 hk (fun a b c d=>(hg a b c d).1) (fun a b c d=>(ht a b c d).1) (fun a b c d o=>(he a b c d o).1) hsw hs⟩
end
section
variable {X:Cx}
noncomputable def cutN (lo hi:Option Int) (n:Nat):Nat:=(Builtin.Str.strSliceIndices lo hi 1 n).length
end
section
variable {X:Cx} {pins:List (Addr×Obj)} {σ :St} {H:Hp} {s:Shared}
open PySem.Builtin PySem.Builtin.Str in
end
section
variable {X:Cx}
end
section
variable {prog:Program} {w:World} {A:Around} {E:Value→Shared→Prop} {s:Shared}
end
section
variable {X:Cx} {k1 v1 k2 v2 e f:Expr} {tk1 tv1 tk2 tv2 te tf:TE} {dp apos cpos:Pos}
end
section
variable {X:Cx} {CX:CXT} {k:Nat} {f C:Addr} {fd:FuncData} {ps:List Str} {ds:List Value} {dvs:List V} {sp:Sp} {E:XK} {x m:Str} {p pos apos pos':Pos} {e o value:Expr} {es:List Expr} {ta tv:TE} {t:TA}
theorem zlb (he:Bx (PE X e ta))(hb:attributeBase e x X.env (eval e X.env)=eval e X.env):Bx (PE X (.Attribute e x pos) (tFld X.K ta x)):=⟨pe_fld he.1 hb⟩
theorem zho (ha:Bx (PE X o ta))(hv:Bx (PE X value tv))(hs:swapsWith value (some (.Attribute o x pos')) pos.line X.env=pure false):Bx (PS X (.Assign [.Attribute o x pos'] value pos) (sFld X.K ta tv x)):=⟨ps_fld ha.1 hv.1 hs⟩
theorem zmJ {pl:Sem Bool}(he:Bx (PE X o ta))(c:Cls X.K C)(hm:Meth X.K C m f)(F:FnOk X.prog X.w X.K X.mg X.base CX k f fd ps sp)(hr:Room k X.A)(hb:zdb X.K fd ps ds)(hd:Vals dvs ds)(hx:zdn CX X E)(ha:Bx (PA X (e::es) t))
  (hst:starEach (e::es) X.env=(false,eval e X.env)::starEach es X.env:=by rfl) (hpl:(backTo pos (starEach es X.env)).any (·.1)=false:=by rfl)
  (ht:eval (.Call (.Attribute o m apos) (e::es) [] pos) X.env=(do
   let ov ← eval o X.env
   standAt apos.atName
   let (f,first) ← holding [ov] (getMethod ov m pl)
   callWith pos f first (backTo pos (starEach (e::es) X.env)) (backToKw pos (keywordEach [] X.env))):=by rfl):
  Bx (PE X (.Call (.Attribute o m apos) (e::es) [] pos) (tMeth C m sp dvs E ta t)):=⟨zpe he.1 c hm F hr hb hd hx ha.1 hst hpl ht⟩
theorem zlc (M:Mk X.K C f)(F:FnOk X.prog X.w X.K X.mg X.base CX k f fd ps sp)(hr:Room (k+1) X.A)(hg:Gl X x)(hm:X.mg x=some (.ref C))(hb:zdb X.K fd ps ds)(hd:Vals dvs ds)(hx:zdn CX X E)
  (hdb:(x==("__debug__" :Str))=false:=by decide):Bx (PE X (.Call (.Name x p) [] [] pos) (tMake C sp dvs E tNil)):=⟨znl M F hr hg hm hb hd hx hdb⟩
end
noncomputable def tTryM (C0:Addr) (m:Str) (sp:Sp) (dvs:List V) (C:Addr) (i j:Nat) (ta:TE) (t:TA) (ts:TS):TS:=fun D σ H=>ta σ H fun x H0=>∃ a dx fs,x= .ref a∧H0 a=some (.ins C0 dx fs)∧fs.lookup m=none∧
 t σ H0 fun vs H1=>sp (x::(vs++dvs)) H1 (fun v H2=>D.nx (σ.set i (some v)) H2) fun _ ox H2=>∀ x,ox=some x→H2 x=none→ts (D1 D j) (σ.set j (some (.ref x))) (upd H2 x (excO x C))
section
variable {X:Cx} {C0 C S f:Addr} {k:Nat} {fd:FuncData} {ps:List Str} {sp:Sp} {dvs:List V} {ds:List Value} {nid nid2:String} {bB bB2:List Value} {m sx n y:Str} {p np hpos cpos apos epos pos pos':Pos} {b₀ :Stmt} {suite:List Stmt} {i j:Nat} {ta:TE} {t:TA} {ts:TS} {o e:Expr} {es:List Expr}
theorem zn0 {pl:Sem Bool}(ho:PE X.nox o ta)(c:Cls X.K C0)(hm:Meth X.K C0 m f)(F:FnOk X.prog X.w X.K X.mg X.base (CXC X.prog X.w (.ref C)) k f fd ps sp)(hr:Room k X.A)(hb:zdb X.K fd ps ds)(hd:Vals dvs ds)(ha:PA X.nox (e::es) t)
  (hcalm:X.calm=true) (hst:X.stack=X.env::X.outer) (hfm:X.env.frame=some X.env.locals) (hgS:Gl X sx) (hmS:X.mg sx=some (.ref S))
  (cC:PySem.W.excIn X.K C bB nid=true) (cS:PySem.W.excIn X.K S bB2 nid2=true) (b2:bB2.contains (.type "BaseException")=true) (hin:(zir X.K C).tail.contains (.ref S)=true)
  (hN:X.N.Nodup) (hi:X.N[i]? =some y) (hy:Loc X.env.scope y) (hf:X.fn y=true∨X.env.scope.names.lookup y=some .local) (hj:X.N[j]? =some n) (hn:X.env.scope.names.lookup n=some .local) (hs:∀ x,PSs (X.marked x) (b₀ ::suite) ts) (hdb:(sx==("__debug__" :Str))=false:=by decide)
  (he:starEach (e::es) X.env=(false,eval e X.env)::starEach es X.env:=by rfl) (hpl:(backTo cpos (starEach es X.env)).any (·.1)=false:=by rfl)
  (ht:eval (.Call (.Attribute o m apos) (e::es) [] cpos) X.env=(do
   let ov ← eval o X.env
   standAt apos.atName
   let (f,first) ← holding [ov] (getMethod ov m pl)
   callWith cpos f first (backTo cpos (starEach (e::es) X.env)) (backToKw cpos (keywordEach [] X.env))):=by rfl)
  (hsw:swapsWith (.Call (.Attribute o m apos) (e::es) [] cpos) (some (.Name y pos')) epos.line X.env=pure false:=by rfl):
  PS X (.Try [.Assign [.Name y pos'] (.Call (.Attribute o m apos) (e::es) [] cpos) epos] [.ExceptHandler (some (.Name sx np)) (some n) (b₀ ::suite) hpos] [] [] pos) (tTryM C0 m sp dvs C i j ta t ts):=by
 intro pins s σ H D I h
 refine wpAny_Try_except (wpAny_execs_cons (wpAny_Assign_Name (wpAny_mono (Q:=EP X pins σ fun v H2=>D.nx (σ.set i (some v)) H2) ?_ (fun v s1 ⟨x,H1,I1,r1,q1⟩=>zfi I1 hN hi hy r1 (fun s2 I2=>wpAny_execs_nil (wpAny_execs_nil ⟨_,H1,I2,q1⟩)) hf) fun _ _ z=>z) hsw))
 refine PySem.W.methodCall_KW (pl:=pl) (wpAny_mono (ho pins s σ H _ (I.wish _) h) (fun u s1 ⟨x,H1,I1,rx,a,dx,fs,ex,ea,l,q⟩=>?_) fun _ _ z=>z.elim) ht
 subst ex
 replace I1:=I1.unwish
 obtain rfl:u=Value.ref a:=rx
 refine zgp I1 ea c hm l ?_
 refine PySem.W.callWith_K (first:=[.ref a]) (h₀ :=X.base) I.ok.mod.kin hm.kp (wpAny_mono (ha cpos pins s1 σ H1 _ (I1.wish _) q) (fun us s2 ⟨vs,H2,I2,r,q2⟩=>⟨I2.kIn,?_⟩) fun _ _ z=>z.elim) he hpl
 replace I2:=I2.unwish
 have r2:Vals (.ref a::(vs++dvs)) (.ref a::(us++ds)):=.cons rfl (r.append hd)
 have hl:((.ref a::us)++ds).length=ps.length:=by
  have e:=r2.length
  rw [F.len _ _ _ _ q2] at e
  exact e.symm
 refine wpAny_call (codeAny_mono (F.run X.A X.stack s2 H2 ⟨.ref a::us,[]⟩ (.ref a::(us++ds)) (.ref a::(vs++dvs)) _ _ hr I2.env0 (hb s2 (.ref a::us) I2.kIn hl) r2 q2) fun r s3 hq=>?_)
 cases r with
 | error e2=>
  replace hq:CXC X.prog X.w (.ref C) X.stack H2 s2 (fun _ ox H2=>∀ x,ox=some x→H2 x=none→ts (D1 D j) (σ.set j (some (.ref x))) (upd H2 x (excO x C))) e2 s3:=hq
  exact zlp I2 hcalm hst hfm hgS hmS cC cS b2 hin hN hj hn hs hdb hq fun x H2 z y=>z x rfl y
 | ok fl=>
  cases fl with
  | ret u=>exact I2.after hq
  | next=>exact hq.elim
  | brk=>exact hq.elim
  | cont=>exact hq.elim
end
theorem zbM {X:Cx}{st:Stmt}:Bx (PS X st zmc):=zci
section
variable {X:Cx} {C0 C S f:Addr} {k2:Nat} {fd:FuncData} {ps:List Str} {sp:Sp} {dvs:List V} {ds:List Value} {nid nid2:String} {bB bB2:List Value} {m sx n y:Str} {p np hpos cpos apos epos pos pos':Pos} {b₀ :Stmt} {suite:List Stmt} {k j:Nat} {ta:TE} {t:TA} {ts:TS} {o e:Expr} {es:List Expr}
theorem zmh {pl:Sem Bool}(ho:Bx (PE X.nox o ta))(c:Cls X.K C0)(hm:Meth X.K C0 m f)(F:FnOk X.prog X.w X.K X.mg X.base (CXC X.prog X.w (.ref C)) k2 f fd ps sp)(hr:Room k2 X.A)(hb:zdb X.K fd ps ds)(hd:Vals dvs ds)(ha:Bx (PA X.nox (e::es) t))
  (hcalm:X.calm=true) (hst:X.stack=X.env::X.outer) (hfm:X.env.frame=some X.env.locals) (hgS:Gl X sx) (hmS:X.mg sx=some (.ref S))
  (cC:PySem.W.excIn X.K C bB nid=true) (cS:PySem.W.excIn X.K S bB2 nid2=true) (b2:bB2.contains (.type "BaseException")=true) (hin:(zir X.K C).tail.contains (.ref S)=true)
  (hN:X.N.Nodup) (hi:X.N[k]? =some y) (hy:Loc X.env.scope y) (hf:X.fn y=true∨X.env.scope.names.lookup y=some .local) (hj:X.N[j]? =some n) (hn:X.env.scope.names.lookup n=some .local) (hs:∀ x,PSs (X.marked x) (b₀ ::suite) ts) (hdb:(sx==("__debug__" :Str))=false:=by decide)
  (he:starEach (e::es) X.env=(false,eval e X.env)::starEach es X.env:=by rfl) (hpl:(backTo cpos (starEach es X.env)).any (·.1)=false:=by rfl)
  (ht:eval (.Call (.Attribute o m apos) (e::es) [] cpos) X.env=(do
   let ov ← eval o X.env
   standAt apos.atName
   let (f,first) ← holding [ov] (getMethod ov m pl)
   callWith cpos f first (backTo cpos (starEach (e::es) X.env)) (backToKw cpos (keywordEach [] X.env))):=by rfl)
  (hsw:swapsWith (.Call (.Attribute o m apos) (e::es) [] cpos) (some (.Name y pos')) epos.line X.env=pure false:=by rfl):
  Bx (PS X (.Try [.Assign [.Name y pos'] (.Call (.Attribute o m apos) (e::es) [] cpos) epos] [.ExceptHandler (some (.Name sx np)) (some n) (b₀ ::suite) hpos] [] [] pos) (tTryM C0 m sp dvs C k j ta t ts)):=
 ⟨zn0 ho.1 c hm F hr hb hd ha.1 hcalm hst hfm hgS hmS cC cS b2 hin hN hi hy hf hj hn hs hdb he hpl ht hsw⟩
end
noncomputable def numT (n:Int):Str:=yB (toString n)
noncomputable def tFstr (x:Str) (te:TE):TE:=fun σ H Q=>te σ H fun v H1=>∃ n:Int,v= .int n∧n.natAbs.log2 < 1920∧(x++numT n).length≤yH∧Q (.str (x++numT n)) H1
theorem zih (x:Str):yat++x=x:=by
 show (⟨#[]++x.cps⟩:Str)=x
 rw [Array.empty_append]
theorem zm0 {X:Cx}{x:Str}{kd}{e:Expr}{p1 p2 pos:Pos}{te:TE}(he:Bx (PE X e te))(hx:x.length≤yH:=by decide+kernel):Bx (PE X (.JoinedStr [.Constant (.str x) kd p1,.FormattedValue e (-1) none p2] pos) (tFstr x te)):=by
 refine ⟨fun pins s σ H Q I h=>?_⟩
 refine JoinedStr_many (joinParts_cons ?_)
 refine ybj ?_
 have I1:Inv X pins σ H {s with toks:=s.toks+1}:=I.tok _
 refine ⟨by rw [zih];exact hx,?_⟩
 rw [zih]
 refine joinParts_cons (FormattedValue_plain (wpAny_mono (he.1 pins _ σ H _ I1 h) (fun u s1 ⟨v,H1,I2,rv,n,ev,hn,hl,q⟩=>?_) fun _ _ z=>z))
 subst ev
 obtain ⟨t,rfl⟩:=rv
 refine formatField_int_small hn ?_
 refine ⟨hl,joinParts_nil ?_ hl⟩
 exact ⟨.str (x++numT n),H1,I2.tok _,⟨_,rfl⟩,q⟩
theorem zn9 {X:Cx}:MtR X "str.partition" (fun x vs H Q=>∃ (z y:Str),x= .str z∧vs= [.str y]∧(y.length==0)=false∧z.length≤yH∧
  (∀ i r,qR z y 0 z.length 1=i::r→∀ D,H D=none→Q (.ref D) (upd H D (.tup [.str (jS z 0 i),.str y,.str (jS z (i+y.length) z.length)])))∧
  (qR z y 0 z.length 1= []→∀ D,H D=none→Q (.ref D) (upd H D (.tup [.str z,.str yat,.str yat])))):=by
 intro pins s σ H x vs v us Q I rx rv h
 obtain ⟨z,y,rfl,rfl,hy,hz,q1,q2⟩:=h
 obtain ⟨tk,rfl⟩:=rx
 obtain ⟨u,rfl,ru⟩:=rv.one
 obtain ⟨tu,rfl⟩:=ru
 refine call_meets F.slot_str_partition (typeIs_str s z tk) F.entry_str_partition (F.args_str_partition_2 _ _) (meets_str_partition z y tk tu hy hz) ?_
 cases e:qR z y 0 z.length 1 with
 | nil=>
  refine ⟨.ref s.heap.objs.size,_,I.laid (t':=s.toks+1) (fun b u e=>yG _ e) (yJ _) ?_,rfl,q2 e _ (I.hok.fresh (yJ _))⟩
  exact ⟨(by show 3≤yH;decide),_,.cons ⟨_,rfl⟩ (.cons ⟨_,rfl⟩ (.cons ⟨_,rfl⟩ .nil)),⟨_,yZ _ rfl,rfl,_,rfl⟩⟩
 | cons i r=>
  refine ⟨.ref s.heap.objs.size,_,I.laid (t':=s.toks+1+1) (fun b u e=>yG _ e) (yJ _) ?_,rfl,q1 i r e _ (I.hok.fresh (yJ _))⟩
  exact ⟨(by show 3≤yH;decide),_,.cons ⟨_,rfl⟩ (.cons ⟨_,rfl⟩ (.cons ⟨_,rfl⟩ .nil)),⟨_,yZ _ rfl,rfl,_,rfl⟩⟩
theorem zmM {X:Cx}:MtR X "str.partition" (fun x vs H Q=>∃ (z y:Str) (c:Nat),x= .str z∧vs= [.str y]∧y=⟨#[c]⟩∧z.length≤yH∧
  (∀ a b,z.cps.toList=a++c::b→c∉a→∀ D,H D=none→Q (.ref D) (upd H D (.tup [.str ⟨a.toArray⟩,.str y,.str ⟨b.toArray⟩])))∧
  (c∉z.cps.toList→∀ D,H D=none→Q (.ref D) (upd H D (.tup [.str z,.str yat,.str yat])))):=by
 intro pins s σ H x vs v us Q I rx rv h
 obtain ⟨z,y,c,rfl,rfl,ey,hz,q1,q2⟩:=h
 subst ey
 refine zn9 pins s σ H _ _ v us Q I rx rv ⟨z,_,rfl,rfl,rfl,hz,fun i r e D hD=>?_,fun e D hD=>q2 (fun hm=>?_) D hD⟩
 ·rcases ybN z ⟨#[c]⟩ 1 (yJ 1) with ⟨h0,_⟩ | ⟨i',r',h0,hi,hn⟩
  ·rw [h0] at e;cases e
  ·rw [h0] at e
   cases e
   have hm:=(yax z c i).mp hi
   obtain ⟨hlt,hv⟩:=yF.mp hm
   have e1:z.cps.toList=z.cps.toList.take i++c::z.cps.toList.drop (i+1):=by
    rw [← hv,List.getElem_cons_drop,wR]
   have e2:(jS z 0 i)=⟨(z.cps.toList.take i).toArray⟩:=by
    show (⟨_⟩:Str)=⟨_⟩
    congr 1
    apply xI.mp
    have:=xR z 0 i
    rw [ya8,Nat.sub_zero] at this
    exact this
   have e3:(jS z (i+(⟨#[c]⟩:Str).length) z.length)=⟨(z.cps.toList.drop (i+1)).toArray⟩:=by
    show (⟨_⟩:Str)=⟨_⟩
    congr 1
    apply xI.mp
    have:=xR z (i+1) z.length
    rw [xD (by simp [ybv])] at this
    exact this
   rw [e2,e3]
   refine q1 _ _ e1 (fun hc=>?_) D hD
   obtain ⟨j,hj⟩:=jR hc
   have hj2:j < i:=by
    have:=(yF.mp hj).1
    rw [yW] at this
    omega
   rw [List.getElem?_take,if_pos hj2] at hj
   exact hn j hj2 ((yax z c j).mpr hj)
 ·have:=ybC z c
  rw [e,decide_eq_true hm] at this
  cases this
theorem zgn {bs:List Bool}:∀ {us:List Value},Vals (bs.map V.bl) us→us=bs.map Value.bool:=by
 induction bs with
 | nil=>intro us h;cases h;rfl
 | cons b bs ih=>intro us h;cases h with | cons r h=>rw [ih h];cases (show _=_ from r);rfl
open PySem.SeqAt in
theorem zjE {A:Around}{s:Shared}{bs:List Bool}(k:Bool):∀ y,y∈bs.map Value.bool→EqAt A s y (.bool k) (isBoolOf k y):=fun y hy=>by
 obtain ⟨b,_,rfl⟩:=qE.mp hy
 exact EqAt.bool_bool b k
open PySem.SeqAt in
theorem zlZ {X:Cx}:MtR X "list.count" (fun x vs H Q=>∃ (l:Addr) (bs:List Bool) (k:Bool),x= .ref l∧vs= [.bl k]∧H l=some (.lst (bs.map V.bl))∧Q (.int (bs.countP (· ==k):Nat)) H):=by
 intro pins s σ H x vs v us Q I rx rv h
 obtain ⟨l,bs,k,rfl,rfl,hH,q⟩:=h
 cases (show _=_ from rx)
 obtain ⟨u,rfl,ru⟩:=rv.one
 cases (show _=_ from ru)
 obtain ⟨z,its,n,r,hl,e⟩:=I.lstM hH
 obtain rfl:=zgn r
 refine call_meets F.slot_list_count ⟨_,e,rfl⟩ F.entry_list_count (F.args_list_count_2 _ _) (list_countAt l _ n none #[] (.bool k) (isBoolOf k)) ⟨e,fun y hy=>zjE k y (by simpa using hy),?_⟩
 refine ⟨.int _,H,I.tok _,⟨_,rfl⟩,?_⟩
 have e2:((bs.map Value.bool).toArray.toList.countP (isBoolOf k))=bs.countP (· ==k):=by
  rw [List.countP_map]
  rfl
 rw [e2]
 exact q
open PySem.SeqAt in
theorem zlL {X:Cx}:MtR X "list.index" (fun x vs H Q=>∃ (l:Addr) (bs:List Bool) (k:Bool) (j:Nat),x= .ref l∧vs= [.bl k]∧H l=some (.lst (bs.map V.bl))∧bs.length≤1000∧bs[j]? =some k∧(∀ i,i < j→bs[i]?≠some k)∧Q (.int (j:Int)) H):=by
 intro pins s σ H x vs v us Q I rx rv h
 obtain ⟨l,bs,k,j,rfl,rfl,hH,hb,hj,hno,q⟩:=h
 cases (show _=_ from rx)
 obtain ⟨u,rfl,ru⟩:=rv.one
 cases (show _=_ from ru)
 obtain ⟨z,its,n,r,hl,e⟩:=I.lstM hH
 obtain rfl:=zgn r
 obtain ⟨hlt,hv⟩:=yF.mp hj
 refine call_meets F.slot_list_index ⟨_,e,rfl⟩ F.entry_list_index (F.args_list_index_2 _ _) (list_indexAt l _ n none #[] (.bool k) (isBoolOf k) j (by simpa using hlt) (by omega) ?_ fun m hm lt=>?_) ⟨e,fun y hy=>zjE k y (by simpa using hy),?_⟩
 ·simp [isBoolOf,hv]
 ·have hm':m < bs.length:=by simpa using hm
  have:=hno m lt
  rw [yQ hm'] at this
  simp only [List.getElem_toArray,List.getElem_map,isBoolOf]
  exact beq_eq_false_iff_ne.mpr fun z=>this (by rw [z])
 ·exact ⟨.int _,H,I.tok _,⟨_,rfl⟩,q⟩
theorem zl7 {X:Cx}:zcZ X (.type "str") (fun xs H Q=>(∃ i,xs= [.int i]∧i.natAbs.log2 < 1920∧Q (.str (toString i)) H)∨∃ z,xs= [.str z]∧Q (.str z) H):=by
 intro pins s σ H xs us Q I r h
 rcases h with h | ⟨z,rfl,q⟩
 ·exact za6 pins s σ H xs us Q I r h
 ·obtain ⟨u,rfl,t,rfl⟩:=zhb r
  exact PySem.P.str_of_str ⟨.str z,H,I,⟨_,rfl⟩,q⟩
theorem zoS {z:Str}{c e:Nat}{a b:List Nat}(hz:z.cps.toList=a++c::e::b)(ha:c∉a)(hb:c∉b)(ce:c≠e):qR z ⟨#[c,e]⟩ 0 z.length (z.length+1)= [a.length]:=by
 have sub:∀ i,Builtin.Str.subAt z ⟨#[c,e]⟩ i=true↔(z.cps.toList.drop i).take 2= [c,e]:=fun i=>by
  rw [StrLaws.subAt_eq]
  exact beq_iff_eq
 have at_:∀ i,StrLaws.At z ⟨#[c,e]⟩ z.length i→i=a.length:=fun i h=>by
  have h2:=(sub i).mp h.2
  have h3:z.cps.toList[i]? =some c:=by
   have:z.cps.toList[i]? =(z.cps.toList.drop i)[0]? :=by rw [List.getElem?_drop];rfl
   rw [this]
   cases hd:z.cps.toList.drop i with
   | nil=>rw [hd] at h2;cases h2
   | cons x r=>rw [hd] at h2;rw [show x=c from (jY h2).1];rfl
  rw [hz] at h3
  rcases Nat.lt_trichotomy i a.length with h | h | h
  ·rw [jJ h] at h3
   exact absurd (yR h3) ha
  ·exact h
  ·rw [jD (by omega)] at h3
   obtain ⟨k,hk⟩:∃ k,i - a.length=k+1:=⟨i - a.length - 1,by omega⟩
   rw [hk,wJ] at h3
   cases k with
   | zero=>exact absurd (yV h3).symm ce
   | succ k=>rw [wJ] at h3;exact absurd (yR h3) hb
 have hl:z.length=a.length+2+b.length:=by
  have:z.cps.toList.length=z.length:=yY
  rw [← this,hz]
  simp
  omega
 have here:StrLaws.At z ⟨#[c,e]⟩ z.length a.length:=⟨by show a.length+2≤_;omega,(sub _).mpr (by rw [hz,ya9];rfl)⟩
 rcases ybN z ⟨#[c,e]⟩ (z.length+1) (by omega) with ⟨_,hn⟩ | ⟨i,r,h0,hi,_⟩
 ·exact absurd here (hn _)
 ·have ei:=at_ i hi
  obtain ⟨f,ch⟩:=StrLaws.occ_chain z ⟨#[c,e]⟩ (z.length+1)
  rw [h0] at ch ⊢
  cases r with
  | nil=>rw [ei]
  | cons j r=>
   have h2:=ch.2.2
   have ej:=at_ j h2.2.1
   have:i+2≤j:=h2.1
   omega
theorem zl9 {z:Str}{c e:Nat}{a b:List Nat}(hz:z.cps.toList=a++c::e::b)(ha:c∉a)(hb:c∉b)(ce:c≠e):
  xY z (qR z ⟨#[c,e]⟩ 0 z.length (z.length+1)) (⟨#[c,e]⟩:Str).length= [⟨a.toArray⟩,⟨b.toArray⟩]:=by
 rw [zoS hz ha hb ce,yaE]
 show [jS z 0 a.length,jS z (a.length+2) z.length]=_
 have e1:jS z 0 a.length=⟨a.toArray⟩:=by
  show (⟨_⟩:Str)=⟨_⟩
  congr 1
  apply xI.mp
  have:=xR z 0 a.length
  rw [ya8,Nat.sub_zero,hz,yba] at this
  exact this
 have e2:jS z (a.length+2) z.length=⟨b.toArray⟩:=by
  show (⟨_⟩:Str)=⟨_⟩
  congr 1
  apply xI.mp
  have:=xR z (a.length+2) z.length
  rw [xD (by simp [ybv]),hz,← List.drop_drop,ya9] at this
  exact this
 rw [e1,e2]
end L2
set_option exponentiation.threshold 3000
namespace My
open PySem L2
open PySem.W (Dat kqdP kqdPs kqdOk)
noncomputable def zaw:List (Str×PyProof.Rows.KTD.Dat):=[("and",.tup ([2,4].map PyData.int)),("or",.tup ([2,4].map PyData.int)),("odd",.tup ([2,4].map PyData.int)),("not",.tup ([1,1].map PyData.int)),("choose",.tup ([3,3].map PyData.int)),("zero",.tup ([0,0].map PyData.int)),("one",.tup ([0,0].map PyData.int))]
theorem zdQ {us:List Value}(h:us.length=1):∃ x0,us= [x0]:=match us,h with | [x0],_=>⟨x0,rfl⟩
theorem zcD {us:List Value}(h:us.length=2):∃ x0 x1,us= [x0,x1]:=match us,h with | [x0,x1],_=>⟨x0,x1,rfl⟩
theorem ziX {us:List Value}(h:us.length=3):∃ x0 x1 x2,us= [x0,x1,x2]:=match us,h with | [x0,x1,x2],_=>⟨x0,x1,x2,rfl⟩
set_option genInjectivity false
structure Def (K:PySem.W.Frag) (mg:Str→Option Value) (x:Str) (st:Stmt) (ps:List Str) (f:Addr) (fd:FuncData):Prop where
 F:Fun K x x st f fd
 b:zdb K fd ps []
 m:mg x=some (.ref f)
structure DefM (K:PySem.W.Frag) (C:Addr) (x q:Str) (st:Stmt) (ps:List Str) (f:Addr) (fd:FuncData):Prop where
 F:Fun K x q st f fd
 b:zdb K fd ps []
 m:Meth K C x f
structure DefD (K:PySem.W.Frag) (mg:Str→Option Value) (x:Str) (st:Stmt) (ps:List Str) (f:Addr) (fd:FuncData) (T:Addr) (tk:Tok):Prop where
 F:FunD K x x st f fd T
 b:zdb K fd ps []
 b1:zdb K fd ps [.int 1 tk]
 m:mg x=some (.ref f)
structure Adr where
 f_works_of:Addr
 fd_works_of:FuncData
 f_check_gate:Addr
 fd_check_gate:FuncData
 f_is_kind:Addr
 fd_is_kind:FuncData
 f_are_wires_below:Addr
 fd_are_wires_below:FuncData
 f_every_row:Addr
 fd_every_row:FuncData
 f_gate_worth:Addr
 fd_gate_worth:FuncData
 dt_gate_worth:Addr
 tk_gate_worth:Tok
 f_every_fault:Addr
 fd_every_fault:FuncData
 f_stuck_places:Addr
 fd_stuck_places:FuncData
 f_worths_with:Addr
 fd_worths_with:FuncData
 dt_worths_with:Addr
 tk_worths_with:Tok
 f_leg_worths:Addr
 fd_leg_worths:FuncData
 f_outputs_with:Addr
 fd_outputs_with:FuncData
 dt_outputs_with:Addr
 tk_outputs_with:Tok
 f_outputs_seen:Addr
 fd_outputs_seen:FuncData
 f_rows_at_once:Addr
 fd_rows_at_once:FuncData
 f_first_unlike:Addr
 fd_first_unlike:FuncData
 f_unlike_numbers:Addr
 fd_unlike_numbers:FuncData
 f_first_test:Addr
 fd_first_test:FuncData
 f_parted_at:Addr
 fd_parted_at:FuncData
 f_read_works:Addr
 fd_read_works:FuncData
 f_read_fault:Addr
 fd_read_fault:FuncData
 f_read_row:Addr
 fd_read_row:FuncData
 f_read_number:Addr
 fd_read_number:FuncData
 f_read_order:Addr
 fd_read_order:FuncData
 f_read_things:Addr
 fd_read_things:FuncData
 f_two_parts:Addr
 fd_two_parts:FuncData
 f_told_of:Addr
 fd_told_of:FuncData
 f_shown_or:Addr
 fd_shown_or:FuncData
 f_shown:Addr
 fd_shown:FuncData
 f_law_cell_at:Addr
 fd_law_cell_at:FuncData
 f_law_stir:Addr
 fd_law_stir:FuncData
 f_law_deck:Addr
 fd_law_deck:FuncData
 f_law_take:Addr
 fd_law_take:FuncData
 f_law_legs:Addr
 fd_law_legs:FuncData
 f_law_works:Addr
 fd_law_works:FuncData
 f_law_gate:Addr
 fd_law_gate:FuncData
 f_law_worths:Addr
 fd_law_worths:FuncData
 f_law_text:Addr
 fd_law_text:FuncData
 f_law_told:Addr
 fd_law_told:FuncData
 f_law_put:Addr
 fd_law_put:FuncData
 f_law_figures:Addr
 fd_law_figures:FuncData
 f_law_fault:Addr
 fd_law_fault:FuncData
 f_law_first:Addr
 fd_law_first:FuncData
 f_law_shown:Addr
 fd_law_shown:FuncData
 f_law:Addr
 fd_law:FuncData
 f_Desk___init__:Addr
 fd_Desk___init__:FuncData
 f_Desk_say:Addr
 fd_Desk_say:FuncData
 f_Desk_keep_rows:Addr
 fd_Desk_keep_rows:FuncData
 c_LEG_BOUNDS:Addr
 c_WORDS_ALONE:Addr
 k_FIGURES:Tok
 x_StuckError:Addr
 x_NoWorks:Addr
 x_NoRow:Addr
 x_NoFault:Addr
 x_NoText:Addr
 x_NoOrder:Addr
 x_TooMany:Addr
 x_Desk:Addr
structure Txt (K:PySem.W.Frag) (mg:Str→Option Value) (t:Adr):Prop where
 d_works_of:Def K mg "works_of" zdC ["inputs","gates","outputs"] t.f_works_of t.fd_works_of
 d_check_gate:Def K mg "check_gate" zcy ["kind","legs","own_wire"] t.f_check_gate t.fd_check_gate
 d_is_kind:Def K mg "is_kind" zea ["word"] t.f_is_kind t.fd_is_kind
 d_are_wires_below:Def K mg "are_wires_below" zbo ["numbers","bound"] t.f_are_wires_below t.fd_are_wires_below
 d_every_row:Def K mg "every_row" zc1 ["works"] t.f_every_row t.fd_every_row
 d_gate_worth:DefD K mg "gate_worth" zbV ["kind","worths","ones"] t.f_gate_worth t.fd_gate_worth t.dt_gate_worth t.tk_gate_worth
 d_every_fault:Def K mg "every_fault" zb8 ["works"] t.f_every_fault t.fd_every_fault
 d_stuck_places:Def K mg "stuck_places" zbT ["works","faults"] t.f_stuck_places t.fd_stuck_places
 d_worths_with:DefD K mg "worths_with" zbB ["works","stuck","row","ones"] t.f_worths_with t.fd_worths_with t.dt_worths_with t.tk_worths_with
 d_leg_worths:Def K mg "leg_worths" zcn ["stuck","gate","worths"] t.f_leg_worths t.fd_leg_worths
 d_outputs_with:DefD K mg "outputs_with" zbq ["works","stuck","row","ones"] t.f_outputs_with t.fd_outputs_with t.dt_outputs_with t.tk_outputs_with
 d_outputs_seen:Def K mg "outputs_seen" zbS ["works","stuck"] t.f_outputs_seen t.fd_outputs_seen
 d_rows_at_once:Def K mg "rows_at_once" zbN ["inputs"] t.f_rows_at_once t.fd_rows_at_once
 d_first_unlike:Def K mg "first_unlike" zbP ["works","stuck","others"] t.f_first_unlike t.fd_first_unlike
 d_unlike_numbers:Def K mg "unlike_numbers" zbt ["seen","others"] t.f_unlike_numbers t.fd_unlike_numbers
 d_first_test:Def K mg "first_test" zcv ["works","faults"] t.f_first_test t.fd_first_test
 d_parted_at:Def K mg "parted_at" zcU ["works","faults","others"] t.f_parted_at t.fd_parted_at
 d_read_works:Def K mg "read_works" zct ["text"] t.f_read_works t.fd_read_works
 d_read_fault:Def K mg "read_fault" zcp ["text"] t.f_read_fault t.fd_read_fault
 d_read_row:Def K mg "read_row" zdK ["row"] t.f_read_row t.fd_read_row
 d_read_number:Def K mg "read_number" zcc ["text"] t.f_read_number t.fd_read_number
 d_read_order:Def K mg "read_order" zcu ["row"] t.f_read_order t.fd_read_order
 d_read_things:Def K mg "read_things" zb9 ["word","text"] t.f_read_things t.fd_read_things
 d_two_parts:Def K mg "two_parts" zcX ["text","between"] t.f_two_parts t.fd_two_parts
 d_told_of:Def K mg "told_of" zd8 ["works","order"] t.f_told_of t.fd_told_of
 d_shown_or:Def K mg "shown_or" zdD ["row","word"] t.f_shown_or t.fd_shown_or
 d_shown:Def K mg "shown" zhk ["worths"] t.f_shown t.fd_shown
 d_law_cell_at:Def K mg "_law_cell_at" zb6 ["script","k"] t.f_law_cell_at t.fd_law_cell_at
 d_law_stir:Def K mg "_law_stir" zdL ["cell","k"] t.f_law_stir t.fd_law_stir
 d_law_deck:Def K mg "_law_deck" zdF ["cell"] t.f_law_deck t.fd_law_deck
 d_law_take:Def K mg "_law_take" zdI ["deck","many"] t.f_law_take t.fd_law_take
 d_law_legs:Def K mg "_law_legs" zdE ["deck","kind"] t.f_law_legs t.fd_law_legs
 d_law_works:Def K mg "_law_works" zcY ["deck","most"] t.f_law_works t.fd_law_works
 d_law_gate:Def K mg "_law_gate" zdw ["kind","some"] t.f_law_gate t.fd_law_gate
 d_law_worths:Def K mg "_law_worths" zcr ["works","stuck","row"] t.f_law_worths t.fd_law_worths
 d_law_text:Def K mg "_law_text" zdz ["works"] t.f_law_text t.fd_law_text
 d_law_told:Def K mg "_law_told" zdG ["desk","row"] t.f_law_told t.fd_law_told
 d_law_put:Def K mg "_law_put" zei ["desk","text"] t.f_law_put t.fd_law_put
 d_law_figures:Def K mg "_law_figures" zcb ["worths"] t.f_law_figures t.fd_law_figures
 d_law_fault:Def K mg "_law_fault" zcV ["deck","works"] t.f_law_fault t.fd_law_fault
 d_law_first:Def K mg "_law_first" zcT ["works","one","other"] t.f_law_first t.fd_law_first
 d_law_shown:Def K mg "_law_shown" zc0 ["fault"] t.f_law_shown t.fd_law_shown
 d_law:Def K mg "law" zhy ["script"] t.f_law t.fd_law
 d_Desk___init__:DefM K t.x_Desk "__init__" "Desk.__init__" zbG ["self"] t.f_Desk___init__ t.fd_Desk___init__
 d_Desk_say:DefM K t.x_Desk "say" "Desk.say" zdB ["self","row"] t.f_Desk_say t.fd_Desk_say
 d_Desk_keep_rows:DefM K t.x_Desk "keep_rows" "Desk.keep_rows" zbs ["self","rows"] t.f_Desk_keep_rows t.fd_Desk_keep_rows
 z_ValueError:mg "ValueError" =none
 z_all:mg "all" =none
 z_dict:mg "dict" =none
 z_enumerate:mg "enumerate" =none
 z_int:mg "int" =none
 z_isinstance:mg "isinstance" =none
 z_len:mg "len" =none
 z_list:mg "list" =none
 z_min:mg "min" =none
 z_range:mg "range" =none
 z_str:mg "str" =none
 z_tuple:mg "tuple" =none
 z_zip:mg "zip" =none
 g_LEG_BOUNDS:mg "LEG_BOUNDS" =some (.ref t.c_LEG_BOUNDS)
 k_LEG_BOUNDS:TabK K t.c_LEG_BOUNDS zaw
 g_WORDS_ALONE:mg "WORDS_ALONE" =some (.ref t.c_WORDS_ALONE)
 k_WORDS_ALONE:TupK K t.c_WORDS_ALONE ["clear","fewest","bare","less","next"]
 g_FIGURES:mg "FIGURES" =some (.str "0123456789" t.k_FIGURES)
 g_StuckError:mg "StuckError" =some (.ref t.x_StuckError)
 k_StuckError:XcOk K t.x_StuckError "ValueError" "ValueError.__new__" [.type "ValueError",.type "Exception",.type "BaseException",.type "object"]
 g_NoWorks:mg "NoWorks" =some (.ref t.x_NoWorks)
 k_NoWorks:XcOk K t.x_NoWorks "ValueError" "ValueError.__new__" [.type "ValueError",.type "Exception",.type "BaseException",.type "object"]
 g_NoRow:mg "NoRow" =some (.ref t.x_NoRow)
 k_NoRow:XcOk K t.x_NoRow "ValueError" "ValueError.__new__" [.type "ValueError",.type "Exception",.type "BaseException",.type "object"]
 g_NoFault:mg "NoFault" =some (.ref t.x_NoFault)
 k_NoFault:XcOk K t.x_NoFault "ValueError" "ValueError.__new__" [.type "ValueError",.type "Exception",.type "BaseException",.type "object"]
 g_NoText:mg "NoText" =some (.ref t.x_NoText)
 k_NoText:XcOk K t.x_NoText "ValueError" "ValueError.__new__" [.type "ValueError",.type "Exception",.type "BaseException",.type "object"]
 g_NoOrder:mg "NoOrder" =some (.ref t.x_NoOrder)
 k_NoOrder:XcOk K t.x_NoOrder "ValueError" "ValueError.__new__" [.type "ValueError",.type "Exception",.type "BaseException",.type "object"]
 g_TooMany:mg "TooMany" =some (.ref t.x_TooMany)
 k_TooMany:XcOk K t.x_TooMany "ValueError" "ValueError.__new__" [.type "ValueError",.type "Exception",.type "BaseException",.type "object"]
 g_Desk:mg "Desk" =some (.ref t.x_Desk)
 cl_Desk:Cls K t.x_Desk
 mk_Desk:Mk K t.x_Desk t.f_Desk___init__
 na_rows:zeZ K t.x_Desk "rows"
 na_answers:zeZ K t.x_Desk "answers"
 i_TOrder:PySem.W.kitOne K (.ref t.x_NoText) (.ref t.x_NoOrder)=some false
 i_TText:PySem.W.kitOne K (.ref t.x_NoText) (.ref t.x_NoText)=some true
 i_TWorks:PySem.W.kitOne K (.ref t.x_NoText) (.ref t.x_NoWorks)=some false
 i_TRow:PySem.W.kitOne K (.ref t.x_NoText) (.ref t.x_NoRow)=some false
 i_TFault:PySem.W.kitOne K (.ref t.x_NoText) (.ref t.x_NoFault)=some false
 i_ToMany:PySem.W.kitOne K (.ref t.x_NoText) (.ref t.x_TooMany)=some false
 i_valueT:PySem.W.kitOne K (.ref t.x_NoText) (.type "ValueError")=some true
 i_aboveNoText:(zir K t.x_NoText).tail.contains (.ref t.x_StuckError)=true
noncomputable def znX:Sp:=fun vs H Q _=>∃ (c k:Int),vs= [.int c,.int k]∧(k=1∨k=2∨k=3)∧∀ r:Int,0≤r→r < 10 ^ 62→Q (.int r) H
noncomputable def zoN:Sp:=fun vs H Q _=>∃ c:Int,vs= [.int c]∧∀ (p:Addr) (n:Int),H p=none→Q (.ref p) (upd H p (.lst [.int n]))
noncomputable def zoL:Sp:=fun vs H Q _=>∃ (p:Addr) (n m:Int),vs= [.ref p,.int m]∧H p=some (.lst [.int n])∧0 < m∧m < 1073741824∧∀ r n':Int,0≤r→r < m→Q (.int r) (upd H p (.lst [.int n']))
noncomputable def zck (x:Str):Prop:=x="and"∨x="or"∨x="odd"∨x="not"∨x="choose"∨x="zero"∨x="one"
noncomputable def zn4:Sp:=fun vs H Q _=>∃ (p:Addr) (n:Int) (x:Str),vs= [.ref p,.str x]∧H p=some (.lst [.int n])∧zck x∧
 ∀ (r:Nat) (n':Int) (H':Hp),zbi x r→zbk p H H'→H' p=some (.lst [.int n'])→Q (.int r) H'
noncomputable def znd (K:PySem.W.Frag):Sp:=fun vs H Q _=>∃ (p:Addr) (n:Int) (most:Nat),vs= [.ref p,.int most]∧H p=some (.lst [.int n])∧most≤20∧
 ∀ (w:zaB) (r:Addr) (n':Int) (G H':Hp),WF most w→w.outs.length≤3→zbk p H H'→H' p=some (.lst [.int n'])→Same G H'→G p=none→(∀ b o,G b=some o→H b=none)→Rep K G (.ref r) (zbC w)→Q (.ref r) H'
noncomputable def zjp (K:PySem.W.Frag):Sp:=fun vs H Q _=>∃ (a:Addr) (ns:List Int),vs= [.ref a]∧SqL K H a (ns.map V.int)∧ns.length≤63∧∀ H',Q (.bl true) H'
noncomputable def hole (pd:Addr) (H:Hp):Hp:=fun z=>if z=pd then none else H z
theorem zdW {pd z:Addr}{H:Hp}(h:z≠pd):hole pd H z=H z:=if_neg h
theorem znk {pd:Addr}{H:Hp}{o:HO}(e:H pd=some o):Off [pd] (hole pd H) H:=⟨fun b v q=>by
  by_cases z:b=pd
  ·unfold hole at q
   rw [if_pos z] at q
   cases q
  ·rw [zdW z] at q
   exact q,
 fun m hm=>by rw [yK.mp hm];exact if_pos rfl,fun m hm=>by rw [yK.mp hm];exact ⟨o,e⟩⟩
noncomputable def sp_awb (K:PySem.W.Frag):Sp:=fun vs H Q _=>∃ (p:Addr) (bnd:Int) (ns:List Int),vs= [.ref p,.int bnd]∧(SqL K H p (ns.map V.int)∨SqT K H p (ns.map V.int))∧ns.length≤1000∧∀ H',Same H H'→Q (.bl (ns.all fun n=>decide (0≤n∧n < bnd))) H'
noncomputable def sp_ik (K:PySem.W.Frag):Sp:=fun vs H Q _=>∃ x:Str,vs= [.str x]∧Q (.bl (PyProof.Rows.KTD.inKeys x zaw)) H
noncomputable def TX (z:Str):Prop:=z.length≤600∧∀ c∈z.cps.toList,c < 128
noncomputable def numL (l:List Nat):Option Nat:=if l= []∨(l.head? =some 48∧l≠[48])∨¬(∀ c∈l,48≤c∧c < 58) then none else some (ze7 l)
noncomputable def zbZ:List (List Nat)→Option (List Int)
 | []=>some []
 | p::ps=>match numL p,zbZ ps with
  | some n,some ns=>some ((n:Int)::ns)
  | _,_=>none
theorem zfU:∀ {ps:List (List Nat)} {ns:List Int},zbZ ps=some ns→ns.length=ps.length
 | [],_,e=>by cases e;rfl
 | q::ps,ns,e=>by
  unfold zbZ at e
  split at e
  ·rename_i n ms e1 e2
   cases e
   rw [yO,yO,zfU e2]
  ·cases e
theorem zgL {p:List Nat}{n:Nat}(e:numL p=some n):∀ {ps:List (List Nat)} {ms:List Int},zbZ ps=some ms→zbZ (ps++ [p])=some (ms++ [(n:Int)])
 | [],ms,h=>by
  cases h
  show zbZ [p]=_
  unfold zbZ
  rw [e]
  rfl
 | q::ps,ms,h=>by
  unfold zbZ at h
  split at h
  ·rename_i k ns e1 e2
   cases h
   have ih:=zgL e e2
   show zbZ (q::(ps++ [p]))=_
   unfold zbZ
   rw [e1,ih]
   rfl
  ·cases h
theorem zhR {p:List Nat}(e:numL p=none):∀ {ps:List (List Nat)},p∈ps→zbZ ps=none
 | q::ps,h=>by
  unfold zbZ
  rcases yN.mp h with rfl | h
  ·rw [e]
  ·rw [zhR e h]
   cases numL q <;> rfl
theorem zme:∀ (l:List Nat),(∀ c∈l,48≤c∧c < 58)→ze7 l < 10 ^ l.length:=by
 intro l
 have key:∀ (l:List Nat) (a k:Nat),(∀ c∈l,48≤c∧c < 58)→a < 10 ^ k→l.foldl (fun a c=>a * 10+(c - 48)) a < 10 ^ (k+l.length):=by
  intro l
  induction l with
  | nil=>intro a k _ h;exact h
  | cons c l ih=>
   intro a k hd h
   have hc:=hd c (.head _)
   have:=ih (a * 10+(c - 48)) (k+1) (fun d h=>hd d (.tail _ h)) (by rw [wU];omega)
   rw [yO,show k+(l.length+1)=k+1+l.length by omega]
   exact this
 intro hd
 have:=key l 0 0 hd (by decide)
 rw [Nat.zero_add] at this
 exact this
theorem strT {z:Str}{l:List Nat}(h:z.cps.toList=l):z=⟨l.toArray⟩:=by
 cases z with
 | mk a=>
  congr 1
  exact xI.mp (by simpa using h)
theorem tlA (l:List Nat):(⟨l.toArray⟩:Str).cps.toList=l:=by simp
theorem znF:yB " " =⟨#[32]⟩:=by decide+kernel
theorem zot:∀ c,c < 128→48≤c→c < 58→qR (yB "0123456789") ⟨#[c]⟩ 0 (yB "0123456789").length 1= [c - 48]:=by decide+kernel
theorem fig_no:∀ c,c < 128→¬(48≤c∧c < 58)→qR (yB "0123456789") ⟨#[c]⟩ 0 (yB "0123456789").length 1= []:=by decide+kernel
theorem zm1 (v:V)(xs:List V):cutV (v::xs) (some 1) none=xs:=by
 have e1:HT.sIx (v::xs).length 0 (some 1)=1:=by
  simp only [HT.sIx]
  rw [if_neg (by decide),yO]
  exact ybY (yag _ _)
 have e2:HT.sIx (v::xs).length (v::xs).length none=(v::xs).length:=rfl
 unfold cutV
 rw [e1,e2,List.drop_one,List.tail_cons]
 exact xD (by simp)
theorem zgK (c:Nat):∀ (ps:List (List Nat)),(∀ p∈ps,p.length≤(zbr c ps).length∧∀ d∈p,d∈zbr c ps)∧ps.length≤(zbr c ps).length+1
 | []=>⟨fun p hp=>(nomatch hp),qZ _⟩
 | [p]=>⟨fun q hq=>by rw [yK.mp hq];exact ⟨yJ _,fun d hd=>hd⟩,yag _ _⟩
 | p::q::r=>by
  obtain ⟨h1,h2⟩:=zgK c (q::r)
  have e:(zbr c (p::q::r))=p++c::zbr c (q::r):=rfl
  have el:(zbr c (p::q::r)).length=p.length+((zbr c (q::r)).length+1):=by rw [e,yI,yO]
  refine ⟨fun s hs=>?_,by rw [yO,el];omega⟩
  rw [el]
  rcases yN.mp hs with rfl | hs
  ·exact ⟨by omega,fun d hd=>by rw [e];exact xT _ hd⟩
  ·have:=h1 s hs
   exact ⟨by omega,fun d hd=>by rw [e];exact qA _ (.tail _ (this.2 d hd))⟩
theorem zds (c:Nat)(l:List Nat):(∀ p∈cutL c l,p.length≤l.length∧∀ d∈p,d∈l)∧(cutL c l).length≤l.length+1:=by
 have:=zgK c (cutL c l)
 rw [zfQ] at this
 exact this
theorem TX.part {z:Str}(h:TX z){c:Nat}{p:List Nat}(hp:p∈cutL c z.cps.toList):TX ⟨p.toArray⟩:=by
 obtain ⟨h1,h2⟩:=(zds c z.cps.toList).1 p hp
 refine ⟨?_,fun d hd=>h.2 d (h2 d (by simpa using hd))⟩
 show p.toArray.size≤600
 rw [qB]
 have:=h.1
 have e:z.cps.toList.length=z.length:=yY
 omega
theorem znN {α :Type}{A:Prop}{C: α→Hp→Prop}{st: α→St}{P:St→Hp→Prop}(h:(∀ v H4,C v H4→P (st v) H4)→A)(r:∀ v H4,C v H4→P (st v) H4):A:=h r
noncomputable def Rz (H:Hp) (E:XK):Prop:=∀ (H':Hp) (x:Addr),Same H H'→H' x=none→E (.ref x) (some x) H'
theorem Rz.on {H H':Hp}{E:XK}(r:Rz H E)(s:Same H H'):Rz H' E:=fun H2 x s2 hx=>r H2 x (s.trans s2) hx
noncomputable def sp_rdn:Sp:=fun vs H Q E=>∃ z:Str,vs= [.str z]∧TX z∧(∀ n:Nat,numL z.cps.toList=some n→Q (.int n) H)∧(numL z.cps.toList=none→Rz H E)
noncomputable def sp_rdr:Sp:=fun vs H Q E=>∃ (z:Str) (w:List Nat) (ps:List (List Nat)),vs= [.str z]∧TX z∧cutL 32 z.cps.toList=w::ps∧
 (∀ ns,zbZ ps=some ns→∀ (r q:Addr) (H':Hp),Same H H'→H r=none→H q=none→H' r=some (.tup [.str ⟨w.toArray⟩,.ref q])→H' q=some (.tup (ns.map V.int))→Q (.ref r) H')∧(zbZ ps=none→Rz H E)
noncomputable def zio (own:Int) (g:Str×List Int):Prop:=zbi g.1 g.2.length∧∀ l∈g.2,0≤l∧l < own
noncomputable def ziY (b:zaB):Prop:=1≤b.ins∧(∀ (k:Nat) g,b.gates[k]? =some g→zio (b.ins+k) g)∧1≤b.outs.length∧∀ o∈b.outs,0≤o∧o < b.ins+b.gates.length
noncomputable def sp_cgX (K:PySem.W.Frag):Sp:=fun vs H Q E=>∃ (x:Str) (la:Addr) (own:Int) (ls:List Int),vs= [.str x,.ref la,.int own]∧SqT K H la (ls.map V.int)∧ls.length≤1000∧(zio own (x,ls)→∀ H',Same H H'→Q .non H')∧(¬zio own (x,ls)→Rz H E)
theorem zos {x:Str}(h:¬zck x)(n:Nat):¬zbi x n:=fun l=>by
 unfold zck at h
 rcases l with ⟨e | e | e,_⟩ | ⟨e,_⟩ | ⟨e,_⟩ | ⟨e | e,_⟩
 ·exact h (.inl e)
 ·exact h (.inr (.inl e))
 ·exact h (.inr (.inr (.inl e)))
 ·exact h (.inr (.inr (.inr (.inl e))))
 ·exact h (.inr (.inr (.inr (.inr (.inl e)))))
 ·exact h (.inr (.inr (.inr (.inr (.inr (.inl e))))))
 ·exact h (.inr (.inr (.inr (.inr (.inr (.inr e))))))
theorem calmF {P:Program}{w:World}{K:PySem.W.Frag}{mg:Str→Option Value}{base:Heap}{C:Value}{k:Nat}{f:Addr}{fd:FuncData}{ps:List Str}{sp:Sp}(F:FnOk P w K mg base (CXC P w C) k f fd ps sp):
  FnOk P w K mg base CX0 k f fd ps (fun vs H Q _=>sp vs H Q fun _ _ _=>False):=
 ⟨fun vs H Q _ h=>F.len vs H Q _ h,fun A outer s H args us vs Q E hr he hb hv hs=>codeAny_mono (F.run A outer s H args us vs Q _ hr he hb hv hs) fun r s' h=>by
  cases r with
  | ok v=>
   cases v with
   | ret u=>exact h
   | _=>exact h.elim
  | error e=>
   obtain ⟨x,H',_,_,_,_,_,_,z⟩:=h
   exact z⟩
noncomputable def allO {α β :Type} (f: α→Option β):List α→Option (List β)
 | []=>some []
 | a::l=>match f a,allO f l with
  | some b,some bs=>some (b::bs)
  | _,_=>none
theorem zim {α β :Type}{f: α→Option β}{a: α}{b: β}(e:f a=some b):∀ {l:List α} {bs:List β},allO f l=some bs→allO f (l++ [a])=some (bs++ [b])
 | [],bs,h=>by
  cases h
  show allO f [a]=_
  unfold allO
  rw [e]
  rfl
 | q::l,bs,h=>by
  unfold allO at h
  split at h
  ·rename_i c ns e1 e2
   cases h
   have ih:=zim e e2
   show allO f (q::(l++ [a]))=_
   unfold allO
   rw [e1,ih]
   rfl
  ·cases h
theorem zjI {α β :Type}{f: α→Option β}{a: α}(e:f a=none):∀ {l:List α},a∈l→allO f l=none
 | q::l,h=>by
  unfold allO
  rcases yN.mp h with rfl | h
  ·rw [e]
  ·rw [zjI e h]
   cases f q <;> rfl
theorem zhq {α β :Type}{f: α→Option β}:∀ {l:List α} {bs:List β},allO f l=some bs→bs.length=l.length
 | [],_,e=>by cases e;rfl
 | q::l,bs,e=>by
  unfold allO at e
  split at e
  ·rename_i n ms e1 e2
   cases e
   rw [yO,yO,zhq e2]
  ·cases e
noncomputable abbrev TRow:=List Nat×List Int
noncomputable def rowN (l:List Nat):Option TRow:=match cutL 32 l with
 | []=>none
 | w::ps=>(zbZ ps).map fun ns=>(w,ns)
noncomputable def zlW (l:List Nat):Option (List TRow):=allO rowN (cutL 10 l)
noncomputable def inW:List Nat:=[105,110]
noncomputable def outW:List Nat:=[111,117,116]
theorem in_eq:yB "in" =⟨inW.toArray⟩:=by decide+kernel
theorem znS:yB "out" =⟨outW.toArray⟩:=by decide+kernel
theorem ziJ:yB "\n" =⟨#[10]⟩:=by decide+kernel
noncomputable def zcC (r:TRow):Str×List Int:=(⟨r.1.toArray⟩,r.2)
theorem zjQ {α β :Type}{f: α→Option β}:∀ {l:List α} {bs:List β},allO f l=some bs→∀ b∈bs,∃ a∈l,f a=some b
 | [],_,e,b,h=>by cases e;cases h
 | q::l,bs,e,b,h=>by
  unfold allO at e
  split at e
  ·rename_i n ms e1 e2
   cases e
   rcases yN.mp h with rfl | h
   ·exact ⟨q,.head _,e1⟩
   ·obtain ⟨a,ha,z⟩:=zjQ e2 b h
    exact ⟨a,.tail _ ha,z⟩
  ·cases e
theorem zgM {z:Str}(tx:TX z){rs:List TRow}(e:allO rowN (cutL 10 z.cps.toList)=some rs):∀ r∈rs,r.2.length≤601:=fun r hr=>by
 obtain ⟨p,hp,z1⟩:=zjQ e r hr
 have t1:=(tx.part hp).1
 have l1:p.length≤600:=by
  have:(⟨p.toArray⟩:Str).length=p.length:=by show p.toArray.size=_;simp
  omega
 unfold rowN at z1
 split at z1
 ·cases z1
 ·rename_i w ps ec
  cases en:zbZ ps with
  | none=>rw [en] at z1;cases z1
  | some ns=>
   rw [en] at z1
   cases z1
   have h1:=zfU en
   have h2:=(zds 32 p).2
   rw [ec,yO] at h2
   show ns.length≤601
   omega
noncomputable def Told (rs:List TRow) (b:zaB):Prop:=∃ (i:Int) (gs:List TRow) (os:List Int),rs=(inW,[i])::(gs++ [(outW,os)])∧(∀ g∈gs,zck (zcC g).1)∧b=⟨i,gs.map zcC,os⟩
noncomputable def ziP (z:Str) (b:zaB):Prop:=∃ rs,zlW z.cps.toList=some rs∧Told rs b
theorem strWA {w u:List Nat}:(V.str ⟨w.toArray⟩=V.str ⟨u.toArray⟩)↔w=u:=by
 constructor
 ·intro h
  have:=congrArg (fun x:Str=>x.cps.toList) (V.str.inj h)
  simpa using this
 ·rintro rfl
  rfl
noncomputable def znV (K:PySem.W.Frag):Sp:=fun vs H Q E=>∃ (b:zaB) (ga oa:Addr) (gs os:List V),vs= [.int b.ins,.ref ga,.ref oa]∧SqL K H ga gs∧SqL K H oa os∧Reps K H gs (b.gates.map zez)∧Reps K H os (b.outs.map .int)∧b.gates.length≤1000∧b.outs.length≤1000∧(∀ g∈b.gates,g.2.length≤1000)∧
 (ziY b→∀ (r:Addr) (H':Hp),Same H H'→Rep K H' (.ref r) (zbC b)→Q (.ref r) H')∧(¬ziY b→Rz H E)
noncomputable def zpi (K:PySem.W.Frag):Sp:=fun vs H Q E=>∃ z:Str,vs= [.str z]∧TX z∧(∀ b,ziP z b→ziY b∧∀ (r:Addr) (H':Hp),Same H H'→Rep K H' (.ref r) (zbC b)→Q (.ref r) H')∧((¬∃ b,ziP z b)→Rz H E)
theorem ndec {p:Prop}[Decidable p](c:¬(!decide p)=true):p:=kO fun z=>c (by rw [decide_eq_false z];rfl)
theorem zke (a b:V)(xs:List V):cutV (a::(xs++ [b])) (some 1) (some (-1))=xs:=by
 have e1:HT.sIx (a::(xs++ [b])).length 0 (some 1)=1:=by
  simp only [HT.sIx]
  rw [if_neg (by decide),yO]
  exact ybY (yag _ _)
 have e2:HT.sIx (a::(xs++ [b])).length (a::(xs++ [b])).length (some (-1))=xs.length+1:=by
  simp only [HT.sIx]
  rw [if_pos (by decide),yO,yI,qM]
  omega
 unfold cutV
 rw [e1,e2,List.drop_one,List.tail_cons,ybs,yba]
theorem zfW {K:PySem.W.Frag}{H:Hp}:∀ {as bs:List Dat} {vs:List V},Reps K H vs (as++bs)→∃ xs ys,vs=xs++ys∧Reps K H xs as∧Reps K H ys bs
 | [],_,vs,h=>⟨[],vs,rfl,.nil,h⟩
 | _::_,_,_,.cons r h=>by
  obtain ⟨xs,ys,rfl,h1,h2⟩:=zfW h
  exact ⟨_::xs,ys,rfl,.cons r h1,h2⟩
theorem zli {l:List V}{v:V}(h:l.getLast? =some v):atI l (-1)=some v:=by
 have hne:l≠[]:=fun z=>by rw [z] at h;cases h
 have e1:l=l.dropLast++ [v]:=by
  have:=vQ hne
  rw [jZ hne] at h
  rw [← yV h]
  exact this.symm
 rw [e1]
 exact zeM _ _
structure Rwt where
 word:Str
 ns:List Int
structure Rwt.Ok (f:Rwt):Prop where
 clean:∀ c∈f.word.cps.toList,c≠32∧c≠10∧c < 128
 short:f.word.length≤10
 some_: 1≤f.word.length
 num:∀ n∈f.ns,0≤n∧n < 10 ^ 41
 few:f.ns.length≤60
noncomputable def zgE (f:Rwt):List (List Nat):=f.word.cps.toList::f.ns.map fun n=>digs n.toNat
noncomputable def rowL (f:Rwt):List Nat:=zbr 32 (zgE f)
noncomputable def txtW (f:Rwt):Str:=⟨(rowL f).toArray⟩
theorem zfX {f:Rwt}(h:f.Ok):∀ p∈zgE f,32∉p:=fun p hp=>by
 rcases yN.mp hp with rfl | hp
 ·exact fun z=>(h.clean _ z).1 rfl
 ·obtain ⟨n,_,rfl⟩:=qE.mp hp
  intro z
  have:=zfq _ _ z
  omega
theorem zer {c x:Nat}:∀ {ps:List (List Nat)},x∈zbr c ps→x=c∨∃ p∈ps,x∈p
 | [],h=>nomatch h
 | [p],h=>.inr ⟨p,.head _,h⟩
 | p::q::r,h=>by
  rcases yS.mp (show x∈p++c::zbr c (q::r) from h) with h | h
  ·exact .inr ⟨p,.head _,h⟩
  ·rcases yN.mp h with h | h
   ·exact .inl h
   ·rcases zer h with h | ⟨s,hs,hx⟩
    ·exact .inl h
    ·exact .inr ⟨s,.tail _ hs,hx⟩
theorem zf0 {f:Rwt}(h:f.Ok):∀ c∈rowL f,c≠10∧c < 128:=fun c hc=>by
 rcases zer hc with rfl | ⟨p,hp,hx⟩
 ·decide
 ·rcases yN.mp hp with rfl | hp
  ·exact (h.clean _ hx).2
  ·obtain ⟨n,_,rfl⟩:=qE.mp hp
   have:=zfq _ _ hx
   omega
theorem zgP {n:Int}(h: 0≤n∧n < 10 ^ 41):(digs n.toNat).length≤41:=zha _ 41 (by
 have h2:=h.2
 have e:(10:Int) ^ 41=((10 ^ 41:Nat):Int):=by decide+kernel
 rw [e] at h2
 omega) (by decide)
theorem zhF (c:Nat):∀ ps:List (List Nat),(zbr c ps).length≤(ps.map wP).sum+ps.length
 | []=>yJ _
 | [p]=>by
  show p.length≤_
  simp
 | p::q::r=>by
  have ih:=zhF c (q::r)
  show (p++c::zbr c (q::r)).length≤_
  rw [yI,yO]
  rw [qJ,vC,yO]
  omega
theorem zdl {z:Str}{l:List Nat}(h:z.cps.toList=l):z=⟨l.toArray⟩:=by
 cases z with
 | mk a=>
  congr 1
  exact xI.mp (by simpa using h)
theorem tl (l:List Nat):(⟨l.toArray⟩:Str).cps.toList=l:=by simp
noncomputable def numS (n:Int):Str:=yB (toString n)
theorem zhw {n:Int}(h: 0≤n):(numS n).cps.toList=digs n.toNat:=by
 have:=zm9 n.toNat
 rw [kZ h] at this
 exact this
theorem zh9 {n:Int}(h: 0≤n∧n < 10 ^ 41):n.natAbs.log2 < 1920:=by
 by_cases z:n.natAbs=0
 ·rw [z]
  decide
 ·refine (Nat.log2_lt z).mpr ?_
  have e:(10:Int) ^ 41 < ((2 ^ 140:Nat):Int):=by decide+kernel
  have h2:n.natAbs < 2 ^ 140:=by omega
  exact qK h2 (jW (by decide) (by decide))
theorem zdH (sep:Nat):∀ zs:List Str,(xE ⟨#[sep]⟩ zs).cps.toList=zbr sep (zs.map fun z=>z.cps.toList)
 | []=>rfl
 | [z]=>rfl
 | z::y::r=>by
  have ih:=zdH sep (y::r)
  show ((z++⟨#[sep]⟩++xE ⟨#[sep]⟩ (y::r)):Str).cps.toList=z.cps.toList++sep::zbr sep ((y::r).map fun z=>z.cps.toList)
  rw [← ih]
  show ((z.cps++ #[sep])++(xE ⟨#[sep]⟩ (y::r)).cps).toList=_
  rw [vE,vE,jF]
  rfl
theorem zms:yB " " =⟨#[32]⟩:=by decide+kernel
theorem partsS {f:Rwt}(ok:f.Ok):(f.word::f.ns.map numS).map (fun z=>z.cps.toList)=zgE f:=by
 unfold zgE
 rw [qJ,jX]
 congr 1
 exact jM fun n hn=>zhw (ok.num n hn).1
theorem zfc {f:Rwt}(ok:f.Ok):xE (yB " ") (f.word::f.ns.map numS)=txtW f:=by
 unfold txtW
 refine zdl ?_
 rw [zms,zdH,partsS ok]
 rfl
theorem zdJ {n:Int}(h: 0≤n∧n < 10 ^ 41):(numS n).length≤41:=by
 show (numS n).cps.size≤41
 rw [← yY,zhw h.1]
 exact zgP h
theorem zeY {α :Type}{g: α→Nat}{k:Nat}:∀ {l:List α},(∀ a∈l,g a≤k)→(l.map g).sum≤l.length * k
 | [],_=>qZ _
 | a::l,h=>by
  have h1:=h a (.head _)
  have h2:=zeY (l:=l) fun b hb=>h b (.tail _ hb)
  rw [qJ,vC,yO,Nat.succ_mul]
  omega
theorem zpa {f:Rwt}(ok:f.Ok):(rowL f).length≤3000:=by
 have l3:=ok.few
 have hw:=ok.short
 have hs:=zeY (g:=fun n:Int=>(digs n.toNat).length) (k:=41) (l:=f.ns) fun n hn=>zgP (ok.num n hn)
 have hj:=zhF 32 (zgE f)
 unfold rowL
 unfold zgE at hj ⊢
 rw [qJ,vC,yO,yA,jX] at hj
 have hw':f.word.cps.toList.length≤10:=by rw [yY];exact hw
 have hs':(f.ns.map (wP ∘ fun n:Int=>digs n.toNat)).sum≤f.ns.length * 41:=hs
 omega
theorem in_ok {i:Int}(h: 1≤i∧i≤6):(⟨"in",[i]⟩:Rwt).Ok:=⟨by
  intro c hc
  rw [show (yB "in").cps.toList= [105,110] by decide+kernel] at hc
  rcases yN.mp hc with rfl | hc
  ·decide
  ·rw [yK.mp hc]
   decide,(by show (yB "in").length≤10;decide+kernel),(by show 1≤(yB "in").length;decide+kernel),fun n hn=>by
  rw [yK.mp hn]
  have:(6:Int) < 10 ^ 41:=by decide
  omega,by show 1≤60;decide⟩
theorem zbf {x:Str}{l:List Nat}(e:x.cps.toList=l)(h:(l.all fun c=>decide (c≠32∧c≠10∧c < 128))=true):∀ c∈x.cps.toList,c≠32∧c≠10∧c < 128:=fun c hc=>by
 rw [e] at hc
 exact of_decide_eq_true (qY.mp h c hc)
theorem zkH {x:Str}{n:Nat}(h:zbi x n):zck x:=by
 unfold zbi at h
 unfold zck
 rcases h with ⟨h | h | h,_⟩ | ⟨h,_⟩ | ⟨h,_⟩ | ⟨h | h,_⟩ <;> simp [h]
theorem zkn {x:Str}(h:zck x):(∀ c∈x.cps.toList,c≠32∧c≠10∧c < 128)∧x.length≤10∧1≤x.length:=by
 unfold zck at h
 rcases h with rfl | rfl | rfl | rfl | rfl | rfl | rfl
 ·exact ⟨zbf (l:=[97,110,100]) (by decide+kernel) (by decide),by decide+kernel,by decide+kernel⟩
 ·exact ⟨zbf (l:=[111,114]) (by decide+kernel) (by decide),by decide+kernel,by decide+kernel⟩
 ·exact ⟨zbf (l:=[111,100,100]) (by decide+kernel) (by decide),by decide+kernel,by decide+kernel⟩
 ·exact ⟨zbf (l:=[110,111,116]) (by decide+kernel) (by decide),by decide+kernel,by decide+kernel⟩
 ·exact ⟨zbf (l:=[99,104,111,111,115,101]) (by decide+kernel) (by decide),by decide+kernel,by decide+kernel⟩
 ·exact ⟨zbf (l:=[122,101,114,111]) (by decide+kernel) (by decide),by decide+kernel,by decide+kernel⟩
 ·exact ⟨zbf (l:=[111,110,101]) (by decide+kernel) (by decide),by decide+kernel,by decide+kernel⟩
theorem zgl {m:Nat}{w:zaB}(wf:WF m w)(hm:m≤20){n:Int}(h: 0≤n∧n < w.ins+w.gates.length): 0≤n∧n < 10 ^ 41:=by
 have:(30:Int) < 10 ^ 41:=by decide
 have:=wf.i6
 have:=wf.few
 omega
theorem zlY {w:zaB}(wf:WF 20 w){k:Nat}{g:Str×List Int}(h:w.gates[k]? =some g):(⟨g.1,g.2⟩:Rwt).Ok:=by
 obtain ⟨lk,ll⟩:=wf.legs k g h
 obtain ⟨a,b,c⟩:=zkn (zkH lk)
 have hk:=(yF.mp h).1
 refine ⟨a,b,c,fun n hn=>zgl wf (yJ _) ?_,?_⟩
 ·have:=ll n hn
  omega
 ·have:=lk.le
  show g.2.length≤60
  omega
theorem znM {w:zaB}(wf:WF 20 w):(⟨"out",w.outs⟩:Rwt).Ok:=⟨zbf (l:=[111,117,116]) (by show (yB "out").cps.toList=_;decide+kernel) (by decide),(by show (yB "out").length≤10;decide+kernel),(by show 1≤(yB "out").length;decide+kernel),fun n hn=>zgl wf (yJ _) (wf.outs n hn),by
  have:=wf.o3
  show w.outs.length≤60
  omega⟩
noncomputable def zcL (gs:List (Str×List Int)):List Rwt:=gs.map fun g=>⟨g.1,g.2⟩
noncomputable def zc4 (w:zaB):List Rwt:=⟨"in",[w.ins]⟩::(zcL w.gates++ [⟨"out",w.outs⟩])
theorem zhB {w:zaB}(wf:WF 20 w):∀ f∈zc4 w,f.Ok:=fun f hf=>by
 rcases yN.mp hf with rfl | hf
 ·exact in_ok ⟨wf.i1,wf.i6⟩
 ·rcases yS.mp hf with hf | hf
  ·obtain ⟨g,hg,rfl⟩:=qE.mp hf
   obtain ⟨k,hk⟩:=jR hg
   exact zlY wf hk
  ·rw [yK.mp hf]
   exact znM wf
theorem zlC {w:zaB}(wf:WF 20 w):(zc4 w).length≤22:=by
 have:=wf.few
 unfold zc4 zcL
 rw [yO,yI,yA,qM]
 omega
noncomputable def zmW (w:zaB):Str:=⟨(zbr 10 ((zc4 w).map rowL)).toArray⟩
theorem feed:yB "\n" =⟨#[10]⟩:=by decide+kernel
theorem zh1 (w:zaB):xE (yB "\n") ((zc4 w).map txtW)=zmW w:=by
 unfold zmW
 refine zdl ?_
 rw [feed,zdH,jX]
 exact congrArg (zbr 10) (jM fun f _=>tl _)
theorem zon {f:Rwt}(ok:f.Ok):(txtW f).length≤3000:=by show (rowL f).toArray.size≤3000;rw [qB];exact zpa ok
theorem zmT {w:zaB}(wf:WF 20 w):(((zc4 w).map txtW).map (·.length)).sum+((zc4 w).map txtW).length * (yB "\n").length≤100000:=by
 have hs:=zeY (g:=fun z:Str=>z.length) (k:=3000) (l:=(zc4 w).map txtW) fun z hz=>by
  obtain ⟨f,hf,rfl⟩:=qE.mp hz
  exact zon (zhB wf f hf)
 rw [yA] at hs ⊢
 have:=zlC wf
 rw [feed]
 show _+(zc4 w).length * 1≤_
 omega
noncomputable def zeT (G H H':Hp):Hp:=fun b=>match H b with
 | none=>H' b
 | some _=>G b
theorem zgh {G H H':Hp}{b:Addr}(h:H b=none):zeT G H H' b=H' b:=by unfold zeT;rw [h]
theorem zfH {G H H':Hp}(f:Same G H):Same G (zeT G H H'):=fun b o e=>by unfold zeT;rw [f _ _ e];exact e
theorem zkv {M:List Addr}{G H H':Hp}(f:Off M G H)(s:Same H H'):Off M (zeT G H H') H':=by
 refine ⟨fun b o e=>?_,fun m hm=>?_,fun m hm=>?_⟩
 ·unfold zeT at e
  cases hb:H b with
  | none=>rw [hb] at e;exact e
  | some u=>rw [hb] at e;exact s _ _ (f.same _ _ e)
 ·obtain ⟨o,e⟩:=f.there m hm
  unfold zeT
  rw [e]
  exact f.out m hm
 ·obtain ⟨o,e⟩:=f.there m hm
  exact ⟨o,s _ _ e⟩
noncomputable def sp_shw (K:PySem.W.Frag):Sp:=fun vs H Q _=>∃ (x:V) (w:zaB),vs= [x]∧Rep K H x (zbC w)∧WF 20 w∧∀ H',Same H H'→Q (.str (zmW w)) H'
theorem zij (sep z:Str):∀ (y:Str) (zs:List Str),xE sep ((y::zs)++ [z])=xE sep (y::zs)++sep++z
 | y,[]=>rfl
 | y,x::zs=>by
  have ih:=zij sep z x zs
  show y++sep++xE sep ((x::zs)++ [z])=(y++sep++xE sep (x::zs))++sep++z
  rw [ih]
  show (⟨(y.cps++sep.cps)++(((xE sep (x::zs)).cps++sep.cps)++z.cps)⟩:Str)=⟨(((y.cps++sep.cps)++(xE sep (x::zs)).cps)++sep.cps)++z.cps⟩
  congr 1
  simp only [ybi]
noncomputable def zfI (f:Rwt) (i:Nat):Str:=xE (yB " ") (f.word::(f.ns.take i).map numS)
theorem zhI {f:Rwt}(ok:f.Ok){i:Nat}:(zfI f i).length≤3000:=by
 have jl:=yaL (yB " ") (f.word::(f.ns.take i).map numS)
 have hs:=zeY (g:=fun z:Str=>z.length) (k:=41) (l:=(f.ns.take i).map numS) fun z hz=>by
  obtain ⟨m,hm,rfl⟩:=qE.mp hz
  exact zdJ (ok.num m (ya6 hm))
 rw [qJ,vC,yO,yA,yW] at jl
 rw [yA,yW] at hs
 have b1:(yB " ").length=1:=by rw [zms];rfl
 rw [b1] at jl
 have:=ok.few
 have:=ok.short
 unfold zfI
 omega
theorem zgt {f:Rwt}{i:Nat}{n:Int}(h:f.ns[i]? =some n):zfI f (i+1)=(zfI f i++yB " ")++numS n:=by
 unfold zfI
 rw [yT,h,yM]
 have:=zij (yB " ") (numS n) f.word ((f.ns.take i).map numS)
 rw [wX] at this
 exact this
theorem zkI (a b:Str):(a++b).length=a.length+b.length:=by
 show (a.cps++b.cps).size=_
 rw [ybB]
 rfl
noncomputable def zf5:List Nat:=[119,105,114,101]
noncomputable def legW:List Nat:=[108,101,103]
theorem zlw:yB "wire" =⟨zf5.toArray⟩:=by decide+kernel
theorem zkX:yB "leg" =⟨legW.toArray⟩:=by decide+kernel
noncomputable def okF (w:List Nat) (ns:List Int):Bool:=((w==zf5 && ns.length==2) || (w==legW && ns.length==3)) && (ns.getLast? ==some 0 || ns.getLast? ==some 1)
theorem strW {w u:List Nat}:(V.str ⟨w.toArray⟩=V.str ⟨u.toArray⟩)↔w=u:=by
 constructor
 ·intro h
  have:=congrArg (fun x:Str=>x.cps.toList) (V.str.inj h)
  simpa using this
 ·rintro rfl
  rfl
theorem atLast {ns:List Int}{b:Int}(hb:ns.getLast? =some b):atI (ns.map V.int) (-1)=some (.int b):=by
 have hne:ns≠[]:=fun z=>by rw [z] at hb;cases hb
 have e1:ns=ns.dropLast++ [b]:=by
  have:=vQ hne
  rw [jZ hne] at hb
  rw [← yV hb]
  exact this.symm
 rw [e1,yM]
 exact zeM _ _
theorem znw {ns:List Int}{k:Nat}(h:(!decide (V.int ((ns.map V.int).length:Int)=V.int (k:Int)))=true):(ns.length==k)=false:=by
 rw [yA] at h
 refine beq_eq_false_iff_ne.mpr fun e=>?_
 rw [e,decide_eq_true rfl] at h
 cases h
theorem zle {ns:List Int}{k:Nat}(h:¬(!decide (V.int ((ns.map V.int).length:Int)=V.int (k:Int)))=true):(ns.length==k)=true:=by
 rw [yA] at h
 refine beq_iff_eq.mpr ?_
 cases Decidable.em (V.int (ns.length:Int)=V.int (k:Int)) with
 | inl e=>have:=V.int.inj e;omega
 | inr e=>rw [decide_eq_false e] at h;exact absurd rfl h
theorem zlj {w:List Nat}{ns:List Int}(h:((w==zf5 && ns.length==2) || (w==legW && ns.length==3))=false):okF w ns=false:=by
 unfold okF
 rw [h]
 rfl
theorem in01 {b:Int}(h:¬(b=0∨b=1)):inV (V.int b) [.int 0,.int 1]=false:=by
 refine yaw.mpr fun y=>h ?_
 simp only [inV,wD,List.any_nil,ybm,ybZ] at y
 rcases y with z | z
 ·exact .inl (by simp [eqV] at z;omega)
 ·exact .inr (by simp [eqV] at z;omega)
noncomputable def sp_rdf:Sp:=fun vs H Q E=>∃ (z:Str) (w:List Nat) (ps:List (List Nat)),vs= [.str z]∧TX z∧cutL 32 z.cps.toList=w::ps∧
 (∀ ns,zbZ ps=some ns→okF w ns=true→∀ (r:Addr) (H':Hp),Same H H'→H' r=some (.tup (.str ⟨w.toArray⟩::ns.map V.int))→Q (.ref r) H')∧((∀ ns,zbZ ps=some ns→okF w ns=false)→Rz H E)
theorem zeA (x y:Str):(x++y).cps.toList=x.cps.toList++y.cps.toList:=by
 show (x.cps++y.cps).toList=_
 rw [vE]
theorem e41:(10:Int) ^ 41=((10 ^ 41:Nat):Int):=by decide+kernel
theorem cutI (ns:List Int)(lo hi:Option Int):∃ ms:List Int,cutV (ns.map V.int) lo hi=ms.map V.int∧ms.length≤ns.length:=by
 refine ⟨(ns.drop (HT.sIx (ns.map V.int).length 0 lo)).take (HT.sIx (ns.map V.int).length (ns.map V.int).length hi - HT.sIx (ns.map V.int).length 0 lo),?_,?_⟩
 ·unfold cutV
  rw [List.map_take,List.map_drop]
 ·rw [yW,yaF]
  omega
theorem zec {H:Hp}{a:Addr}{o:HO}(_:H a=none):(upd H a o) a=some o:=zab
theorem zjC {c:Nat}(l:List Nat):∀ {p:List Nat},c∉p→cutL c (p++c::l)=p::cutL c l
 | [],_=>by
  show cutL c (c::l)=_
  rw [cutL,if_pos rfl]
 | a::p,h=>by
  have ih:=zjC l (p:=p) fun z=>h (.tail _ z)
  show cutL c (a::(p++c::l))=_
  rw [cutL,if_neg fun z=>h (by rw [z];exact .head _),ih]
theorem zcK {c:Nat}:∀ {p:List Nat},c∉p→cutL c p= [p]
 | [],_=>rfl
 | a::p,h=>by
  have ih:=zcK (p:=p) fun z=>h (.tail _ z)
  rw [cutL,if_neg fun z=>h (by rw [z];exact .head _),ih]
theorem zcM {c:Nat}:∀ {ps:List (List Nat)},ps≠[]→(∀ p∈ps,c∉p)→cutL c (zbr c ps)=ps
 | [],h,_=>absurd rfl h
 | [p],_,h=>zcK (h p (.head _))
 | p::q::r,_,h=>by
  show cutL c (p++c::zbr c (q::r))=_
  rw [zjC _ (h p (.head _)),zcM (kP _ _) fun x hx=>h x (.tail _ hx)]
theorem zhC:∀ (qs:List (List Nat)) (p:List Nat),(∀ q∈qs,q.length≤2)→(zbr 32 (p::qs)).length≤p.length+qs.length * 3
 | [],p,_=>yJ _
 | q::r,p,h=>by
  have ih:=zhC r q fun x hx=>h x (.tail _ hx)
  have h1:=h q (.head _)
  show (p++32::zbr 32 (q::r)).length≤_
  rw [yI,yO,yO]
  omega
theorem zhg {k:Nat}:∀ {ps:List (List Nat)},(∀ p∈ps,p.length≤k)→(zbr 10 ps).length≤ps.length * (k+1)
 | [],_=>qZ _
 | [p],h=>by
  have:=h p (.head _)
  show p.length≤1 * (k+1)
  omega
 | p::q::r,h=>by
  have ih:=zhg (ps:=q::r) fun x hx=>h x (.tail _ hx)
  have h1:=h p (.head _)
  show (p++10::zbr 10 (q::r)).length≤_
  rw [yI,yO,yO (a:=p),Nat.succ_mul]
  omega
theorem zic {z:Str}{b c:zaB}(h:ziP z b)(h2:ziP z c):b=c:=by
 obtain ⟨rs,e,i,gs,os,e1,_,rfl⟩:=h
 obtain ⟨rs2,e2,i2,gs2,os2,e3,_,rfl⟩:=h2
 rw [e] at e2
 have e4:=(yV e2).symm.trans (e1)
 rw [e3] at e4
 obtain ⟨e5,e6⟩:=jY e4
 have e7:i2=i:=(jY (yb0 e5).2).1
 have e8:=List.append_inj' e6 rfl
 have e9:os2=os:=(yb0 (jY e8.2).1).2
 rw [e7,e8.1,e9]
noncomputable def sp_gwI (K:PySem.W.Frag):Sp:=fun vs H Q _=>∃ (x:Str) (p:Addr) (ns:List Int) (o:Int),vs= [.str x,.ref p,.int o]∧SqL K H p (ns.map V.int)∧zbi x ns.length∧∀ H',Same H H'→Q (.int (zex o x ns)) H'
noncomputable def sp_lg (K:PySem.W.Frag):Sp:=fun vs H Q _=>∃ (x:Str) (p:Addr) (ns:List Int),vs= [.str x,.ref p]∧SqL K H p (ns.map V.int)∧Bits ns∧zbi x ns.length∧∀ H',Same H H'→Q (.int (zca x ns)) H'
noncomputable def sp_er (K:PySem.W.Frag):Sp:=fun vs H Q _=>∃ (a ga oa:Addr) (i:Int),vs= [.ref a]∧SqT K H a [.int i,.ref ga,.ref oa]∧0≤i∧i≤6∧∀ (R:Addr) (qs:List Addr) (H':Hp),Rows H R qs (zbA i.toNat) H'→Q (.ref R) H'
noncomputable def zlK (K:PySem.W.Frag):Sp:=fun vs H Q _=>∃ (x:V) (w:zaB),vs= [x]∧Rep K H x (zbC w)∧WF 20 w∧∀ (r:Addr) (xs:List V) (H':Hp),Bld K H r xs (zdk w) H'→Q (.ref r) H'
noncomputable def sp_lgw (K:PySem.W.Frag):Sp:=fun vs H Q _=>∃ (d p:Addr) (k:Int) (fs:List Flt) (ns:List Int),vs= [.ref d,.int k,.ref p]∧H d=some (.dT (tabV fs))∧SqL K H p (ns.map V.int)∧ns.length≤4∧
 ∀ (r:Addr) (H':Hp),Same H H'→H r=none→H' r=some (.lst ((zdT fs k ns).map V.int))→Q (.ref r) H'
noncomputable def sp_wwG (K:PySem.W.Frag):Sp:=fun vs H Q _=>∃ (x:V) (d p:Addr) (w:zaB) (fs:List Flt) (row:List Int) (o:Int),vs= [x,.ref d,.ref p,.int o]∧Rep K H x (zbC w)∧WF 20 w∧H d=some (.dT (tabV fs))∧SqL K H p (row.map V.int)∧(row.length:Int)=w.ins∧
 ∀ (r:Addr) (H':Hp),Same H H'→H r=none→H' r=some (.lst ((zbW o fs w.gates row w.gates.length).map V.int))→Q (.ref r) H'
noncomputable def sp_owG (K:PySem.W.Frag):Sp:=fun vs H Q _=>∃ (x:V) (d p:Addr) (w:zaB) (fs:List Flt) (row:List Int) (o:Int),vs= [x,.ref d,.ref p,.int o]∧Rep K H x (zbC w)∧WF 20 w∧H d=some (.dT (tabV fs))∧SqL K H p (row.map V.int)∧(row.length:Int)=w.ins∧
 ∀ (r:Addr) (H':Hp),Same H H'→H r=none→H' r=some (.lst ((zdo w (zbW o fs w.gates row w.gates.length)).map V.int))→Q (.ref r) H'
noncomputable def sp_spl (K:PySem.W.Frag):Sp:=fun vs H Q _=>∃ (x y:V) (w:zaB) (fs:List Flt),vs= [x,y]∧Rep K H x (zbC w)∧WF 20 w∧Rep K H y (.list (fs.map fltD))∧(∀ f∈fs,zdt w f)∧zdP fs∧fs.length≤1000∧
 ∀ (d:Addr) (H':Hp),Same H H'→H d=none→H' d=some (.dT (tabV fs))→Q (.ref d) H'
noncomputable def sp_lws (K:PySem.W.Frag):Sp:=fun vs H Q _=>∃ (x:V) (d p:Addr) (w:zaB) (fs:List Flt) (row:List Int),vs= [x,.ref d,.ref p]∧Rep K H x (zbC w)∧WF 20 w∧H d=some (.dT (tabV fs))∧(∀ f∈fs,f.worth=0∨f.worth=1)∧SqL K H p (row.map V.int)∧(row.length:Int)=w.ins∧Bits row∧
 ∀ (r:Addr) (H':Hp),Same H H'→H r=none→H' r=some (.lst ((zaX fs w.gates row w.gates.length).map V.int))→Q (.ref r) H'
noncomputable def sp_rao:Sp:=fun vs H Q _=>∃ n:Nat,vs= [.int n]∧n≤6∧∀ (r L:Addr) (H':Hp),Same H H'→H r=none→H L=none→H' r=some (.tup [.ref L,.int (zaN (2 ^ n))])→H' L=some (.lst ((zc5 n).map V.int))→Q (.ref r) H'
theorem zjF {R:Nat}{x:Int}(h:zaT R x)(hR:R≤64):qI x≤2 ^ 20:=by
 obtain ⟨n,rfl,hn⟩:=zbd h
 have h1:n < 2 ^ 64:=qK hn (jW (by decide) hR)
 exact zc2 (k:=64) (by decide) (by omega) (by omega)
theorem pow6 {n:Nat}(h:n≤6): 2 ^ n≤64:=jW (n:=2) (by decide) h
noncomputable def ziv (u:Int):List Nat:=(xK (qI u)).filter fun j=>decide (bitI j u=1)
noncomputable def sp_un:Sp:=fun vs H Q _=>∃ (a b:Addr) (xs ys:List Int) (R:Nat),vs= [.ref a,.ref b]∧H a=some (.lst (xs.map V.int))∧H b=some (.lst (ys.map V.int))∧xs.length=ys.length∧xs.length≤1000∧R≤64∧(∀ v∈xs,zaT R v)∧(∀ v∈ys,zaT R v)∧
 ∀ (r:Addr) (H':Hp),Same H H'→H r=none→H' r=some (.lst ((ziv (zc6 xs ys)).map fun j:Nat=>V.int (j:Int)))→Q (.ref r) H'
theorem zn7 {R:Nat}{u:Int}(h:zaT R u)(j:Nat):(V.int (qO (u / 2 ^ ((j:Int)).toNat) 1)=V.int 1)↔bitI j u=1:=by
 obtain ⟨m,rfl,hm⟩:=zbd h
 rw [xB,zaW]
 have e:(m:Int) / 2 ^ j=((m / 2 ^ j:Nat):Int):=by
  rw [Int.natCast_ediv]
  congr 1
 have e1:qO ((m / 2 ^ j:Nat):Int) 1=((m / 2 ^ j % 2:Nat):Int):=by
  have:=zgR (m / 2 ^ j) 1
  rw [ybt] at this
  exact this
 rw [e,e1,Nat.testBit_eq_decide_div_mod_eq]
 constructor
 ·intro z
  have:=V.int.inj z
  rw [if_pos (decide_eq_true (by omega))]
 ·intro z
  by_cases c:m / 2 ^ j % 2=1
  ·rw [c]
   rfl
  ·rw [if_neg (by simpa using c)] at z
   cases z
noncomputable def zcl (w:zaB) (fs:List Flt):List Int:=zdo w (zbW (zaN (2 ^ w.ins.toNat)) (zb3 (2 ^ w.ins.toNat) fs) w.gates (zc5 w.ins.toNat) w.gates.length)
theorem zjT {R:Nat}{fs:List Flt}(h:zdP fs):zdP (zb3 R fs):=by
 unfold zdP zb3 at *
 rw [jX]
 exact h
theorem zl1 {j:Nat}{w:zaB}{ws:List Int}:(zdo w ws).map (bitI j)=zdo w (ws.map (bitI j)):=by
 unfold zdo
 rw [jX]
 refine jM fun o _=>?_
 exact zcH j ws o.toNat
theorem zel {fs:List Flt}(fb:∀ f∈fs,f.worth=0∨f.worth=1){m:Nat}{w:zaB}(wf:WF m w):(∀ v∈zcl w fs,zaT (2 ^ w.ins.toNat) v)∧(zcl w fs).length=w.outs.length∧
  ∀ (j:Nat) row,(zbA w.ins.toNat)[j]? =some row→(zcl w fs).map (bitI j)=zdo w (zaX fs w.gates row w.gates.length):=by
 have i1:=wf.i1
 obtain ⟨c1,c2,c3⟩:=zeh w.ins.toNat
 obtain ⟨w1,w2⟩:=zgi fb wf (cols:=zc5 w.ins.toNat) (by rw [c2];omega) c1 w.gates.length (yJ _)
 refine ⟨fun v hv=>?_,by unfold zcl zdo;rw [yA],fun j row hj=>?_⟩
 ·unfold zcl zdo at hv
  obtain ⟨o,_,rfl⟩:=qE.mp hv
  exact zeF w1 _
 ·have lj:j < 2 ^ w.ins.toNat:=by
   have:=(yF.mp hj).1
   rw [zbL] at this
   exact this
  rw [c3 j lj] at hj
  cases hj
  unfold zcl
  rw [zl1,w2 j lj]
theorem zkw {fs gs:List Flt}(fb:∀ f∈fs,f.worth=0∨f.worth=1)(gb:∀ f∈gs,f.worth=0∨f.worth=1){m:Nat}{w:zaB}(wf:WF m w):
  (ziv (zc6 (zcl w fs) (zcl w gs))= []→zbe w fs gs=none)∧∀ j js,ziv (zc6 (zcl w fs) (zcl w gs))=j::js→∃ row,(zbA w.ins.toNat)[j]? =some row∧zbe w fs gs=some row:=by
 obtain ⟨f1,f2,f3⟩:=zel fb wf
 obtain ⟨g1,g2,g3⟩:=zel gb wf
 obtain ⟨u1,u2⟩:=zd4 (R:=2 ^ w.ins.toNat) (zcl w fs) (zcl w gs) (f2.trans g2.symm) f1 g1 (zcN _)
 obtain ⟨u,eu⟩:∃ u,zc6 (zcl w fs) (zcl w gs)=u:=⟨_,rfl⟩
 have b0:zaT (2 ^ w.ins.toNat) u:=by rw [← eu];exact u1
 have mem:∀ j,j∈ziv u↔bitI j u=1:=fun j=>by
  unfold ziv
  rw [wB,kA,decide_eq_true_eq]
  refine ⟨fun z=>z.2,fun z=>⟨?_,z⟩⟩
  obtain ⟨k,rfl,hk⟩:=zbd b0
  have hb:=zoJ k
  rcases Nat.lt_or_ge j (qI (k:Int)) with h | h
  ·exact h
  ·rw [zaW,yaM (qK hb (jW (by decide) h))] at z
   cases z
 have row_of:∀ (j:Nat) row,(zbA w.ins.toNat)[j]? =some row→(bitI j u=1↔zdo w (zaX fs w.gates row w.gates.length)≠zdo w (zaX gs w.gates row w.gates.length)):=fun j row hj=>by
  rw [← eu]
  have z:=u2 j
  rw [zfh,f3 j row hj,g3 j row hj] at z
  refine z.trans ?_
  simp
 have lt_of:∀ j,bitI j u=1→j < 2 ^ w.ins.toNat:=fun j z=>by
  obtain ⟨k,rfl,hk⟩:=zbd b0
  rcases Nat.lt_or_ge j (2 ^ w.ins.toNat) with h | h
  ·exact h
  ·rw [zaW,yaM (qK hk (jW (by decide) h))] at z
   cases z
 rw [eu]
 constructor
 ·intro hn
  unfold zbe
  refine wG.mpr fun row hr z=>?_
  obtain ⟨j,hj⟩:=jR hr
  have:=(mem j).mpr ((row_of j row hj).mpr (of_decide_eq_true z))
  rw [hn] at this
  cases this
 ·intro j js hn
  have bj:bitI j u=1:=(mem j).mp (by rw [hn];exact .head _)
  have lj:=lt_of j bj
  obtain ⟨row,hrow⟩:∃ row,(zbA w.ins.toNat)[j]? =some row:=⟨_,yQ (by rw [zbL];exact lj)⟩
  refine ⟨row,hrow,zjL hrow (decide_eq_true ((row_of j row hrow).mp bj)) fun y hy=>?_⟩
  obtain ⟨i,hi⟩:=jR hy
  have lij:i < j:=by
   have:=(yF.mp hi).1
   rw [yW] at this
   omega
  rw [yau lij] at hi
  refine decide_eq_false fun z=>?_
  have bi:=(row_of i y hi).mpr z
  have hm:=(mem i).mpr bi
  have sorted:(ziv u).Pairwise (· < ·):=by
   unfold ziv
   exact List.Pairwise.filter _ List.pairwise_lt_range
  rw [hn] at hm sorted
  rcases yN.mp hm with e | e
  ·omega
  ·have:=(List.pairwise_cons.mp sorted).1 i e
   omega
noncomputable def sp_osR (K:PySem.W.Frag):Sp:=fun vs H Q _=>∃ (x:V) (d:Addr) (w:zaB) (fs:List Flt) (G:Hp),vs= [x,.ref d]∧Off [d] G H∧Rep K G x (zbC w)∧WF 20 w∧H d=some (.dT (tabV fs))∧(∀ f∈fs,f.worth=0∨f.worth=1)∧zdP fs∧fs.length≤1000∧
 ∀ (r:Addr) (ob:jK) (H':Hp),Same G H'→G r=none→H' d=some (.frz ob (.dT (tabV fs)))→H' r=some (.lst ((zcl w fs).map V.int))→Q (.ref r) H'
noncomputable def sp_osT (K:PySem.W.Frag):Sp:=fun vs H Q _=>∃ (x:V) (d:Addr) (w:zaB) (fs:List Flt),vs= [x,.ref d]∧Rep K H x (zbC w)∧WF 20 w∧H d=some (.dT (tabV fs))∧(∀ f∈fs,f.worth=0∨f.worth=1)∧zdP fs∧fs.length≤1000∧
 ∀ (r:Addr) (H':Hp),Same H H'→H r=none→H' r=some (.lst ((zcl w fs).map V.int))→Q (.ref r) H'
theorem zkU {K:PySem.W.Frag}{H:Hp}{p a:Addr}{xs:List V}{kvs:List (List Key×V)}(h:SqT K H a xs)(e:H p=some (.dT kvs)):SqT K (hole p H) a xs:=by
 rcases h with h | h
 ·left
  rcases h with h | ⟨o,h⟩
  ·exact .inl (by rw [zdW (fun z=>by rw [z,e] at h;cases h)];exact h)
  ·exact .inr ⟨o,by rw [zdW (fun z=>by rw [z,e] at h;cases h)];exact h⟩
 ·exact .inr h
theorem zkG {K:PySem.W.Frag}{H:Hp}{p a:Addr}{xs:List V}{kvs:List (List Key×V)}(h:SqL K H a xs)(e:H p=some (.dT kvs)):SqL K (hole p H) a xs:=by
 rcases h with h | h
 ·left
  rcases h with h | ⟨o,h⟩
  ·exact .inl (by rw [zdW (fun z=>by rw [z,e] at h;cases h)];exact h)
  ·exact .inr ⟨o,by rw [zdW (fun z=>by rw [z,e] at h;cases h)];exact h⟩
 ·exact .inr h
mutual
theorem zjj {K:PySem.W.Frag}{H:Hp}{d:Addr}{kvs:List (List Key×V)}(e:H d=some (.dT kvs)):∀ {v:V} {D:Dat},Rep K H v D→Rep K (hole d H) v D
 | _,_,.non=>.non
 | _,_,.bl b=>.bl b
 | _,_,.int i=>.int i
 | _,_,.str x=>.str x
 | _,_,.tup h r=>.tup (zkU h e) (zfC e r)
 | _,_,.lst h r=>.lst (zkG h e) (zfC e r)
theorem zfC {K:PySem.W.Frag}{H:Hp}{d:Addr}{kvs:List (List Key×V)}(e:H d=some (.dT kvs)):∀ {vs:List V} {Ds:List Dat},Reps K H vs Ds→Reps K (hole d H) vs Ds
 | _,_,.nil=>.nil
 | _,_,.cons h r=>.cons (zjj e h) (zfC e r)
end
noncomputable def zgS (H H':Hp) (o:Option (List Int)) (v:V):Prop:=match o with
 | none=>v= .non
 | some row=>∃ q,v= .ref q∧H q=none∧H' q=some (.lst (row.map V.int))
noncomputable def sp_fu (K:PySem.W.Frag):Sp:=fun vs H Q _=>∃ (x:V) (d e:Addr) (w:zaB) (fs gs:List Flt),vs= [x,.ref d,.ref e]∧Rep K H x (zbC w)∧WF 20 w∧H d=some (.dT (tabV fs))∧H e=some (.dT (tabV gs))∧(∀ f∈fs,f.worth=0∨f.worth=1)∧(∀ f∈gs,f.worth=0∨f.worth=1)∧zdP fs∧zdP gs∧fs.length≤1000∧gs.length≤1000∧
 ∀ (v:V) (H':Hp),Same H H'→zgS H H' (zbe w fs gs) v→Q v H'
noncomputable def sp_ft (K:PySem.W.Frag):Sp:=fun vs H Q _=>∃ (x y:V) (w:zaB) (fs:List Flt),vs= [x,y]∧Rep K H x (zbC w)∧WF 20 w∧Rep K H y (.list (fs.map fltD))∧(∀ f∈fs,zdt w f)∧zdP fs∧fs.length≤1000∧
 ∀ (v:V) (H':Hp),Same H H'→zgS H H' (zbe w fs []) v→Q v H'
theorem zgS.any {G H':Hp}{o:Option (List Int)}{v:V}{H:Hp}(h:zgS H H' o v)(s:Same G H):zgS G H' o v:=by
 unfold zgS at *
 cases o with
 | none=>exact h
 | some row=>
  obtain ⟨q,a,b,c⟩:=h
  exact ⟨q,a,s.free b,c⟩
noncomputable def sp_paT (K:PySem.W.Frag):Sp:=fun vs H Q _=>∃ (x y z:V) (w:zaB) (fs gs:List Flt),vs= [x,y,z]∧Rep K H x (zbC w)∧WF 20 w∧Rep K H y (.list (fs.map fltD))∧(∀ f∈fs,zdt w f)∧zdP fs∧fs.length≤1000∧Rep K H z (.list (gs.map fltD))∧(∀ f∈gs,zdt w f)∧zdP gs∧gs.length≤1000∧
 ∀ (v:V) (H':Hp),Same H H'→zgS H H' (zbe w fs gs) v→Q v H'
noncomputable def figL (ns:List Int):List Nat:=ns.map fun n=>(48+n).toNat
noncomputable def figS (ns:List Int):Str:=⟨(figL ns).toArray⟩
theorem zg4 {n:Int}(h:n=0∨n=1):numS n=⟨#[(48+n).toNat]⟩:=by
 rcases h with rfl | rfl
 ·decide+kernel
 ·decide+kernel
theorem zl2:yB "" =⟨#[]⟩:=by decide+kernel
theorem join0:∀ zs:List Str,(xE ⟨#[]⟩ zs).cps.toList=(zs.map fun z=>z.cps.toList).flatten
 | []=>rfl
 | [z]=>by rw [vP,List.flatten_singleton];rfl
 | z::y::r=>by
  have ih:=join0 (y::r)
  show ((z++⟨#[]⟩++xE ⟨#[]⟩ (y::r)):Str).cps.toList=_
  rw [qJ,ybD,← ih]
  show ((z.cps++ #[])++(xE ⟨#[]⟩ (y::r)).cps).toList=_
  rw [vE,Array.append_empty]
theorem zit:∀ {ns:List Int},Bits ns→((ns.map numS).map fun z=>z.cps.toList).flatten=figL ns
 | [],_=>rfl
 | n::ns,hb=>by
  rw [qJ,qJ,ybD,zit fun x hx=>hb x (.tail _ hx),zg4 (hb n (.head _))]
  rfl
theorem zjy {ns:List Int}(hb:Bits ns):xE (yB "") (ns.map numS)=figS ns:=zdl (by rw [zl2,join0,zit hb])
noncomputable def DkAt (C:Addr) (H:Hp) (d:Addr) (zs:List Str):Prop:=∃ (dx r a:Addr),H d=some (.ins C dx [("rows",.ref r),("answers",.ref a)])∧H r=some (.lst (zs.map V.str))
noncomputable def zoz (C:Addr):Sp:=fun vs H Q _=>∃ (x dx:Addr),vs= [.ref x]∧H x=some (.ins C dx [])∧∀ H',zbk x H H'→DkAt C H' x []→Q .non H'
noncomputable def zoV (C:Addr):Sp:=fun vs H Q _=>∃ (d dx r:Addr) (v1 v2:V) (zs:List Str),vs= [.ref d,.ref r]∧H d=some (.ins C dx [("rows",v1),("answers",v2)])∧H r=some (.lst (zs.map V.str))∧zs.length≤1000∧
 ∀ H',zbk d H H'→DkAt C H' d zs→Q (.str (yB "rows " ++numS zs.length)) H'
noncomputable def znR (K:PySem.W.Frag):Sp:=fun vs H Q _=>∃ (p:Addr) (ns:List Int),vs= [.ref p]∧SqL K H p (ns.map V.int)∧Bits ns∧ns.length≤100∧∀ H',Same H H'→Q (.str (figS ns)) H'
theorem zeH {n:Nat}(h:n≤1000):(yB "rows " ++numS (n:Int)).length≤100:=by
 have e:(yB "rows ").length=5:=by decide+kernel
 have:=zdJ (n:=(n:Int)) ⟨by omega,by have:(1001:Int) < 10 ^ 41:=(by decide);omega⟩
 rw [zdZ,e]
 omega
theorem zgU {n:Nat}(h:n≤1000):((n:Int)).natAbs.log2 < 1920:=zh9 ⟨by omega,by have:(1001:Int) < 10 ^ 41:=(by decide);omega⟩
noncomputable def zof:List Str:=["clear","fewest","bare","less","next"]
theorem zmF {z:Str}(h: 32∈z.cps.toList):inV (V.str z) (zof.map V.str)=false:=by
 refine yaw.mpr fun y=>?_
 obtain ⟨x,hx,e⟩:=ybJ.mp y
 obtain ⟨u,hu,rfl⟩:=qE.mp hx
 have e2:u=z:=eq_of_beq (show (u==z)=true from e)
 subst e2
 have key:∀ u∈zof,32∉u.cps.toList:=by decide+kernel
 exact key u hu h
theorem zn2 {z:Str}(h: 10∉z.cps.toList):(!(qR z (yB "\n") 0 z.length 1).isEmpty)=false:=by
 rw [ziJ,ybC]
 exact decide_eq_false h
theorem zjS {w a b l:List Nat}{c:Nat}(e:w++c::l=a++c::b)(hw:c∉w)(ha:c∉a):a=w∧b=l:=by
 induction w generalizing a with
 | nil=>
  cases a with
  | nil=>exact ⟨rfl,(jY e).2.symm⟩
  | cons x a=>exact absurd (jY e).1 (fun z=>ha (by rw [z];exact .head _))
 | cons y w ih=>
  cases a with
  | nil=>exact absurd (jY e).1.symm (fun z=>hw (by rw [z];exact .head _))
  | cons x a=>
   obtain ⟨e1,e2⟩:=jY e
   obtain ⟨h1,h2⟩:=ih (a:=a) e2 (fun z=>hw (.tail _ z)) (fun z=>ha (.tail _ z))
   exact ⟨by rw [e1,h1],h2⟩
noncomputable def zdX (zs:List Str):Str:=xE (yB "\n") zs
theorem zdv (zs:List Str):(zdX zs).cps.toList=zbr 10 (zs.map fun z=>z.cps.toList):=by
 unfold zdX
 rw [ziJ,zdH]
theorem zkf {zs:List Str}(ne:zs≠[])(cl:∀ z∈zs,10∉z.cps.toList):zlW (zdX zs).cps.toList=allO rowN (zs.map fun z=>z.cps.toList):=by
 unfold zlW
 rw [zdv,zcM (fun z=>ne (yah.mp z)) fun p hp=>by
  obtain ⟨z,hz,rfl⟩:=qE.mp hp
  exact cl z hz]
noncomputable def zdc (w:zaB):List Str:=(zc4 w).map txtW
theorem zjH (n:Nat):numL (digs n)=some n:=by
 unfold numL
 rw [if_neg,zhX]
 rintro (h | ⟨h1,h2⟩ | h)
 ·exact ziM n h
 ·cases e:digs n with
  | nil=>exact ziM n e
  | cons a r=>
   rw [e] at h1 h2
   have ea:a=48:=yV h1
   rw [ea] at e h2
   exact h2 (by rw [zkq n r e])
 ·exact h (zfq n)
theorem zpj {f:Rwt}(ok:f.Ok):rowN (rowL f)=some (f.word.cps.toList,f.ns):=by
 unfold rowN rowL
 rw [zcM (fun z=>by cases z) (zfX ok)]
 show (zbZ (f.ns.map fun n=>digs n.toNat)).map _=_
 have key:∀ ns:List Int,(∀ n∈ns,0≤n∧n < 10 ^ 41)→zbZ (ns.map fun n=>digs n.toNat)=some ns:=by
  intro ns
  induction ns with
  | nil=>exact fun _=>rfl
  | cons n ns ih=>
   intro h
   have hn:=h n (.head _)
   have e:numL (digs n.toNat)=some n.toNat:=zjH n.toNat
   rw [qJ]
   unfold zbZ
   rw [e,ih fun x hx=>h x (.tail _ hx)]
   show some _=some _
   rw [kZ hn.1]
 rw [key _ ok.num]
 rfl
theorem zi4 {w:zaB}(wf:WF 20 w):∀ z∈zdc w,10∉z.cps.toList:=fun z hz=>by
 obtain ⟨f,hf,rfl⟩:=qE.mp hz
 intro h
 rw [show (txtW f).cps.toList=rowL f from tl _] at h
 exact (zf0 (zhB wf f hf) _ h).1 rfl
theorem zii {α β γ :Type}{f: β→Option γ}{g: α→β}{h: α→γ}:∀ {l:List α},(∀ a∈l,f (g a)=some (h a))→allO f (l.map g)=some (l.map h)
 | [],_=>rfl
 | a::l,e=>by
  rw [qJ]
  unfold allO
  rw [e a (.head _),zii fun b hb=>e b (.tail _ hb)]
  rfl
theorem wordsA (w:zaB):(zdc w).map (fun z=>z.cps.toList)=(zc4 w).map rowL:=by
 unfold zdc
 rw [jX]
 exact jM fun f _=>tl _
theorem zie {w:zaB}(wf:WF 20 w):ziP (zdX (zdc w)) w:=by
 refine ⟨(zc4 w).map fun f=>(f.word.cps.toList,f.ns),?_,?_⟩
 ·rw [zkf (fun z=>by cases z) (zi4 wf),wordsA]
  exact zii fun f hf=>zpj (zhB wf f hf)
 ·refine ⟨w.ins,w.gates.map fun g=>(g.1.cps.toList,g.2),w.outs,?_,fun g hg=>?_,?_⟩
  ·unfold zc4 zcL
   rw [qJ,yM,jX,vP]
   rw [show (yB "in").cps.toList=inW by decide+kernel,show (yB "out").cps.toList=outW by decide+kernel]
   rfl
  ·obtain ⟨g0,hg0,rfl⟩:=qE.mp hg
   obtain ⟨k,hk⟩:=jR hg0
   have:=zkH (wf.legs k g0 hk).1
   show zck ⟨g0.1.cps.toList.toArray⟩
   rw [show (⟨g0.1.cps.toList.toArray⟩:Str)=g0.1 from (zdl rfl).symm]
   exact this
  ·rw [jX]
   have e:w.gates.map (zcC ∘ fun g=>(g.1.cps.toList,g.2))=w.gates:=by
    have:∀ g∈w.gates,(zcC ∘ fun g:Str×List Int=>(g.1.cps.toList,g.2)) g=g:=fun g _=>by
     show ((⟨g.1.cps.toList.toArray⟩:Str),g.2)=g
     rw [show (⟨g.1.cps.toList.toArray⟩:Str)=g.1 from (zdl rfl).symm]
    rw [jM this,List.map_id']
   rw [e]
theorem DkAt.on {C:Addr}{H H':Hp}{d:Addr}{zs:List Str}(h:DkAt C H d zs)(k:Same H H'):DkAt C H' d zs:=by
 obtain ⟨dx,r,a,h1,h2⟩:=h
 exact ⟨dx,r,a,k _ _ h1,k _ _ h2⟩
theorem zlH {zs:List Str}(ne:zs≠[])(cl:∀ z∈zs,10∉z.cps.toList):(cutL 10 (zdX zs).cps.toList).map (fun p=>V.str ⟨p.toArray⟩)=zs.map V.str:=by
 rw [zdv,zcM (fun z=>ne (yah.mp z)) (fun p hp=>by
  obtain ⟨z,hz,rfl⟩:=qE.mp hp
  exact cl z hz),jX]
 refine jM fun z _=>?_
 show V.str ⟨z.cps.toList.toArray⟩=V.str z
 rw [show (⟨z.cps.toList.toArray⟩:Str)=z from (zdl rfl).symm]
theorem zmY {zs:List Str}(l:zs.length≤100)(h:∀ z∈zs,z.length≤600):(zdX zs).length≤100000:=by
 have e:(zdX zs).length=(zdX zs).cps.toList.length:=yY.symm
 rw [e,zdv]
 have:=zhg (k:=600) (ps:=zs.map fun z=>z.cps.toList) fun p hp=>by
  obtain ⟨z,hz,rfl⟩:=qE.mp hp
  have e2:z.cps.toList.length=z.length:=yY
  rw [e2]
  exact h z hz
 rw [yA] at this
 omega
noncomputable def zoh (C:Addr):Sp:=fun vs H Q _=>∃ (d:Addr) (zs:List Str),vs= [.ref d,.str (zdX zs)]∧zs≠[]∧(∀ z∈zs,(∀ c∈z.cps.toList,c≠10)∧z.length≤600)∧zs.length≤100∧DkAt C H d []∧∀ H',zbk d H H'→DkAt C H' d zs→Q (.bl true) H'
theorem zfJ {K:PySem.W.Frag}{H:Hp}:∀ zs:List Str,Reps K H (zs.map V.str) (zs.map Dat.str)
 | []=>.nil
 | z::zs=>.cons (.str z) (zfJ zs)
noncomputable def zmy (n:Nat):List Str:=(xK n).map fun k=>yB "rows " ++numS ((k+1:Nat):Int)
theorem zjv {n:Nat}(h:n≤1000):PySem.W.kqdOk 8 (.list ((zmy n).map Dat.str))=true:=by
 show ((zmy n).map Dat.str).all (PySem.W.kqdOk 7)=true
 refine qY.mpr fun d hd=>?_
 obtain ⟨z,hz,rfl⟩:=qE.mp hd
 obtain ⟨k,hk,rfl⟩:=qE.mp hz
 have so:yaV (yB "rows " ++numS ((k+1:Nat):Int))=true:=by
  show (yB "rows " ++numS ((k+1:Nat):Int)).cps.all (· < 0x110000)=true
  rw [← ybO,zeA,List.all_append]
  have e1:((yB "rows ").cps.toList.all fun x=>decide (x < 0x110000))=true:=by decide+kernel
  rw [e1,Bool.true_and,zhw (by omega)]
  refine qY.mpr fun c hc=>decide_eq_true ?_
  have:=zfq _ c hc
  omega
 show yaV _=true
 exact so
theorem wf_up {m:Nat}{w:zaB}(wf:WF m w)(hm:m≤20):WF 20 w:=⟨wf.i1,wf.i6,jA wf.few hm,wf.legs,wf.o1,by have:=wf.o3;omega,wf.outs⟩
theorem zi6 {w:zaB}(wf:WF 12 w)(h3:w.outs.length≤3):(∀ z∈zdc w,z.length≤15∧∀ c∈z.cps.toList,c≠10∧c < 128)∧(zdc w).length≤14:=by
 have wf2:WF 20 w:=wf_up wf (by decide)
 have few:=wf.few
 have i6:=wf.i6
 have dg:∀ n:Int,n < 100→(digs n.toNat).length≤2:=fun n hn=>zha _ 2 (by omega) (by decide)
 have rl:∀ (x:Str) (ns:List Int),(∀ n∈ns,n < 100)→(rowL ⟨x,ns⟩).length≤x.length+ns.length * 3:=fun x ns hn=>by
  have:=zhC (ns.map fun n=>digs n.toNat) x.cps.toList fun q hq=>by
   obtain ⟨n,hm,rfl⟩:=qE.mp hq
   exact dg n (hn n hm)
  rw [yA] at this
  have e:x.cps.toList.length=x.length:=yY
  rw [e] at this
  exact this
 refine ⟨fun z hz=>?_,?_⟩
 ·obtain ⟨f,hf,rfl⟩:=qE.mp hz
  refine ⟨?_,fun c hc=>?_⟩
  ·have e:(txtW f).length=(rowL f).length:=by show (rowL f).toArray.size=_;simp
   rw [e]
   rcases yN.mp hf with rfl | hf
   ·have:=rl "in" [w.ins] fun n hn=>by rw [yK.mp hn];omega
    have e:(yB "in").length=2:=by decide+kernel
    rw [e] at this
    exact jA this (by show 2+1 * 3≤15;decide)
   rcases yS.mp hf with hf | hf
   ·obtain ⟨g,hg,rfl⟩:=qE.mp hf
    obtain ⟨k,hk⟩:=jR hg
    obtain ⟨lk,lb⟩:=wf.legs k g hk
    have hkl:=(yF.mp hk).1
    have:=rl g.1 g.2 fun n hn=>by have:=lb n hn;omega
    have e1:(yB "and").length=3:=by decide+kernel
    have e2:(yB "or").length=2:=by decide+kernel
    have e3:(yB "odd").length=3:=by decide+kernel
    have e4:(yB "not").length=3:=by decide+kernel
    have e5:(yB "choose").length=6:=by decide+kernel
    have e6:(yB "zero").length=4:=by decide+kernel
    have e7:(yB "one").length=3:=by decide+kernel
    refine jA this ?_
    rcases lk with ⟨e | e | e,l⟩ | ⟨e,l⟩ | ⟨e,l⟩ | ⟨e | e,l⟩ <;> rw [e] <;> omega
   ·rw [yK.mp hf]
    have:=rl "out" w.outs fun n hn=>by have:=wf.outs n hn;omega
    have e:(yB "out").length=3:=by decide+kernel
    rw [e] at this
    omega
  ·rw [show (txtW f).cps.toList=rowL f from tl _] at hc
   exact zf0 (zhB wf2 f hf) c hc
 ·show ((zc4 w).map txtW).length≤14
  rw [yA]
  show (zcL w.gates++ [(⟨"out",w.outs⟩:Rwt)]).length+1≤14
  unfold zcL
  rw [yI,yA,qM]
  omega
noncomputable def znJ (zs:List Str):Prop:=∀ z∈zs,z.length≤15∧∀ c∈z.cps.toList,c≠10∧c < 128
theorem znh {zs:List Str}(h:znJ zs)(l:zs.length≤20):TX (zdX zs)∧(zs.map (·.length)).sum+zs.length≤1000:=by
 have e:(zdX zs).length=(zdX zs).cps.toList.length:=yY.symm
 refine ⟨⟨?_,fun c hc=>?_⟩,?_⟩
 ·rw [e,zdv]
  have:=zhg (k:=15) (ps:=zs.map fun z=>z.cps.toList) fun p hp=>by
   obtain ⟨z,hz,rfl⟩:=qE.mp hp
   have e2:z.cps.toList.length=z.length:=yY
   rw [e2]
   exact (h z hz).1
  rw [yA] at this
  omega
 ·rw [zdv] at hc
  rcases zer hc with rfl | ⟨p,hp,hx⟩
  ·decide
  ·obtain ⟨z,hz,rfl⟩:=qE.mp hp
   exact ((h z hz).2 c hx).2
 ·have:=zeY (g:=fun z:Str=>z.length) (k:=15) (l:=zs) fun z hz=>(h z hz).1
  omega
theorem zlz {w:zaB}(wf:WF 20 w):ziY w:=⟨wf.i1,fun k g hk=>wf.legs k g hk,wf.o1,wf.outs⟩
theorem zi9 {a b:V}(h:a=b):¬((!decide (a=b))=true):=by
 rw [decide_eq_true h]
 decide
noncomputable def fltR (f:Flt):Rwt:=match f.place with
 | .inr s::ks=>⟨s,ks.filterMap (fun k=>match k with | .inl n=>some n | .inr _=>none)++ [f.worth]⟩
 | _=>⟨"",[]⟩
noncomputable def txtF (f:Flt):Str:=txtW (fltR f)
noncomputable def fltO (f:Flt):HO:=.tup (f.place.map kV++ [.int f.worth])
noncomputable def zcm (f:Flt):Prop:=((∃ i:Nat,i < 100∧f.place=zcE i)∨∃ k i:Nat,k < 100∧i < 100∧f.place=legK k i)∧(f.worth=0∨f.worth=1)
theorem zjP {w:zaB}{f:Flt}(wf:WF 20 w)(h:zdt w f):zcm f:=by
 have i6:=wf.i6
 have few:=wf.few
 refine ⟨?_,h.2⟩
 rcases yS.mp h.1 with h | h
 ·obtain ⟨i,hi,e⟩:=zgs h
  exact .inl ⟨i,by omega,e⟩
 ·obtain ⟨k,i,hk,hi,e⟩:=zgz h
  refine .inr ⟨k,i,by omega,?_,e⟩
  rw [yQ hk] at hi
  have:=(wf.legs k _ (yQ hk)).1.le
  have hi2:i < (w.gates[k]).2.length:=hi
  omega
theorem zcf {f:Flt}(h:zcm f):(∃ i:Nat,i < 100∧f.place=zcE i∧fltR f=⟨"wire",[(i:Int),f.worth]⟩)∨∃ k i:Nat,k < 100∧i < 100∧f.place=legK k i∧fltR f=⟨"leg",[(k:Int),(i:Int),f.worth]⟩:=by
 rcases h.1 with ⟨i,hi,e⟩ | ⟨k,i,hk,hi,e⟩
 ·exact .inl ⟨i,hi,e,by unfold fltR;rw [e];rfl⟩
 ·exact .inr ⟨k,i,hk,hi,e,by unfold fltR;rw [e];rfl⟩
theorem ziW {f:Flt}(h:zcm f):(fltR f).Ok:=by
 have big:(1000:Int) < 10 ^ 41:=by decide
 have w01: 0≤f.worth∧f.worth < 1000:=by rcases h.2 with e | e <;> rw [e] <;> decide
 rcases zcf h with ⟨i,hi,_,e⟩ | ⟨k,i,hk,hi,_,e⟩
 ·rw [e]
  refine ⟨zbf (l:=[119,105,114,101]) (by show (yB "wire").cps.toList=_;decide+kernel) (by decide),(by show (yB "wire").length≤10;decide+kernel),(by show 1≤(yB "wire").length;decide+kernel),fun n hn=>?_,by show 2≤60;decide⟩
  rcases yN.mp hn with rfl | hn
  ·omega
  ·rw [yK.mp hn];omega
 ·rw [e]
  refine ⟨zbf (l:=[108,101,103]) (by show (yB "leg").cps.toList=_;decide+kernel) (by decide),(by show (yB "leg").length≤10;decide+kernel),(by show 1≤(yB "leg").length;decide+kernel),fun n hn=>?_,by show 3≤60;decide⟩
  rcases yN.mp hn with rfl | hn
  ·omega
  ·rcases yN.mp hn with rfl | hn
   ·omega
   ·rw [yK.mp hn];omega
theorem zm4 {f:Flt}(h:zcm f):(rowL (fltR f)).length≤20:=by
 have w01:f.worth < 100:=by rcases h.2 with e | e <;> rw [e] <;> decide
 have dg:∀ n:Int,n < 100→(digs n.toNat).length≤2:=fun n hn=>zha _ 2 (by omega) (by decide)
 have rl:∀ (x:Str) (ns:List Int),(∀ n∈ns,n < 100)→(rowL ⟨x,ns⟩).length≤x.length+ns.length * 3:=fun x ns hn=>by
  have:=zhC (ns.map fun n=>digs n.toNat) x.cps.toList fun q hq=>by
   obtain ⟨n,hm,rfl⟩:=qE.mp hq
   exact dg n (hn n hm)
  rw [yA] at this
  have e:x.cps.toList.length=x.length:=yY
  rw [e] at this
  exact this
 rcases zcf h with ⟨i,hi,_,e⟩ | ⟨k,i,hk,hi,_,e⟩
 ·rw [e]
  refine jA (rl _ _ fun n hn=>?_) (by show (yB "wire").length+2 * 3≤20;decide+kernel)
  rcases yN.mp hn with rfl | hn
  ·omega
  ·rw [yK.mp hn];omega
 ·rw [e]
  refine jA (rl _ _ fun n hn=>?_) (by show (yB "leg").length+3 * 3≤20;decide+kernel)
  rcases yN.mp hn with rfl | hn
  ·omega
  ·rcases yN.mp hn with rfl | hn
   ·omega
   ·rw [yK.mp hn];omega
theorem zja (f:Flt):(txtF f).cps.toList=rowL (fltR f):=tl _
theorem zbw {f:Flt}(h:zcm f):∀ c∈(txtF f).cps.toList,c≠10∧c < 128∧c≠44:=fun c hc=>by
 rw [zja] at hc
 have a:=zf0 (ziW h) c hc
 refine ⟨a.1,a.2,?_⟩
 rcases zer hc with rfl | ⟨p,hp,hx⟩
 ·decide
 ·rcases yN.mp hp with rfl | hp
  ·have key:∀ d∈(fltR f).word.cps.toList,d≠44:=by
    rcases zcf h with ⟨i,hi,_,e⟩ | ⟨k,i,hk,hi,_,e⟩
    ·rw [e];show ∀ d∈(yB "wire").cps.toList,d≠44;decide+kernel
    ·rw [e];show ∀ d∈(yB "leg").cps.toList,d≠44;decide+kernel
   exact key c hx
  ·obtain ⟨n,_,rfl⟩:=qE.mp hp
   have:=zfq _ _ hx
   omega
theorem zb4 {f:Flt}(h:zcm f):(txtF f).length≤20:=by
 have e:(txtF f).length=(rowL (fltR f)).length:=by show (rowL (fltR f)).toArray.size=_;simp
 rw [e]
 exact zm4 h
theorem zgj:∀ ns:List Int,(∀ n∈ns,0≤n∧n < 10 ^ 41)→zbZ (ns.map fun n=>digs n.toNat)=some ns
 | [],_=>rfl
 | n::ns,h=>by
  have hn:=h n (.head _)
  rw [qJ]
  unfold zbZ
  rw [zjH n.toNat,zgj ns fun x hx=>h x (.tail _ hx)]
  show some _=some _
  rw [kZ hn.1]
noncomputable def sp_rdg:Sp:=fun vs H Q _=>∃ f:Flt,vs= [.str (txtF f)]∧zcm f∧∀ (r:Addr) (H':Hp),Same H H'→H' r=some (fltO f)→Q (.ref r) H'
noncomputable def sp_two:Sp:=fun vs H Q _=>∃ (z:Str) (a b:List Nat),vs= [.str z,.str (yB ", ")]∧z.cps.toList=a++44:: 32::b∧44∉a∧44∉b∧(∀ c∈z.cps.toList,c < 128)∧z.length≤1000∧∀ (D:Addr) (H':Hp),Same H H'→H' D=some (.lst [.str ⟨a.toArray⟩,.str ⟨b.toArray⟩])→Q (.ref D) H'
inductive Ord where
 | put (u:Str)
 | test (f:Flt)
 | alike (f g:Flt)
noncomputable def Ord.word:Ord→Str
 | .put _=>"put"
 | .test _=>"test"
 | .alike _ _=>"alike"
noncomputable def Ord.rest:Ord→Str
 | .put u=>u
 | .test f=>txtF f
 | .alike f g=>txtF f++yB ", " ++txtF g
noncomputable def Ord.text:Ord→Str
 | .put u=>yB "put " ++u
 | .test f=>yB "test " ++txtF f
 | .alike f g=>yB "alike " ++(txtF f++yB ", " ++txtF g)
noncomputable def Ord.Ok:Ord→Prop
 | .put u=>(∀ c∈u.cps.toList,c≠10)∧u.length≤600
 | .test f=>zcm f
 | .alike f g=>zcm f∧zcm g
theorem Ord.textL (o:Ord):o.text.cps.toList=o.word.cps.toList++32::o.rest.cps.toList:=by
 cases o with
 | put u=>
  show (yB "put " ++u).cps.toList=_
  rw [zeA,show (yB "put ").cps.toList=(yB "put").cps.toList++ [32] by decide+kernel,jF]
  rfl
 | test f=>
  show (yB "test " ++_).cps.toList=_
  rw [zeA,show (yB "test ").cps.toList=(yB "test").cps.toList++ [32] by decide+kernel,jF]
  rfl
 | alike f g=>
  show (yB "alike " ++_).cps.toList=_
  rw [zeA,show (yB "alike ").cps.toList=(yB "alike").cps.toList++ [32] by decide+kernel,jF]
  rfl
theorem Ord.wordL (o:Ord): 32∉o.word.cps.toList∧10∉o.word.cps.toList∧o.word.length≤5:=by
 cases o with
 | put u=>exact ⟨by show 32∉(yB "put").cps.toList;decide+kernel,by show 10∉(yB "put").cps.toList;decide+kernel,by show (yB "put").length≤5;decide+kernel⟩
 | test f=>exact ⟨by show 32∉(yB "test").cps.toList;decide+kernel,by show 10∉(yB "test").cps.toList;decide+kernel,by show (yB "test").length≤5;decide+kernel⟩
 | alike f g=>exact ⟨by show 32∉(yB "alike").cps.toList;decide+kernel,by show 10∉(yB "alike").cps.toList;decide+kernel,by show (yB "alike").length≤5;decide+kernel⟩
theorem comma:(yB ", ").cps.toList= [44,32]:=by decide+kernel
theorem zk8:yB ", " =⟨#[44,32]⟩:=by decide+kernel
theorem zlB (f g:Flt):(Ord.alike f g).rest.cps.toList=(txtF f).cps.toList++44:: 32::(txtF g).cps.toList:=by
 show (txtF f++yB ", " ++txtF g).cps.toList=_
 rw [zeA,zeA,comma,jF]
 rfl
theorem Ord.restL {o:Ord}(ok:o.Ok): 10∉o.rest.cps.toList∧o.rest.length≤600:=by
 cases o with
 | put u=>exact ⟨fun h=>ok.1 10 h rfl,ok.2⟩
 | test f=>exact ⟨fun h=>(zbw ok 10 h).1 rfl,by have:=zb4 ok;show (txtF f).length≤600;omega⟩
 | alike f g=>
  refine ⟨fun h=>?_,?_⟩
  ·rw [zlB] at h
   rcases yS.mp h with h | h
   ·exact (zbw ok.1 10 h).1 rfl
   ·rcases yN.mp h with h | h
    ·cases h
    ·rcases yN.mp h with h | h
     ·cases h
     ·exact (zbw ok.2 10 h).1 rfl
  ·show (txtF f++yB ", " ++txtF g).length≤600
   have e:(yB ", ").length=2:=by decide+kernel
   have:=zb4 ok.1
   have:=zb4 ok.2
   rw [zdZ,zdZ,e]
   omega
noncomputable def ThAt (H:Hp) (ys:List V):Ord→Prop
 | .put u=>ys= [.str u]
 | .test f=>∃ r,ys= [.ref r]∧H r=some (fltO f)
 | .alike f g=>∃ r q,ys= [.ref r,.ref q]∧H r=some (fltO f)∧H q=some (fltO g)
theorem ThAt.on {H H':Hp}{ys:List V}{o:Ord}(h:ThAt H ys o)(s:Same H H'):ThAt H' ys o:=by
 cases o with
 | put u=>exact h
 | test f=>obtain ⟨r,e,a⟩:=h;exact ⟨r,e,s _ _ a⟩
 | alike f g=>obtain ⟨r,q,e,a,b⟩:=h;exact ⟨r,q,e,s _ _ a,s _ _ b⟩
theorem ThAt.len {H:Hp}{ys:List V}{o:Ord}(h:ThAt H ys o): 1≤ys.length∧ys.length≤2:=by
 cases o with
 | put u=>rw [show ys= [.str u] from h];exact ⟨yJ _,by show 1≤2;decide⟩
 | test f=>obtain ⟨r,rfl,a⟩:=h;exact ⟨yJ _,by show 1≤2;decide⟩
 | alike f g=>obtain ⟨r,q,rfl,a,b⟩:=h;exact ⟨by show 1≤2;decide,yJ _⟩
noncomputable def OrdAt (H:Hp) (D:Addr) (o:Ord):Prop:=∃ ys,H D=some (.tup (.str o.word::ys))∧ThAt H ys o
noncomputable def sp_rth:Sp:=fun vs H Q _=>∃ o:Ord,vs= [.str o.word,.str o.rest]∧o.Ok∧∀ (D:Addr) (ys:List V) (H':Hp),Same H H'→H' D=some (.tup ys)→ThAt H' ys o→Q (.ref D) H'
noncomputable def sp_rdo:Sp:=fun vs H Q _=>∃ o:Ord,vs= [.str o.text]∧o.Ok∧∀ (D:Addr) (H':Hp),Same H H'→OrdAt H' D o→Q (.ref D) H'
noncomputable def rowT (o:Option (List Int)) (u:Str):Str:=match o with
 | none=>u
 | some row=>figS row
noncomputable def sp_sor (K:PySem.W.Frag):Sp:=fun vs H Q _=>∃ (v:V) (u:Str) (o:Option (List Int)),vs= [v,.str u]∧(∀ row,o=some row→Bits row∧row.length≤100)∧(match o with | none=>v= .non | some row=>∃ q,v= .ref q∧H q=some (.lst (row.map V.int)))∧∀ H',Same H H'→Q (.str (rowT o u)) H'
noncomputable def askW (w:zaB):Ord→Prop
 | .put _=>False
 | .test f=>zdt w f
 | .alike f g=>zdt w f∧zdt w g
noncomputable def askT (w:zaB):Ord→Str
 | .put _=>""
 | .test f=>rowT (zbe w [f] []) "never"
 | .alike f g=>rowT (zbe w [f] [g]) "yes"
noncomputable def sp_tof (K:PySem.W.Frag):Sp:=fun vs H Q _=>∃ (x:V) (D:Addr) (w:zaB) (o:Ord),vs= [x,.ref D]∧Rep K H x (zbC w)∧WF 20 w∧OrdAt H D o∧askW w o∧∀ H',Same H H'→Q (.str (askT w o)) H'
noncomputable def zns (C:Addr) (d:Addr) (zs:List Str) (H:Hp) (Q:VK):Ord→Prop
 | .put u=>∀ H',zbk d H H'→DkAt C H' d (zs++ [u])→Q (.str (yB "rows " ++numS ((zs.length+1:Nat):Int))) H'
 | o=>TX (zdX zs)∧(zs.map (·.length)).sum+zs.length≤1000∧∃ w,ziP (zdX zs) w∧WF 20 w∧ziY w∧askW w o∧∀ H',Same H H'→Q (.str (askT w o)) H'
theorem zmu {C d:Addr}{zs:List Str}{H:Hp}{Q Q':VK}{o:Ord}(q:zns C d zs H Q o)(hQ:∀ (z:Str) (H2:Hp),(∀ H3,Same H2 H3→Q (.str z) H3)→Q' (.str z) H2):zns C d zs H Q' o:=by
 cases o with
 | put u=>exact fun H2 s2 e2=>hQ _ _ fun H3 s3=>q H3 (s2.trans (s3.b d)) (e2.on s3)
 | test f=>
  obtain ⟨tx,lz,w,tw,wf,gw,aw,q⟩:=q
  exact ⟨tx,lz,w,tw,wf,gw,aw,fun H2 s2=>hQ _ _ fun H3 s3=>q H3 (s2.trans s3)⟩
 | alike f g=>
  obtain ⟨tx,lz,w,tw,wf,gw,aw,q⟩:=q
  exact ⟨tx,lz,w,tw,wf,gw,aw,fun H2 s2=>hQ _ _ fun H3 s3=>q H3 (s2.trans s3)⟩
noncomputable def sp_say (C:Addr):Sp:=fun vs H Q _=>∃ (d:Addr) (o:Ord) (zs:List Str),vs= [.ref d,.str o.text]∧o.Ok∧DkAt C H d zs∧zs.length≤900∧zns C d zs H Q o
noncomputable def sp_ltd (C:Addr):Sp:=fun vs H Q _=>∃ (d:Addr) (o:Ord) (zs:List Str),vs= [.ref d,.str o.text]∧o.Ok∧DkAt C H d zs∧zs.length≤900∧zns C d zs H Q o
noncomputable def zop (K:PySem.W.Frag):Sp:=fun vs H Q _=>∃ (a:Addr) (ns:List Int),vs= [.ref a,.int 0]∧SqL K H a (ns.map V.int)∧∀ c:Int,Q (.int c) H
noncomputable def sp_lsh (K:PySem.W.Frag):Sp:=fun vs H Q _=>∃ (r:Addr) (f:Flt),vs= [.ref r]∧H r=some (fltO f)∧zcm f∧∀ H',Same H H'→Q (.str (txtF f)) H'
noncomputable def zlE (K:PySem.W.Frag):Sp:=fun vs H Q _=>∃ (pd:Addr) (x:V) (n:Int) (w:zaB) (G:Hp),vs= [.ref pd,x]∧H pd=some (.lst [.int n])∧Same G H∧G pd=none∧Rep K G x (zbC w)∧WF 20 w∧
 ∀ (f:Flt) (r:Addr) (n':Int) (H':Hp),zdt w f→zbk pd H H'→H' pd=some (.lst [.int n'])→H r=none→H' r=some (fltO f)→Q (.ref r) H'
noncomputable def dueR (o:Option (List Int)):V:=match o with
 | none=>.non
 | some row=>.str (figS row)
noncomputable def zl6 (K:PySem.W.Frag):Sp:=fun vs H Q _=>∃ (x:V) (d e:Addr) (w:zaB) (fs gs:List Flt),vs= [x,.ref d,.ref e]∧Rep K H x (zbC w)∧WF 20 w∧H d=some (.dT (tabV fs))∧H e=some (.dT (tabV gs))∧(∀ f∈fs,f.worth=0∨f.worth=1)∧(∀ f∈gs,f.worth=0∨f.worth=1)∧∀ H',Same H H'→Q (dueR (zbe w fs gs)) H'
theorem zoo {f:Flt}(h:zcm f):fltO f= .tup (.str (fltR f).word::(fltR f).ns.map V.int):=by
 unfold fltO
 rcases zcf h with ⟨i,_,e1,e2⟩ | ⟨k,i,_,_,e1,e2⟩ <;> rw [e1,e2] <;> rfl
noncomputable def rowB (n i:Nat):List Int:=(xK n).map fun k=>((i / 2 ^ (n - 1 - k) % 2:Nat):Int)
theorem zkR (n i:Nat):rowB (n+1) i=((i / 2 ^ n % 2:Nat):Int)::rowB n (i % 2 ^ n):=by
 unfold rowB
 rw [List.range_succ_eq_map,qJ,jX]
 refine congr (congrArg List.cons ?_) (jM fun k hk=>?_)
 ·rfl
 ·have hk':=kA.mp hk
  show ((i / 2 ^ (n+1 - 1 - (k+1)) % 2:Nat):Int)=_
  rw [show n+1 - 1 - (k+1)=n - 1 - k by omega]
  have e: 2 ^ n=2 ^ (n - 1 - k) * 2 * 2 ^ k:=by
   rw [Nat.mul_assoc,← Nat.pow_succ',← ybW]
   congr 1
   omega
  have e2:i % 2 ^ n / 2 ^ (n - 1 - k) % 2=i / 2 ^ (n - 1 - k) % 2:=by
   rw [e,Nat.mul_assoc,Nat.mod_mul_right_div_self,Nat.mod_mul_right_mod]
  rw [e2]
theorem zhm:∀ (n i:Nat),i < 2 ^ n→(zbA n)[i]? =some (rowB n i)
 | 0,i,h=>by
  have:i=0:=by simpa using h
  rw [this]
  rfl
 | n+1,i,h=>by
  rw [zkR]
  show ((zbA n).map (0:: ·)++(zbA n).map (1:: ·))[i]? =_
  have hm:((zbA n).map ((0:Int):: ·)).length=2 ^ n:=by rw [yA,zbL]
  by_cases hi:i < 2 ^ n
  ·rw [jJ (by omega),yL,zhm n i hi,ybP hi,Nat.div_eq_of_lt hi]
   rfl
  ·have h2:i < 2 ^ n * 2:=by rw [wU] at h;exact h
   rw [jD (by omega),hm,yL,zhm n (i - 2 ^ n) (by omega)]
   have e1:i / 2 ^ n=1:=Nat.div_eq_of_lt_le (by omega) (by omega)
   have e2:i % 2 ^ n=i - 2 ^ n:=by
    rw [Nat.mod_eq_sub_mod (by omega),ybP (by omega)]
   rw [e1,e2]
   rfl
theorem zmn (i m:Nat):qO (((0:Int)+(i:Int)) / 2 ^ ((m:Int)).toNat) 1=((i / 2 ^ m % 2:Nat):Int):=by
 have e1:((0:Int)+(i:Int)) / 2 ^ ((m:Int)).toNat=((i / 2 ^ m:Nat):Int):=by
  rw [xQ,xB]
  push_cast
  rfl
 rw [e1]
 show qO ((i / 2 ^ m:Nat):Int) ((1:Nat):Int)=_
 rw [zgR,ybt]
theorem zmP (n i:Nat):(rowB n i).length=n:=by unfold rowB;rw [yA,vX]
theorem zlO (n i:Nat):Bits (rowB n i):=fun x hx=>by
 obtain ⟨k,_,rfl⟩:=qE.mp hx
 have:=Nat.mod_lt (i / 2 ^ (n - 1 - k)) (by decide: 0 < 2)
 omega
theorem zmd {n i k:Nat}(h:k < n):(rowB n i)[k]? =some ((i / 2 ^ (n - 1 - k) % 2:Nat):Int):=by
 unfold rowB
 rw [yL,List.getElem?_range h]
 rfl
theorem pickR (o:Option (List Int))(u:Str):atI [dueR o,V.str u] (if decide (dueR o= .non)=true then 1 else 0)=some (.str (rowT o u)):=by
 cases o with
 | none=>rfl
 | some row=>
  rw [if_neg (fun z=>by cases of_decide_eq_true z)]
  rfl
theorem ziy (w:zaB):(zdc w).length=w.gates.length+2:=by
 show ((zc4 w).map txtW).length=_
 rw [yA]
 show (zcL w.gates++ [(⟨"out",w.outs⟩:Rwt)]).length+1=_
 unfold zcL
 rw [yI,yA,qM]
theorem cutN (xs:List V)(v:V):¬(HT.sIx (xs++ [v]).length 0 none=0∧HT.sIx (xs++ [v]).length (xs++ [v]).length (some (-1))=(xs++ [v]).length):=by
 rintro ⟨_,h⟩
 simp only [HT.sIx] at h
 rw [if_pos (by decide),yI,qM] at h
 omega
section
variable {P:Program} {w:World} {K:PySem.W.Frag} {mg:Str→Option Value} {base:Heap} {t:Adr}
theorem zd5:zav ["cell","k","number"] ["cell","k"] (zak zdL):=⟨rfl,rfl,rfl,by decide+kernel,rfl,by decide+kernel,by decide+kernel⟩
theorem stir_1 (c k:Int)(hk:k=1∨k=2∨k=3): 0≤c % 10 ^ 40 * 48271+3 ^ 60 * (k+1) * (k+1)+k∧c % 10 ^ 40 * 48271+3 ^ 60 * (k+1) * (k+1)+k < 10 ^ 46:=by
 rcases hk with rfl | rfl | rfl <;> omega
theorem stir_2 (n:Int)(h0: 0≤n)(h1:n < 10 ^ 46): 0≤n * n+69621 * n∧n * n+69621 * n < 10 ^ 93:=by
 have a: 0≤n * n:=Int.mul_nonneg h0 h0
 have b:n * n≤10 ^ 46 * 10 ^ 46:=Int.mul_le_mul (Int.le_of_lt h1) (Int.le_of_lt h1) h0 (by decide)
 omega
theorem znP {n:Int}(h: 0≤n∧n < 10 ^ 46):qI n≤2 ^ 20:=zc2 (k:=160) (by decide) (by omega) (by omega)
theorem znQ {n:Int}(h: 0≤n∧n < 10 ^ 93):qI n≤2 ^ 20:=zc2 (k:=320) (by decide) (by omega) (by omega)
theorem znu {n:Int}(h: 0≤n∧n < 10 ^ 62):qI n≤2 ^ 20:=zc2 (k:=220) (by decide) (by omega) (by omega)
theorem zoD {n:Int}(h: 0≤n∧n < 10 ^ 130):qI n≤2 ^ 20:=zc2 (k:=450) (by decide) (by omega) (by omega)
theorem zny (x:Int): 0≤x % (10 ^ 61+7) / 8∧x % (10 ^ 61+7) / 8 < 10 ^ 62:=by omega
theorem zdY (T:Txt K mg t):FnOk P w K mg base CX0 1 t.f_law_stir t.fd_law_stir ["cell","k"] znX:=by
 refine T.d_law_stir.F.okB zd5 (fun vs H Q E h=>?_) (fun cdv A outer s H vs Q E hr h=>?_)
 ·obtain ⟨c,k,rfl,_⟩:=h
  rfl
 obtain ⟨c,k,rfl,hk,q⟩:=h
 refine ⟨_,(zad (zam (k:=2) zd5.nd rfl (Or.inl rfl) (zao za9 (zao za9 (zao zjw (zao zjm (bpv 0) (zao zev zae zae)) zae) (zao zjw (zao zjw (zao zev zae zae) (zao za9 (bpv 1) zae)) (zao za9 (bpv 1) zae))) (bpv 1)))
  (zad (zam (k:=2) zd5.nd rfl (Or.inl rfl) (zao za9 (zao zcS (bpv 2) (bpv 2)) (zao zjw zae (bpv 2))))
  (zaf (zar (zao zkY (zao zjm (zao zcS (bpv 2) (bpv 2)) (zao za9 (zao zev zae zae) zae)) zae))))),?_⟩
 have b1:=stir_1 c k hk
 have b2:=stir_2 _ b1.1 b1.2
 have hk2: 0≤k∧k≤3:=by omega
 have pw:∀ i j:Int,i.natAbs < 2 ^ 64→0≤j→j≤1000000→CPow i j:=fun i j a b c=>⟨b,c,a⟩
 refine ⟨_,rfl,_,_,rfl,rfl,pw _ _ (by decide) (by decide) (by decide),_,_,rfl,rfl,(by show (0:Int) < 10 ^ 40;decide),_,_,rfl,rfl,.inr ⟨by decide,by decide⟩,
  _,_,rfl,rfl,pw _ _ (by decide) (by decide) (by decide),_,rfl,_,_,rfl,rfl,_,_,rfl,rfl,.inr ⟨by omega,by omega⟩,_,rfl,_,_,rfl,rfl,_,_,rfl,rfl,.inr ⟨by omega,by omega⟩,
  _,_,rfl,rfl,_,rfl,_,_,rfl,rfl,?_⟩
 refine ⟨_,rfl,_,rfl,_,_,rfl,rfl,⟨znP b1,znP b1⟩,_,rfl,_,_,rfl,rfl,.inl ⟨by decide,by decide⟩,_,_,rfl,rfl,?_⟩
 refine ⟨_,rfl,_,rfl,_,_,rfl,rfl,⟨znQ b2,znQ b2⟩,
  _,_,rfl,rfl,pw _ _ (by decide) (by decide) (by decide),_,_,rfl,rfl,_,_,rfl,rfl,(by show (0:Int) < 10 ^ 61+7;decide),_,_,rfl,rfl,⟨by decide,by decide⟩,?_⟩
 exact q _ (zny _).1 (zny _).2
theorem ziS:zav ["cell"] ["cell"] (zak zdF):=⟨rfl,rfl,rfl,by decide+kernel,rfl,by decide+kernel,by decide+kernel⟩
theorem zfO (T:Txt K mg t):FnOk P w K mg base CX0 2 t.f_law_deck t.fd_law_deck ["cell"] zoN:=by
 refine T.d_law_deck.F.okB ziS (fun vs H Q E h=>?_) (fun cdv A outer s H vs Q E hr h=>?_)
 ·obtain ⟨c,rfl,_⟩:=h
  rfl
 obtain ⟨c,rfl,q⟩:=h
 refine ⟨_,(zad (zaA (zap op_ge (bpv 0) (zao zev zae zae) (zay _)) (zaf (zar (zaD (zaa (zao zgF (bpv 0) (zao zev zae zae)) (zac))))) zas)
  (zaf (zar (zaD (zaa (zao za9 (zao zcS (zao za9 (zao zcS (zal (zdY T) (hr.mono (by decide)) rfl T.d_law_stir.m T.d_law_stir.F.kp T.d_law_stir.b .nil zaC (zaa (bpv 0) (zaa zae (zac)))) (zao zev zae zae)) (zal (zdY T) (hr.mono (by decide)) rfl T.d_law_stir.m T.d_law_stir.F.kp T.d_law_stir.b .nil zaC (zaa (bpv 0) (zaa zae (zac))))) (zao zev zae zae)) (zal (zdY T) (hr.mono (by decide)) rfl T.d_law_stir.m T.d_law_stir.F.kp T.d_law_stir.b .nil zaC (zaa (bpv 0) (zaa zae (zac))))) (zac)))))),?_⟩
 have pw:∀ i j:Int,i.natAbs < 2 ^ 64→0≤j→j≤1000000→CPow i j:=fun i j a b c=>⟨b,c,a⟩
 refine ⟨_,rfl,_,_,rfl,rfl,pw _ _ (by decide) (by decide) (by decide),_,_,rfl,rfl,_,rfl,ite2 (fun _=>?_) (fun _=>?_)⟩
 ·exact ⟨_,rfl,_,_,rfl,rfl,pw _ _ (by decide) (by decide) (by decide),_,_,rfl,rfl,(by show 1≤yH;decide),fun p hp=>q p _ hp⟩
 ·have b60:qI ((10:Int) ^ (60:Int).toNat)≤2 ^ 20:=znu (n:=10 ^ 60) (by decide)
  refine ⟨_,rfl,c,1,rfl,.inl rfl,fun r1 a1 b1=>?_⟩
  refine ⟨_,_,rfl,rfl,pw _ _ (by decide) (by decide) (by decide),_,_,rfl,rfl,⟨znu ⟨a1,b1⟩,b60⟩,_,rfl,c,2,rfl,.inr (.inl rfl),fun r2 a2 b2=>?_⟩
  have m1: 0≤r1 * 10 ^ 60+r2∧r1 * 10 ^ 60+r2 < 10 ^ 130:=by omega
  refine ⟨_,_,rfl,rfl,_,_,rfl,rfl,pw _ _ (by decide) (by decide) (by decide),_,_,rfl,rfl,⟨zoD m1,b60⟩,_,rfl,c,3,rfl,.inr (.inr rfl),fun r3 a3 b3=>?_⟩
  exact ⟨_,_,rfl,rfl,(by show 1≤yH;decide),fun p hp=>q p _ hp⟩
theorem zfn:zav ["deck","many","taken"] ["deck","many"] (zak zdI):=⟨rfl,rfl,rfl,by decide+kernel,rfl,by decide+kernel,by decide+kernel⟩
theorem zaL (T:Txt K mg t):FnOk P w K mg base CX0 1 t.f_law_take t.fd_law_take ["deck","many"] zoL:=by
 refine T.d_law_take.F.okB zfn (fun vs H Q E h=>?_) (fun cdv A outer s H vs Q E hr h=>?_)
 ·obtain ⟨p,n,m,rfl,_⟩:=h
  rfl
 obtain ⟨p,n,m,rfl,hp,m0,m1,q⟩:=h
 refine ⟨_,(zad (zam (k:=2) zfn.nd rfl (Or.inl rfl) (zao zjm (zaq zaJ (bpv 0) zae (fun _ _=>rfl)) (bpv 1)))
  (zad (ziR (zao zkY (zaq zaJ (bpv 0) zae (fun _ _=>rfl)) (bpv 1)) (zpc (bpv 0) zae zm8))
  (zaf (zar (bpv 2))))),?_⟩
 refine ⟨_,rfl,p,_,_,_,rfl,rfl,.of hp,rfl,_,rfl,_,_,rfl,rfl,m0,?_⟩
 refine ⟨_,rfl,p,_,_,_,rfl,rfl,.of hp,rfl,_,rfl,_,_,rfl,rfl,⟨m0,m1⟩,_,rfl,p,_,_,_,rfl,rfl,hp,rfl,?_⟩
 exact ⟨_,rfl,q _ _ (Int.emod_nonneg _ (Int.ne_of_gt m0)) (Int.emod_lt_of_pos _ m0)⟩
theorem ziK:zav ["deck","kind"] ["deck","kind"] (zak zdE):=⟨rfl,rfl,rfl,by decide+kernel,rfl,by decide+kernel,by decide+kernel⟩
theorem ziO (T:Txt K mg t):FnOk P w K mg base CX0 2 t.f_law_legs t.fd_law_legs ["deck","kind"] zn4:=by
 refine T.d_law_legs.F.okB ziK (fun vs H Q E h=>?_) (fun cdv A outer s H vs Q E hr h=>?_)
 ·obtain ⟨p,n,x,rfl,_⟩:=h
  rfl
 obtain ⟨p,n,x,rfl,hp,hk,q⟩:=h
 have hu1:=zkp hr
 refine ⟨_,(zad (zaA (zap zf1 (bpv 1) (zaP (zaa zaj (zaa zaj (zaa zaj (zac))))) rfl) (zaf (zar (zao za9 zae (zal (zaL T) (hr.mono (by decide)) rfl T.d_law_take.m T.d_law_take.F.kp T.d_law_take.b .nil zaC (zaa (bpv 0) (zaa zae (zac))))))) zas)
  (zaf (zar (zmt hu1 (zjz (zbY zaj zae (zbY zaj zae (zbY zaj zae (zbY zaj zae zjt)))) rfl rfl (by simp) (by decide)) (bpv 1) (fun _ _=>rfl))))),?_⟩
 refine ⟨_,rfl,(by show 3≤yH;decide),fun T1 h1=>⟨T1,_,rfl,.inr (.of zab),rfl,rfl,_,rfl,?_⟩⟩
 have p1:p≠T1:=zai hp h1
 have hp1:∀ o,(upd H T1 o) p=some (.lst [.int n]):=fun o=>by rw [zah p1];exact hp
 have sb:∀ o,zbk p H (upd H T1 o):=fun o=>(zag h1 o).b p
 have d1:∀ (k:Key) (v:V) (m:Nat),zbi x m→v= .int m→V.str x=kV k→valV (zeu [] [(Sum.inr "not",.int 1),(Sum.inr "choose",.int 3),(Sum.inr "zero",.int 0),(Sum.inr "one",.int 0)]) k=some v→
   ∀ d,(upd H T1 (.tup [.str "and",.str "or",.str "odd"])) d=none→DGet (upd (upd (upd H T1 (.tup [.str "and",.str "or",.str "odd"])) d (.dK [])) d (.dK (zeu [] [(Sum.inr "not",.int 1),(Sum.inr "choose",.int 3),(Sum.inr "zero",.int 0),(Sum.inr "one",.int 0)]))) d (.str x) (some v)∧
    Q v (upd (upd (upd H T1 (.tup [.str "and",.str "or",.str "odd"])) d (.dK [])) d (.dK (zeu [] [(Sum.inr "not",.int 1),(Sum.inr "choose",.int 3),(Sum.inr "zero",.int 0),(Sum.inr "one",.int 0)]))):=fun k v m hm ev ek hv d hd=>by
  have hd0:H d=none:=(zag h1 _).free hd
  have pd:p≠d:=zai hp hd0
  refine ⟨by rw [ek,← hv];exact DGet.k zab,?_⟩
  rw [ev]
  exact q m n _ hm ((((zag h1 _).upd hd _).write hd0 _).b p) (by rw [zah pd,zah pd];exact hp1 _)
 have yes:∀ r n':Int,(x="and"∨x="or"∨x="odd")→0≤r→r < 3→Q (.int (2+r)) (upd (upd H T1 (.tup [.str "and",.str "or",.str "odd"])) p (.lst [.int n'])):=fun r n' hx a b=>by
  have e:(((2+r).toNat:Nat):Int)=2+r:=by omega
  have z:=q (2+r).toNat n' (upd (upd H T1 (.tup [.str "and",.str "or",.str "odd"])) p (.lst [.int n'])) (.inl ⟨hx,by omega,by omega⟩) ((sb _).write _) zab
  rw [e] at z
  exact z
 rcases hk with rfl | rfl | rfl | rfl | rfl | rfl | rfl
 all_goals dsimp only
 ·rw [if_pos (by decide+kernel)]
  refine ⟨_,rfl,p,n,3,rfl,hp1 _,by decide,by decide,fun r n' a b=>⟨_,_,rfl,rfl,?_⟩⟩
  exact yes r n' (.inl rfl) a b
 ·rw [if_pos (by decide+kernel)]
  refine ⟨_,rfl,p,n,3,rfl,hp1 _,by decide,by decide,fun r n' a b=>⟨_,_,rfl,rfl,?_⟩⟩
  exact yes r n' (.inr (.inl rfl)) a b
 ·rw [if_pos (by decide+kernel)]
  refine ⟨_,rfl,p,n,3,rfl,hp1 _,by decide,by decide,fun r n' a b=>⟨_,_,rfl,rfl,?_⟩⟩
  exact yes r n' (.inr (.inr rfl)) a b
 ·rw [if_neg (by decide+kernel)]
  intro d hd
  refine ⟨zab,[(Sum.inr "not",.int 1),(Sum.inr "choose",.int 3),(Sum.inr "zero",.int 0),(Sum.inr "one",.int 0)],rfl,by decide,_,rfl,d,.int 1,rfl,?_⟩
  exact d1 (Sum.inr "not") (.int 1) 1 (.inr (.inl ⟨rfl,rfl⟩)) rfl rfl (by decide+kernel) d hd
 ·rw [if_neg (by decide+kernel)]
  intro d hd
  refine ⟨zab,[(Sum.inr "not",.int 1),(Sum.inr "choose",.int 3),(Sum.inr "zero",.int 0),(Sum.inr "one",.int 0)],rfl,by decide,_,rfl,d,.int 3,rfl,?_⟩
  exact d1 (Sum.inr "choose") (.int 3) 3 (.inr (.inr (.inl ⟨rfl,rfl⟩))) rfl rfl (by decide+kernel) d hd
 ·rw [if_neg (by decide+kernel)]
  intro d hd
  refine ⟨zab,[(Sum.inr "not",.int 1),(Sum.inr "choose",.int 3),(Sum.inr "zero",.int 0),(Sum.inr "one",.int 0)],rfl,by decide,_,rfl,d,.int 0,rfl,?_⟩
  exact d1 (Sum.inr "zero") (.int 0) 0 (.inr (.inr (.inr ⟨.inl rfl,rfl⟩))) rfl rfl (by decide+kernel) d hd
 ·rw [if_neg (by decide+kernel)]
  intro d hd
  refine ⟨zab,[(Sum.inr "not",.int 1),(Sum.inr "choose",.int 3),(Sum.inr "zero",.int 0),(Sum.inr "one",.int 0)],rfl,by decide,_,rfl,d,.int 0,rfl,?_⟩
  exact d1 (Sum.inr "one") (.int 0) 0 (.inr (.inr (.inr ⟨.inr rfl,rfl⟩))) rfl rfl (by decide+kernel) d hd
theorem za5:zav ["deck","most","inputs","gates","k","outputs","kind","legs","place"] ["deck","most"] (zak zcY):=⟨rfl,rfl,rfl,by decide+kernel,rfl,by decide+kernel,by decide+kernel⟩
structure WI (K:PySem.W.Frag) (H0:Hp) (p g:Addr) (M:List Addr) (gs:List (Str×List Int)) (H:Hp):Prop where
 deck:∃ n,H p=some (.lst [.int n])
 same:zbk p H0 H
 ex:∃ G xs,Same G H∧G p=none∧G g=none∧(∀ m∈M,G m=none)∧(∀ b o,G b=some o→H0 b=none)∧Reps K G xs (gs.map zez)∧H g=some (.lst xs)
 pg:p≠g
 g0:H0 g=none
 ms:∀ m∈M,m≠p∧m≠g∧H0 m=none
theorem WI.take {H0 H:Hp}{p g:Addr}{M:List Addr}{gs:List (Str×List Int)}(W:WI K H0 p g M gs H)(n:Int):WI K H0 p g M gs (upd H p (.lst [.int n])):=by
 obtain ⟨G,xs,a,b,c,d,e,f,h⟩:=W.ex
 exact ⟨⟨n,zab⟩,W.same.write _,⟨G,xs,a.write b _,b,c,d,e,f,by rw [zah (qX W.pg)];exact h⟩,W.pg,W.g0,W.ms⟩
theorem WI.sb {H0 H H':Hp}{p g:Addr}{M:List Addr}{gs:List (Str×List Int)}(W:WI K H0 p g M gs H)(s:zbk p H H'){n:Int}(e:H' p=some (.lst [.int n])):WI K H0 p g M gs H':=by
 obtain ⟨G,xs,a,b,c,d,e',f,h⟩:=W.ex
 exact ⟨⟨n,e⟩,W.same.trans s,⟨G,xs,s.same a b,b,c,d,e',f,s _ _ (qX W.pg) h⟩,W.pg,W.g0,W.ms⟩
theorem WI.new {H0 H:Hp}{p g T:Addr}{M:List Addr}{gs:List (Str×List Int)}(W:WI K H0 p g M gs H)(h:H T=none)(o:HO):WI K H0 p g M gs (upd H T o):=by
 obtain ⟨n,e⟩:=W.deck
 exact W.sb ((zag h o).b p) (n:=n) (by rw [zah (zai e h)];exact e)
theorem WI.open {H0 H:Hp}{p g l:Addr}{M:List Addr}{gs:List (Str×List Int)}(W:WI K H0 p g M gs H)(h:H l=none):WI K H0 p g (l::M) gs (upd H l (.lst [])):=by
 have W':=W.new h (.lst [])
 obtain ⟨n,e⟩:=W.deck
 obtain ⟨G,xs,a,b,c,d,e',f,h'⟩:=W.ex
 have lp:l≠p:=qX (zai e h)
 refine ⟨W'.deck,W'.same,⟨G,xs,a.upd h _,b,c,fun m hm=>?_,e',f,by rw [zah (zai h' h)];exact h'⟩,W.pg,W.g0,fun m hm=>?_⟩
 ·rcases yN.mp hm with rfl | hm
  ·exact a.free h
  ·exact d m hm
 ·rcases yN.mp hm with rfl | hm
  ·refine ⟨lp,qX (zai h' h),?_⟩
   cases z:H0 m with
   | none=>rfl
   | some u=>rw [W.same m u lp z] at h;cases h
  ·exact W.ms m hm
theorem WI.put {H0 H:Hp}{p g l:Addr}{M:List Addr}{gs:List (Str×List Int)}(W:WI K H0 p g M gs H)(h:l∈M)(o:HO):WI K H0 p g M gs (upd H l o):=by
 obtain ⟨n,e⟩:=W.deck
 obtain ⟨G,xs,a,b,c,d,e',f,h'⟩:=W.ex
 obtain ⟨m1,m2,m3⟩:=W.ms l h
 refine ⟨⟨n,by rw [zah (qX m1)];exact e⟩,fun x u nx q=>?_,⟨G,xs,a.write (d l h) o,b,c,d,e',f,by rw [zah (qX m2)];exact h'⟩,W.pg,W.g0,W.ms⟩
 rw [zah (zai q m3)]
 exact W.same x u nx q
theorem WI.drop {H0 H:Hp}{p g l:Addr}{M:List Addr}{gs:List (Str×List Int)}(W:WI K H0 p g (l::M) gs H):WI K H0 p g M gs H:=by
 obtain ⟨G,xs,a,b,c,d,e',f,h'⟩:=W.ex
 exact ⟨W.deck,W.same,⟨G,xs,a,b,c,fun m hm=>d m (.tail _ hm),e',f,h'⟩,W.pg,W.g0,fun m hm=>W.ms m (.tail _ hm)⟩
theorem WI.push {H0 H:Hp}{p g T1 T2:Addr}{gs:List (Str×List Int)}{xs:List V}{x:Str}{ls:List Int}(W:WI K H0 p g [] gs H)(hx:H g=some (.lst xs))(h1:H T1=none)
  (h2:(upd H T1 (.tup (ls.map V.int))) T2=none):
  WI K H0 p g [] (gs++ [(x,ls)]) (upd (upd (upd H T1 (.tup (ls.map V.int))) T2 (.tup [.str x,.ref T1])) g (.lst (xs++ [.ref T2]))):=by
 have W1:=(W.new h1 (.tup (ls.map V.int))).new h2 (.tup [.str x,.ref T1])
 obtain ⟨n,e⟩:=W1.deck
 obtain ⟨m,em⟩:=W.deck
 obtain ⟨G,ys,a,b,c,d,e',f,h'⟩:=W.ex
 rw [hx] at h'
 cases h'
 have s1:Same G (upd G T1 (.tup (ls.map V.int))):=zag (a.free h1) _
 have k1:Same (upd G T1 (.tup (ls.map V.int))) (upd H T1 (.tup (ls.map V.int))):=fun z u q=>by
  by_cases ez:z=T1
  ·subst ez;rw [zab] at q ⊢;exact q
  ·rw [zah ez] at q ⊢;exact a z u q
 have n2:(upd G T1 (.tup (ls.map V.int))) T2=none:=k1.free h2
 have s2:Same (upd G T1 (.tup (ls.map V.int))) (upd (upd G T1 (.tup (ls.map V.int))) T2 (.tup [.str x,.ref T1])):=zag n2 _
 have k2:Same (upd (upd G T1 (.tup (ls.map V.int))) T2 (.tup [.str x,.ref T1])) (upd (upd H T1 (.tup (ls.map V.int))) T2 (.tup [.str x,.ref T1])):=fun z u q=>by
  by_cases ez:z=T2
  ·subst ez;rw [zab] at q ⊢;exact q
  ·rw [zah ez] at q ⊢;exact k1 z u q
 have gT1:g≠T1:=zai hx h1
 have gT2:g≠T2:=zai (show (upd H T1 (.tup (ls.map V.int))) g=some (.lst xs) by rw [zah gT1];exact hx) h2
 have pT1:p≠T1:=zai em h1
 have pT2:p≠T2:=zai (show (upd H T1 (.tup (ls.map V.int))) p=some (.lst [.int m]) by rw [zah pT1];exact em) h2
 have gG:(upd (upd G T1 (.tup (ls.map V.int))) T2 (.tup [.str x,.ref T1])) g=none:=by rw [zah gT2,zah gT1];exact c
 have f1:H0 T1=none:=by
  cases z:H0 T1 with
  | none=>rfl
  | some u=>rw [W.same T1 u (qX pT1) z] at h1;cases h1
 have f2:H0 T2=none:=by
  cases z:H0 T2 with
  | none=>rfl
  | some u=>rw [(W.new h1 _).same T2 u (qX pT2) z] at h2;cases h2
 refine ⟨⟨n,by rw [zah W.pg];exact e⟩,fun z u nz q=>?_,⟨_,xs++ [.ref T2],k2.write gG _,by rw [zah pT2,zah pT1];exact b,gG,(fun m hm=>nomatch hm),fun z u q=>?_,?_,zab⟩,W.pg,W.g0,W.ms⟩
 ·rw [zah (zai q W.g0)]
  exact W1.same z u nz q
 ·by_cases ez:z=T2
  ·rw [ez];exact f2
  ·rw [zah ez] at q
   by_cases ez1:z=T1
   ·rw [ez1];exact f1
   ·rw [zah ez1] at q
    exact e' z u q
 ·rw [yM]
  exact ((f.mono s1).mono s2).snoc (.tup (.of zab) (.cons (.str x) (.cons ((Rep.tup (.of zab) (Reps.ints ls)).mono s2) .nil)))
theorem zmS {c:Int}(h0: 0≤c)(h1:c < 9):∃ x,atI [V.str "and",V.str "or",V.str "odd",V.str "not",V.str "choose",V.str "zero",V.str "one",V.str "and",V.str "odd"] c=some (.str x)∧zck x:=by
 have:c=0∨c=1∨c=2∨c=3∨c=4∨c=5∨c=6∨c=7∨c=8:=by omega
 rcases this with rfl | rfl | rfl | rfl | rfl | rfl | rfl | rfl | rfl
 ·exact ⟨_,rfl,.inl rfl⟩
 ·exact ⟨_,rfl,.inr (.inl rfl)⟩
 ·exact ⟨_,rfl,.inr (.inr (.inl rfl))⟩
 ·exact ⟨_,rfl,.inr (.inr (.inr (.inl rfl)))⟩
 ·exact ⟨_,rfl,.inr (.inr (.inr (.inr (.inl rfl))))⟩
 ·exact ⟨_,rfl,.inr (.inr (.inr (.inr (.inr (.inl rfl)))))⟩
 ·exact ⟨_,rfl,.inr (.inr (.inr (.inr (.inr (.inr rfl)))))⟩
 ·exact ⟨_,rfl,.inl rfl⟩
 ·exact ⟨_,rfl,.inr (.inr (.inl rfl))⟩
theorem zik (T:Txt K mg t):FnOk P w K mg base CX0 3 t.f_law_works t.fd_law_works ["deck","most"] (znd K):=by
 refine T.d_law_works.F.okB za5 (fun vs H Q E h=>?_) (fun cdv A outer s H vs Q E hr h=>?_)
 ·obtain ⟨p,n,most,rfl,_⟩:=h
  rfl
 obtain ⟨p,n,most,rfl,hp,hm,q⟩:=h
 refine ⟨_,(zad (zam (k:=2) za5.nd rfl (Or.inr rfl) (zao za9 zae (zal (zaL T) (hr.mono (by decide)) rfl T.d_law_take.m T.d_law_take.F.kp T.d_law_take.b .nil zaC (zaa (bpv 0) (zaa zae (zac))))))
  (zad (zam (k:=3) za5.nd rfl (Or.inr rfl) (zaD zac))
  (zad (zaY qT rfl (zaO rfl T.z_range (zaa (zal (zaL T) (hr.mono (by decide)) rfl T.d_law_take.m T.d_law_take.F.kp T.d_law_take.b .nil zaC (zaa (bpv 0) (zaa (zao za9 (bpv 1) zae) (zac)))) (zac))) (zan (k:=4) za5.nd rfl (Or.inl rfl)) (zad (zam (k:=6) za5.nd rfl (Or.inl rfl) (zaq zaJ (zaD (zaa zaj (zaa zaj (zaa zaj (zaa zaj (zaa zaj (zaa zaj (zaa zaj (zaa zaj (zaa zaj (zac))))))))))) (zal (zaL T) (hr.mono (by decide)) rfl T.d_law_take.m T.d_law_take.F.kp T.d_law_take.b .nil zaC (zaa (bpv 0) (zaa zae (zac)))) (fun _ _=>rfl)))
  (zad (zam (k:=7) za5.nd rfl (Or.inl rfl) (zaD zac))
  (zad (zaY qT rfl (zaO rfl T.z_range (zaa (zal (ziO T) (hr.mono (by decide)) rfl T.d_law_legs.m T.d_law_legs.F.kp T.d_law_legs.b .nil zaC (zaa (bpv 0) (zaa (bpv 6) (zac)))) (zac))) (zan (k:=8) za5.nd rfl (Or.inl rfl)) (zaf (zbR (zbm qW jB jC zbc (bpv 7) (zaa (zal (zaL T) (hr.mono (by decide)) rfl T.d_law_take.m T.d_law_take.F.kp T.d_law_take.b .nil zaC (zaa (bpv 0) (zaa (zao za9 (bpv 2) (bpv 4)) (zac)))) (zac))))))
  (zaf (zbR (zbm qW jB jC zbc (bpv 3) (zaa (zaP (zaa (bpv 6) (zaa (zaz zcQ rfl T.z_tuple wK (zaa (bpv 7) (zac))) (zac)))) (zac)))))))))
  (zad (zen (k:=5) rfl (N:=["k","deck","inputs","gates"]) (n:=1) (cap:=[0,2,3]) (za7 rfl rfl) za5.nd rfl rfl (zaO rfl T.z_range (zaa (zao za9 zae (zal (zaL T) (hr.mono (by decide)) rfl T.d_law_take.m T.d_law_take.F.kp T.d_law_take.b .nil zaC (zaa (bpv 0) (zaa zae (zac))))) (zac))) (zaG (by decide)) (fun _ _ _ _=>(zan (k:=0) (show (["k","deck","inputs","gates"]:List Str).Nodup by decide+kernel) rfl (Or.inl rfl))) (fun _ _ _ _=>zaK) (fun _ _ _ _=>(zal (zaL T) (hr.mono (by decide)) rfl T.d_law_take.m T.d_law_take.F.kp T.d_law_take.b .nil zaC (zaa (bpv 1) (zaa (zao za9 (bpv 2) (zat (zgW (K:=K)) rfl T.z_len qQ (zaa (bpv 3) (zac)))) (zac))))) rfl)
  (zaf (zar (zaP (zaa (bpv 2) (zaa (bpv 3) (zaa (bpv 5) (zac))))))))))),?_⟩
 refine ⟨_,rfl,p,n,6,rfl,hp,by decide,by decide,fun r n1 a1 b1=>⟨_,_,rfl,rfl,?_⟩⟩
 refine ⟨(by show 0≤yH;decide),fun g hg=>?_⟩
 have pg:p≠g:=zai zab hg
 have hg0:H g=none:=by rw [zah (qX pg)] at hg;exact hg
 have W0:WI K H p g [] [] (upd (upd H p (.lst [.int n1])) g (.lst [])):=by
  refine ⟨⟨n1,by rw [zah pg,zab]⟩,fun z u nz q=>?_,⟨fun _=>none,[],(fun _ _ z=>nomatch z),rfl,rfl,(fun _ _=>rfl),(fun _ _ z=>nomatch z),.nil,zab⟩,pg,hg0,fun _ z=>nomatch z⟩
  rw [zah (zai q hg0),zah nz]
  exact q
 generalize (upd (upd H p (.lst [.int n1])) g (.lst []))=H1 at W0
 obtain ⟨n2,e2⟩:=W0.deck
 refine ⟨_,rfl,_,rfl,_,_,rfl,rfl,p,n2,_,rfl,e2,by omega,by omega,fun c n3 a3 b3=>⟨_,rfl,by omega,by omega,?_⟩⟩
 have W1:=W0.take n3
 refine zb0 (fun i σ H2=>∃ (gs:List (Str×List Int)) (o4 o5 o6 o7 o8:Option V),σ = [some (.ref p),some (.int most),some (.int (1+r)),some (.ref g),o4,o5,o6,o7,o8]∧gs.length=i∧
   (∀ (k:Nat) g,gs[k]? =some g→zbi g.1 g.2.length∧∀ l∈g.2,0≤l∧l < 1+r+k)∧WI K H p g [] gs H2)
  ⟨[],_,_,_,_,_,rfl,rfl,(fun k g e=>by simp at e),W1⟩ ?_ ?_
 ·rintro i σ H2 hi ⟨gs,o4,o5,o6,o7,o8,rfl,lgs,ok,W⟩
  rw [xQ]
  refine ⟨(by show 9≤yH;decide),fun T1 h1=>?_⟩
  have W2:=W.new h1 (.lst [.str "and",.str "or",.str "odd",.str "not",.str "choose",.str "zero",.str "one",.str "and",.str "odd"])
  obtain ⟨n4,e4⟩:=id W2.deck
  refine ⟨_,rfl,p,n4,9,rfl,e4,by decide,by decide,fun c n5 a5 b5=>?_⟩
  obtain ⟨x,hx,kx⟩:=zmS a5 b5
  have W3:=W2.take n5
  have pT:T1≠p:=by
   rintro rfl
   rw [zab] at e4
   cases e4
  refine ⟨T1,_,_,.str x,rfl,rfl,.of (by rw [zah pT,zab]),hx,?_⟩
  refine ⟨(by show 0≤yH;decide),fun l hl=>?_⟩
  have W4:=W3.open hl
  generalize (upd (upd H2 T1 (.lst [.str "and",.str "or",.str "odd",.str "not",.str "choose",.str "zero",.str "one",.str "and",.str "odd"])) p (.lst [.int n5]))=H3 at hl W3 W4
  obtain ⟨n6,e6⟩:=id W4.deck
  refine ⟨_,rfl,_,rfl,p,n6,x,rfl,e6,kx,fun m n7 H4 lk sb e7=>⟨_,rfl,by omega,(by have:=lk.le;omega),?_⟩⟩
  have W5:=W4.sb sb e7
  have lp:l≠p:=(W4.ms l (.head _)).1
  have hl4:H4 l=some (.lst []):=sb l _ lp zab
  have lk4:=lk.le
  refine zb0 (fun j σ H5=>∃ (ls:List Int) (o8:Option V),σ = [some (.ref p),some (.int most),some (.int (1+r)),some (.ref g),some (.int i),o5,some (.str x),some (.ref l),o8]∧ls.length=j∧
    (∀ z∈ls,0≤z∧z < 1+r+i)∧H5 l=some (.lst (ls.map V.int))∧WI K H p g [l] gs H5)
   ⟨[],_,rfl,rfl,(fun _ z=>nomatch z),hl4,W5⟩ ?_ ?_
  ·rintro j σ H5 hj ⟨ls,o8,rfl,lls,bl,hl5,W6⟩
   obtain ⟨n8,e8⟩:=id W6.deck
   refine ⟨_,rfl,.inl ⟨rfl,_,.of hl5⟩,_,rfl,_,rfl,_,rfl,_,_,rfl,rfl,p,n8,_,rfl,e8,by omega,by omega,fun c n9 a9 b9=>?_⟩
   have W7:=W6.take n9
   refine ⟨l,ls.map V.int,.int c,rfl,rfl,by rw [zah lp];exact hl5,big (by rw [yA];omega),ls++ [c],_,rfl,by simp [lls],fun z hz=>?_,?_,W7.put (.head _) _⟩
   ·rcases yS.mp hz with hz | hz
    ·exact bl z hz
    ·rw [yK.mp hz]
     exact ⟨a9,b9⟩
   ·rw [zab,yM]
    rfl
  ·rintro σ H5 ⟨ls,o8,rfl,lls,bl,hl5,W6⟩
   have W7:=W6.drop
   obtain ⟨G,xs,_,_,_,_,_,rs,hgx⟩:=id W7.ex
   have lxs:=rs.length
   rw [yA] at lxs
   refine ⟨_,rfl,.inl ⟨rfl,_,.of hgx⟩,_,rfl,_,rfl,l,_,rfl,.inl ⟨.of hl5,fun T2 h2=>⟨(by show 2≤yH;decide),fun T3 h3=>?_⟩⟩⟩
   have g2:g≠T2:=zai hgx h2
   have hg2:(upd H5 T2 (.tup (ls.map V.int))) g=some (.lst xs):=by rw [zah g2];exact hgx
   have g3:g≠T3:=zai hg2 h3
   refine ⟨g,xs,_,rfl,rfl,by rw [zah g3];exact hg2,big (by omega),gs++ [(x,ls)],_,_,_,_,_,rfl,by simp [lgs],fun k gg e=>?_,W7.push hgx h2 h3⟩
   by_cases hk:k < gs.length
   ·rw [jJ hk] at e
    exact ok k gg e
   ·have ek:k=gs.length:=by
     have:=(yF.mp e).1
     simp at this
     omega
    subst ek
    simp at e
    subst e
    have em:((m:Nat):Int).toNat=m:=xB m
    refine ⟨?_,fun z hz=>?_⟩
    ·show zbi x ls.length
     rw [lls,em]
     exact lk
    ·rw [lgs]
     exact bl z hz
 rintro σ H2 ⟨gs,o4,o5,o6,o7,o8,rfl,lgs,ok,W⟩
 obtain ⟨n4,e4⟩:=id W.deck
 refine ⟨_,rfl,p,n4,3,rfl,e4,by decide,by decide,fun c' n5 a5 b5=>⟨_,_,rfl,rfl,_,rfl,by omega,by omega,fun D hD=>?_⟩⟩
 have W2:=W.take n5
 have W3:=W2.open hD
 obtain ⟨dp,dg,d0⟩:=W3.ms D (.head _)
 refine zcg (fun i H3=>∃ os:List Int,os.length=i∧(∀ z∈os,0≤z∧z < 1+r+gs.length)∧H3 D=some (.lst (os.map V.int))∧WI K H p g [D] gs H3) ⟨[],rfl,(fun _ z=>nomatch z),zab,W3⟩ ?_ ?_
 ·rintro i H3 hi ⟨os,los,bo,ho,W4⟩
  obtain ⟨n6,e6⟩:=id W4.deck
  obtain ⟨G,xs,_,_,_,_,_,rs,hgx⟩:=id W4.ex
  have lxs:=rs.length
  rw [yA] at lxs
  refine ⟨_,rfl,_,rfl,_,rfl,g,_,rfl,.inl (.of hgx),_,_,rfl,rfl,p,n6,_,rfl,e6,by omega,by omega,fun c n7 a7 b7=>?_⟩
  refine ⟨os.map V.int,by rw [zah dp];exact ho,big (by rw [yA];omega),os++ [c],by simp [los],fun z hz=>?_,?_,(W4.take n7).put (.head _) _⟩
  ·rcases yS.mp hz with hz | hz
   ·exact bo z hz
   ·rw [yK.mp hz]
    exact ⟨a7,by omega⟩
  ·rw [zab,yM]
   rfl
 rintro H3 ⟨os,los,bo,ho,W4⟩
 obtain ⟨n6,e6⟩:=id W4.deck
 obtain ⟨G,xs,sG,gp,gg,gM,gn,rs,hgx⟩:=id W4.ex
 have gD:G D=none:=gM D (.head _)
 refine ⟨_,rfl,_,rfl,_,rfl,(by show 3≤yH;decide),fun R hR=>?_⟩
 have Rp:R≠p:=qX (zai e6 hR)
 have Rg:R≠g:=qX (zai hgx hR)
 have RD:R≠D:=qX (zai ho hR)
 have s1:Same G (upd G g (.lst xs)):=zag gg _
 have s2:Same (upd G g (.lst xs)) (upd (upd G g (.lst xs)) D (.lst (os.map V.int))):=zag (by rw [zah dg];exact gD) _
 have s3:Same (upd (upd G g (.lst xs)) D (.lst (os.map V.int))) (upd (upd (upd G g (.lst xs)) D (.lst (os.map V.int))) R (.tup [.int (1+r),.ref g,.ref D])):=zag (by rw [zah RD,zah Rg];exact sG.free hR) _
 refine q ⟨1+r,gs,os⟩ R n6 (upd (upd (upd G g (.lst xs)) D (.lst (os.map V.int))) R (.tup [.int (1+r),.ref g,.ref D])) _ ⟨by show 1≤1+r;omega,by show 1+r≤6;omega,by show gs.length≤most;omega,ok,by show 1≤os.length;omega,by show os.length≤most+20;omega,bo⟩ (by show os.length≤3;omega)
  (W4.same.trans ((zag hR _).b p)) (by rw [zah (qX Rp)];exact e6) (fun z u zq=>?_) (by rw [zah (qX Rp),zah (qX dp),zah W4.pg];exact gp) (fun z u zq=>?_) ?_
 ·by_cases z1:z=R
  ·subst z1;rw [zab] at zq ⊢;exact zq
  ·rw [zah z1] at zq ⊢
   by_cases z2:z=D
   ·subst z2;rw [zab] at zq;rw [ho];exact zq
   ·rw [zah z2] at zq
    by_cases z3:z=g
    ·subst z3;rw [zab] at zq;rw [hgx];exact zq
    ·rw [zah z3] at zq
     exact sG z u zq
 ·by_cases z1:z=R
  ·rw [z1]
   cases zz:H R with
   | none=>rfl
   | some u'=>rw [W4.same R u' Rp zz] at hR;cases hR
  ·rw [zah z1] at zq
   by_cases z2:z=D
   ·rw [z2];exact d0
   ·rw [zah z2] at zq
    by_cases z3:z=g
    ·rw [z3];exact hg0
    ·rw [zah z3] at zq
     exact gn z u zq
 ·refine .tup (.of zab) (.cons (.int _) (.cons ?_ (.cons ?_ .nil)))
  ·refine .lst (.of ?_) (((rs.mono s1).mono s2).mono s3)
   rw [zah (qX Rg),zah (qX dg),zab]
  ·refine .lst (.of ?_) (Reps.ints os)
   rw [zah (qX RD),zab]
theorem zd7:zav ["numbers","bound"] ["numbers","bound"] (zak zbo):=⟨rfl,rfl,rfl,by decide+kernel,rfl,by decide+kernel,by decide+kernel⟩
theorem zcs (T:Txt K mg t):FnOk P w K mg base CX0 1 t.f_are_wires_below t.fd_are_wires_below ["numbers","bound"] (sp_awb K):=by
 refine T.d_are_wires_below.F.okB zd7 (fun vs H Q E h=>?_) (fun cdv A outer s H vs Q E hr h=>?_)
 ·obtain ⟨p,bnd,ns,rfl,_⟩:=h
  rfl
 obtain ⟨p,bnd,ns,rfl,hS,lz,q⟩:=h
 have step:∀ (j:Nat) (n:Int) (D:Addr) (H2:Hp),ns[j]? =some n→H D=none→Same H H2→H2 D=some (.lst (((ns.take j).map fun n=>decide (0≤n∧n < bnd)).map V.bl))→
   Same H (upd H2 D (.lst (((ns.take j).map fun n=>decide (0≤n∧n < bnd)).map V.bl++ [.bl (decide (0≤n∧n < bnd))])))∧(upd H2 D (.lst (((ns.take j).map fun n=>decide (0≤n∧n < bnd)).map V.bl++ [.bl (decide (0≤n∧n < bnd))]))) D=some (.lst (((ns.take (j+1)).map fun n=>decide (0≤n∧n < bnd)).map V.bl)):=by
  intro j n D H2 hz hD s2 eD
  refine ⟨s2.write hD _,?_⟩
  rw [zab,yT,hz,yM,yM]
  rfl
 have fin:∀ (D:Addr) (H2:Hp),Same H H2→H2 D=some (.lst (((ns.take (ns.map V.int).length).map fun n=>decide (0≤n∧n < bnd)).map V.bl))→∃ (p:Addr) (bs:List Bool),[V.ref D]= [.ref p]∧SqL K H2 p (bs.map V.bl)∧Q (.bl (bs.all id)) H2:=by
  intro D H2 s2 eD
  have et:ns.take (ns.map V.int).length=ns:=by rw [yA,qF]
  rw [et] at eD
  refine ⟨D,_,rfl,.of eD,?_⟩
  have e:(ns.map fun n=>decide (0≤n∧n < bnd)).all id=ns.all fun n=>decide (0≤n∧n < bnd):=by rw [List.all_map];rfl
  rw [e]
  exact q H2 s2
 rcases hS with hS | hS
 ·refine ⟨_,(zaf (zar (zat (zfS rfl) rfl T.z_all wV (zaa (zaQ rfl (N:=["number","bound"]) (n:=1) (cap:=[1]) (za7 rfl rfl) (zaM (bpv 0)) (zaG (by decide)) (fun _ _ _ _=>(zan (k:=0) (show (["number","bound"]:List Str).Nodup by decide+kernel) rfl (Or.inl rfl))) (fun _ _ _ _=>zaK) (fun _ _ _ _=>(zh8 op_le zkC zae (bpv 0) (bpv 1)))) (zac))))),?_⟩
  refine ⟨_,rfl,p,rfl,⟨_,hS⟩,fun D hD=>zaV (K:=K) (a:=p) (xs:=ns.map V.int) (fun j H2=>Same H H2∧H2 D=some (.lst (((ns.take j).map fun n=>decide (0≤n∧n < bnd)).map V.bl))) ⟨zag hD _,zab⟩ (fun j H2 _ z=>z.1.seq hS) ?_ (fun H2 ⟨s2,eD⟩=>fin D H2 s2 eD)⟩
  rintro j y H2 hy ⟨s2,eD⟩
  rw [yL] at hy
  cases hz:ns[j]? with
  | none=>rw [hz] at hy;cases hy
  | some n=>
   rw [hz] at hy
   cases hy
   have lj:j < ns.length:=(yF.mp hz).1
   have st:=step j n D H2 hz hD s2 eD
   have lb:(((ns.take j).map fun n=>decide (0≤n∧n < bnd)).map V.bl).length < yH:=big (by rw [yA,yA,yW];omega)
   refine ⟨_,rfl,_,_,rfl,rfl,_,rfl,ite2 (fun c=>?_) (fun c=>?_)⟩
   ·have c': 0≤n:=of_decide_eq_true c
    refine ⟨_,rfl,_,_,rfl,rfl,_,eD,lb,?_⟩
    have e:decide (0≤n∧n < bnd)=decide (n < bnd):=by
     by_cases z:n < bnd
     ·rw [decide_eq_true z,decide_eq_true ⟨c',z⟩]
     ·rw [decide_eq_false z,decide_eq_false fun y=>z y.2]
    rw [e] at st
    exact st
   ·have c':¬0≤n:=fun z=>c (decide_eq_true z)
    refine ⟨_,eD,lb,?_⟩
    have e:decide (0≤n∧n < bnd)=false:=decide_eq_false fun y=>c' y.1
    rw [e] at st
    exact st
 ·refine ⟨_,(zaf (zar (zat (zfS rfl) rfl T.z_all wV (zaa (zaQ rfl (N:=["number","bound"]) (n:=1) (cap:=[1]) (za7 rfl rfl) (zhe (bpv 0)) (zaG (by decide)) (fun _ _ _ _=>(zan (k:=0) (show (["number","bound"]:List Str).Nodup by decide+kernel) rfl (Or.inl rfl))) (fun _ _ _ _=>zaK) (fun _ _ _ _=>(zh8 op_le zkC zae (bpv 0) (bpv 1)))) (zac))))),?_⟩
  refine ⟨_,rfl,p,rfl,⟨_,hS⟩,fun D hD=>zgT (K:=K) (a:=p) (xs:=ns.map V.int) (fun j H2=>Same H H2∧H2 D=some (.lst (((ns.take j).map fun n=>decide (0≤n∧n < bnd)).map V.bl))) ⟨zag hD _,zab⟩ (fun j H2 _ z=>z.1.seqT hS) ?_ (fun H2 ⟨s2,eD⟩=>fin D H2 s2 eD)⟩
  rintro j y H2 hy ⟨s2,eD⟩
  rw [yL] at hy
  cases hz:ns[j]? with
  | none=>rw [hz] at hy;cases hy
  | some n=>
   rw [hz] at hy
   cases hy
   have lj:j < ns.length:=(yF.mp hz).1
   have st:=step j n D H2 hz hD s2 eD
   have lb:(((ns.take j).map fun n=>decide (0≤n∧n < bnd)).map V.bl).length < yH:=big (by rw [yA,yA,yW];omega)
   refine ⟨_,rfl,_,_,rfl,rfl,_,rfl,ite2 (fun c=>?_) (fun c=>?_)⟩
   ·have c': 0≤n:=of_decide_eq_true c
    refine ⟨_,rfl,_,_,rfl,rfl,_,eD,lb,?_⟩
    have e:decide (0≤n∧n < bnd)=decide (n < bnd):=by
     by_cases z:n < bnd
     ·rw [decide_eq_true z,decide_eq_true ⟨c',z⟩]
     ·rw [decide_eq_false z,decide_eq_false fun y=>z y.2]
    rw [e] at st
    exact st
   ·have c':¬0≤n:=fun z=>c (decide_eq_true z)
    refine ⟨_,eD,lb,?_⟩
    have e:decide (0≤n∧n < bnd)=false:=decide_eq_false fun y=>c' y.1
    rw [e] at st
    exact st
theorem zj3:zav ["word"] ["word"] (zak zea):=⟨rfl,rfl,rfl,by decide+kernel,rfl,by decide+kernel,by decide+kernel⟩
theorem zgO (T:Txt K mg t):FnOk P w K mg base CX0 1 t.f_is_kind t.fd_is_kind ["word"] (sp_ik K):=by
 refine T.d_is_kind.F.okB zj3 (fun vs H Q E h=>?_) (fun cdv A outer s H vs Q E hr h=>?_)
 ·obtain ⟨x,rfl,_⟩:=h
  rfl
 obtain ⟨x,rfl,q⟩:=h
 refine ⟨_,(zaf (zar (zdx zmZ (bpv 0) (zbD (v:=.ref t.c_LEG_BOUNDS) rfl T.g_LEG_BOUNDS rfl) rfl))),?_⟩
 exact ⟨_,rfl,x,t.c_LEG_BOUNDS,zaw,rfl,rfl,T.k_LEG_BOUNDS,q⟩
theorem zep:zav ["kind","legs","own_wire","bounds"] ["kind","legs","own_wire"] (zak zcy):=⟨rfl,rfl,rfl,by decide+kernel,rfl,by decide+kernel,by decide+kernel⟩
theorem zlm {x:Str}{n:Nat}(h:zbi x n):∃ lo hi:Int,PyProof.Rows.KTD.datumAt x zaw=some (.tup ([lo,hi].map PyData.int))∧PyProof.Rows.KTD.inKeys x zaw=true∧lo≤(n:Int)∧(n:Int)≤hi:=by
 rcases h with ⟨h | h | h,l1,l2⟩ | ⟨h,l1⟩ | ⟨h,l1⟩ | ⟨h | h,l1⟩ <;> subst h
 ·exact ⟨2,4,by kernel_rfl,by kernel_rfl,by omega,by omega⟩
 ·exact ⟨2,4,by kernel_rfl,by kernel_rfl,by omega,by omega⟩
 ·exact ⟨2,4,by kernel_rfl,by kernel_rfl,by omega,by omega⟩
 ·exact ⟨1,1,by kernel_rfl,by kernel_rfl,by omega,by omega⟩
 ·exact ⟨3,3,by kernel_rfl,by kernel_rfl,by omega,by omega⟩
 ·exact ⟨0,0,by kernel_rfl,by kernel_rfl,by omega,by omega⟩
 ·exact ⟨0,0,by kernel_rfl,by kernel_rfl,by omega,by omega⟩
theorem zlM {x:Str}(h:¬zck x):PyProof.Rows.KTD.inKeys x zaw=false:=by
 unfold zck at h
 show (decide (x="and") || (decide (x="or") || (decide (x="odd") || (decide (x="not") || (decide (x="choose") || (decide (x="zero") || (decide (x="one") || false)))))))=false
 rw [decide_eq_false fun e=>h (.inl e),decide_eq_false fun e=>h (.inr (.inl e)),decide_eq_false fun e=>h (.inr (.inr (.inl e))),decide_eq_false fun e=>h (.inr (.inr (.inr (.inl e)))),decide_eq_false fun e=>h (.inr (.inr (.inr (.inr (.inl e))))),decide_eq_false fun e=>h (.inr (.inr (.inr (.inr (.inr (.inl e)))))),decide_eq_false fun e=>h (.inr (.inr (.inr (.inr (.inr (.inr e))))))]
 rfl
theorem zjb {x:Str}(h:zck x):∃ lo hi:Int,PyProof.Rows.KTD.datumAt x zaw=some (.tup ([lo,hi].map PyData.int))∧PyProof.Rows.KTD.inKeys x zaw=true∧∀ n:Nat,(lo≤(n:Int)∧(n:Int)≤hi)↔zbi x n:=by
 have one:∀ {x:Str} {lo hi:Int} {n:Nat},zbi x n→∀ {l h:Int},PyProof.Rows.KTD.datumAt x zaw=some (.tup ([l,h].map PyData.int))→PyProof.Rows.KTD.datumAt x zaw=some (.tup ([lo,hi].map PyData.int))→l=lo∧h=hi:=fun _ _ _ e1 e2=>by
  rw [e1] at e2
  have:=yV e2
  injection this with this
  injection this with a b
  injection b with b _
  exact ⟨PyData.int.inj a,PyData.int.inj b⟩
 have fwd:∀ {x:Str} {lo hi:Int},PyProof.Rows.KTD.datumAt x zaw=some (.tup ([lo,hi].map PyData.int))→∀ n:Nat,zbi x n→lo≤(n:Int)∧(n:Int)≤hi:=fun e n l=>by
  obtain ⟨lo',hi',e1,_,b1,b2⟩:=zlm l
  obtain ⟨rfl,rfl⟩:=one l e1 e
  exact ⟨b1,b2⟩
 rcases h with rfl | rfl | rfl | rfl | rfl | rfl | rfl
 ·exact ⟨2,4,by kernel_rfl,by kernel_rfl,fun n=>⟨fun z=>.inl ⟨.inl rfl,by omega,by omega⟩,fwd (by kernel_rfl) n⟩⟩
 ·exact ⟨2,4,by kernel_rfl,by kernel_rfl,fun n=>⟨fun z=>.inl ⟨.inr (.inl rfl),by omega,by omega⟩,fwd (by kernel_rfl) n⟩⟩
 ·exact ⟨2,4,by kernel_rfl,by kernel_rfl,fun n=>⟨fun z=>.inl ⟨.inr (.inr rfl),by omega,by omega⟩,fwd (by kernel_rfl) n⟩⟩
 ·exact ⟨1,1,by kernel_rfl,by kernel_rfl,fun n=>⟨fun z=>.inr (.inl ⟨rfl,by omega⟩),fwd (by kernel_rfl) n⟩⟩
 ·exact ⟨3,3,by kernel_rfl,by kernel_rfl,fun n=>⟨fun z=>.inr (.inr (.inl ⟨rfl,by omega⟩)),fwd (by kernel_rfl) n⟩⟩
 ·exact ⟨0,0,by kernel_rfl,by kernel_rfl,fun n=>⟨fun z=>.inr (.inr (.inr ⟨.inl rfl,by omega⟩)),fwd (by kernel_rfl) n⟩⟩
 ·exact ⟨0,0,by kernel_rfl,by kernel_rfl,fun n=>⟨fun z=>.inr (.inr (.inr ⟨.inr rfl,by omega⟩)),fwd (by kernel_rfl) n⟩⟩
theorem zgf (T:Txt K mg t):FnOk P w K mg base (CXC P w (.ref t.x_NoWorks)) 2 t.f_check_gate t.fd_check_gate ["kind","legs","own_wire"] (sp_cgX K):=by
 refine T.d_check_gate.F.okC zep (fun vs H Q E h=>?_) (fun cdv A outer s H vs Q E hr h=>?_)
 ·obtain ⟨x,la,own,ls,rfl,_⟩:=h
  rfl
 obtain ⟨x,la,own,ls,rfl,hL,lz,qg,qb⟩:=h
 have up:∀ {H2:Hp},Same H H2→¬zio own (x,ls)→1≤yH∧∀ y,H2 y=none→E (.ref y) (some y) H2:=fun s nb=>⟨(by decide),fun y hy=>qb nb _ y s hy⟩
 refine ⟨_,(zad (zaA (zc3 (zd0 (zal (zgO T) (hr.mono (by decide)) rfl T.d_is_kind.m T.d_is_kind.F.kp T.d_is_kind.b .nil zaC (zaa (bpv 0) (zac))))) (zaf (za2 qN T.k_NoWorks.ex rfl rfl T.g_NoWorks zcO (zaa zaj zac))) zas)
  (zad (zam (k:=3) zep.nd rfl (Or.inl rfl) (zaq ix_tab (zbD (v:=.ref t.c_LEG_BOUNDS) rfl T.g_LEG_BOUNDS rfl) (bpv 0) (fun _ _=>rfl)))
  (zad (zaA (zdR (zgB (zap zkC (zat zau rfl T.z_len qQ (zaa (bpv 1) (zac))) (zaq zax (bpv 3) zae (fun _ _=>rfl)) (zay _)) (zeK (zap zoi (zat zau rfl T.z_len qQ (zaa (bpv 1) (zac))) (zaq zax (bpv 3) zae (fun _ _=>rfl)) (zay _))))) (zaf (za2 qN T.k_NoWorks.ex rfl rfl T.g_NoWorks zcO (zaa zaj zac))) zas)
  (zaf (zaA (zc3 (zd0 (zal (zcs T) (hr.mono (by decide)) rfl T.d_are_wires_below.m T.d_are_wires_below.F.kp T.d_are_wires_below.b .nil zaC (zaa (bpv 1) (zaa (bpv 2) (zac)))))) (zaf (za2 qN T.k_NoWorks.ex rfl rfl T.g_NoWorks zcO (zaa zaj zac))) zas))))),?_⟩
 refine ⟨_,rfl,x,rfl,_,rfl,?_⟩
 refine (Classical.em (zck x)).elim (fun kx=>?_) (fun kx=>?_)
 rotate_left
 ·rw [zlM kx]
  exact iteT (up (Same.refl _) fun z=>zos kx _ z.1)
 obtain ⟨lo,hi,e1,e2,bnd⟩:=zjb kx
 rw [e2]
 refine iteF ⟨_,rfl,t.c_LEG_BOUNDS,x,zaw,[lo,hi],rfl,rfl,T.k_LEG_BOUNDS,e1,(by show 2≤1000;decide),fun bp hb=>?_⟩
 have ll:((ls.map V.int).length:Int)=ls.length:=by rw [yA]
 refine ⟨_,rfl,la,_,rfl,.inr hL,_,rfl,bp,_,_,_,rfl,rfl,hb,rfl,_,_,rfl,rfl,_,rfl,ite2 (fun c=>iteT (up (Same.refl _) fun z=>?_)) (fun c1=>?_)⟩
 ·have:=(bnd ls.length).mpr z.1
  have:=of_decide_eq_true c
  omega
 refine ⟨_,rfl,la,_,rfl,.inr hL,_,rfl,bp,_,_,_,rfl,rfl,hb,rfl,_,_,rfl,rfl,_,rfl,ite2 (fun c=>up (Same.refl _) fun z=>?_) (fun c2=>?_)⟩
 ·have:=(bnd ls.length).mpr z.1
  have:=of_decide_eq_true c
  omega
 have lk:zbi x ls.length:=(bnd ls.length).mp ⟨by
  have c':¬((ls.map V.int).length:Int) < lo:=fun z=>c1 (decide_eq_true z)
  omega,by
  have c':¬hi < ((ls.map V.int).length:Int):=fun z=>c2 (decide_eq_true z)
  omega⟩
 refine ⟨_,rfl,_,rfl,la,own,ls,rfl,.inr hL,lz,fun H2 s2=>?_⟩
 cases e3:ls.all fun n=>decide (0≤n∧n < own) with
 | true=>
  exact ⟨_,rfl,iteF (qg ⟨lk,fun l hl=>of_decide_eq_true (qY.mp e3 l hl)⟩ H2 s2)⟩
 | false=>
  refine ⟨_,rfl,iteT (up s2 fun z=>?_)⟩
  have:(ls.all fun n=>decide (0≤n∧n < own))=true:=qY.mpr fun l hl=>decide_eq_true (z.2 l hl)
  rw [this] at e3
  cases e3
theorem zbO:zav ["text","number","sign"] ["text"] (zak zcc):=⟨rfl,rfl,rfl,by decide+kernel,rfl,by decide+kernel,by decide+kernel⟩
theorem zfw (T:Txt K mg t):FnOk P w K mg base (CXC P w (.ref t.x_NoText)) 1 t.f_read_number t.fd_read_number ["text"] sp_rdn:=by
 refine T.d_read_number.F.okC zbO (fun vs H Q E h=>?_) (fun cdv A outer s H vs Q E hr h=>?_)
 ·obtain ⟨z,rfl,_⟩:=h
  rfl
 obtain ⟨z,rfl,tx,q,rz⟩:=h
 have hu64:=hr.units
 have sl:yH=16777216:=by decide
 have ez:z.cps.toList.length=z.length:=yY
 have lz:=tx.1
 refine ⟨_,(zad (zaA (zdR (zgB (zap zbp (bpv 0) zaj (zay _)) (zeK (zdR (zhs (zap zbp (zaq ix_str (bpv 0) zae (fun _ _=>rfl)) zaj (zay _)) (zfb (zap zhl (bpv 0) zaj (zay _)))))))) (zaf (za2 qN T.k_NoText.ex rfl rfl T.g_NoText zcO (zaa zaj zac))) zas)
  (zad (zam (k:=1) zbO.nd rfl (Or.inl rfl) zae)
  (zad (zaY zgv rfl (zog (bpv 0)) (zan (k:=2) zbO.nd rfl (Or.inl rfl)) (zad (zaA (zap zia (bpv 2) (zbD (v:=.str "0123456789") rfl T.g_FIGURES ⟨_,rfl⟩) rfl) (zaf (za2 qN T.k_NoText.ex rfl rfl T.g_NoText zcO (zaa zaj zac))) zas)
  (zaf (zam (k:=1) zbO.nd rfl (Or.inl rfl) (zao za9 (zao zcS (bpv 1) zae) (zbm qU PySem.F.slot_str_index PySem.F.type_str_index zmV (zbD (v:=.str "0123456789") rfl T.g_FIGURES ⟨_,rfl⟩) (zaa (bpv 2) (zac))))))))
  (zaf (zar (bpv 1)))))),?_⟩
 have bad:numL z.cps.toList=none→1≤yH∧∀ x,H x=none→E (.ref x) (some x) H:=fun e=>⟨(by decide),fun x hx=>rz e _ x (Same.refl _) hx⟩
 refine ⟨_,rfl,rfl,_,rfl,ite2 (fun hc=>?_) (fun hc=>?_)⟩
 ·refine bad ?_
  have e:=V.str.inj (of_decide_eq_true hc)
  have e2:z.cps.toList= []:=by rw [e];decide+kernel
  unfold numL
  rw [if_pos (.inl e2)]
 cases e:z.cps.toList with
 | nil=>
  refine absurd (decide_eq_true ?_) hc
  rw [strT e]
  decide+kernel
 | cons c r=>
  have cl:c < 128:=tx.2 c (by rw [e];exact .head _)
  refine ⟨_,rfl,_,0,c,rfl,rfl,by omega,(by rw [e];exact zb2 (j:=0) rfl),rfl,_,rfl,?_⟩
  refine' znN (α :=Unit) (C:=fun _ Hx=>H=Hx∧¬((z.cps.toList.head? =some 48∧z.cps.toList≠[48]))) (st:=fun _=>[some (.str z),none,none]) (fun rest=>_) _
  rotate_left
  ·refine ite2 (fun h1=>?_) (fun h1=>iteF (rest () _ ⟨rfl,fun y=>?_⟩))
   ·have c48:c=48:=by
     have:=congrArg (fun x:Str=>x.cps.toList) (V.str.inj (of_decide_eq_true h1))
     rw [show (yB "0").cps.toList= [48] by decide+kernel] at this
     exact (jY this).1
    refine ⟨_,rfl,rfl,_,rfl,ite2 (fun h2=>?_) (fun h2=>?_)⟩
    ·have nn:z.cps.toList≠[48]:=fun y=>by
      rw [decide_eq_true (show V.str z=V.str (yB "0") by rw [strT y];decide+kernel)] at h2
      cases h2
     refine bad ?_
     unfold numL
     rw [if_pos (.inr (.inl ⟨by rw [e,c48];rfl,nn⟩))]
    ·refine rest () _ ⟨rfl,fun y=>?_⟩
     have h3:V.str z=V.str (yB "0"):=by
      cases Decidable.em (V.str z=V.str (yB "0")) with
      | inl h=>exact h
      | inr h=>rw [decide_eq_false h] at h2;exact absurd rfl h2
     exact y.2 (by rw [V.str.inj h3];decide+kernel)
   ·rw [e] at y
    have c48:c=48:=by simpa using y.1
    exact h1 (decide_eq_true (by rw [c48];decide+kernel))
  rintro _ _ ⟨rfl,n48⟩
  have asc:z.cps.all (· < 128)=true:=by
   rw [← ybO,qY]
   intro c hc
   exact decide_eq_true (tx.2 c hc)
  refine ⟨_,rfl,_,rfl,asc,zn6 (fun i σ H3=>∃ o2:Option V,σ = [some (.str z),some (.int (ze7 (z.cps.toList.take i):Nat)),o2]∧H3=H∧∀ c∈z.cps.toList.take i,48≤c∧c < 58) ⟨_,rfl,rfl,fun c h=>(nomatch h)⟩ ?_ ?_⟩
  ·rintro i c σ H3 hi ⟨o2,rfl,rfl,dg⟩
   have cm:=yR hi
   have cl:=tx.2 c cm
   by_cases hc: 48≤c∧c < 58
   ·have occ:=zot c cl hc.1 hc.2
    have nb:=zme _ dg
    have lt:((ze7 (z.cps.toList.take i):Nat):Int) < 2 ^ 2000:=by
     have h1:(z.cps.toList.take i).length≤600:=by rw [yW];omega
     have h2:(10:Nat) ^ (z.cps.toList.take i).length≤10 ^ 600:=jW (by decide) h1
     have h3:(10:Nat) ^ 600 < 2 ^ 2000:=by decide+kernel
     have:ze7 (z.cps.toList.take i) < 2 ^ 2000:=qK nb (jA h2 (wS h3))
     exact_mod_cast this
    refine ⟨_,rfl,_,_,rfl,rfl,_,rfl,?_⟩
    rw [occ]
    refine iteF ?_
    refine ⟨_,rfl,_,_,rfl,rfl,⟨zc2 (k:=2000) (by decide) (by omega) lt,zc2 (k:=5) (by decide) (by decide) (by decide)⟩,?_⟩
    refine ⟨rfl,_,rfl,_,_,_,_,rfl,rfl,occ,_,_,rfl,rfl,some (.str ⟨#[c]⟩),?_,rfl,?_⟩
    ·have e3:ze7 (z.cps.toList.take (i+1))=ze7 (z.cps.toList.take i) * 10+(c - 48):=by
      rw [yT,hi]
      exact zgk _ _
     rw [e3]
     show [_,some (V.int (((ze7 (z.cps.toList.take i):Nat):Int) * 10+((c - 48:Nat):Int))),_]=_
     rw [Int.natCast_add,Int.natCast_mul]
     rfl
    ·intro d hd
     rw [yT,hi] at hd
     rcases yS.mp hd with hd | hd
     ·exact dg d hd
     ·rw [yK.mp hd];exact hc
   ·have occ:=fig_no c cl hc
    refine ⟨_,rfl,_,_,rfl,rfl,_,rfl,?_⟩
    rw [occ]
    refine iteT (bad ?_)
    unfold numL
    rw [if_pos (.inr (.inr fun h=>hc (h c cm)))]
  ·rintro σ H3 ⟨o2,rfl,rfl,dg⟩
   rw [qF] at dg ⊢
   refine ⟨_,rfl,q _ ?_⟩
   unfold numL
   rw [if_neg]
   rintro (h | h | h)
   ·rw [e] at h;cases h
   ·exact n48 h
   ·exact h dg
theorem zfL:zav ["row","parts"] ["row"] (zak zdK):=⟨rfl,rfl,rfl,by decide+kernel,rfl,by decide+kernel,by decide+kernel⟩
theorem zeR (T:Txt K mg t):FnOk P w K mg base (CXC P w (.ref t.x_NoText)) 2 t.f_read_row t.fd_read_row ["row"] sp_rdr:=by
 refine T.d_read_row.F.okC zfL (fun vs H Q E h=>?_) (fun cdv A outer s H vs Q E hr h=>?_)
 ·obtain ⟨z,w,ps,rfl,_⟩:=h
  rfl
 obtain ⟨z,w,ps,rfl,tx,ec,q,rz⟩:=h
 have hu64:=hr.units
 have sl:yH=16777216:=by decide
 have lz:=tx.1
 have ez:z.cps.toList.length=z.length:=yY
 have lp:ps.length≤601:=by
  have:=(zds 32 z.cps.toList).2
  rw [ec,yO] at this
  omega
 refine ⟨_,(zad (zam (k:=1) zfL.nd rfl (Or.inl rfl) (zbm qU vK vL zfZ (bpv 0) (zaa zaj (zac))))
  (zaf (zar (zaP (zaa (zaq zaJ (bpv 1) zae (fun _ _=>rfl)) (zaa (zaz zcQ rfl T.z_tuple wK (zaa (zkN rfl (N:=["part"]) (n:=1) (cap:=[]) (za7 rfl rfl) (zaM (zch ziE (bpv 1) (zb5 zae) zes)) (zaG (by decide)) (fun _ _ _ _=>(zan (k:=0) (show (["part"]:List Str).Nodup by decide+kernel) rfl (Or.inl rfl))) (fun _ _ _ _=>zaK) (fun _ _ _ _ o=>(zal (zfw T) (hr.mono (by decide)) rfl T.d_read_number.m T.d_read_number.F.kp T.d_read_number.b .nil (zhK o) (zaa (bpv 0) (zac))))) (zac))) (zac))))))),?_⟩
 refine ⟨_,rfl,rfl,z,32,yB " ",rfl,rfl,znF,(by decide+kernel),by omega,fun D hD=>?_⟩
 rw [ec,qJ]
 have kD:=zag hD (.lst (.str ⟨w.toArray⟩::ps.map fun p=>V.str ⟨p.toArray⟩))
 refine ⟨_,rfl,D,_,_,_,rfl,rfl,.of zab,zb2 (j:=0) rfl,_,rfl,_,rfl,D,_,rfl,.of zab,fun S hS=>?_⟩
 rw [zm1]
 have kS:=zag hS (.lst (ps.map fun p=>V.str ⟨p.toArray⟩))
 generalize eH2:upd (upd H D (.lst (.str ⟨w.toArray⟩::ps.map fun p=>V.str ⟨p.toArray⟩))) S (.lst (ps.map fun p=>V.str ⟨p.toArray⟩))=H2 at kS
 have eS:H2 S=some (.lst (ps.map fun p=>V.str ⟨p.toArray⟩)):=by rw [← eH2];exact zab
 have kT:=kD.trans kS
 refine ⟨S,rfl,⟨_,.of eS⟩,fun C hC=>zaV (K:=K) (a:=S) (xs:=ps.map fun p=>V.str ⟨p.toArray⟩)
  (fun j H4=>Same H2 H4∧∃ ms:List Int,H4 C=some (.lst (ms.map V.int))∧ms.length=j∧zbZ (ps.take j)=some ms)
  ⟨zag hC _,[],zab,rfl,rfl⟩ (fun j H4 _ z=>.of (z.1 _ _ eS)) ?_ ?_⟩
 ·rintro j y H4 hy ⟨s4,ms,eC,lm,em⟩
  rw [yL] at hy
  cases hz:ps[j]? with
  | none=>rw [hz] at hy;cases hy
  | some p=>
   rw [hz] at hy
   cases hy
   have pm:=yR hz
   have lj:j < ps.length:=(yF.mp hz).1
   refine ⟨_,rfl,⟨p.toArray⟩,rfl,tx.part (c:=32) (by rw [ec];exact .tail _ pm),fun n en=>?_,fun en=>?_⟩
   ·rw [tlA] at en
    refine ⟨_,eC,big (by rw [yA,lm];omega),s4.write hC _,ms++ [(n:Int)],?_,by rw [yI,lm];rfl,?_⟩
    ·rw [zab,yM]
     rfl
    ·rw [yT,hz]
     exact zgL en em
   ·rw [tlA] at en
    exact (rz (zhR en pm)).on (kT.trans s4)
 rintro H4 ⟨s4,ms,eC,lm,em⟩
 rw [yA] at lm em
 rw [qF] at em
 refine ⟨C,_,rfl,.inl ⟨.of eC,fun q1 h1=>⟨(by show 2≤yH;decide),fun r hr'=>?_⟩⟩⟩
 have k1:=zag h1 (.tup (ms.map V.int))
 have k2:=zag hr' (.tup [.str ⟨w.toArray⟩,.ref q1])
 exact q ms em r q1 _ (((kT.trans s4).trans k1).trans k2) (((kT.trans s4).trans k1).free hr') ((kT.trans s4).free h1) zab (k2 _ _ zab)
theorem zd1:zav ["inputs","gates","outputs","gate","body"] ["inputs","gates","outputs"] (zak zdC):=⟨rfl,rfl,rfl,by decide+kernel,rfl,by decide+kernel,by decide+kernel⟩
theorem zhP (T:Txt K mg t):FnOk P w K mg base (CXC P w (.ref t.x_NoWorks)) 3 t.f_works_of t.fd_works_of ["inputs","gates","outputs"] (znV K):=by
 refine T.d_works_of.F.okC zd1 (fun vs H Q E h=>?_) (fun cdv A outer s H vs Q E hr h=>?_)
 ·obtain ⟨w,ga,oa,gs,os,rfl,_⟩:=h
  rfl
 obtain ⟨b,ga,oa,gs,os,rfl,hg,ho,rg,ro,few,o100,l1000,q,rz⟩:=h
 have lg:gs.length=b.gates.length:=by rw [rg.length,yA]
 have lo:os.length=b.outs.length:=by rw [ro.length,yA]
 have eo:=zdu ro
 have up:∀ {H2:Hp},¬ziY b→Same H H2→1≤yH∧∀ y,H2 y=none→E (.ref y) (some y) H2:=fun nb s=>⟨(by decide),fun y hy=>rz nb _ y s hy⟩
 refine ⟨_,(zad (zaA (zap zkC (bpv 0) zae (zay _)) (zaf (za2 qN T.k_NoWorks.ex rfl rfl T.g_NoWorks zcO (zaa zaj zac))) zas)
  (zad (zaY zgv rfl (zef rfl T.z_enumerate (zaa (bpv 1) (zac))) (zdU rfl (zaE (zan (k:=3) zd1.nd rfl (Or.inl rfl)) (zaE (zan (k:=4) zd1.nd rfl (Or.inl rfl)) zbF))) (zaf (zbR (zal (zgf T) (hr.mono (by decide)) rfl T.d_check_gate.m T.d_check_gate.F.kp T.d_check_gate.b .nil zo1 (zaa (zaq zax (bpv 4) zae (fun _ _=>rfl)) (zaa (zaq zax (bpv 4) zae (fun _ _=>rfl)) (zaa (zao za9 (bpv 0) (bpv 3)) (zac))))))))
  (zad (zaA (zap zbp (zat zau rfl T.z_len qQ (zaa (bpv 2) (zac))) zae (zay _)) (zaf (za2 qN T.k_NoWorks.ex rfl rfl T.g_NoWorks zcO (zaa zaj zac))) zas)
  (zad (zaA (zc3 (zd0 (zal (zcs T) (hr.mono (by decide)) rfl T.d_are_wires_below.m T.d_are_wires_below.F.kp T.d_are_wires_below.b .nil zaC (zaa (bpv 2) (zaa (zao za9 (bpv 0) (zat zau rfl T.z_len qQ (zaa (bpv 1) (zac)))) (zac)))))) (zaf (za2 qN T.k_NoWorks.ex rfl rfl T.g_NoWorks zcO (zaa zaj zac))) zas)
  (zaf (zar (zaP (zaa (bpv 0) (zaa (zaz zdf rfl T.z_list wN (zaa (bpv 1) (zac))) (zaa (zaz zdf rfl T.z_list wN (zaa (bpv 2) (zac))) (zac))))))))))),?_⟩
 refine ⟨_,rfl,_,_,rfl,rfl,_,rfl,ite2 (fun c=>up (fun z=>absurd (of_decide_eq_true c) (by have:=z.1;omega)) (Same.refl _)) (fun c0=>?_)⟩
 have i1: 1≤b.ins:=by
  have c':¬b.ins < 1:=fun z=>c0 (decide_eq_true z)
  omega
 refine ⟨_,rfl,ga,rfl,⟨_,hg⟩,zg7 (K:=K) (a:=ga) (xs:=gs) (fun i σ H2=>∃ (o3 o4:Option V),σ = [some (.int b.ins),some (.ref ga),some (.ref oa),o3,o4]∧Same H H2∧∀ (k:Nat) g,k < i→b.gates[k]? =some g→zio (b.ins+k) g) ⟨_,_,rfl,Same.refl _,fun k g z=>absurd z (by omega)⟩ (fun i σ H2 _ ⟨_,_,_,s2,_⟩=>s2.seq hg) ?_ ?_⟩
 ·rintro i x σ H2 T1 hx ⟨o3,o4,rfl,s2,gd⟩ h1
  have hi:i < gs.length:=(yF.mp hx).1
  obtain ⟨g,hgk⟩:∃ g,b.gates[i]? =some g:=⟨_,yQ (by omega)⟩
  obtain ⟨d,hd,rv⟩:=rg.get hx
  rw [yL,hgk] at hd
  cases hd
  obtain ⟨a1,la,rfl,hA,hL⟩:=zcz rv
  have s3:=s2.upd h1 (.tup [.int i,.ref a1])
  have l10:=l1000 g (yR hgk)
  refine ⟨T1,_,rfl,.of zab,rfl,_,_,rfl,_,_,rfl,rfl,?_⟩
  refine ⟨_,rfl,a1,_,_,_,rfl,rfl,s3.seqT hA,rfl,_,rfl,a1,_,_,_,rfl,rfl,s3.seqT hA,rfl,_,rfl,_,rfl,_,_,rfl,rfl,g.1,la,b.ins+(i:Int),g.2,rfl,s3.seqT hL,by omega,fun good H3 s4=>⟨_,_,rfl,s3.trans s4,fun k g2 hk e=>?_⟩,fun nb=>(rz fun z=>nb (z.2.1 i g hgk)).on s3⟩
  by_cases z:k=i
  ·subst z
   rw [hgk] at e
   cases e
   exact good
  ·exact gd k g2 (by omega) e
 rintro σ H2 ⟨o3,o4,rfl,s2,gd⟩
 refine ⟨_,rfl,oa,_,rfl,.inl (s2.seq ho),rfl,_,rfl,ite2 (fun c=>up (fun z=>?_) s2) (fun c1=>?_)⟩
 ·have:=V.int.inj (of_decide_eq_true c)
  have:=z.2.2.1
  omega
 have o1: 1≤b.outs.length:=by
  have c':¬V.int ((os.length:Nat):Int)=V.int 0:=fun z=>c1 (decide_eq_true z)
  have:os.length≠0:=fun z=>c' (by rw [z];rfl)
  omega
 refine ⟨_,rfl,_,rfl,_,rfl,ga,_,rfl,.inl (s2.seq hg),_,_,rfl,rfl,oa,_,b.outs,rfl,.inl (by rw [← eo];exact s2.seq ho),by omega,fun H3 s3=>?_⟩
 cases e3:b.outs.all fun n=>decide (0≤n∧n < b.ins+((gs.length:Nat):Int)) with
 | false=>
  refine ⟨_,rfl,iteT (up (fun z=>?_) (s2.trans s3))⟩
  rw [qY.mpr fun o ho=>decide_eq_true (by have:=z.2.2.2 o ho;rw [lg];exact this)] at e3
  cases e3
 | true=>
  have good:ziY b:=⟨i1,fun k g e=>gd k g (by have:=(yF.mp e).1;omega) e,o1,fun o ho=>by
   have:=of_decide_eq_true (qY.mp e3 o ho)
   rw [lg] at this
   exact this⟩
  refine ⟨_,rfl,iteF ?_⟩
  have s23:=s2.trans s3
  refine ⟨_,rfl,_,rfl,ga,_,rfl,.inl (s23.seq hg),fun g hgn=>?_⟩
  have k1:=zag hgn (.lst gs)
  refine ⟨_,rfl,oa,_,rfl,.inl ((s23.trans k1).seq ho),fun o hon=>?_⟩
  have k2:=zag hon (.lst os)
  refine ⟨(by show 3≤yH;decide),fun r hrn=>?_⟩
  have k3:=zag hrn (.tup [.int b.ins,.ref g,.ref o])
  have sF:=((s23.trans k1).trans k2).trans k3
  exact q good r _ sF (.tup (.of zab) (.cons (.int _) (.cons (.lst (.of ((k2.trans k3) _ _ zab)) (rg.mono sF)) (.cons (.lst (.of (k3 _ _ zab)) (ro.mono sF)) .nil))))
theorem ziG (T:Txt K mg t):FnOk P w K mg base CX0 3 t.f_works_of t.fd_works_of ["inputs","gates","outputs"] (fun vs H Q _=>znV K vs H Q fun _ _ _=>False):=calmF (zhP T)
theorem zbI:zav ["text","rows","first","last","gates"] ["text"] (zak zct):=⟨rfl,rfl,rfl,by decide+kernel,rfl,by decide+kernel,by decide+kernel⟩
theorem zf4 (T:Txt K mg t):FnOk P w K mg base (CXC P w (.ref t.x_NoText)) 4 t.f_read_works t.fd_read_works ["text"] (zpi K):=by
 refine T.d_read_works.F.okC zbI (fun vs H Q E h=>?_) (fun cdv A outer s H vs Q E hr h=>?_)
 ·obtain ⟨z,rfl,_⟩:=h
  rfl
 obtain ⟨z,rfl,tx,q,rz⟩:=h
 have hu64:=hr.units
 have sl:yH=16777216:=by decide
 have lz:=tx.1
 have ez:z.cps.toList.length=z.length:=yY
 have lp:(cutL 10 z.cps.toList).length≤601:=by
  have:=(zds 10 z.cps.toList).2
  omega
 refine ⟨_,(zad (zkE (k:=1) rfl (N:=["row"]) (n:=1) (cap:=[]) (za7 rfl rfl) zbI.nd rfl rfl (zaM (zbm qU vK vL zfZ (bpv 0) (zaa zaj (zac)))) (zaG (by decide)) (fun _ _ _ _=>(zan (k:=0) (show (["row"]:List Str).Nodup by decide+kernel) rfl (Or.inl rfl))) (fun _ _ _ _=>zaK) (fun _ _ _ _ o=>(zal (zeR T) (hr.mono (by decide)) rfl T.d_read_row.m T.d_read_row.F.kp T.d_read_row.b .nil (zhK o) (zaa (bpv 0) (zac)))) rfl)
  (zad (zam (k:=2) zbI.nd rfl (Or.inl rfl) (zaq zaJ (bpv 1) zae (fun _ _=>rfl)))
  (zad (zam (k:=3) zbI.nd rfl (Or.inl rfl) (zaq zaJ (bpv 1) (zc9 zda zae) (fun _ _=>rfl)))
  (zad (zaA (zdR (zgB (zap zhl (zaq zax (bpv 2) zae (fun _ _=>rfl)) zaj (zay _)) (zeK (zap zhl (zat zau rfl T.z_len qQ (zaa (zaq zax (bpv 2) zae (fun _ _=>rfl)) (zac))) zae (zay _))))) (zaf (za2 qN T.k_NoText.ex rfl rfl T.g_NoText zcO (zaa zaj zac))) zas)
  (zad (zaA (zap zhl (zaq zax (bpv 3) zae (fun _ _=>rfl)) zaj (zay _)) (zaf (za2 qN T.k_NoText.ex rfl rfl T.g_NoText zcO (zaa zaj zac))) zas)
  (zad (zam (k:=4) zbI.nd rfl (Or.inl rfl) (zch ziE (bpv 1) (zb5 zae) (zb5 (zc9 zda zae))))
  (zad (zaA (zc3 (zd0 (zat (zfS rfl) rfl T.z_all wV (zaa (zaQ rfl (N:=["kind","legs"]) (n:=2) (cap:=[]) (za7 rfl rfl) (zaM (bpv 4)) (zeq (by decide) (by decide)) (fun _ _ _ _=>(zfa (K:=K) (n:=2) rfl (zaE (zan (k:=0) (show (["kind","legs"]:List Str).Nodup by decide+kernel) rfl (Or.inl rfl)) (zaE (zan (k:=1) (show (["kind","legs"]:List Str).Nodup by decide+kernel) rfl (Or.inl rfl)) zbF)))) (fun _ _ _ _=>zaK) (fun _ _ _ _=>(zal (zgO T) (hr.mono (by decide)) rfl T.d_is_kind.m T.d_is_kind.F.kp T.d_is_kind.b .nil zaC (zaa (bpv 0) (zac))))) (zac))))) (zaf (za2 qN T.k_NoText.ex rfl rfl T.g_NoText zcO (zaa zaj zac))) zas)
  (zaf (zar (zal (ziG T) (hr.mono (by decide)) rfl T.d_works_of.m T.d_works_of.F.kp T.d_works_of.b .nil zaC (zaa (zaq zax (zaq zax (bpv 2) zae (fun _ _=>rfl)) zae (fun _ _=>rfl)) (zaa (bpv 4) (zaa (zaz zdf rfl T.z_list wN (zaa (zaq zax (bpv 3) zae (fun _ _=>rfl)) (zac))) (zac)))))))))))))),?_⟩
 refine ⟨_,rfl,rfl,z,10,yB "\n",rfl,rfl,ziJ,(by decide+kernel),by omega,fun S hS=>?_⟩
 have kS:=zag hS (.lst ((cutL 10 z.cps.toList).map fun p=>V.str ⟨p.toArray⟩))
 have eS:(upd H S (.lst ((cutL 10 z.cps.toList).map fun p=>V.str ⟨p.toArray⟩))) S=some (.lst ((cutL 10 z.cps.toList).map fun p=>V.str ⟨p.toArray⟩)):=zab
 generalize upd H S (.lst ((cutL 10 z.cps.toList).map fun p=>V.str ⟨p.toArray⟩))=H1 at kS eS
 refine ⟨S,rfl,⟨_,.of eS⟩,fun D hD=>zaV (K:=K) (a:=S) (xs:=(cutL 10 z.cps.toList).map fun p=>V.str ⟨p.toArray⟩)
  (fun j H4=>∃ (us:List V) (G:Hp) (rs:List TRow),Same H1 G∧Off [D] G H4∧H4 D=some (.lst us)∧Reps K G us (rs.map fun r=>zez (zcC r))∧allO rowN ((cutL 10 z.cps.toList).take j)=some rs)
  ⟨[],H1,[],Same.refl _,Off.start hD _,zab,.nil,rfl⟩ (fun j H4 _ z=>by obtain ⟨_,_,_,sG,oG,_⟩:=z;exact .of ((sG.trans oG.same) _ _ eS)) ?_ ?_⟩
 ·rintro j y H4 hy ⟨us,G,rs,sG,oG,eD,rus,ers⟩
  rw [yL] at hy
  cases hz:(cutL 10 z.cps.toList)[j]? with
  | none=>rw [hz] at hy;cases hy
  | some p=>
   rw [hz] at hy
   cases hy
   have pm:=yR hz
   have lj:=(yF.mp hz).1
   have lr:=zhq ers
   have lu:us.length=rs.length:=by rw [rus.length,yA]
   rw [yW] at lr
   obtain ⟨w,ps,ec⟩:∃ w ps,cutL 32 p=w::ps:=by
    cases e:cutL 32 p with
    | nil=>exact absurd e (zg9 _ _)
    | cons w ps=>exact ⟨w,ps,rfl⟩
   refine ⟨_,rfl,⟨p.toArray⟩,w,ps,rfl,tx.part pm,by rw [tlA];exact ec,fun ns en r1 q1 H5 s5 nr nq er eq=>?_,fun en=>?_⟩
   ·have e1:rowN p=some (w,ns):=by
     unfold rowN
     rw [ec]
     show (zbZ ps).map _=_
     rw [en]
     rfl
    refine ⟨us,s5 _ _ eD,big (by omega),us++ [.ref r1],zeT G H4 H5,rs++ [(w,ns)],sG.trans (zfH oG.same),(zkv oG s5).write (.head _) _,zab,?_,?_⟩
    ·rw [yM]
     exact (rus.mono (zfH oG.same)).snoc (.tup (.of (by rw [zgh nr];exact er)) (.cons (.str _) (.cons (.tup (.of (by rw [zgh nq];exact eq)) (Reps.ints _)) .nil)))
    ·rw [yT,hz]
     exact zim e1 ers
   ·have e1:rowN p=none:=by
     unfold rowN
     rw [ec]
     show (zbZ ps).map _=_
     rw [en]
     rfl
    exact (rz (by rintro ⟨b,rs,e,_⟩;unfold zlW at e;rw [zjI e1 pm] at e;cases e)).on (kS.trans (sG.trans oG.same))
 rintro H4 ⟨us,G,rs,sG,oG,eD,rus,ers⟩
 rw [yA,qF] at ers
 have lr:=zhq ers
 have s04:=(kS.trans sG).trans oG.same
 have ru:=rus.mono oG.same
 have bad:∀ {H2:Hp},Same H4 H2→(¬∃ b,Told rs b)→1≤yH∧∀ x,H2 x=none→E (.ref x) (some x) H2:=fun s2 h=>⟨(by decide),fun x hx=>rz (by rintro ⟨b,rs',e,tb⟩;unfold zlW at e;rw [ers] at e;cases e;exact h ⟨b,tb⟩) _ x (s04.trans s2) hx⟩
 obtain ⟨v0,ut,r0,rt,rfl,rfl,rv0⟩:∃ v0 ut r0 rt,us=v0::ut∧rs=r0::rt∧Rep K H4 v0 (zez (zcC r0)):=by
  cases rs with
  | nil=>exact absurd (jT.mp lr.symm) (zg9 _ _)
  | cons r0 rt=>
   cases ru with
   | cons h _=>exact ⟨_,_,_,_,rfl,rfl,h⟩
 obtain ⟨vl,rl,el,elr,rvl⟩:∃ vl rl,(v0::ut).getLast? =some vl∧(r0::rt).getLast? =some rl∧Rep K H4 vl (zez (zcC rl)):=by
  have h1:(v0::ut)[(v0::ut).length - 1]? =(v0::ut).getLast? :=by rw [yar]
  have h2:(r0::rt)[(r0::rt).length - 1]? =(r0::rt).getLast? :=by rw [yar]
  have e1:(v0::ut).length=(r0::rt).length:=by rw [ru.length,yA]
  obtain ⟨rl,erl⟩:∃ rl,(r0::rt).getLast? =some rl:=⟨_,jZ (kP _ _)⟩
  obtain ⟨vl,evl⟩:∃ vl,(v0::ut).getLast? =some vl:=⟨_,jZ (kP _ _)⟩
  obtain ⟨d,hd,rv⟩:=ru.get (h1.trans evl)
  rw [yL,e1,h2,erl] at hd
  cases hd
  exact ⟨vl,rl,evl,erl,rv⟩
 obtain ⟨a0,l0,rfl,h0,hl0⟩:=zcz rv0
 obtain ⟨al,ll,rfl,hal,hll⟩:=zcz rvl
 have eD':=eD
 refine ⟨_,rfl,D,_,_,_,rfl,rfl,.of eD,zb2 (j:=0) rfl,?_⟩
 refine ⟨_,rfl,_,rfl,D,_,_,_,rfl,rfl,.of eD,zli el,?_⟩
 refine ⟨_,rfl,a0,_,_,_,rfl,rfl,h0,rfl,rfl,_,rfl,ite2 (fun c=>iteT (bad (Same.refl _) ?_)) (fun c=>?_)⟩
 ·rintro ⟨b,i,gs,os,e,_⟩
  have:r0=(inW,[i]):=(jY e).1
  rw [this] at c
  rw [decide_eq_true (show V.str (zcC (inW,[i])).1=V.str (yB "in") by rw [in_eq];rfl)] at c
  cases c
 have ein:r0.1=inW:=strWA.mp (by
  rw [← in_eq]
  exact ndec c)
 refine ⟨_,rfl,a0,_,_,_,rfl,rfl,h0,rfl,l0,_,rfl,.inr hl0,rfl,_,rfl,ite2 (fun c2=>bad (Same.refl _) ?_) (fun c2=>?_)⟩
 ·rintro ⟨b,i,gs,os,e,_⟩
  have:r0=(inW,[i]):=(jY e).1
  rw [this,decide_eq_true (show V.int ((((zcC (inW,[i])).2.map V.int).length:Nat):Int)=V.int 1 from rfl)] at c2
  cases c2
 have e1n:r0.2.length=1:=by
  have:V.int ((((zcC r0).2.map V.int).length:Nat):Int)=V.int 1:=kO fun z=>c2 (by rw [decide_eq_false z];rfl)
  have:=V.int.inj this
  rw [yA] at this
  show (zcC r0).2.length=1
  omega
 obtain ⟨i0,ei0⟩:∃ i0,r0=(inW,[i0]):=by
  obtain ⟨x,y⟩:=r0
  cases y with
  | nil=>cases e1n
  | cons i0 y=>
   cases y with
   | nil=>cases ein;exact ⟨i0,rfl⟩
   | cons _ _=>cases e1n
 subst ei0
 refine ⟨_,rfl,al,_,_,_,rfl,rfl,hal,rfl,rfl,_,rfl,ite2 (fun c3=>bad (Same.refl _) ?_) (fun c3=>?_)⟩
 ·rintro ⟨b,i,gs,os,e,_⟩
  rw [e,← wX,xV] at elr
  cases elr
  rw [decide_eq_true (show V.str (zcC (outW,os)).1=V.str (yB "out") by rw [znS];rfl)] at c3
  cases c3
 have eout:rl.1=outW:=strWA.mp (by
  rw [← znS]
  exact ndec c3)
 obtain ⟨gs,os,ert⟩:∃ gs os,rt=gs++ [(outW,os)]:=by
  cases rt with
  | nil=>
   have:rl=(inW,[i0]):=(yV elr).symm
   rw [this] at eout
   exact absurd eout (by decide:¬inW=outW)
  | cons r1 rt=>
   rw [List.getLast?_cons_cons] at elr
   refine ⟨(r1::rt).dropLast,rl.2,?_⟩
   have:=vQ (kP r1 rt)
   rw [jZ (kP _ _)] at elr
   rw [yV elr] at this
   rw [← eout]
   exact this.symm
 subst ert
 have erl:rl=(outW,os):=by
  rw [← wX,xV] at elr
  exact (yV elr).symm
 subst erl
 obtain ⟨vg,rfl,rgs⟩:∃ vg,ut=vg++ [.ref al]∧Reps K H4 vg ((gs.map zcC).map zez):=by
  cases ru with
  | cons _ rt2=>
   rw [yM] at rt2
   obtain ⟨vg,ys,rfl,h1,h2⟩:=zfW rt2
   cases h2 with
   | cons hv hn=>
    cases hn
    rw [← wX,xV] at el
    refine ⟨vg,by rw [yV el],?_⟩
    rw [jX]
    exact h1
 have lvg:vg.length=gs.length:=by rw [rgs.length,yA,yA]
 have lgs:gs.length≤600:=by
  rw [yO,yI,qM] at lr
  omega
 refine ⟨_,rfl,_,rfl,_,rfl,_,rfl,D,_,rfl,.of eD,fun Gd hG=>?_⟩
 rw [show (-(1:Int))= -1 from rfl,zke]
 have kG:=zag hG (.lst vg)
 have eG:(upd H4 Gd (.lst vg)) Gd=some (.lst vg):=zab
 have rg5:=rgs.mono kG
 have h05:=kG.seqT h0
 have hl05:=kG.seqT hl0
 have hal5:=kG.seqT hal
 have hll5:=kG.seqT hll
 generalize upd H4 Gd (.lst vg)=H5 at kG eG rg5 h05 hl05 hal5 hll5
 refine ⟨_,rfl,Gd,rfl,⟨_,.of eG⟩,fun D2 hD2=>zaV (K:=K) (a:=Gd) (xs:=vg) (fun j H6=>Same H5 H6∧H6 D2=some (.lst (((gs.take j).map fun g=>PyProof.Rows.KTD.inKeys (zcC g).1 zaw).map V.bl))) ⟨zag hD2 _,zab⟩ (fun j H6 _ z=>.of (z.1 _ _ eG)) ?_ ?_⟩
 ·rintro j y H6 hy ⟨s6,eD2⟩
  obtain ⟨dd,hdd,ry⟩:=rg5.get hy
  rw [yL,yL] at hdd
  cases hz:gs[j]? with
  | none=>rw [hz] at hdd;cases hdd
  | some g=>
   rw [hz] at hdd
   cases hdd
   obtain ⟨b,la,rfl,hb,hla⟩:=zcz ry
   have lj:j < gs.length:=(yF.mp hz).1
   refine ⟨b,_,rfl,s6.seqT hb,rfl,_,_,rfl,_,_,rfl,rfl,?_⟩
   refine ⟨_,rfl,(zcC g).1,rfl,?_⟩
   refine ⟨_,eD2,big (by rw [yA,yA,yW];omega),s6.write hD2 _,?_⟩
   rw [zab,yT,hz,yM,yM]
   rfl
 rintro H6 ⟨s6,eD2⟩
 rw [lvg,qF] at eD2
 refine ⟨D2,_,rfl,.of eD2,_,rfl,?_⟩
 cases ek:(gs.map fun g=>PyProof.Rows.KTD.inKeys (zcC g).1 zaw).all id with
 | false=>
  refine iteT (bad (kG.trans s6) ?_)
  rintro ⟨b,i,gs2,os2,e,hk,_⟩
  have e1:os=os2:=by
   have:=congrArg List.getLast? (jY e).2
   rw [xV,xV] at this
   exact (yb0 (yV this)).2
  subst e1
  have e2:=List.append_cancel_right (jY e).2
  subst e2
  rw [qY.mpr fun x hx=>by
   obtain ⟨g,hg,rfl⟩:=qE.mp hx
   obtain ⟨_,_,_,e3,_⟩:=zjb (hk g hg)
   exact e3] at ek
  cases ek
 | true=>
  have hk:∀ g∈gs,zck (zcC g).1:=fun g hg=>by
   refine yas fun z=>?_
   have:=qY.mp ek _ (List.mem_map_of_mem (f:=fun g=>PyProof.Rows.KTD.inKeys (zcC g).1 zaw) hg)
   rw [zlM z] at this
   cases this
  have tb:ziP z ⟨i0,gs.map zcC,os⟩:=⟨_,ers,i0,gs,os,rfl,hk,rfl⟩
  refine iteF ?_
  obtain ⟨good,q2⟩:=q _ tb
  refine ⟨_,rfl,a0,_,_,_,rfl,rfl,s6.seqT h05,rfl,l0,_,_,_,rfl,rfl,s6.seqT hl05,rfl,_,rfl,_,rfl,al,_,_,_,rfl,rfl,s6.seqT hal5,rfl,ll,_,rfl,.inr (s6.seqT hll5),fun Lo hLo=>?_⟩
  have kLo:=zag hLo (.lst (os.map V.int))
  refine ⟨⟨i0,gs.map zcC,os⟩,Gd,Lo,vg,os.map V.int,rfl,.of ((s6.trans kLo) _ _ eG),.of zab,rg5.mono (s6.trans kLo),Reps.ints _,?_,?_,?_,fun _ r H8 s8 rr=>?_,fun nb=>absurd good nb⟩
  ·rw [yA];omega
  ·have:=zgM tx ers (outW,os) (.tail _ (qA _ (.head _)))
   show os.length≤1000
   have h:os.length≤601:=this
   omega
  ·intro g hg
   obtain ⟨r,hr1,rfl⟩:=qE.mp hg
   have h:r.2.length≤601:=zgM tx ers r (.tail _ (xT _ hr1))
   show r.2.length≤1000
   omega
  ·exact q2 r H8 ((((s04.trans kG).trans s6).trans kLo).trans s8) rr
theorem zcd:zav ["text","fault","word","numbers"] ["text"] (zak zcp):=⟨rfl,rfl,rfl,by decide+kernel,rfl,by decide+kernel,by decide+kernel⟩
theorem zf8 (T:Txt K mg t):FnOk P w K mg base (CXC P w (.ref t.x_NoText)) 3 t.f_read_fault t.fd_read_fault ["text"] sp_rdf:=by
 refine T.d_read_fault.F.okC zcd (fun vs H Q E h=>?_) (fun cdv A outer s H vs Q E hr h=>?_)
 ·obtain ⟨z,w,ps,rfl,_⟩:=h
  rfl
 obtain ⟨z,w,ps,rfl,tx,ec,q,rz⟩:=h
 have hu64:=hr.units
 have lz:=tx.1
 have ez:z.cps.toList.length=z.length:=yY
 have lp:ps.length≤601:=by
  have:=(zds 32 z.cps.toList).2
  rw [ec,yO] at this
  omega
 refine ⟨_,(zad (zam (k:=1) zcd.nd rfl (Or.inl rfl) (zal (zeR T) (hr.mono (by decide)) rfl T.d_read_row.m T.d_read_row.F.kp T.d_read_row.b .nil zo1 (zaa (bpv 0) (zac))))
  (zad (zam (k:=2) zcd.nd rfl (Or.inl rfl) (zaq zax (bpv 1) zae (fun _ _=>rfl)))
  (zad (zam (k:=3) zcd.nd rfl (Or.inl rfl) (zaq zax (bpv 1) zae (fun _ _=>rfl)))
  (zad (zaA (zdR (zhs (zc3 (zdR (zhs (zap zbp (bpv 2) zaj (zay _)) (zfb (zap zbp (zat zau rfl T.z_len qQ (zaa (bpv 3) (zac))) zae (zay _)))))) (zfb (zc3 (zdR (zhs (zap zbp (bpv 2) zaj (zay _)) (zfb (zap zbp (zat zau rfl T.z_len qQ (zaa (bpv 3) (zac))) zae (zay _))))))))) (zaf (za2 qN T.k_NoText.ex rfl rfl T.g_NoText zcO (zaa zaj zac))) zas)
  (zad (zaA (zap ziz (zaq zax (bpv 3) (zc9 zda zae) (fun _ _=>rfl)) (zaP (zaa zae (zaa zae (zac)))) rfl) (zaf (za2 qN T.k_NoText.ex rfl rfl T.g_NoText zcO (zaa zaj zac))) zas)
  (zaf (zar (zao zhx (zaP (zaa (bpv 2) (zac))) (bpv 3))))))))),?_⟩
 refine ⟨_,rfl,z,w,ps,rfl,tx,ec,fun ns en r q1 H1 s1 _ _ er eq=>?_,fun en=>(rz fun ns e=>by rw [en] at e;cases e)⟩
 have ln:=zfU en
 have len:(ns.map V.int).length=ns.length:=yA _
 have bad:∀ {H2:Hp},Same H1 H2→okF w ns=false→1≤yH∧∀ x,H2 x=none→E (.ref x) (some x) H2:=fun s2 h=>⟨(by decide),fun x hx=>rz (fun ns' e=>by rw [en] at e;cases e;exact h) _ x (s1.trans s2) hx⟩
 have wl:zf5≠legW:=by decide
 refine ⟨_,rfl,r,_,_,_,rfl,rfl,.of er,rfl,_,rfl,r,_,_,_,rfl,rfl,.of er,rfl,?_⟩
 refine' znN (α :=Unit) (C:=fun _ Hx=>H1=Hx∧((w==zf5 && ns.length==2) || (w==legW && ns.length==3))=true) (st:=fun _=>[some (.str z),some (.ref r),some (.str ⟨w.toArray⟩),some (.ref q1)]) (fun rest=>_) _
 rotate_left
 ·refine ⟨_,rfl,rfl,_,rfl,ite2 (fun c=>?_) (fun c=>?_)⟩
  ·have ew:w=zf5:=strW.mp ((V.str.inj (of_decide_eq_true c)) ▸ (by rw [zlw]))
   have e2:(w==legW)=false:=beq_eq_false_iff_ne.mpr fun z=>wl (ew.symm.trans z)
   refine ⟨_,rfl,q1,_,rfl,.inr (.of eq),rfl,_,rfl,ite2 (fun c2=>?_) (fun c2=>iteF (rest () _ ⟨rfl,?_⟩))⟩
   ·refine ⟨_,rfl,rfl,_,rfl,ite2 (fun c3=>?_) (fun c3=>iteT (bad (Same.refl _) (zlj ?_)))⟩
    ·exact absurd (ew.symm.trans (strW.mp ((V.str.inj (of_decide_eq_true c3)) ▸ (by rw [zkX])))) wl
    ·rw [znw (k:=2) c2,e2]
     cases (w==zf5) <;> rfl
   ·rw [zle (k:=2) c2,beq_iff_eq.mpr ew]
    rfl
  ·have e1:(w==zf5)=false:=beq_eq_false_iff_ne.mpr fun z=>c (decide_eq_true (by rw [z,zlw]))
   refine iteT ?_
   refine ⟨_,rfl,rfl,_,rfl,ite2 (fun c3=>?_) (fun c3=>iteT (bad (Same.refl _) (zlj ?_)))⟩
   ·have ew:w=legW:=strW.mp ((V.str.inj (of_decide_eq_true c3)) ▸ (by rw [zkX]))
    refine ⟨_,rfl,q1,_,rfl,.inr (.of eq),rfl,_,rfl,ite2 (fun c2=>bad (Same.refl _) (zlj ?_)) (fun c2=>rest () _ ⟨rfl,?_⟩)⟩
    ·rw [znw (k:=3) c2,e1]
     cases (w==legW) <;> rfl
    ·rw [zle (k:=3) c2,beq_iff_eq.mpr ew]
     cases (w==zf5 && ns.length==2) <;> rfl
   ·have e2:(w==legW)=false:=beq_eq_false_iff_ne.mpr fun z=>c3 (decide_eq_true (by rw [z,zkX]))
    rw [e1,e2]
    rfl
 rintro _ _ ⟨rfl,h1⟩
 have l2: 2≤ns.length:=by
  rcases (ybZ _ _).mp h1 with z | z
  ·have:=beq_iff_eq.mp ((jE _ _).mp z).2;omega
  ·have:=beq_iff_eq.mp ((jE _ _).mp z).2;omega
 obtain ⟨b,hb⟩:∃ b,ns.getLast? =some b:=by
  cases e:ns.getLast? with
  | some b=>exact ⟨b,rfl⟩
  | none=>rw [List.getLast?_eq_none_iff.mp e] at l2;exact absurd l2 (by decide)
 have at1:=atLast hb
 refine ⟨_,rfl,_,rfl,q1,_,_,_,rfl,rfl,.of eq,at1,(by show 2≤yH;decide),fun T2 h2=>?_⟩
 have k2:=zag h2 (.tup [.int 0,.int 1])
 refine ⟨T2,_,rfl,.inr (.of zab),rfl,rfl,_,rfl,?_⟩
 by_cases b01:b=0∨b=1
 ·refine ite2 (fun c=>?_) (fun c=>?_)
  ·rcases b01 with rfl | rfl <;> exact absurd c (by decide)
  have okf:okF w ns=true:=by
   unfold okF
   rw [h1,hb]
   rcases b01 with rfl | rfl <;> rfl
  refine ⟨_,rfl,(by show 1≤yH;decide),fun T3 h3=>?_⟩
  have k3:=zag h3 (.tup [.str ⟨w.toArray⟩])
  refine ⟨_,rfl,T3,q1,_,_,rfl,rfl,.of zab,.of ((k2.trans k3) _ _ eq),(fun z=>nomatch z),bigE (by rw [len];show 1+_≤_;omega),fun z=>?_,fun _ p hp=>?_⟩
  ·rw [z] at len
   rw [← len] at l2
   exact absurd l2 (by decide)
  ·exact q ns en okf p _ (((s1.trans k2).trans k3).upd hp _) zab
 ·have no:okF w ns=false:=by
   unfold okF
   rw [hb,show (some b==some (0:Int))=false from beq_eq_false_iff_ne.mpr fun z=>b01 (.inl (yV z)),show (some b==some (1:Int))=false from beq_eq_false_iff_ne.mpr fun z=>b01 (.inr (yV z))]
   cases ((w==zf5 && ns.length==2) || (w==legW && ns.length==3)) <;> rfl
  rw [in01 b01]
  exact iteT (bad k2 no)
theorem zd9 (T:Txt K mg t):FnOk P w K mg base CX0 3 t.f_read_fault t.fd_read_fault ["text"] sp_rdg:=(calmF (zf8 T)).imp fun vs H Q _ h=>by
 obtain ⟨f,rfl,sm,q⟩:=h
 have ok:=ziW sm
 have nm:=zgj _ ok.num
 refine ⟨txtF f,(fltR f).word.cps.toList,(fltR f).ns.map fun n=>digs n.toNat,rfl,⟨by have:=zb4 sm;omega,fun c hc=>(zbw sm c hc).2.1⟩,?_,fun ns en okf r H' s e=>?_,fun nb=>?_⟩
 ·rw [zja]
  exact zcM (fun z=>by cases z) (zfX ok)
 ·rw [nm] at en
  cases en
  refine q r H' s ?_
  rw [e,show (⟨(fltR f).word.cps.toList.toArray⟩:Str)=(fltR f).word from (zdl rfl).symm]
  unfold fltO
  rcases zcf sm with ⟨i,_,e1,e2⟩ | ⟨k,i,_,_,e1,e2⟩ <;> rw [e1,e2] <;> rfl
 ·have:=nb _ nm
  exfalso
  rcases zcf sm with ⟨i,_,e1,e2⟩ | ⟨k,i,_,_,e1,e2⟩ <;> rw [e2] at this <;> rcases sm.2 with e | e <;> rw [e] at this <;> revert this <;> simp [okF] <;> decide+kernel
theorem za0:zav ["works","rows","row","wire","kind","legs","leg"] ["works"] (zak zdz):=⟨rfl,rfl,rfl,by decide+kernel,rfl,by decide+kernel,by decide+kernel⟩
theorem zi5 (T:Txt K mg t):FnOk P w K mg base CX0 1 t.f_law_text t.fd_law_text ["works"] (sp_shw K):=by
 refine T.d_law_text.F.okB za0 (fun vs H Q E h=>?_) (fun cdv A outer s H vs Q E hr h=>?_)
 ·obtain ⟨x,w,rfl,_⟩:=h
  rfl
 obtain ⟨x,w,rfl,hx,wf,q⟩:=h
 have hu64:=hr.units
 obtain ⟨a,ga,oa,gs,os,rfl,ha,hg,ho,rg,ro⟩:=zbE hx
 have lg:gs.length=w.gates.length:=by rw [rg.length,yA]
 have few:=wf.few
 have i1:=wf.i1
 have i6:=wf.i6
 have eos:=zdu ro
 subst eos
 have sl:yH=16777216:=by decide
 have b1:(yB " ").length=1:=by rw [zms];rfl
 have iok:=in_ok (i:=w.ins) ⟨i1,i6⟩
 have ook:=znM wf
 have n0:=iok.num w.ins (.head _)
 have nl:=zdJ n0
 have ein:yB "in " ++numS w.ins=txtW ⟨"in",[w.ins]⟩:=by
  rw [← zfc iok]
  show _=yB "in" ++yB " " ++numS w.ins
  rw [show yB "in" ++yB " " =yB "in " by decide+kernel]
 refine ⟨_,(zad (zam (k:=1) za0.nd rfl (Or.inl rfl) (zaD (zaa (zao zbg zaj (zaz za6 rfl T.z_str jH (zaa (zaq zax (bpv 0) zae (fun _ _=>rfl)) (zac)))) (zac))))
  (zad (zaY qT rfl (zaM (zaq zax (bpv 0) zae (fun _ _=>rfl))) (zdU rfl (zaE (zan (k:=4) za0.nd rfl (Or.inl rfl)) (zaE (zan (k:=5) za0.nd rfl (Or.inl rfl)) zbF))) (zad (zam (k:=2) za0.nd rfl (Or.inl rfl) (bpv 4))
  (zad (zaY qT rfl (zhe (bpv 5)) (zan (k:=6) za0.nd rfl (Or.inl rfl)) (zaf (zam (k:=2) za0.nd rfl (Or.inl rfl) (zao zbg (zao zbg (bpv 2) zaj) (zaz za6 rfl T.z_str jH (zaa (bpv 6) (zac)))))))
  (zaf (zbR (zbm qW jB jC zbc (bpv 1) (zaa (bpv 2) (zac))))))))
  (zad (zam (k:=2) za0.nd rfl (Or.inl rfl) zaj)
  (zad (zaY qT rfl (zaM (zaq zax (bpv 0) zae (fun _ _=>rfl))) (zan (k:=3) za0.nd rfl (Or.inl rfl)) (zaf (zam (k:=2) za0.nd rfl (Or.inl rfl) (zao zbg (zao zbg (bpv 2) zaj) (zaz za6 rfl T.z_str jH (zaa (bpv 3) (zac)))))))
  (zaf (zar (zbm qU xF xG zdA zaj (zaa (zao zeW (bpv 1) (zaD (zaa (bpv 2) (zac)))) (zac))))))))),?_⟩
 refine ⟨_,rfl,a,_,_,_,rfl,rfl,ha,rfl,w.ins,rfl,zh9 n0,_,_,rfl,rfl,?_,(by show 1≤yH;decide),fun R hR=>?_⟩
 ·have:(yB "in ").length=3:=by decide+kernel
  show _+(numS w.ins).length≤_
  omega
 have kR:Same H (upd H R (.lst [.str (txtW ⟨"in",[w.ins]⟩)])):=zag hR _
 change tSeq _ _ _ _ (upd H R (.lst [.str (yB "in " ++numS w.ins)]))
 rw [ein]
 have eR0:(upd H R (.lst [.str (txtW ⟨"in",[w.ins]⟩)])) R=some (.lst [.str (txtW ⟨"in",[w.ins]⟩)]):=zab
 generalize upd H R (.lst [.str (txtW ⟨"in",[w.ins]⟩)])=H1 at kR eR0
 refine ⟨_,rfl,a,_,_,_,rfl,rfl,kR.seqT ha,rfl,ga,rfl,⟨_,kR.seq hg⟩,zcq (K:=K) (a:=ga) (xs:=gs)
  (fun j σ H3=>∃ (o2 o3 o4 o5 o6:Option V),σ = [some (.ref a),some (.ref R),o2,o3,o4,o5,o6]∧Same H H3∧H3 R=some (.lst (.str (txtW ⟨"in",[w.ins]⟩)::((zcL (w.gates.take j)).map txtW).map V.str)))
  ⟨_,_,_,_,_,rfl,kR,eR0⟩ (fun j σ H3 _ z=>by obtain ⟨_,_,_,_,_,_,s3,_⟩:=z;exact s3.seq hg) ?_ ?_⟩
 ·rintro j y σ H3 hy ⟨o2,o3,o4,o5,o6,rfl,s3,eR⟩
  obtain ⟨dd,hdd,ry⟩:=rg.get hy
  rw [yL] at hdd
  cases hz:w.gates[j]? with
  | none=>rw [hz] at hdd;cases hdd
  | some g=>
   rw [hz] at hdd
   cases hdd
   obtain ⟨b,la,rfl,hb,hla⟩:=zcz ry
   have gok:=zlY wf hz
   have lj:j < w.gates.length:=(yF.mp hz).1
   refine ⟨b,_,rfl,s3.seqT hb,rfl,_,_,rfl,_,_,rfl,rfl,?_⟩
   refine ⟨_,rfl,_,rfl,la,rfl,⟨_,s3.seqT hla⟩,zoq (K:=K) (a:=la) (xs:=g.2.map V.int)
    (fun i σ H4=>∃ (o6:Option V),σ = [some (.ref a),some (.ref R),some (.str (zfI ⟨g.1,g.2⟩ i)),o3,some (.str g.1),some (.ref la),o6]∧H4=H3)
    ⟨_,rfl,rfl⟩ (fun i σ H4 _ z=>by obtain ⟨_,_,rfl⟩:=z;exact s3.seqT hla) ?_ ?_⟩
   ·rintro i v σ H4 hv ⟨o6,rfl,rfl⟩
    rw [yL] at hv
    cases hn:g.2[i]? with
    | none=>rw [hn] at hv;cases hv
    | some n=>
     rw [hn] at hv
     cases hv
     have nn:=gok.num n (yR hn)
     have sl2:=zhI gok (i:=i)
     have nl2:=zdJ nn
     refine ⟨_,rfl,_,_,rfl,rfl,by omega,_,rfl,n,rfl,zh9 nn,_,_,rfl,rfl,?_,some (.int n),?_,rfl⟩
     ·rw [zkI]
      show _+(numS n).length≤_
      omega
     ·rw [zgt (f:=⟨g.1,g.2⟩) hn]
      rfl
   ·rintro σ H4 ⟨o6,rfl,rfl⟩
    refine ⟨_,rfl,.inl ⟨rfl,_,.of eR⟩,_,rfl,R,_,_,rfl,rfl,eR,big (by unfold zcL;rw [yO,yA,yA,yA,yW];omega),_,_,_,_,_,rfl,s3.write hR _,?_⟩
    have ef:zfI ⟨g.1,g.2⟩ (g.2.map V.int).length=txtW ⟨g.1,g.2⟩:=by
     unfold zfI
     rw [yA,qF]
     exact zfc gok
    unfold zcL
    rw [zab,ef,yT,hz,yM,yM,yM]
    rfl
 rintro σ H3 ⟨o2,o3,o4,o5,o6,rfl,s3,eR⟩
 rw [lg,qF] at eR
 refine ⟨_,rfl,a,_,_,_,rfl,rfl,s3.seqT ha,rfl,oa,rfl,⟨_,s3.seq ho⟩,zcq (K:=K) (a:=oa) (xs:=w.outs.map V.int)
  (fun i σ H4=>∃ (o3:Option V),σ = [some (.ref a),some (.ref R),some (.str (zfI ⟨"out",w.outs⟩ i)),o3,o4,o5,o6]∧H4=H3)
  ⟨_,rfl,rfl⟩ (fun i σ H4 _ z=>by obtain ⟨_,_,rfl⟩:=z;exact s3.seq ho) ?_ ?_⟩
 ·rintro i v σ H4 hv ⟨o3,rfl,rfl⟩
  rw [yL] at hv
  cases hn:w.outs[i]? with
  | none=>rw [hn] at hv;cases hv
  | some n=>
   rw [hn] at hv
   cases hv
   have nn:=ook.num n (yR hn)
   have sl2:=zhI ook (i:=i)
   have nl2:=zdJ nn
   refine ⟨_,rfl,_,_,rfl,rfl,by omega,_,rfl,n,rfl,zh9 nn,_,_,rfl,rfl,?_,some (.int n),?_,rfl⟩
   ·rw [zkI]
    show _+(numS n).length≤_
    omega
   ·rw [zgt (f:=⟨"out",w.outs⟩) hn]
    rfl
 rintro σ H4 ⟨o3,rfl,rfl⟩
 have ef:zfI ⟨"out",w.outs⟩ (w.outs.map V.int).length=txtW ⟨"out",w.outs⟩:=by
  unfold zfI
  rw [yA,qF]
  exact zfc ook
 rw [ef]
 refine ⟨rfl,_,rfl,_,rfl,(by show 1≤yH;decide),fun L1 h1=>?_⟩
 have k1:=zag h1 (.lst [.str (txtW ⟨"out",w.outs⟩)])
 have lR:((zcL w.gates).map txtW).length≤20:=by unfold zcL;rw [yA,yA];exact few
 refine ⟨R,L1,_,_,rfl,rfl,k1 _ _ eR,zab,bigE (by rw [yO,yA];show _+1≤_;omega),fun L2 h2=>?_⟩
 have ez:(V.str (txtW ⟨"in",[w.ins]⟩)::((zcL w.gates).map txtW).map V.str)++ [.str (txtW ⟨"out",w.outs⟩)]=((zc4 w).map txtW).map V.str:=by
  unfold zc4
  rw [qJ,qJ,yM,yM]
  rfl
 rw [ez]
 have k2:=zag h2 (.lst (((zc4 w).map txtW).map V.str))
 refine ⟨_,L2,(zc4 w).map txtW,rfl,rfl,zab,zmT wf,?_⟩
 rw [zh1]
 exact q _ ((s3.trans k1).trans k2)
theorem zbn:zav ["kind","worths","ones","told","worth"] ["kind","worths","ones"] (zak zbV):=⟨rfl,rfl,rfl,by decide+kernel,rfl,by decide+kernel,by decide+kernel⟩
theorem zf7 (T:Txt K mg t):FnOk P w K mg base CX0 1 t.f_gate_worth t.fd_gate_worth ["kind","worths","ones"] (sp_gwI K):=by
 refine T.d_gate_worth.F.okB zbn (fun vs H Q E h=>?_) (fun cdv A outer s H vs Q E hr h=>?_)
 ·obtain ⟨x,p,ns,o,rfl,_⟩:=h
  rfl
 obtain ⟨x,p,ns,o,rfl,hS,lk,q⟩:=h
 refine ⟨_,(zad (zaA (zap zbp (bpv 0) zaj (zay _)) (zaf (zar (zao zjd (bpv 2) (zaq zaJ (bpv 1) zae (fun _ _=>rfl))))) zas)
  (zad (zaA (zap zbp (bpv 0) zaj (zay _)) (zaf (zar (zao zo9 (zao zhS (zaq zaJ (bpv 1) zae (fun _ _=>rfl)) (zaq zaJ (bpv 1) zae (fun _ _=>rfl))) (zao zhS (zao zjd (bpv 2) (zaq zaJ (bpv 1) zae (fun _ _=>rfl))) (zaq zaJ (bpv 1) zae (fun _ _=>rfl)))))) zas)
  (zad (zam (k:=3) zbn.nd rfl (Or.inl rfl) (zfT (zap zf1 (bpv 0) (zaP (zaa zaj (zaa zaj (zac)))) rfl) (bpv 2) zae))
  (zad (zaY qT rfl (zaM (bpv 1)) (zan (k:=4) zbn.nd rfl (Or.inl rfl)) (zaf (zaA (zap zbp (bpv 0) zaj (zay _)) (zaf (zam (k:=3) zbn.nd rfl (Or.inl rfl) (zao zhS (bpv 3) (bpv 4)))) (zaf (zaA (zap zbp (bpv 0) zaj (zay _)) (zaf (zam (k:=3) zbn.nd rfl (Or.inl rfl) (zao zo9 (bpv 3) (bpv 4)))) (zaf (zam (k:=3) zbn.nd rfl (Or.inl rfl) (zao zjd (bpv 3) (bpv 4)))))))))
  (zaf (zar (bpv 3))))))),?_⟩
 by_cases hn:x="not"
 ·subst hn
  have l1:=zm7 lk
  refine ⟨_,rfl,rfl,_,rfl,ifY rfl ⟨_,rfl,_,rfl,p,_,0,_,rfl,rfl,hS,zbK (ybd 0) (by omega),_,_,rfl,rfl,?_⟩⟩
  rw [gi_not] at q
  exact q H (.refl H)
 refine ⟨_,rfl,rfl,_,rfl,ifN hn ?_⟩
 by_cases hc:x="choose"
 ·subst hc
  have l1:=ziV lk
  refine ⟨_,rfl,rfl,_,rfl,ifY rfl ?_⟩
  rw [zlS] at q
  exact ⟨_,rfl,p,_,0,_,rfl,rfl,hS,zbK (ybd 0) (by omega),_,rfl,p,_,1,_,rfl,rfl,hS,zbK (by decide) (by omega),_,_,rfl,rfl,_,rfl,_,rfl,p,_,0,_,rfl,rfl,hS,zbK (ybd 0) (by omega),_,_,rfl,rfl,
   _,rfl,p,_,2,_,rfl,rfl,hS,zbK (by decide) (by omega),_,_,rfl,rfl,_,_,rfl,rfl,q H (.refl H)⟩
 refine ⟨_,rfl,rfl,_,rfl,ifN hc ?_⟩
 rw [zoQ hn hc] at q
 refine ⟨_,rfl,(by show 2≤yH;decide),fun T1 h1=>⟨T1,_,rfl,.inr (.of zab),rfl,rfl,?_⟩⟩
 have s1:=zag h1 (.tup [.str "and",.str "one"])
 refine ⟨_,rfl,?_⟩
 have hin:(if false=true then !inV (V.str x) [.str "and",.str "one"] else inV (V.str x) [.str "and",.str "one"])=decide (x="and"∨x="one"):=in_two x "and" "one"
 rw [hin]
 generalize hf:(fun a b:Int=>if x="and" then qO a b else if x="or" then qS a b else qP a b)=f at q
 have hf1:x="and"→∀ a b,f a b=qO a b:=fun e a b=>by rw [← hf];exact if_pos e
 have hf2:x≠"and"→x="or"→∀ a b,f a b=qS a b:=fun e e2 a b=>by rw [← hf];show (if x="and" then _ else _)=_;rw [if_neg e,if_pos e2]
 have hf3:x≠"and"→x≠"or"→∀ a b,f a b=qP a b:=fun e e2 a b=>by rw [← hf];show (if x="and" then _ else _)=_;rw [if_neg e,if_neg e2]
 refine ite2 (fun c=>?_) (fun c=>?_)
 ·rw [if_pos (of_decide_eq_true c)] at q
  refine ⟨_,rfl,?_⟩
  refine ⟨_,rfl,p,rfl,⟨_,s1.seq hS⟩,zcq (K:=K) (a:=p) (xs:=ns.map V.int)
   (fun i σ H3=>∃ o4:Option V,σ = [some (.str x),some (.ref p),some (.int o),some (.int ((ns.take i).foldl f o)),o4]∧Same H H3) ⟨_,rfl,s1⟩ (fun i σ H3 _ ⟨_,_,s3⟩=>s3.seq hS) ?_ ?_⟩
  ·rintro i y σ H3 hy ⟨o4,rfl,s3⟩
   rw [yL] at hy
   cases hz:ns[i]? with
   | none=>rw [hz] at hy;cases hy
   | some n=>
    rw [hz] at hy
    cases hy
    have ef:(ns.take (i+1)).foldl f o=f ((ns.take i).foldl f o) n:=by rw [yT,hz];show (ns.take i++ [n]).foldl f o=_;rw [vV];rfl
    rw [ef]
    refine ⟨_,rfl,rfl,_,rfl,?_⟩
    by_cases e1:x="and"
    ·rw [hf1 e1]
     exact ifY e1 ⟨_,rfl,_,rfl,_,_,rfl,rfl,_,rfl,s3⟩
    ·refine ifN e1 ⟨_,rfl,rfl,_,rfl,?_⟩
     by_cases e2:x="or"
     ·rw [hf2 e1 e2]
      exact ifY e2 ⟨_,rfl,_,rfl,_,_,rfl,rfl,_,rfl,s3⟩
     ·rw [hf3 e1 e2]
      exact ifN e2 ⟨_,rfl,_,rfl,_,_,rfl,rfl,_,rfl,s3⟩
  ·rintro σ H3 ⟨o4,rfl,s3⟩
   have et:ns.take (ns.map V.int).length=ns:=by rw [yA,qF]
   rw [et]
   exact ⟨_,rfl,q H3 s3⟩
 ·rw [if_neg (fun z=>c (decide_eq_true z))] at q
  refine ⟨_,rfl,p,rfl,⟨_,s1.seq hS⟩,zcq (K:=K) (a:=p) (xs:=ns.map V.int)
   (fun i σ H3=>∃ o4:Option V,σ = [some (.str x),some (.ref p),some (.int o),some (.int ((ns.take i).foldl f 0)),o4]∧Same H H3) ⟨_,rfl,s1⟩ (fun i σ H3 _ ⟨_,_,s3⟩=>s3.seq hS) ?_ ?_⟩
  ·rintro i y σ H3 hy ⟨o4,rfl,s3⟩
   rw [yL] at hy
   cases hz:ns[i]? with
   | none=>rw [hz] at hy;cases hy
   | some n=>
    rw [hz] at hy
    cases hy
    have ef:(ns.take (i+1)).foldl f 0=f ((ns.take i).foldl f 0) n:=by rw [yT,hz];show (ns.take i++ [n]).foldl f 0=_;rw [vV];rfl
    rw [ef]
    refine ⟨_,rfl,rfl,_,rfl,?_⟩
    by_cases e1:x="and"
    ·rw [hf1 e1]
     exact ifY e1 ⟨_,rfl,_,rfl,_,_,rfl,rfl,_,rfl,s3⟩
    ·refine ifN e1 ⟨_,rfl,rfl,_,rfl,?_⟩
     by_cases e2:x="or"
     ·rw [hf2 e1 e2]
      exact ifY e2 ⟨_,rfl,_,rfl,_,_,rfl,rfl,_,rfl,s3⟩
     ·rw [hf3 e1 e2]
      exact ifN e2 ⟨_,rfl,_,rfl,_,_,rfl,rfl,_,rfl,s3⟩
  ·rintro σ H3 ⟨o4,rfl,s3⟩
   have et:ns.take (ns.map V.int).length=ns:=by rw [yA,qF]
   rw [et]
   exact ⟨_,rfl,q H3 s3⟩
theorem zdV:zav ["kind","some","ones","told"] ["kind","some"] (zak zdw):=⟨rfl,rfl,rfl,by decide+kernel,rfl,by decide+kernel,by decide+kernel⟩
theorem zi0 (T:Txt K mg t):FnOk P w K mg base CX0 1 t.f_law_gate t.fd_law_gate ["kind","some"] (sp_lg K):=by
 refine T.d_law_gate.F.okB zdV (fun vs H Q E h=>?_) (fun cdv A outer s H vs Q E hr h=>?_)
 ·obtain ⟨x,p,ns,rfl,_⟩:=h
  rfl
 obtain ⟨x,p,ns,rfl,hS,b,lk,q⟩:=h
 have hu1:=zkp hr
 have l4:=lk.le
 refine ⟨_,(zad (zam (k:=2) zdV.nd rfl (Or.inl rfl) (zat zau rfl T.z_len qQ (zaa (zaQ rfl (N:=["worth"]) (n:=1) (cap:=[]) (za7 rfl rfl) (zaM (bpv 1)) (zaG (by decide)) (fun _ _ _ _=>(zan (k:=0) (show (["worth"]:List Str).Nodup by decide+kernel) rfl (Or.inl rfl))) (fun _ _ _ _=>(zff (zap zbp (bpv 0) zae (zay _)))) (fun _ _ _ _=>(bpv 0))) (zac))))
  (zad (zaA (zap zbp (bpv 0) zaj (zay _)) (zaf (zar (zaq zaJ (zaD (zaa (zaq zaJ (bpv 1) zae (fun _ _=>rfl)) (zaa (zaq zaJ (bpv 1) zae (fun _ _=>rfl)) (zac)))) (zaq zaJ (bpv 1) zae (fun _ _=>rfl)) (fun _ _=>rfl)))) zas)
  (zad (zam (k:=3) zdV.nd rfl (Or.inl rfl) (zjz (zbY zaj (zaz zcI rfl T.z_int xH (zaa (zdx zbp (bpv 2) (zat zau rfl T.z_len qQ (zaa (bpv 1) (zac))) (zay _)) (zac))) (zbY zaj (zaz zcI rfl T.z_int xH (zaa (zdx zoi (bpv 2) zae (zay _)) (zac))) (zbY zaj (zao zjm (bpv 2) zae) (zbY zaj (zao zgF zae (zat (zk4 rfl) rfl T.z_min PyProof.Rows.boot_min (zaa zae (zaa (bpv 2) (zac))))) zjt)))) rfl rfl (by simp) (by decide)))
  (zaf (zar (zcF hu1 (bpv 3) (bpv 0) (zaz zcI rfl T.z_int xH (zaa (zdx zbp (bpv 0) zaj (zay _)) (zac))) ⟨rfl,rfl,rfl,rfl⟩)))))),?_⟩
 refine ⟨_,rfl,p,rfl,⟨_,hS⟩,fun D hD=>zaV (K:=K) (a:=p) (xs:=ns.map V.int) (fun j H2=>Same H H2∧H2 D=some (.lst (((ns.take j).filter (· ==1)).map V.int))) ⟨zag hD _,zab⟩ (fun j H2 _ z=>z.1.seq hS) ?_ ?_⟩
 ·rintro j y H2 hy ⟨s2,eD⟩
  rw [yL] at hy
  cases hz:ns[j]? with
  | none=>rw [hz] at hy;cases hy
  | some n=>
   rw [hz] at hy
   cases hy
   have es:=zkL hz
   refine ⟨_,rfl,rfl,_,rfl,ite2 (fun c=>?_) (fun c=>?_)⟩
   ·have c':n=1:=V.int.inj (of_decide_eq_true c)
    rw [if_pos c'] at es
    refine ⟨_,rfl,_,eD,big ?_,s2.write hD _,?_⟩
    ·have:=ya1 (· ==1) (ns.take j)
     rw [yW] at this
     rw [yA]
     omega
    ·rw [zab,es,yM]
     rfl
   ·have c':¬n=1:=fun z=>c (decide_eq_true (congrArg V.int z))
    rw [if_neg c',wC] at es
    exact ⟨s2,by rw [es];exact eD⟩
 rintro H2 ⟨s2,eD⟩
 have et:ns.take (ns.map V.int).length=ns:=by rw [yA,qF]
 rw [et] at eD
 refine ⟨D,_,rfl,.inl (.of eD),?_⟩
 by_cases hx:x="choose"
 ·subst hx
  have l3:ns.length=3:=by
   rcases lk with ⟨h | h | h,_⟩ | ⟨h,_⟩ | ⟨h,l⟩ | ⟨h | h,_⟩
   ·exact absurd h (by decide+kernel)
   ·exact absurd h (by decide+kernel)
   ·exact absurd h (by decide+kernel)
   ·exact absurd h (by decide+kernel)
   ·exact l
   ·exact absurd h (by decide+kernel)
   ·exact absurd h (by decide+kernel)
  have hS2:=s2.seq hS
  refine ⟨_,rfl,rfl,_,rfl,ifY rfl ⟨_,rfl,p,_,2,_,rfl,rfl,hS2,zbK (by decide) (by omega),_,rfl,p,_,1,_,rfl,rfl,hS2,zbK (by decide) (by omega),(by show 2≤yH;decide),fun L hL=>?_⟩⟩
  have hS3:=(zag hL (.lst [.int (ns.getD (2:Int).toNat 0),.int (ns.getD (1:Int).toNat 0)])).seq hS2
  have q':=q _ (s2.upd hL (.lst [.int (ns.getD (2:Int).toNat 0),.int (ns.getD (1:Int).toNat 0)]))
  rw [zfx] at q'
  refine ⟨_,rfl,p,_,0,_,rfl,rfl,hS3,zbK (ybd 0) (by omega),L,_,_,.int (if ns.getD 0 0=1 then ns.getD 1 0 else ns.getD 2 0),rfl,rfl,.of zab,?_,q'⟩
  rcases zbH b (i:=0) (by omega) with e | e
  ·show atI _ (ns.getD 0 0)=_
   rw [e]
   rfl
  ·show atI _ (ns.getD 0 0)=_
   rw [e]
   rfl
 ·refine ⟨_,rfl,rfl,_,rfl,ifN hx ?_⟩
  have hS2:=s2.seq hS
  intro d hd
  have hS3:=(zag hd (.dK [])).seq hS2
  refine ⟨_,rfl,_,rfl,p,_,rfl,.inl hS3,rfl,.inr ⟨_,rfl,_,rfl,_,_,rfl,rfl,.inr ⟨_,rfl,_,rfl,_,_,rfl,rfl,(by show (0:Int) < 2;decide),_,rfl,_,_,rfl,_,_,rfl,rfl,zab,
   [(Sum.inr "and",_),(Sum.inr "or",_),(Sum.inr "odd",_),(Sum.inr "not",_)],rfl,(by show 4≤15;decide),?_⟩⟩⟩
  have hd0:H d=none:=s2.free hd
  refine ⟨_,rfl,d,rfl,.inl ⟨_,.inl zab⟩,_,rfl,_,rfl,rfl,.inr ⟨_,rfl,_,DGet.k (k:=Sum.inr x) zab,?_⟩⟩
  have fin:∀ v:V,v= .int (zca x ns)→Q v (upd (upd H2 d (.dK [])) d (.dK (zeu [] [(Sum.inr "and",V.int (if (decide (V.int ((((ns.filter (· ==1)).map V.int).length:Nat):Int)=V.int (((ns.map V.int).length:Nat):Int)))=true then (1:Int) else 0)),(Sum.inr "or",V.int (if (decide ((0:Int) < ((((ns.filter (· ==1)).map V.int).length:Nat):Int)))=true then (1:Int) else 0)),(Sum.inr "odd",V.int (((((ns.filter (· ==1)).map V.int).length:Nat):Int) % 2)),(Sum.inr "not",V.int (1 - (if ((((ns.filter (· ==1)).map V.int).length:Nat):Int) < 1 then ((((ns.filter (· ==1)).map V.int).length:Nat):Int) else 1)))]))):=fun v e=>by
   rw [e]
   exact q _ ((s2.upd hd _).write hd0 _)
  refine fin _ ?_
  rcases lk with ⟨h | h | h,_⟩ | ⟨h,l1⟩ | ⟨h,_⟩ | ⟨h | h,_⟩
  ·subst h;rw [← k_and];kernel_rfl
  ·subst h;rw [← k_or];kernel_rfl
  ·subst h;rw [← k_odd b];kernel_rfl
  ·subst h;rw [← k_not b l1];kernel_rfl
  ·exact absurd h hx
  ·subst h;rw [ziI];kernel_rfl
  ·subst h;rw [zkF];kernel_rfl
theorem zcw:zav ["works","rows","place"] ["works"] (zak zc1):=⟨rfl,rfl,rfl,by decide+kernel,rfl,by decide+kernel,by decide+kernel⟩
theorem zh6 (T:Txt K mg t):FnOk P w K mg base CX0 1 t.f_every_row t.fd_every_row ["works"] (sp_er K):=by
 refine T.d_every_row.F.okB zcw (fun vs H Q E h=>?_) (fun cdv A outer s H vs Q E hr h=>?_)
 ·obtain ⟨a,ga,oa,i,rfl,_⟩:=h
  rfl
 obtain ⟨a,ga,oa,i,rfl,ha,i0,i6,q⟩:=h
 refine ⟨_,(zad (zam (k:=1) zcw.nd rfl (Or.inl rfl) (zaD (zaa (zaD zac) (zac))))
  (zad (zaY qT rfl (zaO rfl T.z_range (zaa (zaq zax (bpv 0) zae (fun _ _=>rfl)) (zac))) (zan (k:=2) zcw.nd rfl (Or.inl rfl)) (zaf (zam (k:=1) zcw.nd rfl (Or.inl rfl) (zao zeW (zaQ rfl (N:=["row"]) (n:=1) (cap:=[]) (za7 rfl rfl) (zaM (bpv 1)) (zaG (by decide)) (fun _ _ _ _=>(zan (k:=0) (show (["row"]:List Str).Nodup by decide+kernel) rfl (Or.inl rfl))) (fun _ _ _ _=>zaK) (fun _ _ _ _=>(zao zeW (zaD (zaa zae (zac))) (bpv 0)))) (zaQ rfl (N:=["row"]) (n:=1) (cap:=[]) (za7 rfl rfl) (zaM (bpv 1)) (zaG (by decide)) (fun _ _ _ _=>(zan (k:=0) (show (["row"]:List Str).Nodup by decide+kernel) rfl (Or.inl rfl))) (fun _ _ _ _=>zaK) (fun _ _ _ _=>(zao zeW (zaD (zaa zae (zac))) (bpv 0))))))))
  (zaf (zar (bpv 1))))),?_⟩
 refine ⟨(by show 0≤yH;decide),fun e0 he0=>⟨(by show 1≤yH;decide),fun R0 hR0=>?_⟩⟩
 have s0:Same H (upd H e0 (.lst [])):=zag he0 _
 have start:Rows H R0 [e0] (zbA 0) (upd (upd H e0 (.lst [])) R0 (.lst [.ref e0])):=by
  have ne:e0≠R0:=zai zab hR0
  refine ⟨s0.upd hR0 _,s0.free hR0,zab,.cons (by rw [zah ne,zab];rfl) .nil,vS.mpr ⟨(fun z=>nomatch z),wQ⟩,fun z hz=>?_⟩
  rw [yK.mp hz]
  exact ⟨he0,ne⟩
 refine ⟨_,rfl,a,_,_,_,rfl,rfl,start.same.seqT ha,rfl,_,rfl,by omega,by omega,zb0 (fun j σ H3=>∃ (R:Addr) (qs:List Addr) (o2:Option V),σ = [some (.ref a),some (.ref R),o2]∧Rows H R qs (zbA j) H3) ⟨_,_,_,rfl,start⟩ ?_ ?_⟩
 ·rintro i σ H3 hi ⟨R,qs,o2,rfl,rw3⟩
  have few:(zbA i).length≤64:=zmR (by omega)
  have lq:=rw3.rows.len
  have comp:∀ (c:Int) (Ha:Hp) (D:Addr) (j:Nat) (x:V) (H4:Hp),Same H3 Ha→(qs.map V.ref)[j]? =some x→(∃ ps,Rows Ha D ps (((zbA i).take j).map (c:: ·)) H4)→∃ (q:Addr) (row:List Int) (ps:List Addr),x= .ref q∧H4 q=some (.lst (row.map V.int))∧row.length=i∧Rows Ha D ps (((zbA i).take j).map (c:: ·)) H4∧ps.length≤64∧(∀ (T r':Addr) (vs:List V),H4 T=none→(upd H4 T (.lst [.int c])) r'=none→vs= .int c::row.map V.int→Rows Ha D (ps++ [r']) (((zbA i).take (j+1)).map (c:: ·)) (upd (upd (upd H4 T (.lst [.int c])) r' (.lst vs)) D (.lst (ps.map V.ref++ [.ref r'])))):=by
   rintro c Ha D j x H4 sa hx ⟨ps,rw4⟩
   rw [yL] at hx
   cases hz:qs[j]? with
   | none=>rw [hz] at hx;cases hx
   | some q=>
    rw [hz] at hx
    cases hx
    obtain ⟨row,hrow,hq⟩:=rw3.rows.get hz
    have lp:=rw4.rows.len
    refine ⟨q,row,ps,rfl,rw4.same _ _ (sa _ _ hq),(zeb i row (yR hrow)).1,rw4,?_,fun T r' vs hT hr' e=>?_⟩
    ·rw [lp,yA,yW]
     omega
    ·rw [zg5 _ hrow]
     exact rw4.push hT hr' e
  refine ⟨_,rfl,R,rfl,⟨_,rw3.sq⟩,fun D hD=>zaV (K:=K) (a:=R) (xs:=qs.map V.ref) (fun j H4=>∃ ps,Rows H3 D ps (((zbA i).take j).map (0:: ·)) H4) ⟨[],Rows.start (Same.refl _) hD⟩ (fun j H4 _ ⟨ps,z⟩=>z.same.seq rw3.sq) ?_ ?_⟩
  ·intro j x H4 hx h4
   obtain ⟨q,row,ps,rfl,hq,lr,rw4,lp,push⟩:=comp 0 H3 D j x H4 (Same.refl _) hx h4
   refine ⟨(by show 1≤yH;decide),fun T hT=>⟨_,rfl,T,q,_,_,rfl,rfl,zab,by rw [zah (zai hq hT)];exact hq,bigE (by rw [qM,yA];omega),fun r' hr'=>?_⟩⟩
   have eD:(upd (upd H4 T (.lst [.int 0])) r' (.lst ([.int 0]++row.map V.int))) D=some (.lst (ps.map V.ref)):=(((zag hT _).upd hr' _) _ _ rw4.at_)
   exact ⟨_,eD,big (by rw [yA];omega),_,push T r' _ hT hr' rfl⟩
  rintro H4 ⟨ps,rw4⟩
  have et:(zbA i).take (qs.map V.ref).length=zbA i:=by rw [yA,lq,qF]
  rw [et] at rw4
  refine ⟨_,rfl,R,rfl,⟨_,rw4.same.seq rw3.sq⟩,fun D2 hD2=>zaV (K:=K) (a:=R) (xs:=qs.map V.ref) (fun j H5=>∃ ps',Rows H4 D2 ps' (((zbA i).take j).map (1:: ·)) H5) ⟨[],Rows.start (Same.refl _) hD2⟩ (fun j H5 _ ⟨ps',z⟩=>(rw4.same.trans z.same).seq rw3.sq) ?_ ?_⟩
  ·intro j x H5 hx h5
   obtain ⟨q,row,ps',rfl,hq,lr,rw5,lp,push⟩:=comp 1 H4 D2 j x H5 rw4.same hx h5
   refine ⟨(by show 1≤yH;decide),fun T hT=>⟨_,rfl,T,q,_,_,rfl,rfl,zab,by rw [zah (zai hq hT)];exact hq,bigE (by rw [qM,yA];omega),fun r' hr'=>?_⟩⟩
   have eD:(upd (upd H5 T (.lst [.int 1])) r' (.lst ([.int 1]++row.map V.int))) D2=some (.lst (ps'.map V.ref)):=(((zag hT _).upd hr' _) _ _ rw5.at_)
   exact ⟨_,eD,big (by rw [yA];omega),_,push T r' _ hT hr' rfl⟩
  rintro H5 ⟨ps',rw5⟩
  rw [et] at rw5
  have l1:=rw4.rows.len
  have l2:=rw5.rows.len
  rw [yA] at l1 l2
  refine ⟨D,D2,_,_,rfl,rfl,rw5.same _ _ rw4.at_,rw5.at_,bigE (by rw [yA,yA];omega),fun R' hR'=>?_⟩
  have c:=rw4.cat rw5 hR'
  exact ⟨R',ps++ps',_,rfl,⟨rw3.same.trans c.same,rw3.same.free c.out,c.at_,c.rows,c.nd,fun q hq=>⟨rw3.same.free (c.new q hq).1,(c.new q hq).2⟩⟩⟩
 ·rintro σ H3 ⟨R,qs,o2,rfl,rw3⟩
  exact ⟨_,rfl,q R qs H3 rw3⟩
theorem zaZ:zav ["works","places","faults","place","gate","body","leg"] ["works"] (zak zb8):=⟨rfl,rfl,rfl,by decide+kernel,rfl,by decide+kernel,by decide+kernel⟩
theorem zf9 (T:Txt K mg t):FnOk P w K mg base CX0 1 t.f_every_fault t.fd_every_fault ["works"] (zlK K):=by
 refine T.d_every_fault.F.okB zaZ (fun vs H Q E h=>?_) (fun cdv A outer s H vs Q E hr h=>?_)
 ·obtain ⟨x,w,rfl,_⟩:=h
  rfl
 obtain ⟨x,w,rfl,hx,wf,q⟩:=h
 obtain ⟨a,ga,oa,gs,os,rfl,ha,hg,ho,rg,ro⟩:=zbE hx
 have lg:gs.length=w.gates.length:=by rw [rg.length,yA]
 have i1:=wf.i1
 have i6:=wf.i6
 have few:=wf.few
 refine ⟨_,(zad (zen (k:=1) rfl (N:=["wire"]) (n:=1) (cap:=[]) (za7 rfl rfl) zaZ.nd rfl rfl (zaO rfl T.z_range (zaa (zao za9 (zaq zax (bpv 0) zae (fun _ _=>rfl)) (zat zau rfl T.z_len qQ (zaa (zaq zax (bpv 0) zae (fun _ _=>rfl)) (zac)))) (zac))) (zaG (by decide)) (fun _ _ _ _=>(zan (k:=0) (show (["wire"]:List Str).Nodup by decide+kernel) rfl (Or.inl rfl))) (fun _ _ _ _=>zaK) (fun _ _ _ _=>(zaP (zaa zaj (zaa (bpv 0) (zac))))) rfl)
  (zad (zaY qT rfl (zef rfl T.z_enumerate (zaa (zaq zax (bpv 0) zae (fun _ _=>rfl)) (zac))) (zdU rfl (zaE (zan (k:=4) zaZ.nd rfl (Or.inl rfl)) (zaE (zan (k:=5) zaZ.nd rfl (Or.inl rfl)) zbF))) (zaf (zaY qT rfl (zaO rfl T.z_range (zaa (zat zau rfl T.z_len qQ (zaa (zaq zax (bpv 5) zae (fun _ _=>rfl)) (zac))) (zac))) (zan (k:=6) zaZ.nd rfl (Or.inl rfl)) (zaf (zbR (zbm qW jB jC zbc (bpv 1) (zaa (zaP (zaa zaj (zaa (bpv 4) (zaa (bpv 6) (zac))))) (zac))))))))
  (zad (zam (k:=2) zaZ.nd rfl (Or.inl rfl) (zaD zac))
  (zad (zaY qT rfl (zaM (bpv 1)) (zan (k:=3) zaZ.nd rfl (Or.inl rfl)) (zad (zbR (zbm qW jB jC zbc (bpv 2) (zaa (zao zhx (bpv 3) (zaP (zaa zae (zac)))) (zac))))
  (zaf (zbR (zbm qW jB jC zbc (bpv 2) (zaa (zao zhx (bpv 3) (zaP (zaa zae (zac)))) (zac)))))))
  (zaf (zar (bpv 2))))))),?_⟩
 refine ⟨_,rfl,a,_,_,_,rfl,rfl,ha,rfl,_,rfl,a,_,_,_,rfl,rfl,ha,rfl,ga,_,rfl,.inl hg,_,_,rfl,rfl,_,rfl,by omega,by omega,fun pl hpl=>?_⟩
 refine zcg (fun i H2=>∃ xs,Bld K H pl xs ((zco i).map .tuple) H2) ⟨[],.start hpl⟩ ?_ ?_
 ·rintro i H2 hi ⟨xs,b⟩
  rw [xQ]
  have lx:=b.len
  rw [yA,zdM] at lx
  refine ⟨_,rfl,(by show 2≤yH;decide),fun T1 h1=>⟨xs,(b.new h1 _).at_,big (by omega),xs++ [.ref T1],?_⟩⟩
  have:=b.pushT (es:=[.str "wire",.int i]) h1 (.cons (.str _) (.cons (.int _) .nil))
  simpa [zco,zmb] using this
 rintro H2 ⟨xs,b⟩
 have e2:(w.ins+(gs.length:Int)).toNat=w.ins.toNat+w.gates.length:=by omega
 rw [e2] at b
 refine ⟨_,rfl,a,_,_,_,rfl,rfl,b.same.seqT ha,rfl,ga,rfl,⟨_,b.same.seq hg⟩,zg7 (K:=K) (a:=ga) (xs:=gs)
  (fun i σ H2=>∃ (xs:List V) (o1 o2 o3 o4 o5:Option V),σ = [some (.ref a),some (.ref pl),o1,o2,o3,o4,o5]∧Bld K H pl xs ((zco (w.ins.toNat+w.gates.length)++zcx w.gates i).map .tuple) H2)
  ⟨xs,_,_,_,_,_,rfl,by simpa [zcx] using b⟩ (fun i σ H2 _ ⟨_,_,_,_,_,_,_,b⟩=>b.same.seq hg) ?_ ?_⟩
 ·rintro i x σ H2 T1 hx ⟨xs,o1,o2,o3,o4,o5,rfl,b⟩ h1
  have hi:i < gs.length:=(yF.mp hx).1
  obtain ⟨g,hgk⟩:∃ g,w.gates[i]? =some g:=⟨_,yQ (by omega)⟩
  obtain ⟨d,hd,rv⟩:=rg.get hx
  rw [yL,hgk] at hd
  cases hd
  obtain ⟨a1,la,rfl,hA,hL⟩:=zcz rv
  have lk:=(wf.legs i g hgk).1.le
  have ll:((g.2.map V.int).length:Int)=g.2.length:=by rw [yA]
  have b':=b.new h1 (.tup [.int i,.ref a1])
  refine ⟨T1,_,rfl,.of zab,rfl,_,_,rfl,_,_,rfl,rfl,?_⟩
  refine ⟨_,rfl,a1,_,_,_,rfl,rfl,b'.same.seqT hA,rfl,la,_,rfl,.inr (b'.same.seqT hL),_,rfl,by omega,by omega,?_⟩
  refine zb0 (fun j σ H3=>∃ (xs:List V) (o1 o2 o5:Option V),σ = [some (.ref a),some (.ref pl),o1,o2,some (.int i),some (.ref a1),o5]∧
   Bld K H pl xs ((zco (w.ins.toNat+w.gates.length)++zcx w.gates i++zeI i j).map .tuple) H3) ⟨xs,_,_,_,rfl,by simpa [zeI] using b'⟩ ?_ ?_
  ·rintro j σ H3 hj ⟨xs,o1,o2,o5,rfl,b⟩
   rw [xQ]
   have lx:=b.len
   have g1:=zeB wf i
   rw [yA,yI,yI,zft,zdM] at lx
   refine ⟨_,rfl,.inl ⟨rfl,_,b.sq⟩,_,rfl,_,rfl,(by show 3≤yH;decide),fun T2 h2=>?_⟩
   refine ⟨pl,xs,_,rfl,rfl,(b.new h2 _).at_,big (by omega),xs++ [.ref T2],_,_,_,rfl,?_⟩
   have:=b.pushT (es:=[.str "leg",.int i,.int j]) h2 (.cons (.str _) (.cons (.int _) (.cons (.int _) .nil)))
   simpa [zeI,legP] using this
  ·rintro σ H3 ⟨xs,o1,o2,o5,rfl,b⟩
   have e3:((g.2.map V.int).length:Int).toNat=g.2.length:=by omega
   rw [e3] at b
   exact ⟨xs,_,_,_,_,_,rfl,by simpa [zcx,hgk,jF] using b⟩
 rintro σ H2 ⟨xs,o1,o2,o3,o4,o5,rfl,b⟩
 rw [lg] at b
 have lp:(za3 w).length≤200:=by
  have g1:=zeB wf w.gates.length
  unfold za3
  rw [yI,zdM]
  omega
 have rp:Reps K H2 xs ((za3 w).map .tuple):=b.reps
 refine ⟨(by show 0≤yH;decide),fun f hf=>?_⟩
 have s1:Same H2 (upd H2 f (.lst [])):=zag hf _
 refine ⟨_,rfl,pl,rfl,⟨_,s1.seq b.sq⟩,zcq (K:=K) (a:=pl) (xs:=xs)
  (fun i σ H3=>∃ (ys:List V) (o2 o3 o4 o5:Option V),σ = [some (.ref a),some (.ref pl),some (.ref f),o2,o3,o4,o5]∧Bld K H2 f ys (zd3 ((za3 w).take i)) H3)
  ⟨[],_,_,_,_,rfl,.start hf⟩ (fun i σ H3 _ ⟨_,_,_,_,_,_,b3⟩=>b3.same.seq b.sq) ?_ ?_⟩
 ·rintro i x σ H3 hx ⟨ys,o2,o3,o4,o5,rfl,b3⟩
  obtain ⟨d,hd,rx⟩:=rp.get hx
  rw [yL] at hd
  cases hp:(za3 w)[i]? with
  | none=>rw [hp] at hd;cases hd
  | some p=>
   rw [hp] at hd
   cases hd
   cases rx with
   | @tup a1 vs _ h1 r1=>
    have hi:i < (za3 w).length:=(yF.mp hp).1
    have et:(za3 w).take (i+1)=(za3 w).take i++ [p]:=by
     rw [yT,hp]
     rfl
    have pne:vs≠[]:=by
     intro z
     subst z
     cases r1
     exact zlU hp
    have lv:vs.length≤3:=by
     rw [r1.length]
     exact zkV hp
    have ly:=b3.len
    rw [zhY,yW] at ly
    refine ⟨_,rfl,.inl ⟨rfl,_,b3.sq⟩,_,rfl,(by show 1≤yH;decide),fun T1 n1=>?_⟩
    have c1:=b3.new n1 (.tup [.int 0])
    refine ⟨a1,T1,vs,_,rfl,rfl,c1.same.seqT h1,.of zab,pne,bigE (by simp;omega),(fun z=>nomatch z),fun _ T2 n2=>?_⟩
    have c2:=c1.pushT n2 (r1.snoc (.int 0))
    refine ⟨f,ys,_,rfl,rfl,(c1.new n2 _).at_,big (by omega),?_⟩
    refine ⟨_,rfl,.inl ⟨rfl,_,c2.sq⟩,_,rfl,(by show 1≤yH;decide),fun T3 n3=>?_⟩
    have c3:=c2.new n3 (.tup [.int 1])
    refine ⟨a1,T3,vs,_,rfl,rfl,c3.same.seqT h1,.of zab,pne,bigE (by simp;omega),(fun z=>nomatch z),fun _ T4 n4=>?_⟩
    have c4:=c3.pushT n4 (r1.snoc (.int 1))
    refine ⟨f,_,_,rfl,rfl,(c3.new n4 _).at_,big (by simp;omega),ys++ [.ref T2]++ [.ref T4],_,_,_,_,rfl,?_⟩
    rw [et,zbz,zem]
    simpa [jF] using c4
 ·rintro σ H3 ⟨ys,o2,o3,o4,o5,rfl,b3⟩
  have e5:(za3 w).take xs.length=za3 w:=by
   rw [b.len]
   show (za3 w).take ((za3 w).map Dat.tuple).length=_
   rw [yA,qF]
  rw [e5,zdr] at b3
  exact ⟨_,rfl,q f ys H3 ⟨by
   obtain ⟨G,g1,g2,g3,g4⟩:=b3.ex
   exact ⟨G,b.same.trans g1,g2,g3,g4⟩,b3.at_⟩⟩
theorem zg6:zav ["stuck","gate","worths"] ["stuck","gate","worths"] (zak zcn):=⟨rfl,rfl,rfl,by decide+kernel,rfl,by decide+kernel,by decide+kernel⟩
theorem zhp (T:Txt K mg t):FnOk P w K mg base CX0 1 t.f_leg_worths t.fd_leg_worths ["stuck","gate","worths"] (sp_lgw K):=by
 refine T.d_leg_worths.F.okB zg6 (fun vs H Q E h=>?_) (fun cdv A outer s H vs Q E hr h=>?_)
 ·obtain ⟨d,p,k,fs,ns,rfl,_⟩:=h
  rfl
 obtain ⟨d,p,k,fs,ns,rfl,hd,hS,l4,q⟩:=h
 have hu1:=zkp hr
 refine ⟨_,(zaf (zar (zaQ rfl (N:=["leg","worth","stuck","gate"]) (n:=2) (cap:=[0,1]) (za7 rfl rfl) (zef rfl T.z_enumerate (zaa (bpv 2) (zac))) (zeq (by decide) (by decide)) (fun _ _ _ _=>(zfa (K:=K) (n:=2) rfl (zaE (zan (k:=0) (show (["leg","worth","stuck","gate"]:List Str).Nodup by decide+kernel) rfl (Or.inl rfl)) (zaE (zan (k:=1) (show (["leg","worth","stuck","gate"]:List Str).Nodup by decide+kernel) rfl (Or.inl rfl)) zbF)))) (fun _ _ _ _=>zaK) (fun _ _ _ _=>(zcF hu1 (bpv 2) (zaP (zaa zaj (zaa (bpv 3) (zaa (bpv 0) (zac))))) (bpv 1) ⟨rfl,rfl,rfl,rfl⟩))))),?_⟩
 refine ⟨_,rfl,p,rfl,⟨_,hS⟩,fun D hD=>zhJ (K:=K) (a:=p) (xs:=ns.map V.int) (fun j H2=>Same H H2∧H2 D=some (.lst ((zdT fs k (ns.take j)).map V.int))) ⟨zag hD _,zab⟩ (fun j H2 _ z=>z.1.seq hS) ?_ ?_⟩
 ·rintro j y H2 T1 hy ⟨s2,eD⟩ h1
  rw [yL] at hy
  cases hz:ns[j]? with
  | none=>rw [hz] at hy;cases hy
  | some n=>
   rw [hz] at hy
   cases hy
   have lj:j < ns.length:=(yF.mp hz).1
   have s3:=s2.upd h1 (.tup [.int j,.int n])
   refine ⟨T1,_,rfl,.of zab,rfl,_,_,rfl,_,_,rfl,rfl,?_⟩
   refine ⟨_,rfl,d,rfl,.inr ⟨_,.inl (s3 _ _ hd)⟩,_,rfl,_,rfl,(by show 3≤yH;decide),fun T2 h2=>?_⟩
   have s4:=s3.upd h2 (.tup [.str "leg",.int k,.int j])
   refine ⟨_,rfl,_,DGet.t (k:=legK k j) (s4 _ _ hd) zab,?_⟩
   have eD4:=((zag h1 (.tup [.int j,.int n])).upd h2 (.tup [.str "leg",.int k,.int j])) _ _ eD
   refine ⟨_,eD4,big (by rw [yA,zcG,yW];omega),s4.write hD _,?_⟩
   have lt:(ns.take j).length=j:=by rw [yW];omega
   rw [zab,yT,hz]
   show _=some (HO.lst ((zdT fs k (ns.take j++ [n])).map V.int))
   rw [zgu,yM,lt,zdy]
   rfl
 ·rintro H2 ⟨s2,eD⟩
  have et:ns.take (ns.map V.int).length=ns:=by rw [yA,qF]
  rw [et] at eD
  exact q D H2 s2 hD eD
theorem zbh:zav ["works","stuck","row","ones","worths","gate","body","read","worth"] ["works","stuck","row","ones"] (zak zbB):=⟨rfl,rfl,rfl,by decide+kernel,rfl,by decide+kernel,by decide+kernel⟩
theorem zfy (T:Txt K mg t):FnOk P w K mg base CX0 2 t.f_worths_with t.fd_worths_with ["works","stuck","row","ones"] (sp_wwG K):=by
 refine T.d_worths_with.F.okB zbh (fun vs H Q E h=>?_) (fun cdv A outer s H vs Q E hr h=>?_)
 ·obtain ⟨x,d,p,w,fs,row,o,rfl,_⟩:=h
  rfl
 obtain ⟨x,d,p,w,fs,row,o,rfl,hx,wf,hd,hS,hl,q⟩:=h
 obtain ⟨a,ga,oa,gs,os,rfl,ha,hg,ho,rg,ro⟩:=zbE hx
 have hu1:=zkp hr
 have lg:gs.length=w.gates.length:=by rw [rg.length,yA]
 have i1:=wf.i1
 have i6:=wf.i6
 have few:=wf.few
 refine ⟨_,(zad (zam (k:=4) zbh.nd rfl (Or.inr rfl) (zaQ rfl (N:=["wire","worth","stuck"]) (n:=2) (cap:=[1]) (za7 rfl rfl) (zef rfl T.z_enumerate (zaa (bpv 2) (zac))) (zeq (by decide) (by decide)) (fun _ _ _ _=>(zfa (K:=K) (n:=2) rfl (zaE (zan (k:=0) (show (["wire","worth","stuck"]:List Str).Nodup by decide+kernel) rfl (Or.inl rfl)) (zaE (zan (k:=1) (show (["wire","worth","stuck"]:List Str).Nodup by decide+kernel) rfl (Or.inl rfl)) zbF)))) (fun _ _ _ _=>zaK) (fun _ _ _ _=>(zcF hu1 (bpv 2) (zaP (zaa zaj (zaa (bpv 0) (zac)))) (bpv 1) ⟨rfl,rfl,rfl,rfl⟩))))
  (zad (zaY qT rfl (zef rfl T.z_enumerate (zaa (zaq zax (bpv 0) zae (fun _ _=>rfl)) (zac))) (zdU rfl (zaE (zan (k:=5) zbh.nd rfl (Or.inl rfl)) (zaE (zan (k:=6) zbh.nd rfl (Or.inl rfl)) zbF))) (zad (zam (k:=7) zbh.nd rfl (Or.inl rfl) (zal (zhp T) (hr.mono (by decide)) rfl T.d_leg_worths.m T.d_leg_worths.F.kp T.d_leg_worths.b .nil zaC (zaa (bpv 1) (zaa (bpv 5) (zaa (zaQ rfl (N:=["leg","worths"]) (n:=1) (cap:=[4]) (za7 rfl rfl) (zhe (zaq zax (bpv 6) zae (fun _ _=>rfl))) (zaG (by decide)) (fun _ _ _ _=>(zan (k:=0) (show (["leg","worths"]:List Str).Nodup by decide+kernel) rfl (Or.inl rfl))) (fun _ _ _ _=>zaK) (fun _ _ _ _=>(zaq (zeg (K:=K)) (bpv 1) (bpv 0) (fun _ _=>rfl)))) (zac))))))
  (zad (zam (k:=8) zbh.nd rfl (Or.inl rfl) (zal (zf7 T) (hr.mono (by decide)) rfl T.d_gate_worth.m T.d_gate_worth.F.kp T.d_gate_worth.b .nil zaC (zaa (zaq zax (bpv 6) zae (fun _ _=>rfl)) (zaa (bpv 7) (zaa (bpv 3) (zac))))))
  (zaf (zbR (zbm qW jB jC zbc (bpv 4) (zaa (zcF hu1 (bpv 1) (zaP (zaa zaj (zaa (zao za9 (zaq zax (bpv 0) zae (fun _ _=>rfl)) (bpv 5)) (zac)))) (bpv 8) ⟨rfl,rfl,rfl,rfl⟩) (zac))))))))
  (zaf (zar (bpv 4))))),?_⟩
 refine ⟨_,rfl,p,rfl,⟨_,hS⟩,fun r hr1=>zhJ (K:=K) (a:=p) (xs:=row.map V.int) (fun j H2=>Same H H2∧H2 r=some (.lst ((rowS fs (row.take j)).map V.int))) ⟨zag hr1 _,zab⟩ (fun j H2 _ z=>z.1.seq hS) ?_ ?_⟩
 ·rintro j y H2 T1 hy ⟨s2,eD⟩ h1
  rw [yL] at hy
  cases hz:row[j]? with
  | none=>rw [hz] at hy;cases hy
  | some n=>
   rw [hz] at hy
   cases hy
   have lj:j < row.length:=(yF.mp hz).1
   have s3:=s2.upd h1 (.tup [.int j,.int n])
   refine ⟨T1,_,rfl,.of zab,rfl,_,_,rfl,_,_,rfl,rfl,?_⟩
   refine ⟨_,rfl,d,rfl,.inr ⟨_,.inl (s3 _ _ hd)⟩,_,rfl,(by show 2≤yH;decide),fun T2 h2=>?_⟩
   have s4:=s3.upd h2 (.tup [.str "wire",.int j])
   refine ⟨_,rfl,_,DGet.t (k:=zcE j) (s4 _ _ hd) zab,?_⟩
   have eD4:=((zag h1 (.tup [.int j,.int n])).upd h2 (.tup [.str "wire",.int j])) _ _ eD
   refine ⟨_,eD4,big (by rw [yA,zg1,yW];omega),s4.write hr1 _,?_⟩
   have lt:(row.take j).length=j:=by rw [yW];omega
   rw [zab,yT,hz]
   show _=some (HO.lst ((rowS fs (row.take j++ [n])).map V.int))
   rw [zkP,yM,lt,zdy]
   rfl
 rintro H1 ⟨s1,e1⟩
 have et:row.take (row.map V.int).length=row:=by rw [yA,qF]
 rw [et] at e1
 refine ⟨_,rfl,a,_,_,_,rfl,rfl,s1.seqT ha,rfl,ga,rfl,⟨_,s1.seq hg⟩,zg7 (K:=K) (a:=ga) (xs:=gs)
  (fun i σ H3=>∃ (o4 o5 o6 o7:Option V),σ = [some (.ref a),some (.ref d),some (.ref p),some (.int o),some (.ref r),o4,o5,o6,o7]∧Same H H3∧H3 r=some (.lst ((zbW o fs w.gates row i).map V.int)))
  ⟨_,_,_,_,rfl,s1,e1⟩ (fun i σ H3 _ ⟨_,_,_,_,_,s3,_⟩=>s3.seq hg) ?_ ?_⟩
 ·rintro i x σ H3 T1 hx ⟨o4,o5,o6,o7,rfl,s3,e3⟩ h1
  have hi:i < gs.length:=(yF.mp hx).1
  obtain ⟨g,hgk⟩:∃ g,w.gates[i]? =some g:=⟨_,yQ (by omega)⟩
  obtain ⟨dd,hdd,rv⟩:=rg.get hx
  rw [yL,hgk] at hdd
  cases hdd
  obtain ⟨a1,la,rfl,hA,hL⟩:=zcz rv
  obtain ⟨lk,lb⟩:=wf.legs i g hgk
  have lw:=zeP o fs w.gates row i
  have l4:=lk.le
  refine ⟨T1,_,rfl,.of zab,rfl,_,_,rfl,_,_,rfl,rfl,?_⟩
  have k1:=zag h1 (.tup [.int i,.ref a1])
  have s4:=s3.trans k1
  have e4:=k1 _ _ e3
  generalize upd H3 T1 (.tup [.int i,.ref a1])=H4 at k1 s4 e4
  refine ⟨_,rfl,_,rfl,_,rfl,a1,_,_,_,rfl,rfl,s4.seqT hA,rfl,la,rfl,⟨_,s4.seqT hL⟩,fun D hD=>zgT (K:=K) (a:=la) (xs:=g.2.map V.int)
   (fun j H5=>Same H4 H5∧H5 D=some (.lst (((g.2.take j).map fun l=>(zbW o fs w.gates row i).getD l.toNat 0).map V.int))) ⟨zag hD _,zab⟩ (fun j H5 _ z=>(s4.trans z.1).seqT hL) ?_ ?_⟩
  ·rintro j y H5 hy ⟨s5,eD⟩
   rw [yL] at hy
   cases hz:g.2[j]? with
   | none=>rw [hz] at hy;cases hy
   | some l=>
    rw [hz] at hy
    cases hy
    have lj:j < g.2.length:=(yF.mp hz).1
    have bl:=lb l (yR hz)
    refine ⟨_,rfl,_,rfl,r,_,_,_,rfl,rfl,.of (s5 _ _ e4),zbK bl.1 (by rw [lw];omega),?_⟩
    refine ⟨_,eD,big (by simp;omega),s5.write hD _,?_⟩
    rw [zab,yT,hz]
    simp
  rintro H5 ⟨s5,eD⟩
  have et:g.2.take (g.2.map V.int).length=g.2:=by rw [yA,qF]
  rw [et] at eD
  have s45:=s4.trans s5
  refine ⟨d,D,_,fs,g.2.map fun l=>(zbW o fs w.gates row i).getD l.toNat 0,rfl,s45 _ _ hd,.of eD,by rw [yA];exact l4,fun R H6 s6 nR eR=>?_⟩
  have s46:=s45.trans s6
  refine ⟨_,rfl,a1,_,_,_,rfl,rfl,s46.seqT hA,rfl,_,rfl,_,rfl,g.1,R,_,o,rfl,.of eR,by rw [zcG,yA];exact lk,fun H7 s7=>?_⟩
  replace s46:=s46.trans s7
  have e6:=((s5.trans s6).trans s7) _ _ e4
  refine ⟨_,rfl,.inl ⟨rfl,_,.of e6⟩,_,rfl,d,rfl,.inr ⟨_,.inl (s46 _ _ hd)⟩,_,rfl,a,_,_,_,rfl,rfl,s46.seqT ha,rfl,_,rfl,_,_,rfl,rfl,(by show 2≤yH;decide),fun T2 h2=>?_⟩
  have rT:r≠T2:=zai e6 h2
  have ei:w.ins+(i:Int)=((row.length+i:Nat):Int):=by omega
  refine ⟨_,rfl,_,DGet.t (k:=zcE ((row.length+i:Nat):Int)) ((s46.upd h2 _) _ _ hd) (by rw [zab];show some (HO.tup [V.str "wire",V.int (w.ins+(i:Int))])=_;rw [ei];rfl),?_⟩
  refine ⟨r,_,_,rfl,rfl,by rw [zah rT];exact e6,big (by rw [yA,lw];omega),_,_,_,_,rfl,(s46.upd h2 _).write hr1 _,?_⟩
  rw [zab,zbW,hgk,yM,zdy]
  rfl
 ·rintro σ H3 ⟨o4,o5,o6,o7,rfl,s3,e3⟩
  rw [lg] at e3
  exact ⟨_,rfl,q r H3 s3 hr1 e3⟩
theorem zdj:zav ["works","stuck","row","ones","worths"] ["works","stuck","row","ones"] (zak zbq):=⟨rfl,rfl,rfl,by decide+kernel,rfl,by decide+kernel,by decide+kernel⟩
theorem ze2 (T:Txt K mg t):FnOk P w K mg base CX0 3 t.f_outputs_with t.fd_outputs_with ["works","stuck","row","ones"] (sp_owG K):=by
 refine T.d_outputs_with.F.okB zdj (fun vs H Q E h=>?_) (fun cdv A outer s H vs Q E hr h=>?_)
 ·obtain ⟨x,d,p,w,fs,row,o,rfl,_⟩:=h
  rfl
 obtain ⟨x,d,p,w,fs,row,o,rfl,hx,wf,hd,hS,hl,q⟩:=h
 refine ⟨_,(zad (zam (k:=4) zdj.nd rfl (Or.inr rfl) (zal (zfy T) (hr.mono (by decide)) rfl T.d_worths_with.m T.d_worths_with.F.kp T.d_worths_with.b .nil zaC (zaa (bpv 0) (zaa (bpv 1) (zaa (bpv 2) (zaa (bpv 3) (zac)))))))
  (zaf (zar (zaQ rfl (N:=["wire","worths"]) (n:=1) (cap:=[4]) (za7 rfl rfl) (zaM (zaq zax (bpv 0) zae (fun _ _=>rfl))) (zaG (by decide)) (fun _ _ _ _=>(zan (k:=0) (show (["wire","worths"]:List Str).Nodup by decide+kernel) rfl (Or.inl rfl))) (fun _ _ _ _=>zaK) (fun _ _ _ _=>(zaq (zeg (K:=K)) (bpv 1) (bpv 0) (fun _ _=>rfl))))))),?_⟩
 refine ⟨_,rfl,_,rfl,_,rfl,_,rfl,x,d,p,w,fs,row,o,rfl,hx,wf,hd,hS,hl,fun r H1 s1 n1 e1=>?_⟩
 obtain ⟨a,ga,oa,gs,os,rfl,ha,hg,ho,rg,ro⟩:=zbE (hx.mono s1)
 have eo:=zdu ro
 subst eo
 have lw:=zeP o fs w.gates row w.gates.length
 have o3:=wf.o3
 refine ⟨_,rfl,a,_,_,_,rfl,rfl,ha,rfl,oa,rfl,⟨_,ho⟩,fun D hD=>zaV (K:=K) (a:=oa) (xs:=w.outs.map V.int)
   (fun j H4=>Same H1 H4∧H4 D=some (.lst (((w.outs.take j).map fun u=>(zbW o fs w.gates row w.gates.length).getD u.toNat 0).map V.int))) ⟨zag hD _,zab⟩ (fun j H4 _ z=>z.1.seq ho) ?_ ?_⟩
 ·rintro j y H4 hy ⟨s4,eD⟩
  rw [yL] at hy
  cases hz:w.outs[j]? with
  | none=>rw [hz] at hy;cases hy
  | some ou=>
   rw [hz] at hy
   cases hy
   have lj:j < w.outs.length:=(yF.mp hz).1
   have bo:=wf.outs ou (yR hz)
   refine ⟨_,rfl,_,rfl,r,_,_,_,rfl,rfl,.of (s4 _ _ e1),zbK bo.1 (by rw [lw];omega),?_⟩
   refine ⟨_,eD,big (by simp;omega),s4.write hD _,?_⟩
   rw [zab,yT,hz]
   simp
 ·rintro H4 ⟨s4,eD⟩
  have et:w.outs.take (w.outs.map V.int).length=w.outs:=by rw [yA,qF]
  rw [et] at eD
  exact q D H4 (s1.trans s4) (s1.free hD) eD
theorem zbl:zav ["works","faults","known_faults","stuck","fault","place"] ["works","faults"] (zak zbT):=⟨rfl,rfl,rfl,by decide+kernel,rfl,by decide+kernel,by decide+kernel⟩
theorem zcj (T:Txt K mg t):FnOk P w K mg base CX0 2 t.f_stuck_places t.fd_stuck_places ["works","faults"] (sp_spl K):=by
 refine T.d_stuck_places.F.okB zbl (fun vs H Q E h=>?_) (fun cdv A outer s H vs Q E hr h=>?_)
 ·obtain ⟨x,y,w,fs,rfl,_⟩:=h
  rfl
 obtain ⟨x,y,w,fs,rfl,hx,wf,hy,gd,ap,lf,q⟩:=h
 have hu1:=zkp hr
 have hu64:=hr.units
 refine ⟨_,(zad (zam (k:=2) zbl.nd rfl (Or.inl rfl) (zal (zf9 T) (hr.mono (by decide)) rfl T.d_every_fault.m T.d_every_fault.F.kp T.d_every_fault.b .nil zaC (zaa (bpv 0) (zac))))
  (zad (zam (k:=3) zbl.nd rfl (Or.inl rfl) zfs)
  (zad (zaY qT rfl (zaM (bpv 1)) (zan (k:=4) zbl.nd rfl (Or.inl rfl)) (zad (zaA (zap (zk1 hu64) (bpv 4) (bpv 2) rfl) (zaf zci) zas)
  (zad (zam (k:=5) zbl.nd rfl (Or.inl rfl) (zch zjD (bpv 4) zes (zb5 (zc9 zda zae))))
  (zad (zaA (ziL (zoa hu1 (bpv 5) (bpv 3))) (zaf zci) zas)
  (zaf (znc hu1 (bpv 3) (bpv 5) (zaq zax (bpv 4) (zc9 zda zae) (fun _ _=>rfl)) rfl))))))
  (zaf (zar (bpv 3)))))),?_⟩
 refine ⟨_,rfl,x,w,rfl,hx,wf,fun kr xs H1 bk=>?_⟩
 refine fun d hd=>?_
 have s1:=bk.same.upd hd (.dT [])
 have hd0:=bk.same.free hd
 have okk:∀ e∈zdk w,kqdOk 8 e=true:=fun e he=>zje 7 he
 cases hy with
 | @lst fa ys _ hq rq=>
  have ly:ys.length=fs.length:=by rw [rq.length,yA]
  refine ⟨_,rfl,fa,rfl,⟨_,s1.seq hq⟩,zcq (K:=K) (a:=fa) (xs:=ys)
   (fun i σ H3=>∃ (o4 o5:Option V),σ = [some x,some (.ref fa),some (.ref kr),some (.ref d),o4,o5]∧Same H1 H3∧H3 d=some (.dT (tabV (fs.take i))))
   ⟨_,_,rfl,zag hd _,zab⟩ (fun i σ H3 _ ⟨_,_,_,s3,_⟩=>(bk.same.trans s3).seq hq) ?_ ?_⟩
  ·rintro i v σ H3 hv ⟨o4,o5,rfl,s13,e3⟩
   have s3:=bk.same.trans s13
   obtain ⟨dd,hdd,rv⟩:=rq.get hv
   rw [yL] at hdd
   cases hz:fs[i]? with
   | none=>rw [hz] at hdd;cases hdd
   | some f=>
    rw [hz] at hdd
    cases hdd
    have gf:=gd f (yR hz)
    obtain ⟨fa1,rfl,hf⟩:=flt_at rv
    have li:i < fs.length:=(yF.mp hz).1
    have et:fs.take (i+1)=fs.take i++ [f]:=by rw [yT,hz];rfl
    have nl:look (fs.take i) f.place=none:=zin fun z=>by
     unfold zdP at ap
     have e1:fs.map (·.place)=(fs.take (i+1)).map (·.place)++(fs.drop (i+1)).map (·.place):=by rw [← yM,wR]
     rw [e1,et,yM] at ap
     exact (vW.mp (vW.mp ap).1).2.2 _ z _ (yK.mpr rfl) rfl
    have nv:valV (tabV (fs.take i)) f.place=none:=by rw [zhd,nl];rfl
    refine ⟨_,rfl,_,rfl,fltD f,zdk w,rv.mono s3,bk.rep.mono s13,zje 7 (zjG gf),okk,fun _=>⟨_,rfl,iteF ?_⟩,fun z=>absurd (zjG gf) z⟩
    refine ⟨_,rfl,_,rfl,_,rfl,fa1,_,rfl,s3.seqT hf,zmo _ _,fun T1 h1=>?_⟩
    rw [show (-(1:Int))= -1 from rfl,zjc]
    have k1:=zag h1 (.tup (f.place.map kV))
    have s4:=s3.trans k1
    refine ⟨_,rfl,_,rfl,d,_,rfl,DGet.t (k:=f.place) (k1 _ _ e3) zab,_,rfl,?_⟩
    rw [nv]
    refine iteF ?_
    have lt:(tabV (fs.take i)).length≤1000:=by unfold tabV;rw [yA,yW];omega
    refine ⟨_,rfl,_,rfl,fa1,_,_,_,rfl,rfl,s4.seqT hf,zeM _ _,_,rfl,_,rfl,d,_,rfl,DPut.t (k:=f.place) (k1 _ _ e3) zab (big (by omega)),?_⟩
    refine ⟨_,_,rfl,(s13.trans k1).write hd _,?_⟩
    rw [zab,zjJ _ nv,et]
    unfold tabV
    rw [yM]
    rfl
  ·rintro σ H3 ⟨o4,o5,rfl,s13,e3⟩
   rw [ly,qF] at e3
   exact ⟨_,rfl,q d H3 (bk.same.trans s13) hd0 e3⟩
theorem zaF:zav ["works","stuck","row","found","wire","inputs","gates","outputs","worth","some","place","kind","legs"] ["works","stuck","row"] (zak zcr):=⟨rfl,rfl,rfl,by decide+kernel,rfl,by decide+kernel,by decide+kernel⟩
theorem zed (T:Txt K mg t):FnOk P w K mg base CX0 2 t.f_law_worths t.fd_law_worths ["works","stuck","row"] (sp_lws K):=by
 refine T.d_law_worths.F.okB zaF (fun vs H Q E h=>?_) (fun cdv A outer s H vs Q E hr h=>?_)
 ·obtain ⟨x,d,p,w,fs,row,rfl,_⟩:=h
  rfl
 obtain ⟨x,d,p,w,fs,row,rfl,hx,wf,hdT,fb,hS,hl,b,q⟩:=h
 obtain ⟨a,ga,oa,gs,os,rfl,ha,hg,ho,rg,ro⟩:=zbE hx
 have hu1:=zkp hr
 have lg:gs.length=w.gates.length:=by rw [rg.length,yA]
 have i1:=wf.i1
 have i6:=wf.i6
 have few:=wf.few
 refine ⟨_,(zad (ziR (bpv 0) (zdU rfl (zaE (zan (k:=5) zaF.nd rfl (Or.inl rfl)) (zaE (zan (k:=6) zaF.nd rfl (Or.inl rfl)) (zaE (zan (k:=7) zaF.nd rfl (Or.inl rfl)) zbF)))))
  (zad (zam (k:=3) zaF.nd rfl (Or.inl rfl) (zaD zac))
  (zad (zaY qT rfl (zaO rfl T.z_range (zaa (zao za9 (bpv 5) (zat zau rfl T.z_len qQ (zaa (bpv 6) (zac)))) (zac))) (zan (k:=4) zaF.nd rfl (Or.inl rfl)) (zad (zam (k:=8) zaF.nd rfl (Or.inl rfl) zae)
  (zad (zaA (zap zkC (bpv 4) (bpv 5) (zay _)) (zaf (zam (k:=8) zaF.nd rfl (Or.inl rfl) (zaq zaJ (bpv 2) (bpv 4) (fun _ _=>rfl)))) (zad (ziR (zaq zaJ (bpv 6) (zao zgF (bpv 4) (bpv 5)) (fun _ _=>rfl)) (zdU rfl (zaE (zan (k:=11) zaF.nd rfl (Or.inl rfl)) (zaE (zan (k:=12) zaF.nd rfl (Or.inl rfl)) zbF))))
  (zad (zam (k:=9) zaF.nd rfl (Or.inl rfl) (zaD zac))
  (zad (zaY qT rfl (zaO rfl T.z_range (zaa (zat zau rfl T.z_len qQ (zaa (bpv 12) (zac))) (zac))) (zan (k:=10) zaF.nd rfl (Or.inl rfl)) (zaf (zbR (zbm qW jB jC zbc (bpv 9) (zaa (zcF hu1 (bpv 1) (zaP (zaa zaj (zaa (zao zgF (bpv 4) (bpv 5)) (zaa (bpv 10) (zac))))) (zaq zaJ (bpv 3) (zaq zax (bpv 12) (bpv 10) (fun _ _=>rfl)) (fun _ _=>rfl)) ⟨rfl,rfl,rfl,rfl⟩) (zac))))))
  (zaf (zam (k:=8) zaF.nd rfl (Or.inl rfl) (zal (zi0 T) (hr.mono (by decide)) rfl T.d_law_gate.m T.d_law_gate.F.kp T.d_law_gate.b .nil zaC (zaa (bpv 11) (zaa (bpv 9) (zac))))))))))
  (zaf (zbR (zbm qW jB jC zbc (bpv 3) (zaa (zcF hu1 (bpv 1) (zaP (zaa zaj (zaa (bpv 4) (zac)))) (bpv 8) ⟨rfl,rfl,rfl,rfl⟩) (zac))))))))
  (zaf (zar (bpv 3)))))),?_⟩
 refine ⟨_,rfl,a,_,rfl,ha,rfl,_,_,rfl,_,_,rfl,_,_,rfl,rfl,(by show 0≤yH;decide),fun f hf=>?_⟩
 have s1:=zag hf (.lst [])
 refine ⟨_,rfl,_,rfl,ga,_,rfl,.inl (s1.seq hg),_,_,rfl,rfl,_,rfl,by omega,by omega,?_⟩
 refine zb0 (fun i σ H2=>∃ (o4 o8 o9 o10 o11 o12:Option V),σ = [some (.ref a),some (.ref d),some (.ref p),some (.ref f),o4,some (.int w.ins),some (.ref ga),some (.ref oa),o8,o9,o10,o11,o12]∧Same H H2∧H2 f=some (.lst ((zf6 fs w.gates row i).map V.int)))
  ⟨_,_,_,_,_,_,rfl,s1,by rw [zj0];exact zab⟩ ?_ ?_
 ·rintro i σ H2 hi ⟨o4,o8,o9,o10,o11,o12,rfl,s2,e2⟩
  rw [xQ]
  refine ⟨_,rfl,_,rfl,_,_,rfl,rfl,_,rfl,ite2 (fun c=>?_) (fun c=>?_)⟩
  ·have c':(i:Int) < w.ins:=of_decide_eq_true c
   refine ⟨_,rfl,_,rfl,p,_,_,_,rfl,rfl,s2.seq hS,zbK (by omega) (by omega),?_⟩
   refine ⟨_,rfl,.inl ⟨rfl,_,.of e2⟩,_,rfl,d,rfl,.inr ⟨_,.inl (s2 _ _ hdT)⟩,_,rfl,(by show 2≤yH;decide),fun T1 h1=>?_⟩
   have fT:f≠T1:=zai e2 h1
   refine ⟨_,rfl,_,DGet.t (k:=zcE i) ((s2.upd h1 _) _ _ hdT) zab,?_⟩
   refine ⟨f,_,_,rfl,rfl,by rw [zah fT];exact e2,big (by rw [yA,zk9];omega),_,_,_,_,_,_,rfl,(s2.upd h1 _).write hf _,?_⟩
   rw [zab,zlx (by omega),yM,zdy]
   rfl
  ·have c':¬(i:Int) < w.ins:=fun z=>c (decide_eq_true z)
   obtain ⟨n,rfl⟩:∃ n,i=row.length+n:=⟨i - row.length,by omega⟩
   have hn:n < w.gates.length:=by omega
   rw [zeD] at e2
   obtain ⟨g,hgk⟩:∃ g,w.gates[n]? =some g:=⟨_,yQ hn⟩
   obtain ⟨v,hv,rv⟩:=rg.getD (i:=n) (d:=zez g) (by rw [yL,hgk];rfl)
   obtain ⟨a1,la,rfl,hA,hL⟩:=zcz rv
   obtain ⟨lk,lb⟩:=wf.legs n g hgk
   have bw:=zd2 fb wf hl b n (by omega)
   have lw:=zby fs w.gates row n
   have l4:=lk.le
   have ei:(((row.length+n:Nat)):Int) - w.ins=(n:Int):=by omega
   refine ⟨_,rfl,_,rfl,_,rfl,_,_,rfl,rfl,ga,gs,_,.ref a1,rfl,rfl,s2.seq hg,by rw [ei];exact zb2 hv,a1,_,rfl,s2.seqT hA,rfl,_,_,rfl,_,_,rfl,rfl,?_⟩
   refine ⟨(by show 0≤yH;decide),fun m hm=>?_⟩
   have s3:=s2.upd hm (.lst [])
   have fm:f≠m:=zai e2 hm
   refine ⟨_,rfl,la,_,rfl,.inr (s3.seqT hL),_,rfl,by rw [yA];omega,by rw [yA];omega,?_⟩
   refine zb0 (fun j σ H4=>∃ (o10:Option V),σ = [some (.ref a),some (.ref d),some (.ref p),some (.ref f),some (.int ((row.length+n:Nat):Int)),some (.int w.ins),some (.ref ga),some (.ref oa),some (.int 0),some (.ref m),o10,some (.str g.1),some (.ref la)]∧Same H2 H4∧
     H4 m=some (.lst ((zdT fs n ((g.2.take j).map fun l=>(zaX fs w.gates row n).getD l.toNat 0)).map V.int))) ⟨_,rfl,zag hm _,zab⟩ ?_ ?_
   ·rintro j σ H4 hj ⟨o10,rfl,s4,e4⟩
    rw [xQ]
    have hj':j < g.2.length:=by rw [yA] at hj;omega
    have s24:=s2.trans s4
    refine ⟨_,rfl,.inl ⟨rfl,_,.of e4⟩,_,rfl,d,rfl,.inr ⟨_,.inl (s24 _ _ hdT)⟩,_,rfl,_,rfl,_,_,rfl,rfl,_,rfl,(by show 3≤yH;decide),fun T1 h1=>?_⟩
    have s5:=s24.upd h1 (.tup [.str "leg",.int (((row.length+n:Nat):Int) - w.ins),.int j])
    have mT:m≠T1:=zai e4 h1
    have bl:=lb g.2[j] (vG hj')
    refine ⟨_,rfl,_,rfl,_,rfl,la,_,_,.int g.2[j],rfl,rfl,s5.seqT hL,zb2 (by rw [yL,yQ hj'] <;> rfl),f,_,_,_,rfl,rfl,.of ((s4.upd h1 _) _ _ e2),zbK bl.1 (by rw [lw];omega),?_⟩
    refine ⟨_,DGet.t (k:=legK n j) (s5 _ _ hdT) (by rw [zab];show some (HO.tup [V.str "leg",V.int (((row.length+n:Nat):Int) - w.ins),V.int j])=_;rw [ei];rfl),?_⟩
    refine ⟨m,_,_,rfl,rfl,by rw [zah mT];exact e4,big (by rw [yA,zcG,yA,yW];omega),_,rfl,(s4.upd h1 _).write hm _,?_⟩
    have et2:g.2.take (j+1)=g.2.take j++ [g.2[j]]:=by rw [yT,yQ hj'];rfl
    have lt:((g.2.take j).map fun l=>(zaX fs w.gates row n).getD l.toNat 0).length=j:=by rw [yA,yW];omega
    rw [zab,et2,yM,vP,zgu,yM,lt,zdy]
    rfl
   ·rintro σ H4 ⟨o10,rfl,s4,e4⟩
    have et:g.2.take (((g.2.map V.int).length:Nat):Int).toNat=g.2:=by rw [xB,yA,qF]
    rw [et] at e4
    refine ⟨_,rfl,_,rfl,g.1,m,zdT fs n (g.2.map fun l=>(zaX fs w.gates row n).getD l.toNat 0),rfl,.of e4,zeO fb (fun z hz=>?_),by rw [zcG,yA];exact lk,fun H5 s5=>?_⟩
    ·obtain ⟨l,hl',rfl⟩:=qE.mp hz
     exact zbH bw (by rw [lw];have:=lb l hl';omega)
    ·have s25:=s4.trans s5
     refine ⟨_,rfl,.inl ⟨rfl,_,.of (s25 _ _ e2)⟩,_,rfl,d,rfl,.inr ⟨_,.inl ((s2.trans s25) _ _ hdT)⟩,_,rfl,(by show 2≤yH;decide),fun T1 h1=>?_⟩
     have fT:f≠T1:=zai (s25 _ _ e2) h1
     refine ⟨_,rfl,_,DGet.t (k:=zcE ((row.length+n:Nat):Int)) (((s2.trans s25).upd h1 _) _ _ hdT) zab,?_⟩
     refine ⟨f,_,_,rfl,rfl,by rw [zah fT];exact s25 _ _ e2,big (by rw [yA,lw];omega),_,_,_,_,_,_,rfl,((s2.trans s25).upd h1 _).write hf _,?_⟩
     have e6:row.length+n+1=row.length+(n+1):=by omega
     rw [zab,e6,zeD,zaX,hgk,yM,zdy]
     rfl
 ·rintro σ H2 ⟨o4,o8,o9,o10,o11,o12,rfl,s2,e2⟩
  have e3:(w.ins+(gs.length:Int)).toNat=row.length+w.gates.length:=by omega
  rw [e3,zeD] at e2
  exact ⟨_,rfl,q f H2 s2 hf e2⟩
theorem zaU:zav ["inputs","worths","ones","place","behind"] ["inputs"] (zak zbN):=⟨rfl,rfl,rfl,by decide+kernel,rfl,by decide+kernel,by decide+kernel⟩
theorem zfN (T:Txt K mg t):FnOk P w K mg base CX0 1 t.f_rows_at_once t.fd_rows_at_once ["inputs"] sp_rao:=by
 refine T.d_rows_at_once.F.okB zaU (fun vs H Q E h=>?_) (fun cdv A outer s H vs Q E hr h=>?_)
 ·obtain ⟨n,rfl,_⟩:=h
  rfl
 obtain ⟨n,rfl,n6,q⟩:=h
 refine ⟨_,(zad (zam (k:=1) zaU.nd rfl (Or.inl rfl) (zaD zac))
  (zad (zam (k:=2) zaU.nd rfl (Or.inl rfl) zae)
  (zad (zaY qT rfl (zaO rfl T.z_range (zaa (bpv 0) (zac))) (zan (k:=3) zaU.nd rfl (Or.inl rfl)) (zad (zam (k:=4) zaU.nd rfl (Or.inr rfl) (zao za9 (bpv 2) zae))
  (zad (zam (k:=1) zaU.nd rfl (Or.inl rfl) (zao zeW (zaD (zaa (zao zcS (bpv 2) (bpv 4)) (zac))) (zaQ rfl (N:=["worth","behind"]) (n:=1) (cap:=[4]) (za7 rfl rfl) (zaM (bpv 1)) (zaG (by decide)) (fun _ _ _ _=>(zan (k:=0) (show (["worth","behind"]:List Str).Nodup by decide+kernel) rfl (Or.inl rfl))) (fun _ _ _ _=>zaK) (fun _ _ _ _=>(zao za9 (bpv 0) (zao zcS (bpv 0) (bpv 1)))))))
  (zaf (zam (k:=2) zaU.nd rfl (Or.inl rfl) (zao za9 (bpv 2) (zao zcS (bpv 2) (bpv 4))))))))
  (zaf (zar (zaP (zaa (bpv 1) (zaa (bpv 2) (zac))))))))),?_⟩
 refine ⟨(by show 0≤yH;decide),fun L0 hL0=>?_⟩
 refine ⟨_,rfl,_,rfl,by omega,by omega,?_⟩
 refine zb0 (fun i σ H3=>∃ (L:Addr) (o3 o4:Option V),σ = [some (.int n),some (.ref L),some (.int (zaN (2 ^ i))),o3,o4]∧Same H H3∧H L=none∧H3 L=some (.lst ((zc5 i).map V.int)))
  ⟨L0,_,_,rfl,zag hL0 _,hL0,zab⟩ ?_ ?_
 ·rintro i σ H3 hi ⟨L,o3,o4,rfl,s3,nL,eL⟩
  have hi6:i < 6:=by omega
  have h64:=pow6 (n:=i) (by omega)
  obtain ⟨c1,c2,c3⟩:=zeh i
  have bo:=zjF (zce (2 ^ i)) h64
  have bb:qI (zaN (2 ^ i)+1)≤2 ^ 20:=by
   rw [zej]
   have hq: 2 ^ 2 ^ i≤2 ^ 64:=jW (by decide) h64
   generalize 2 ^ 2 ^ i=q2 at hq
   exact zc2 (k:=65) (by decide) (by omega) (by omega)
  refine ⟨_,rfl,_,_,rfl,rfl,?_⟩
  refine ⟨_,rfl,_,rfl,_,_,rfl,rfl,⟨bo,bb⟩,(by show 1≤yH;decide),fun A1 hA1=>?_⟩
  have k1:=zag hA1 (.lst [.int (zaN (2 ^ i) * (zaN (2 ^ i)+1))])
  refine ⟨_,rfl,L,rfl,⟨_,.of (k1 _ _ eL)⟩,fun D hD=>zaV (K:=K) (a:=L) (xs:=(zc5 i).map V.int) (fun j H4=>Same (upd H3 A1 (.lst [.int (zaN (2 ^ i) * (zaN (2 ^ i)+1))])) H4∧H4 D=some (.lst ((((zc5 i).take j).map fun v=>v+v * (zaN (2 ^ i)+1)).map V.int))) ⟨zag hD _,zab⟩ (fun j H4 _ z=>.of (z.1 _ _ (k1 _ _ eL))) ?_ ?_⟩
  ·rintro j y H4 hy ⟨s4,eD⟩
   rw [yL] at hy
   cases hz:(zc5 i)[j]? with
   | none=>rw [hz] at hy;cases hy
   | some v=>
    rw [hz] at hy
    cases hy
    have lj:j < (zc5 i).length:=(yF.mp hz).1
    refine ⟨_,rfl,_,rfl,_,rfl,_,_,rfl,rfl,⟨zjF (c1 v (yR hz)) h64,bb⟩,_,_,rfl,rfl,?_⟩
    refine ⟨_,eD,big (by simp;omega),s4.write hD _,?_⟩
    rw [zab,yT,hz,yM,yM]
    rfl
  rintro H4 ⟨s4,eD⟩
  rw [yA,qF] at eD
  refine ⟨A1,D,_,_,rfl,rfl,s4 _ _ zab,eD,bigE (by simp;omega),fun A2 hA2=>?_⟩
  have k2:=zag hA2 (.lst ([.int (zaN (2 ^ i) * (zaN (2 ^ i)+1))]++((zc5 i).map fun v=>v+v * (zaN (2 ^ i)+1)).map V.int))
  have s34:=k1.trans s4
  refine ⟨_,rfl,_,rfl,_,rfl,_,_,rfl,rfl,⟨bo,bb⟩,_,_,rfl,rfl,A2,some (.int (0+(i:Int))),some (.int (zaN (2 ^ i)+1)),?_,(s3.trans s34).trans k2,(s3.trans s34).free hA2,zab⟩
  show [_,_,some (V.int (zaN (2 ^ i)+zaN (2 ^ i) * (zaN (2 ^ i)+1))),_,_]=_
  rw [zlJ]
 ·rintro σ H3 ⟨L,o3,o4,rfl,s3,nL,eL⟩
  have en:((n:Int)).toNat=n:=by omega
  rw [en] at eL
  refine ⟨_,rfl,_,rfl,(by show 2≤yH;decide),fun r hr'=>q r L _ (s3.upd hr' _) (s3.free hr') nL ?_ (zag hr' _ _ _ eL)⟩
  rw [zab,en]
theorem za4:zav ["seen","others","unlike","worth","other"] ["seen","others"] (zak zbt):=⟨rfl,rfl,rfl,by decide+kernel,rfl,by decide+kernel,by decide+kernel⟩
theorem zeC (T:Txt K mg t):FnOk P w K mg base CX0 1 t.f_unlike_numbers t.fd_unlike_numbers ["seen","others"] sp_un:=by
 refine T.d_unlike_numbers.F.okB za4 (fun vs H Q E h=>?_) (fun cdv A outer s H vs Q E hr h=>?_)
 ·obtain ⟨a,b,xs,ys,R,rfl,_⟩:=h
  rfl
 obtain ⟨a,b,xs,ys,R,rfl,ha,hb,hl,l1,h64,bx,by',q⟩:=h
 refine ⟨_,(zad (zam (k:=2) za4.nd rfl (Or.inr rfl) zae)
  (zad (zaY qT rfl (zoE rfl T.z_zip (zaa (bpv 0) (zaa (bpv 1) (zac)))) (zdU rfl (zaE (zan (k:=3) za4.nd rfl (Or.inl rfl)) (zaE (zan (k:=4) za4.nd rfl (Or.inl rfl)) zbF))) (zaf (zam (k:=2) za4.nd rfl (Or.inr rfl) (zao zo9 (bpv 2) (zao zjd (bpv 3) (bpv 4))))))
  (zaf (zar (zaQ rfl (N:=["number","unlike"]) (n:=1) (cap:=[2]) (za7 rfl rfl) (zaO rfl T.z_range (zaa (zoC PySem.F.plainAttrs_int PyProof.Rows.slot_int_bit_length PyProof.Rows.type_int_bit_length zl8 (bpv 2)) (zac))) (zaG (by decide)) (fun _ _ _ _=>(zan (k:=0) (show (["number","unlike"]:List Str).Nodup by decide+kernel) rfl (Or.inl rfl))) (fun _ _ _ _=>(zff (zap zbp (zao zhS (zao znT (bpv 1) (bpv 0)) zae) zae (zay _)))) (fun _ _ _ _=>(bpv 0))))))),?_⟩
 refine ⟨_,rfl,_,rfl,a,b,_,_,rfl,ha,hb,zov (a:=a) (b:=b) (xs:=xs.map V.int) (ys:=ys.map V.int) (by simp [hl])
  (fun i σ H3=>∃ (o3 o4:Option V),σ = [some (.ref a),some (.ref b),some (.int (((xs.take i).zip (ys.take i)).foldl (fun u p=>qS u (qP p.1 p.2)) 0)),o3,o4]∧Same H H3)
  ⟨_,_,rfl,Same.refl _⟩ (fun i σ H3 _ ⟨_,_,_,s3⟩=>⟨s3 _ _ ha,s3 _ _ hb⟩) ?_ ?_⟩
 ·rintro i x y σ H3 T1 hx hy ⟨o3,o4,rfl,s3⟩ h1
  rw [yL] at hx hy
  cases hzx:xs[i]? with
  | none=>rw [hzx] at hx;cases hx
  | some u=>
   cases hzy:ys[i]? with
   | none=>rw [hzy] at hy;cases hy
   | some v=>
    rw [hzx] at hx
    rw [hzy] at hy
    cases hx
    cases hy
    refine ⟨T1,_,rfl,.of zab,rfl,_,_,rfl,_,_,rfl,rfl,?_⟩
    refine ⟨_,rfl,_,rfl,_,rfl,_,_,rfl,rfl,_,_,rfl,rfl,some (.int u),some (.int v),?_,s3.upd h1 _⟩
    have li:i < xs.length:=(yF.mp hzx).1
    have e:(xs.take (i+1)).zip (ys.take (i+1))=(xs.take i).zip (ys.take i)++ [(u,v)]:=by
     rw [yT,yT,hzx,hzy]
     show (xs.take i++ [u]).zip (ys.take i++ [v])=_
     rw [List.zip_append (by rw [yW,yW];omega)]
     rfl
    rw [e,vV]
    rfl
 ·rintro σ H3 ⟨o3,o4,rfl,s3⟩
  have e1:xs.take (xs.map V.int).length=xs:=by rw [yA,qF]
  have e2:ys.take (xs.map V.int).length=ys:=by rw [yA,hl,qF]
  obtain ⟨u1,u2⟩:=zd4 (R:=R) xs ys hl bx by' (zcN R)
  obtain ⟨un,eun⟩:∃ un,zc6 xs ys=un:=⟨_,rfl⟩
  have b0:zaT R un:=by rw [← eun];exact u1
  have few:qI un≤2 ^ 20:=zjF b0 h64
  rw [e1,e2]
  refine ⟨_,rfl,rfl,_,rfl,rfl,_,rfl,?_,?_,fun D hD=>?_⟩
  ·omega
  ·show ((qI (zc6 xs ys):Nat):Int) < 2 ^ 62
   rw [eun]
   omega
  have ll:((qI (zc6 xs ys):Nat):Int).toNat=qI un:=by rw [eun];omega
  show zcA (Itr 0 ((qI (zc6 xs ys):Nat):Int).toNat) _ _ _ _ _ _ _ _ _
  rw [ll]
  refine zcg (fun j H4=>Same H3 H4∧H4 D=some (.lst (((xK j).filter fun k=>decide (bitI k un=1)).map fun k:Nat=>V.int (k:Int)))) ⟨zag hD _,zab⟩ ?_ ?_
  ·rintro j H4 hj ⟨s4,eD⟩
   rw [xQ]
   have sb:=zn7 (R:=R) b0 j
   rw [← eun] at sb
   have small:(((xK j).filter fun k=>decide (bitI k un=1)).map fun k:Nat=>V.int (k:Int)).length≤2000000:=by
    rw [yA]
    have:=ya1 (fun k=>decide (bitI k un=1)) (xK j)
    rw [vX] at this
    omega
   refine ⟨_,rfl,_,rfl,_,_,rfl,rfl,vM j,_,_,rfl,rfl,rfl,_,rfl,ite2 (fun c=>⟨_,rfl,_,eD,?_,s4.write hD _,?_⟩) (fun c=>⟨s4,?_⟩)⟩
   ·have:yH=16777216:=by decide
    omega
   ·rw [zab,yai,vN,yM]
    have e:decide (bitI j un=1)=true:=by rw [← eun];exact decide_eq_true (sb.mp (of_decide_eq_true c))
    simp [e]
   ·rw [eD,yai,vN,yM]
    have e:decide (bitI j un=1)=false:=by rw [← eun];exact decide_eq_false fun z=>c (decide_eq_true (sb.mpr z))
    simp [e]
  ·rintro H4 ⟨s4,eD⟩
   refine q D H4 (s3.trans s4) (s3.free hD) ?_
   rw [eD,eun]
   rfl
theorem zbJ:zav ["works","stuck","rows","ones","stuck_at_once"] ["works","stuck"] (zak zbS):=⟨rfl,rfl,rfl,by decide+kernel,rfl,by decide+kernel,by decide+kernel⟩
theorem ze6 (T:Txt K mg t):FnOk P w K mg base CX0 4 t.f_outputs_seen t.fd_outputs_seen ["works","stuck"] (sp_osR K):=by
 refine T.d_outputs_seen.F.okB zbJ (fun vs H Q E h=>?_) (fun cdv A outer s H vs Q E hr h=>?_)
 ·obtain ⟨x,d,w,fs,G,rfl,_⟩:=h
  rfl
 obtain ⟨x,d,w,fs,G,rfl,off,hx,wf,hd,fb,ap,lf,q⟩:=h
 have hu64:=hr.units
 obtain ⟨a,ga,oa,gs,os,rfl,ha,hg,ho,rg,ro⟩:=zbE hx
 have i1:=wf.i1
 have i6:=wf.i6
 obtain ⟨n,en⟩:∃ n,w.ins.toNat=n:=⟨_,rfl⟩
 have n6:n≤6:=by omega
 have h64:=pow6 n6
 have c:=zeh n
 refine ⟨_,(zad (zam (k:=2) zbJ.nd rfl (Or.inl rfl) (zal (zfN T) (hr.mono (by decide)) rfl T.d_rows_at_once.m T.d_rows_at_once.F.kp T.d_rows_at_once.b .nil zaC (zaa (zaq zax (bpv 0) zae (fun _ _=>rfl)) (zac))))
  (zad (zam (k:=3) zbJ.nd rfl (Or.inr rfl) (zaq zax (bpv 2) zae (fun _ _=>rfl)))
  (zad (zam (k:=4) zbJ.nd rfl (Or.inl rfl) (zaz (zkz rfl hu64) rfl T.z_dict PyProof.Rows.boot_dict (zaa (zaQ rfl (N:=["place","worth","ones"]) (n:=2) (cap:=[3]) (za7 rfl rfl) (zk7 (bpv 1)) (zeq (by decide) (by decide)) (fun _ _ _ _=>(zfa (K:=K) (n:=2) rfl (zaE (zan (k:=0) (show (["place","worth","ones"]:List Str).Nodup by decide+kernel) rfl (Or.inl rfl)) (zaE (zan (k:=1) (show (["place","worth","ones"]:List Str).Nodup by decide+kernel) rfl (Or.inl rfl)) zbF)))) (fun _ _ _ _=>zaK) (fun _ _ _ _=>(zaP (zaa (bpv 0) (zaa (zao zcS (bpv 1) (bpv 2)) (zac)))))) (zac))))
  (zaf (zar (zal (ze2 T) (hr.mono (by decide)) rfl T.d_outputs_with.m T.d_outputs_with.F.kp T.d_outputs_with.b .nil zaC (zaa (bpv 0) (zaa (bpv 4) (zaa (zaq zax (bpv 2) zae (fun _ _=>rfl)) (zaa (bpv 3) (zac))))))))))),?_⟩
 refine ⟨_,rfl,a,_,_,_,rfl,rfl,off.same.seqT ha,rfl,n,by rw [← en,kZ (by omega)];rfl,n6,fun r L H1 s1 nr nL er eL=>?_⟩
 refine ⟨_,rfl,r,_,1,_,rfl,rfl,.of er,rfl,?_⟩
 have off1:=off.grow s1
 have rd:r≠d:=qX (zai hd nr)
 have Ld:L≠d:=qX (zai hd nL)
 refine ⟨_,rfl,d,_,rfl,s1 _ _ hd,fun ob D hD=>?_⟩
 have off2:=off1.write (.head _) (.frz ob (.dT (tabV fs)))
 have ed2:=zab (H:=H1) (a:=d) (o:=.frz ob (.dT (tabV fs)))
 have er2:(upd H1 d (.frz ob (.dT (tabV fs)))) r=some (.tup [.ref L,.int (zaN (2 ^ n))]):=by rw [zah rd];exact er
 have eL2:(upd H1 d (.frz ob (.dT (tabV fs)))) L=some (.lst ((zc5 n).map V.int)):=by rw [zah Ld];exact eL
 generalize upd H1 d (.frz ob (.dT (tabV fs)))=H2 at hD off2 ed2 er2 eL2
 have gD:G D=none:=off2.same.free hD
 have Dd:d≠D:=zai ed2 hD
 have Dr:r≠D:=zai er2 hD
 have DL:L≠D:=zai eL2 hD
 refine zkk (d:=d) (ob:=ob) (kvs:=tabV fs) (fun j H5=>∃ xs,Off [d] G H5∧H5 d=some (.frz ob (.dT (tabV fs)))∧H5 r=some (.tup [.ref L,.int (zaN (2 ^ n))])∧H5 L=some (.lst ((zc5 n).map V.int))∧H5 D=some (.lst xs)∧zeG H5 xs (tabV (zb3 (2 ^ n) (fs.take j))))
  ⟨[],off2.new hD _,zag hD _ _ _ ed2,zag hD _ _ _ er2,zag hD _ _ _ eL2,zab,.nil⟩ (fun j H5 _ ⟨_,_,e,_⟩=>e) ?_ ?_
 ·rintro j b p H5 T1 hp ⟨xs,off5,ed5,er5,eL5,eD5,pr⟩ hT1 hb
  have hp':(fs.map fun f=>(f.place,V.int f.worth))[j]? =some p:=hp
  rw [yL] at hp'
  cases hz:fs[j]? with
  | none=>rw [hz] at hp';cases hp'
  | some f=>
   rw [hz] at hp'
   cases hp'
   have lj:j < fs.length:=(yF.mp hz).1
   have et:fs.take (j+1)=fs.take j++ [f]:=by rw [yT,hz];rfl
   have fw:=fb f (yR hz)
   have k1:=zag hT1 (.tup [.ref b,.int f.worth])
   refine ⟨T1,_,rfl,.of zab,rfl,_,_,rfl,_,_,rfl,rfl,?_⟩
   have b1:qI f.worth≤2 ^ 20:=zc2 (k:=2) (by decide) (by omega) (by omega)
   refine ⟨_,rfl,_,rfl,_,rfl,_,_,rfl,rfl,⟨b1,zjF (zce (2 ^ n)) h64⟩,(by show 2≤yH;decide),fun T2 h2=>?_⟩
   have k2:=zag h2 (.tup [.ref b,.int (f.worth * zaN (2 ^ n))])
   have k12:=k1.trans k2
   have lpr:=vU pr
   unfold tabV zb3 at lpr
   rw [yA,yA,yW] at lpr
   refine ⟨xs,k12 _ _ eD5,big (by omega),xs++ [.ref T2],?_,by rw [zah Dd];exact k12 _ _ ed5,by rw [zah Dr];exact k12 _ _ er5,by rw [zah DL];exact k12 _ _ eL5,zab,?_⟩
   ·exact ⟨(off5.grow k12).same.write gD _,(off5.grow k12).out,fun m hm=>by rw [yK.mp hm,zah Dd];exact ⟨_,k12 _ _ ed5⟩⟩
   ·rw [et]
    have e1:tabV (zb3 (2 ^ n) (fs.take j++ [f]))=tabV (zb3 (2 ^ n) (fs.take j))++ [(f.place,V.int (f.worth * zaN (2 ^ n)))]:=by unfold tabV zb3;rw [yM,yM];rfl
    rw [e1]
    exact zi1 (k12 _ _ eD5) (ybT (zjU k12 pr) ⟨T2,b,rfl,zab,hb.same k12⟩)
 rintro H5 ⟨xs,off5,ed5,er5,eL5,eD5,pr⟩
 have lt:(tabV fs).length=fs.length:=by unfold tabV;rw [yA]
 rw [lt,qF] at pr
 refine ⟨D,xs,tabV (zb3 (2 ^ n) fs),rfl,eD5,pr,big (by unfold tabV zb3;rw [yA,yA];omega),fun e he=>?_⟩
 rw [show zeV [] (tabV (zb3 (2 ^ n) fs))=tabV (zb3 (2 ^ n) fs) from zis (zb3 (2 ^ n) fs) [] (zjT ap)]
 have k6:=zag he (.dT (tabV (zb3 (2 ^ n) fs)))
 have s6:=off5.same.trans k6
 refine ⟨_,rfl,_,rfl,_,rfl,r,_,0,_,rfl,rfl,.of (k6 _ _ er5),rfl,_,rfl,.ref a,e,L,w,zb3 (2 ^ n) fs,zc5 n,zaN (2 ^ n),rfl,hx.mono s6,wf,zab,.of (k6 _ _ eL5),by rw [c.2.1];omega,fun r2 H7 s7 n7 e7=>?_⟩
 exact q r2 ob H7 (s6.trans s7) (s6.free n7) ((k6.trans s7) _ _ ed5) (by rw [e7];unfold zcl;rw [en])
theorem zdm (T:Txt K mg t):FnOk P w K mg base CX0 4 t.f_outputs_seen t.fd_outputs_seen ["works","stuck"] (sp_osT K):=by
 refine (ze6 T).thaw.imp fun vs H Q E h=>?_
 obtain ⟨x,d,w,fs,rfl,hx,wf,hd,fb,ap,lf,q⟩:=h
 obtain ⟨a,ga,oa,gs,os,rfl,ha,hg,ho,rg,ro⟩:=zbE hx
 refine ⟨.ref a,d,w,fs,hole d H,rfl,znk hd,zjj hd hx,wf,hd,fb,ap,lf,fun r ob H' s n e1 e2=>⟨d,ob,_,_,hd,e1,?_⟩⟩
 have rd:r≠d:=fun z=>by rw [z,e1] at e2;cases e2
 refine q r _ (fun b o hb=>?_) (by rw [zdW rd] at n;exact n) (by rw [zah rd];exact e2)
 by_cases z:b=d
 ·subst z
  rw [zab]
  rw [hd] at hb
  exact hb
 ·rw [zah z]
  exact s _ _ (by rw [zdW z];exact hb)
theorem zde:zav ["works","stuck","others","numbers"] ["works","stuck","others"] (zak zbP):=⟨rfl,rfl,rfl,by decide+kernel,rfl,by decide+kernel,by decide+kernel⟩
theorem zdi (T:Txt K mg t):FnOk P w K mg base CX0 5 t.f_first_unlike t.fd_first_unlike ["works","stuck","others"] (sp_fu K):=by
 refine T.d_first_unlike.F.okB zde (fun vs H Q E h=>?_) (fun cdv A outer s H vs Q E hr h=>?_)
 ·obtain ⟨x,d,e,w,fs,gs,rfl,_⟩:=h
  rfl
 obtain ⟨x,d,e,w,fs,gs,rfl,hx,wf,hd,he,fb,gb,af,ag,lf,lg,q⟩:=h
 obtain ⟨a,ga,oa,gv,os,rfl,ha,hg,ho,rg,ro⟩:=zbE hx
 have hu64:=hr.units
 have i1:=wf.i1
 have i6:=wf.i6
 have n6:w.ins.toNat≤6:=by omega
 have h64:=pow6 n6
 obtain ⟨f1,f2,f3⟩:=zel fb wf
 obtain ⟨g1,g2,g3⟩:=zel gb wf
 obtain ⟨nn,nj⟩:=zkw fb gb wf
 refine ⟨_,(zad (zam (k:=3) zde.nd rfl (Or.inl rfl) (zal (zeC T) (hr.mono (by decide)) rfl T.d_unlike_numbers.m T.d_unlike_numbers.F.kp T.d_unlike_numbers.b .nil zaC (zaa (zal (zdm T) (hr.mono (by decide)) rfl T.d_outputs_seen.m T.d_outputs_seen.F.kp T.d_outputs_seen.b .nil zaC (zaa (bpv 0) (zaa (bpv 1) (zac)))) (zaa (zal (zdm T) (hr.mono (by decide)) rfl T.d_outputs_seen.m T.d_outputs_seen.F.kp T.d_outputs_seen.b .nil zaC (zaa (bpv 0) (zaa (bpv 2) (zac)))) (zac)))))
  (zaf (zar (zfT (zap zoi (zat zau rfl T.z_len qQ (zaa (bpv 3) (zac))) zae (zay _)) (zaq zaJ (zal (zh6 T) (hr.mono (by decide)) rfl T.d_every_row.m T.d_every_row.F.kp T.d_every_row.b .nil zaC (zaa (bpv 0) (zac))) (zaq zaJ (bpv 3) zae (fun _ _=>rfl)) (fun _ _=>rfl)) zgZ)))),?_⟩
 refine ⟨_,rfl,_,rfl,.ref a,d,w,fs,rfl,hx,wf,hd,fb,af,lf,fun r1 H1 s1 n1 e1=>?_⟩
 refine ⟨_,rfl,_,rfl,.ref a,e,w,gs,rfl,hx.mono s1,wf,s1 _ _ he,gb,ag,lg,fun r2 H2 s2 n2 e2=>?_⟩
 have e12:H2 r1=some (.lst ((zcl w fs).map V.int)):=s2 _ _ e1
 have sG3:=s1.trans s2
 have lo:w.outs.length≤1000:=by
  have:=wf.o3
  omega
 refine ⟨r1,r2,zcl w fs,zcl w gs,2 ^ w.ins.toNat,rfl,e12,e2,f2.trans g2.symm,by omega,h64,f1,g1,fun r3 H3 s3 n3 e3=>?_⟩
 have sG4:=sG3.trans s3
 obtain ⟨ns,ens⟩:∃ ns,ziv (zc6 (zcl w fs) (zcl w gs))=ns:=⟨_,rfl⟩
 rw [ens] at e3 nn nj
 refine ⟨_,rfl,r3,_,rfl,.inl (.of e3),_,_,rfl,rfl,_,rfl,ite2 (fun c=>?_) (fun c=>?_)⟩
 ·cases ns with
  | nil=>exact absurd (of_decide_eq_true c) (by decide)
  | cons j js=>
   obtain ⟨row,hrow,ef⟩:=nj j js rfl
   refine ⟨_,rfl,a,ga,oa,w.ins,rfl,sG4.seqT ha,by omega,i6,fun R qs H4 rws=>?_⟩
   have e34:=rws.same _ _ e3
   obtain ⟨qa,hqa,hz⟩:∃ qa,qs[j]? =some qa∧H4 qa=some (.lst (row.map V.int)):=by
    have lq:=rws.rows.len
    have lj:=(yF.mp hrow).1
    have h1:qs[j]? =some qs[j]:=yQ (by omega)
    obtain ⟨row2,h2,h3⟩:=rws.rows.get h1
    rw [hrow] at h2
    cases h2
    exact ⟨_,h1,h3⟩
   have at0:atI ((j::js).map fun j:Nat=>V.int (j:Int)) 0=some (.int (j:Int)):=zb2 (j:=0) rfl
   refine ⟨_,rfl,r3,_,_,_,rfl,rfl,.of e34,at0,R,_,_,_,rfl,rfl,rws.sq,zb2 (by rw [yL,hqa];rfl),?_⟩
   refine q _ _ (sG4.trans rws.same) ?_
   rw [ef]
   exact ⟨qa,rfl,sG4.free (rws.new qa (yR hqa)).1,hz⟩
 ·cases ns with
  | cons j js=>exact absurd (decide_eq_true (by simp)) c
  | nil=>
   refine q _ _ sG4 ?_
   rw [nn rfl]
   rfl
theorem zgQ:zav ["works","faults"] ["works","faults"] (zak zcv):=⟨rfl,rfl,rfl,by decide+kernel,rfl,by decide+kernel,by decide+kernel⟩
theorem zhu (T:Txt K mg t):FnOk P w K mg base CX0 6 t.f_first_test t.fd_first_test ["works","faults"] (sp_ft K):=by
 refine T.d_first_test.F.okB zgQ (fun vs H Q E h=>?_) (fun cdv A outer s H vs Q E hr h=>?_)
 ·obtain ⟨x,y,w,fs,rfl,_⟩:=h
  rfl
 obtain ⟨x,y,w,fs,rfl,hx,wf,hy,gd,ap,lf,q⟩:=h
 refine ⟨_,(zaf (zar (zal (zdi T) (hr.mono (by decide)) rfl T.d_first_unlike.m T.d_first_unlike.F.kp T.d_first_unlike.b .nil zaC (zaa (bpv 0) (zaa (zal (zcj T) (hr.mono (by decide)) rfl T.d_stuck_places.m T.d_stuck_places.F.kp T.d_stuck_places.b .nil zaC (zaa (bpv 0) (zaa (bpv 1) (zac)))) (zaa zfs (zac))))))),?_⟩
 refine ⟨_,rfl,_,rfl,_,rfl,x,y,w,fs,rfl,hx,wf,hy,gd,ap,lf,fun d H1 s1 nd ed=>?_⟩
 refine fun e he=>?_
 have k2:=zag he (.dT [])
 have s12:=s1.trans k2
 exact ⟨x,d,e,w,fs,[],rfl,hx.mono s12,wf,k2 _ _ ed,zab,fun f hf=>(gd f hf).2,(fun _ z=>nomatch z),ap,wQ,by omega,qZ _,fun v H2 s2 res=>q v H2 (s12.trans s2) (res.any s12)⟩
theorem zhQ:zav ["works","faults","others"] ["works","faults","others"] (zak zcU):=⟨rfl,rfl,rfl,by decide+kernel,rfl,by decide+kernel,by decide+kernel⟩
theorem zif (T:Txt K mg t):FnOk P w K mg base CX0 6 t.f_parted_at t.fd_parted_at ["works","faults","others"] (sp_paT K):=by
 refine T.d_parted_at.F.okB zhQ (fun vs H Q E h=>?_) (fun cdv A outer s H vs Q E hr h=>?_)
 ·obtain ⟨x,y,z,w,fs,gs,rfl,_⟩:=h
  rfl
 obtain ⟨x,y,z,w,fs,gs,rfl,hx,wf,hy,gf,af,lf,hz,gg,ag,lg,q⟩:=h
 refine ⟨_,(zaf (zar (zal (zdi T) (hr.mono (by decide)) rfl T.d_first_unlike.m T.d_first_unlike.F.kp T.d_first_unlike.b .nil zaC (zaa (bpv 0) (zaa (zal (zcj T) (hr.mono (by decide)) rfl T.d_stuck_places.m T.d_stuck_places.F.kp T.d_stuck_places.b .nil zaC (zaa (bpv 0) (zaa (bpv 1) (zac)))) (zaa (zal (zcj T) (hr.mono (by decide)) rfl T.d_stuck_places.m T.d_stuck_places.F.kp T.d_stuck_places.b .nil zaC (zaa (bpv 0) (zaa (bpv 2) (zac)))) (zac))))))),?_⟩
 refine ⟨_,rfl,_,rfl,_,rfl,x,y,w,fs,rfl,hx,wf,hy,gf,af,lf,fun d H1 s1 nd ed=>?_⟩
 refine ⟨_,rfl,_,rfl,x,z,w,gs,rfl,hx.mono s1,wf,hz.mono s1,gg,ag,lg,fun e H2 s2 ne ee=>?_⟩
 have s12:=s1.trans s2
 exact ⟨x,d,e,w,fs,gs,rfl,hx.mono s12,wf,s2 _ _ ed,ee,fun f hf=>(gf f hf).2,fun f hf=>(gg f hf).2,af,ag,lf,lg,fun v H3 s3 ro=>q v H3 (s12.trans s3) (ro.any s12)⟩
theorem ze1:zav ["self"] ["self"] (zak zbG):=⟨rfl,rfl,rfl,by decide+kernel,rfl,by decide+kernel,by decide+kernel⟩
theorem ze5 (T:Txt K mg t):FnOk P w K mg base CX0 1 t.f_Desk___init__ t.fd_Desk___init__ ["self"] (zoz t.x_Desk):=by
 refine T.d_Desk___init__.F.okB ze1 (fun vs H Q E h=>?_) (fun cdv A outer s H vs Q E hr h=>?_)
 ·obtain ⟨x,dx,rfl,_⟩:=h
  rfl
 obtain ⟨x,dx,rfl,hx,q⟩:=h
 refine ⟨_,(zad (zho (bpv 0) (zaD zac) rfl)
  (zaf (zho (bpv 0) (zaD zac) rfl))),?_⟩
 refine ⟨qZ _,fun r hr0=>?_⟩
 have xr:x≠r:=zai hx hr0
 refine ⟨_,rfl,x,_,dx,_,rfl,by rw [zah xr];exact hx,T.cl_Desk,T.na_rows,(by show 0 < 1000;decide),?_⟩
 refine ⟨qZ _,fun a ha=>?_⟩
 have xa:x≠a:=zai zab ha
 have ra:r≠a:=zai (by rw [zah (qX xr),zab]) ha
 refine ⟨_,rfl,x,_,dx,_,rfl,by rw [zah xa,zab],T.cl_Desk,T.na_answers,(by show 1 < 1000;decide),?_⟩
 refine q _ (fun b o nb e=>?_) ⟨dx,r,a,by rw [zab];rfl,by rw [zah (qX xr),zah ra,zah (qX xr),zab];rfl⟩
 have br:b≠r:=zai e hr0
 have ba:b≠a:=zai (by rw [zah nb,zah br];exact e) ha
 rw [zah nb,zah ba,zah nb,zah br]
 exact e
theorem zcB:zav ["self","rows","count"] ["self","rows"] (zak zbs):=⟨rfl,rfl,rfl,by decide+kernel,rfl,by decide+kernel,by decide+kernel⟩
theorem zey (T:Txt K mg t):FnOk P w K mg base CX0 1 t.f_Desk_keep_rows t.fd_Desk_keep_rows ["self","rows"] (zoV t.x_Desk):=by
 refine T.d_Desk_keep_rows.F.okB zcB (fun vs H Q E h=>?_) (fun cdv A outer s H vs Q E hr h=>?_)
 ·obtain ⟨d,dx,r,v1,v2,zs,rfl,_⟩:=h
  rfl
 obtain ⟨d,dx,r,v1,v2,zs,rfl,hd,hr0,hz,q⟩:=h
 have dr:d≠r:=zh3 hd hr0 (by intro z;cases z)
 refine ⟨_,(zad (zho (bpv 0) (bpv 1) rfl)
  (zad (zho (bpv 0) (zaD zac) rfl)
  (zad (zam (k:=2) zcB.nd rfl (Or.inl rfl) (zat zau rfl T.z_len qQ (zaa (bpv 1) (zac))))
  (zaf (zar (zm0 (bpv 2))))))),?_⟩
 refine ⟨_,rfl,_,rfl,d,_,dx,_,rfl,hd,T.cl_Desk,T.na_rows,(by show 2 < 1000;decide),?_⟩
 refine ⟨qZ _,fun a ha=>?_⟩
 have da:d≠a:=zai zab ha
 have ra:r≠a:=zai (by rw [zah (qX dr)];exact hr0) ha
 refine ⟨_,rfl,d,_,dx,_,rfl,by rw [zah da,zab],T.cl_Desk,T.na_answers,(by show 2 < 1000;decide),?_⟩
 have er:(upd (upd (upd H d (.ins t.x_Desk dx (putF "rows" (.ref r) [("rows",v1),("answers",v2)]))) a (.lst [])) d (.ins t.x_Desk dx (putF "answers" (.ref a) (putF "rows" (.ref r) [("rows",v1),("answers",v2)])))) r=some (.lst (zs.map V.str)):=by
  rw [zah (qX dr),zah ra,zah (qX dr)]
  exact hr0
 refine ⟨_,rfl,r,_,rfl,.inl (.of er),?_⟩
 refine ⟨_,rfl,_,rfl,zgU (by rw [yA];exact hz),?_,?_⟩
 ·have:=zeH hz
  rw [yA]
  exact jA this (by decide)
 rw [yA]
 refine q _ (fun b o nb e=>?_) ⟨dx,r,a,by rw [zab];rfl,er⟩
 have ba:b≠a:=zai (by rw [zah nb];exact e) ha
 rw [zah nb,zah ba,zah nb]
 exact e
theorem zng:zav ["worths"] ["worths"] (zak zhk):=⟨rfl,rfl,rfl,by decide+kernel,rfl,by decide+kernel,by decide+kernel⟩
theorem zmz (T:Txt K mg t):FnOk P w K mg base CX0 1 t.f_shown t.fd_shown ["worths"] (znR K):=by
 refine T.d_shown.F.okB zng (fun vs H Q E h=>?_) (fun cdv A outer s H vs Q E hr h=>?_)
 ·obtain ⟨p,ns,rfl,_⟩:=h
  rfl
 obtain ⟨p,ns,rfl,hp,hb,hn,q⟩:=h
 refine ⟨_,(zaf (zar (zbm qU xF xG zdA zaj (zaa (zaQ rfl (N:=["worth"]) (n:=1) (cap:=[]) (za7 rfl rfl) (zaM (bpv 0)) (zaG (by decide)) (fun _ _ _ _=>(zan (k:=0) (show (["worth"]:List Str).Nodup by decide+kernel) rfl (Or.inl rfl))) (fun _ _ _ _=>zaK) (fun _ _ _ _=>(zaz za6 rfl T.z_str jH (zaa (bpv 0) (zac))))) (zac))))),?_⟩
 refine ⟨rfl,_,rfl,p,rfl,⟨_,hp⟩,fun D hD=>zaV (K:=K) (a:=p) (xs:=ns.map V.int)
  (fun j H4=>Same H H4∧H4 D=some (.lst (((ns.take j).map numS).map V.str))) ⟨zag hD _,zab⟩ (fun j H4 _ z=>z.1.seq hp) ?_ ?_⟩
 ·rintro j y H4 hy ⟨s4,eD⟩
  rw [yL] at hy
  cases hz:ns[j]? with
  | none=>rw [hz] at hy;cases hy
  | some n=>
   rw [hz] at hy
   cases hy
   have hn1:n.natAbs.log2 < 1920:=by
    rcases hb n (yR hz) with rfl | rfl <;> decide
   refine ⟨_,rfl,n,rfl,hn1,_,eD,big (by rw [yA,yA,yW];omega),s4.write hD _,?_⟩
   rw [zab,yT,hz,yM,yM]
   rfl
 rintro H4 ⟨s4,eD⟩
 rw [yA,qF] at eD
 refine ⟨_,D,ns.map numS,rfl,rfl,eD,?_,?_⟩
 ·have hs:=zeY (g:=fun z:Str=>z.length) (k:=1) (l:=ns.map numS) fun z hz=>by
   obtain ⟨n,hn,rfl⟩:=qE.mp hz
   rw [zg4 (hb n hn)]
   exact yJ _
  rw [yA] at hs ⊢
  rw [zl2]
  show _+ns.length * 0≤100000
  omega
 ·rw [zjy hb]
  exact q _ s4
theorem zgc:zav ["worths"] ["worths"] (zak zcb):=⟨rfl,rfl,rfl,by decide+kernel,rfl,by decide+kernel,by decide+kernel⟩
theorem zgg (T:Txt K mg t):FnOk P w K mg base CX0 1 t.f_law_figures t.fd_law_figures ["worths"] (znR K):=by
 refine T.d_law_figures.F.okB zgc (fun vs H Q E h=>?_) (fun cdv A outer s H vs Q E hr h=>?_)
 ·obtain ⟨p,ns,rfl,_⟩:=h
  rfl
 obtain ⟨p,ns,rfl,hp,hb,hn,q⟩:=h
 refine ⟨_,(zaf (zar (zbm qU xF xG zdA zaj (zaa (zaQ rfl (N:=["worth"]) (n:=1) (cap:=[]) (za7 rfl rfl) (zaM (bpv 0)) (zaG (by decide)) (fun _ _ _ _=>(zan (k:=0) (show (["worth"]:List Str).Nodup by decide+kernel) rfl (Or.inl rfl))) (fun _ _ _ _=>zaK) (fun _ _ _ _=>(zaz za6 rfl T.z_str jH (zaa (bpv 0) (zac))))) (zac))))),?_⟩
 refine ⟨rfl,_,rfl,p,rfl,⟨_,hp⟩,fun D hD=>zaV (K:=K) (a:=p) (xs:=ns.map V.int)
  (fun j H4=>Same H H4∧H4 D=some (.lst (((ns.take j).map numS).map V.str))) ⟨zag hD _,zab⟩ (fun j H4 _ z=>z.1.seq hp) ?_ ?_⟩
 ·rintro j y H4 hy ⟨s4,eD⟩
  rw [yL] at hy
  cases hz:ns[j]? with
  | none=>rw [hz] at hy;cases hy
  | some n=>
   rw [hz] at hy
   cases hy
   have hn1:n.natAbs.log2 < 1920:=by
    rcases hb n (yR hz) with rfl | rfl <;> decide
   refine ⟨_,rfl,n,rfl,hn1,_,eD,big (by rw [yA,yA,yW];omega),s4.write hD _,?_⟩
   rw [zab,yT,hz,yM,yM]
   rfl
 rintro H4 ⟨s4,eD⟩
 rw [yA,qF] at eD
 refine ⟨_,D,ns.map numS,rfl,rfl,eD,?_,?_⟩
 ·have hs:=zeY (g:=fun z:Str=>z.length) (k:=1) (l:=ns.map numS) fun z hz=>by
   obtain ⟨n,hn,rfl⟩:=qE.mp hz
   rw [zg4 (hb n hn)]
   exact yJ _
  rw [yA] at hs ⊢
  rw [zl2]
  show _+ns.length * 0≤100000
  omega
 ·rw [zjy hb]
  exact q _ s4
theorem ze0:zav ["text","between","parts"] ["text","between"] (zak zcX):=⟨rfl,rfl,rfl,by decide+kernel,rfl,by decide+kernel,by decide+kernel⟩
theorem ziw (T:Txt K mg t):FnOk P w K mg base CX0 1 t.f_two_parts t.fd_two_parts ["text","between"] sp_two:=by
 refine T.d_two_parts.F.okB ze0 (fun vs H Q E h=>?_) (fun cdv A outer s H vs Q E hr h=>?_)
 ·obtain ⟨z,a,b,rfl,_⟩:=h
  rfl
 obtain ⟨z,a,b,rfl,ez,ha,hb,asc,lz,q⟩:=h
 have el:z.length=a.length+2+b.length:=by
  have:z.cps.toList.length=z.length:=yY
  rw [← this,ez]
  simp
  omega
 refine ⟨_,(zad (zam (k:=2) ze0.nd rfl (Or.inl rfl) (zbm qU vK vL zji (bpv 0) (zaa (bpv 1) (zac))))
  (zad (zaA (zap zhl (zat zau rfl T.z_len qQ (zaa (bpv 2) (zac))) zae (zay _)) (zaf zci) zas)
  (zaf (zar (bpv 2))))),?_⟩
 refine ⟨_,rfl,rfl,_,rfl,z,_,rfl,rfl,?_,by rw [zk8];rfl,by omega,fun D hD=>?_⟩
 ·rw [zk8]
  have h1:decide (z.length < (⟨#[44,32]⟩:Str).length)=false:=decide_eq_false (by show ¬z.length < 2;omega)
  have h2: 1≤xA z:=by
   unfold xA
   repeat' split
   all_goals decide
  have h3:xA ⟨#[44,32]⟩=1:=by decide+kernel
  rw [h1,h3,Bool.false_or]
  exact decide_eq_false (by omega)
 rw [zk8,zl9 ez ha hb (by decide)]
 have kD:=zag hD (.lst ([(⟨a.toArray⟩:Str),⟨b.toArray⟩].map V.str))
 refine ⟨_,rfl,D,_,rfl,.inl (.of zab),rfl,_,rfl,?_⟩
 refine PySem.W.ite_neg (zi9 rfl) ?_
 exact ⟨_,rfl,q D _ kD zab⟩
theorem zge:zav ["word","text"] ["word","text"] (zak zb9):=⟨rfl,rfl,rfl,by decide+kernel,rfl,by decide+kernel,by decide+kernel⟩
theorem zgb (T:Txt K mg t):FnOk P w K mg base CX0 4 t.f_read_things t.fd_read_things ["word","text"] sp_rth:=by
 refine T.d_read_things.F.okB zge (fun vs H Q E h=>?_) (fun cdv A outer s H vs Q E hr h=>?_)
 ·obtain ⟨o,rfl,_⟩:=h
  rfl
 obtain ⟨o,rfl,ok,q⟩:=h
 refine ⟨_,(zad (zaA (zap zbp (bpv 0) zaj (zay _)) (zaf (zar (zaP (zaa (bpv 1) (zac))))) zas)
  (zad (zaA (zap zbp (bpv 0) zaj (zay _)) (zaf zbM) zas)
  (zad (zaA (zap zbp (bpv 0) zaj (zay _)) (zaf zbM) zas)
  (zad (zaA (zap zbp (bpv 0) zaj (zay _)) (zaf (zar (zaP (zaa (zal (zd9 T) (hr.mono (by decide)) rfl T.d_read_fault.m T.d_read_fault.F.kp T.d_read_fault.b .nil zaC (zaa (bpv 1) (zac))) (zac))))) zas)
  (zad (zaA (zap zbp (bpv 0) zaj (zay _)) (zaf (zar (zaz zcQ rfl T.z_tuple wK (zaa (zaQ rfl (N:=["part"]) (n:=1) (cap:=[]) (za7 rfl rfl) (zaM (zal (ziw T) (hr.mono (by decide)) rfl T.d_two_parts.m T.d_two_parts.F.kp T.d_two_parts.b .nil zaC (zaa (bpv 1) (zaa zaj (zac))))) (zaG (by decide)) (fun _ _ _ _=>(zan (k:=0) (show (["part"]:List Str).Nodup by decide+kernel) rfl (Or.inl rfl))) (fun _ _ _ _=>zaK) (fun _ _ _ _=>(zal (zd9 T) (hr.mono (by decide)) rfl T.d_read_fault.m T.d_read_fault.F.kp T.d_read_fault.b .nil zaC (zaa (bpv 0) (zac))))) (zac))))) zas)
  (zaf zci)))))),?_⟩
 cases o with
 | put u=>
  refine ⟨_,rfl,rfl,_,rfl,?_⟩
  refine PySem.W.ite_pos (decide_eq_true rfl) ?_
  refine ⟨_,rfl,(by show 1≤yH;decide),fun D hD=>?_⟩
  exact q D _ _ (zag hD _) zab rfl
 | test f=>
  refine ⟨_,rfl,rfl,_,rfl,?_⟩
  refine PySem.W.ite_neg (by show ¬(decide (V.str (yB "test")=V.str (yB "put"))=true);decide+kernel) ?_
  refine ⟨_,rfl,rfl,_,rfl,?_⟩
  refine PySem.W.ite_neg (by show ¬(decide (V.str (yB "test")=V.str (yB "run"))=true);decide+kernel) ?_
  refine ⟨_,rfl,rfl,_,rfl,?_⟩
  refine PySem.W.ite_neg (by show ¬(decide (V.str (yB "test")=V.str (yB "seen"))=true);decide+kernel) ?_
  refine ⟨_,rfl,rfl,_,rfl,?_⟩
  refine PySem.W.ite_pos (decide_eq_true rfl) ?_
  refine ⟨_,rfl,f,rfl,ok,fun r H1 s1 e1=>?_⟩
  refine ⟨(by show 1≤yH;decide),fun D hD=>?_⟩
  exact q D _ _ (s1.trans (zag hD _)) zab ⟨r,rfl,by rw [zah (zai e1 hD)];exact e1⟩
 | alike f g=>
  refine ⟨_,rfl,rfl,_,rfl,?_⟩
  refine PySem.W.ite_neg (by show ¬(decide (V.str (yB "alike")=V.str (yB "put"))=true);decide+kernel) ?_
  refine ⟨_,rfl,rfl,_,rfl,?_⟩
  refine PySem.W.ite_neg (by show ¬(decide (V.str (yB "alike")=V.str (yB "run"))=true);decide+kernel) ?_
  refine ⟨_,rfl,rfl,_,rfl,?_⟩
  refine PySem.W.ite_neg (by show ¬(decide (V.str (yB "alike")=V.str (yB "seen"))=true);decide+kernel) ?_
  refine ⟨_,rfl,rfl,_,rfl,?_⟩
  refine PySem.W.ite_neg (by show ¬(decide (V.str (yB "alike")=V.str (yB "test"))=true);decide+kernel) ?_
  refine ⟨_,rfl,rfl,_,rfl,?_⟩
  refine PySem.W.ite_pos (decide_eq_true rfl) ?_
  refine ⟨_,rfl,_,_,_,rfl,zlB f g,fun h=>(zbw ok.1 44 h).2.2 rfl,fun h=>(zbw ok.2 44 h).2.2 rfl,fun c hc=>?_,by have:=(Ord.restL (o:=.alike f g) ok).2;show (Ord.alike f g).rest.length≤1000;omega,fun L H1 s1 e1=>?_⟩
  ·change c∈(Ord.alike f g).rest.cps.toList at hc
   rw [zlB] at hc
   rcases yS.mp hc with h | h
   ·exact (zbw ok.1 c h).2.1
   ·rcases yN.mp h with rfl | h
    ·decide
    ·rcases yN.mp h with rfl | h
     ·decide
     ·exact (zbw ok.2 c h).2.1
  rw [show (⟨(txtF f).cps.toList.toArray⟩:Str)=txtF f from (zdl rfl).symm,show (⟨(txtF g).cps.toList.toArray⟩:Str)=txtF g from (zdl rfl).symm] at e1
  refine ⟨L,rfl,⟨_,.of e1⟩,fun D hD=>zaV (K:=K) (a:=L) (xs:=[.str (txtF f),.str (txtF g)])
   (fun j H4=>Same H1 H4∧∃ xs:List V,H4 D=some (.lst xs)∧xs.length=j∧(∀ x,xs[0]? =some x→∃ r,x= .ref r∧H4 r=some (fltO f))∧∀ x,xs[1]? =some x→∃ r,x= .ref r∧H4 r=some (fltO g))
   ⟨zag hD _,[],zab,rfl,fun x h=>(nomatch h),fun x h=>(nomatch h)⟩ (fun j H4 _ z=>.of (z.1 _ _ e1)) ?_ ?_⟩
  ·rintro j y H4 hy ⟨s4,xs,eD,lx,x0,x1⟩
   have keepR:∀ {H5:Hp} {r:Addr} {ff:Flt} (s5:Same H4 H5) (xs':List V),H4 r=some (fltO ff)→(upd H5 D (.lst xs')) r=some (fltO ff):=fun {H5 r ff} s5 xs' e=>by
    rw [zah (fun z=>by rw [z,eD] at e;cases e)]
    exact s5 _ _ e
   rcases j with _ | _ | j
   ·cases hy
    refine ⟨_,rfl,f,rfl,ok.1,fun r H5 s5 e5=>?_⟩
    have rD:r≠D:=fun z=>by rw [z,s5 _ _ eD] at e5;cases e5
    refine ⟨xs,s5 _ _ eD,big (by omega),(s4.trans s5).write hD _,_,zab,by rw [yI,lx];rfl,fun x hx=>?_,fun x hx=>?_⟩
    ·have:xs= []:=jT.mp lx
     rw [this] at hx
     cases hx
     exact ⟨r,rfl,by rw [zah rD];exact e5⟩
    ·have:xs= []:=jT.mp lx
     rw [this] at hx
     cases hx
   ·cases hy
    refine ⟨_,rfl,g,rfl,ok.2,fun r H5 s5 e5=>?_⟩
    have rD:r≠D:=fun z=>by rw [z,s5 _ _ eD] at e5;cases e5
    refine ⟨xs,s5 _ _ eD,big (by omega),(s4.trans s5).write hD _,_,zab,by rw [yI,lx];rfl,fun x hx=>?_,fun x hx=>?_⟩
    ·rw [jJ (by omega)] at hx
     obtain ⟨r0,e0,h0⟩:=x0 x hx
     exact ⟨r0,e0,keepR s5 _ h0⟩
    ·rw [jD (by omega),lx] at hx
     cases hx
     exact ⟨r,rfl,by rw [zah rD];exact e5⟩
   ·cases hy
  rintro H4 ⟨s4,xs,eD,lx,x0,x1⟩
  obtain ⟨a,b,rfl⟩:∃ a b,xs= [a,b]:=by
   match xs,lx with
   | [a,b],_=>exact ⟨a,b,rfl⟩
  obtain ⟨r,rfl,hr0⟩:=x0 a rfl
  obtain ⟨r2,rfl,hr2⟩:=x1 b rfl
  refine ⟨D,_,rfl,.inl ⟨.of eD,fun t3 h3=>?_⟩⟩
  have k3:=zag h3 (.tup [.ref r,.ref r2])
  exact q t3 _ _ ((s1.trans s4).trans k3) zab ⟨r,r2,rfl,k3 _ _ hr0,k3 _ _ hr2⟩
theorem zd6:zav ["row","parts"] ["row"] (zak zcu):=⟨rfl,rfl,rfl,by decide+kernel,rfl,by decide+kernel,by decide+kernel⟩
theorem zhj (T:Txt K mg t):FnOk P w K mg base CX0 5 t.f_read_order t.fd_read_order ["row"] sp_rdo:=by
 refine T.d_read_order.F.okB zd6 (fun vs H Q E h=>?_) (fun cdv A outer s H vs Q E hr h=>?_)
 ·obtain ⟨o,rfl,_⟩:=h
  rfl
 obtain ⟨o,rfl,ok,q⟩:=h
 refine ⟨_,(zad (zaA (zdR (zgB (zc3 (zd0 (zat zjK rfl T.z_isinstance qV (zaa (bpv 0) (zaa (zhr (v:=.ty "str") rfl T.z_str jH rfl) (zac)))))) (zeK (zap zlX zaj (bpv 0) rfl)))) (zaf zci) zas)
  (zad (zaA (zap zf1 (bpv 0) (zbD (v:=.ref t.c_WORDS_ALONE) rfl T.g_WORDS_ALONE rfl) rfl) (zaf zbM) zas)
  (zad (zam (k:=1) zd6.nd rfl (Or.inl rfl) (zbm qU PySem.F.slot_str_partition PySem.F.type_str_partition zmM (bpv 0) (zaa zaj (zac))))
  (zad (zaA (zap zbp (zaq zax (bpv 1) zae (fun _ _=>rfl)) zaj (zay _)) (zaf zci) zas)
  (zaf (zar (zao zhx (zaP (zaa (zaq zax (bpv 1) zae (fun _ _=>rfl)) (zac))) (zal (zgb T) (hr.mono (by decide)) rfl T.d_read_things.m T.d_read_things.F.kp T.d_read_things.b .nil zaC (zaa (zaq zax (bpv 1) zae (fun _ _=>rfl)) (zaa (zaq zax (bpv 1) zae (fun _ _=>rfl)) (zac))))))))))),?_⟩
 have sl:yH=16777216:=by decide
 obtain ⟨w32,w10,w5⟩:=o.wordL
 obtain ⟨r10,r600⟩:=Ord.restL ok
 have tL:=o.textL
 have nf: 10∉o.text.cps.toList:=by
  rw [tL]
  intro z
  rcases yS.mp z with z | z
  ·exact w10 z
  ·rcases yN.mp z with z | z
   ·cases z
   ·exact r10 z
 have ll:o.text.length≤yH:=by
  have e:o.text.length=o.text.cps.toList.length:=yY.symm
  have e1:o.word.cps.toList.length=o.word.length:=yY
  have e2:o.rest.cps.toList.length=o.rest.length:=yY
  rw [e,tL,yI,yO]
  omega
 have hb: 32∈o.text.cps.toList:=by rw [tL];exact qA _ (.head _)
 refine ⟨_,rfl,_,_,_,_,rfl,.of (.str _),rfl,_,rfl,?_⟩
 refine PySem.W.ite_neg (by decide) ?_
 refine ⟨_,rfl,_,_,rfl,rfl,_,rfl,?_⟩
 rw [zn2 nf]
 refine PySem.W.ite_neg (by decide) ?_
 refine ⟨_,rfl,_,zof.map V.str,rfl,.inr (T.k_WORDS_ALONE.sq (by decide)),rfl,rfl,_,rfl,?_⟩
 refine PySem.W.ite_neg (by rw [zmF hb];decide) ?_
 refine ⟨_,rfl,rfl,_,_,32,rfl,rfl,znF,ll,fun a b e na D hD=>?_,fun z=>absurd hb z⟩
 obtain ⟨rfl,rfl⟩:=zjS (tL.symm.trans e) w32 na
 rw [show (⟨o.word.cps.toList.toArray⟩:Str)=o.word from (zdl rfl).symm,show (⟨o.rest.cps.toList.toArray⟩:Str)=o.rest from (zdl rfl).symm]
 have kD:=zag hD (.tup [.str o.word,.str (yB " "),.str o.rest])
 have eD:SqT K (upd H D (.tup [.str o.word,.str (yB " "),.str o.rest])) D [.str o.word,.str (yB " "),.str o.rest]:=.of zab
 generalize upd H D (.tup [.str o.word,.str (yB " "),.str o.rest])=H1 at kD eD
 refine ⟨_,rfl,D,_,_,_,rfl,rfl,eD,rfl,rfl,_,rfl,?_⟩
 refine PySem.W.ite_neg (by decide+kernel) ?_
 refine ⟨_,rfl,D,_,_,_,rfl,rfl,eD,rfl,(by show 1≤yH;decide),fun F hF=>?_⟩
 have kF:=zag hF (.tup [.str o.word])
 refine ⟨_,rfl,D,_,_,_,rfl,rfl,kF.seqT eD,rfl,_,rfl,D,_,_,_,rfl,rfl,kF.seqT eD,rfl,?_⟩
 refine ⟨o,rfl,ok,fun G ys H2 s2 e2 th=>?_⟩
 have eF:H2 F=some (.tup [.str o.word]):=s2 _ _ zab
 obtain ⟨l1,l2⟩:=th.len
 refine ⟨F,G,_,_,rfl,rfl,.of eF,.of e2,(fun z=>by cases z),(by show 1+ys.length≤yH;omega),fun z=>(by rw [z] at l1;cases l1),fun _ R hR=>?_⟩
 have kR:=zag hR (.tup ([.str o.word]++ys))
 exact q R _ (((kD.trans kF).trans s2).trans kR) ⟨ys,zab,th.on kR⟩
theorem ziF:zav ["row","word"] ["row","word"] (zak zdD):=⟨rfl,rfl,rfl,by decide+kernel,rfl,by decide+kernel,by decide+kernel⟩
theorem zfr (T:Txt K mg t):FnOk P w K mg base CX0 2 t.f_shown_or t.fd_shown_or ["row","word"] (sp_sor K):=by
 refine T.d_shown_or.F.okB ziF (fun vs H Q E h=>?_) (fun cdv A outer s H vs Q E hr h=>?_)
 ·obtain ⟨v,u,o,rfl,_⟩:=h
  rfl
 obtain ⟨v,u,o,rfl,hb,hv,q⟩:=h
 refine ⟨_,(zaf (zar (zfT (ziL (zhh (bpv 0))) (bpv 1) (zal (zmz T) (hr.mono (by decide)) rfl T.d_shown.m T.d_shown.F.kp T.d_shown.b .nil zaC (zaa (bpv 0) (zac)))))),?_⟩
 cases o with
 | none=>
  obtain rfl:v= .non:=hv
  refine ⟨_,rfl,_,rfl,?_⟩
  refine PySem.W.ite_pos (decide_eq_true rfl) ?_
  exact ⟨_,rfl,q _ (Same.refl _)⟩
 | some row=>
  obtain ⟨p,rfl,hp⟩:=hv
  obtain ⟨b,l⟩:=hb row rfl
  refine ⟨_,rfl,_,rfl,?_⟩
  refine PySem.W.ite_neg (fun z=>by cases of_decide_eq_true z) ?_
  exact ⟨_,rfl,p,row,rfl,.of hp,b,l,q⟩
theorem zgJ:zav ["works","order","word"] ["works","order"] (zak zd8):=⟨rfl,rfl,rfl,by decide+kernel,rfl,by decide+kernel,by decide+kernel⟩
theorem zkl (T:Txt K mg t):FnOk P w K mg base CX0 7 t.f_told_of t.fd_told_of ["works","order"] (sp_tof K):=by
 refine T.d_told_of.F.okB zgJ (fun vs H Q E h=>?_) (fun cdv A outer s H vs Q E hr h=>?_)
 ·obtain ⟨x,D,w,o,rfl,_⟩:=h
  rfl
 obtain ⟨x,D,w,o,rfl,hx,wf,⟨ys,hD,th⟩,aw,q⟩:=h
 have sl:yH=16777216:=by decide
 have i6:=wf.i6
 have bitsU:∀ {fs gs:List Flt} {row:List Int},zbe w fs gs=some row→Bits row∧row.length≤100:=fun e=>by
  obtain ⟨l,b⟩:=zj4 e
  exact ⟨b,by omega⟩
 have repF:∀ {H1:Hp} {r L:Addr} {f:Flt},H1 r=some (fltO f)→H1 L=some (.lst [.ref r])→Rep K H1 (.ref L) (.list ([f].map fltD)):=fun h1 h2=>.lst (.of h2) (.cons (zox (.of h1)) .nil)
 have one:∀ {f:Flt},zdt w f→(∀ x∈[f],zdt w x)∧zdP [f]:=fun g=>⟨fun x hx=>by rw [yK.mp hx];exact g,by unfold zdP;simp⟩
 have rowIs:∀ {H1 H2:Hp} {o:Option (List Int)} {v:V},zgS H1 H2 o v→(match o with | none=>v= .non | some row=>∃ q,v= .ref q∧H2 q=some (.lst (row.map V.int))):=fun {H1 H2 o v} r=>by
  unfold zgS at r
  cases o with
  | none=>exact r
  | some row=>obtain ⟨p,a,_,c⟩:=r;exact ⟨p,a,c⟩
 refine ⟨_,(zad (zam (k:=2) zgJ.nd rfl (Or.inl rfl) (zaq zax (bpv 1) zae (fun _ _=>rfl)))
  (zad (zaA (zap zbp (bpv 2) zaj (zay _)) (zaf zbM) zas)
  (zad (zaA (zap zbp (bpv 2) zaj (zay _)) (zaf (zar (zal (zfr T) (hr.mono (by decide)) rfl T.d_shown_or.m T.d_shown_or.F.kp T.d_shown_or.b .nil zaC (zaa (zal (zhu T) (hr.mono (by decide)) rfl T.d_first_test.m T.d_first_test.F.kp T.d_first_test.b .nil zaC (zaa (bpv 0) (zaa (zaD (zaa (zaq zax (bpv 1) zae (fun _ _=>rfl)) (zac))) (zac)))) (zaa zaj (zac)))))) zas)
  (zad (zaA (zap zbp (bpv 2) zaj (zay _)) (zaf (zar (zal (zfr T) (hr.mono (by decide)) rfl T.d_shown_or.m T.d_shown_or.F.kp T.d_shown_or.b .nil zaC (zaa (zal (zif T) (hr.mono (by decide)) rfl T.d_parted_at.m T.d_parted_at.F.kp T.d_parted_at.b .nil zaC (zaa (bpv 0) (zaa (zaD (zaa (zaq zax (bpv 1) zae (fun _ _=>rfl)) (zac))) (zaa (zaD (zaa (zaq zax (bpv 1) zae (fun _ _=>rfl)) (zac))) (zac))))) (zaa zaj (zac)))))) zas)
  (zad (zaA (zap zbp (bpv 2) zaj (zay _)) (zaf zbM) zas)
  (zaf zbM)))))),?_⟩
 cases o with
 | put u=>exact aw.elim
 | test f=>
  obtain ⟨r,rfl,hr0⟩:=th
  refine ⟨_,rfl,D,_,_,_,rfl,rfl,.of hD,rfl,_,rfl,rfl,_,rfl,?_⟩
  refine PySem.W.ite_neg (by show ¬(decide (V.str (yB "test")=V.str (yB "run"))=true);decide+kernel) ?_
  refine ⟨_,rfl,rfl,_,rfl,?_⟩
  refine PySem.W.ite_pos (decide_eq_true rfl) ?_
  refine ⟨_,rfl,_,rfl,D,_,_,_,rfl,rfl,.of hD,rfl,(by show 1≤yH;decide),fun L hL=>?_⟩
  have kL:=zag hL (.lst [.ref r])
  refine ⟨_,_,w,[f],rfl,hx.mono kL,wf,repF (kL _ _ hr0) zab,(one aw).1,(one aw).2,by show 1≤1000;decide,fun v H1 s1 ro=>?_⟩
  exact ⟨v,_,_,rfl,fun row e=>bitsU e,rowIs ro,fun H2 s2=>q H2 ((kL.trans s1).trans s2)⟩
 | alike f g=>
  obtain ⟨r,r2,rfl,hr0,hr2⟩:=th
  refine ⟨_,rfl,D,_,_,_,rfl,rfl,.of hD,rfl,_,rfl,rfl,_,rfl,?_⟩
  refine PySem.W.ite_neg (by show ¬(decide (V.str (yB "alike")=V.str (yB "run"))=true);decide+kernel) ?_
  refine ⟨_,rfl,rfl,_,rfl,?_⟩
  refine PySem.W.ite_neg (by show ¬(decide (V.str (yB "alike")=V.str (yB "test"))=true);decide+kernel) ?_
  refine ⟨_,rfl,rfl,_,rfl,?_⟩
  refine PySem.W.ite_pos (decide_eq_true rfl) ?_
  refine ⟨_,rfl,_,rfl,D,_,_,_,rfl,rfl,.of hD,rfl,(by show 1≤yH;decide),fun L hL=>?_⟩
  have kL:=zag hL (.lst [.ref r])
  have eL:=zec (o:=.lst [.ref r]) hL
  refine ⟨_,rfl,D,_,_,_,rfl,rfl,.of (kL _ _ hD),rfl,(by show 1≤yH;decide),fun M hM=>?_⟩
  have kM:=zag hM (.lst [.ref r2])
  have kLM:=kL.trans kM
  refine ⟨_,_,_,w,[f],[g],rfl,hx.mono kLM,wf,repF (kLM _ _ hr0) (kM _ _ eL),(one aw.1).1,(one aw.1).2,by show 1≤1000;decide,repF (kLM _ _ hr2) zab,(one aw.2).1,(one aw.2).2,by show 1≤1000;decide,fun v H1 s1 ro=>?_⟩
  exact ⟨v,_,_,rfl,fun row e=>bitsU e,rowIs ro,fun H2 s2=>q H2 ((kLM.trans s1).trans s2)⟩
theorem zcR:zav ["self","row","order","word","works"] ["self","row"] (zak zdB):=⟨rfl,rfl,rfl,by decide+kernel,rfl,by decide+kernel,by decide+kernel⟩
theorem zhG (T:Txt K mg t):FnOk P w K mg base (CXC P w (.ref t.x_NoText)) 8 t.f_Desk_say t.fd_Desk_say ["self","row"] (sp_say t.x_Desk):=by
 refine T.d_Desk_say.F.okC zcR (fun vs H Q E h=>?_) (fun cdv A outer s H vs Q E hr h=>?_)
 ·obtain ⟨d,o,zs,rfl,_⟩:=h
  rfl
 obtain ⟨d,o,zs,rfl,ok,⟨dx,r,a,hd,hr0⟩,hz,q⟩:=h
 have sl:yH=16777216:=by decide
 refine ⟨_,(zad (zam (k:=2) zcR.nd rfl (Or.inl rfl) (zal (zhj T) (hr.mono (by decide)) rfl T.d_read_order.m T.d_read_order.F.kp T.d_read_order.b .nil zaC (zaa (bpv 1) (zac))))
  (zad (zam (k:=3) zcR.nd rfl (Or.inl rfl) (zaq zax (bpv 2) zae (fun _ _=>rfl)))
  (zad (zaA (zap zbp (bpv 3) zaj (zay _)) (zaf (zar (zmJ (bpv 0) T.cl_Desk T.d_Desk_keep_rows.m (zey T) (hr.mono (by decide)) T.d_Desk_keep_rows.b .nil zaC (zaa (zao zeW (zlb (bpv 0) rfl) (zaD (zaa (zaq zax (bpv 2) zae (fun _ _=>rfl)) (zac)))) (zac))))) zas)
  (zad (zaA (zap zbp (bpv 3) zaj (zay _)) (zaf zbM) zas)
  (zad (zam (k:=4) zcR.nd rfl (Or.inl rfl) (zal (zf4 T) (hr.mono (by decide)) rfl T.d_read_works.m T.d_read_works.F.kp T.d_read_works.b .nil zo1 (zaa (zbm qU xF xG zdA zaj (zaa (zlb (bpv 0) rfl) (zac))) (zac))))
  (zad (zaA (zap zbp (bpv 3) zaj (zay _)) (zaf zbM) zas)
  (zad (zaA (zap zbp (bpv 3) zaj (zay _)) (zaf zbM) zas)
  (zad (zaA (zap zbp (bpv 3) zaj (zay _)) (zaf zbM) zas)
  (zaf (zar (zal (zkl T) (hr.mono (by decide)) rfl T.d_told_of.m T.d_told_of.F.kp T.d_told_of.b .nil zaC (zaa (bpv 4) (zaa (bpv 2) (zac)))))))))))))),?_⟩
 refine ⟨_,rfl,o,rfl,ok,fun D H1 s1 e1=>?_⟩
 have hd1:=s1 _ _ hd
 have hr1:=s1 _ _ hr0
 obtain ⟨ys,e2,th⟩:=id e1
 cases o with
 | put u=>
  obtain rfl:ys= [.str u]:=th
  refine ⟨_,rfl,D,_,_,_,rfl,rfl,.of e2,rfl,_,rfl,rfl,_,rfl,?_⟩
  refine PySem.W.ite_pos (decide_eq_true rfl) ?_
  refine ⟨_,rfl,d,dx,_,rfl,hd1,rfl,_,rfl,d,_,dx,_,_,rfl,hd1,T.cl_Desk,T.na_rows,rfl,?_⟩
  refine ⟨_,rfl,D,_,_,_,rfl,rfl,.of e2,rfl,(by show 1≤yH;decide),fun L hL=>?_⟩
  have kL:=zag hL (.lst [.str u])
  refine ⟨r,L,_,_,rfl,rfl,kL _ _ hr1,zab,(by rw [yA];show _+1≤_;omega),fun M hM=>?_⟩
  have kM:=zag hM (.lst (zs.map V.str++ [.str u]))
  have eM:(upd (upd H1 L (.lst [.str u])) M (.lst (zs.map V.str++ [.str u]))) M=some (.lst ((zs++ [u]).map V.str)):=by rw [zab,yM];rfl
  refine ⟨d,dx,M,_,_,zs++ [u],rfl,kM _ _ (kL _ _ hd1),eM,by rw [yI];show _+1≤_;omega,fun H2 s2 e2=>?_⟩
  rw [yI,qM]
  exact q H2 (fun b v nb e=>s2 b v nb (kM _ _ (kL _ _ (s1 _ _ e)))) e2
 | test f=>
  obtain ⟨q1,rfl,_⟩:=id th
  obtain ⟨tx,lz,w,tw,wf,gw,aw,q⟩:=q
  refine ⟨_,rfl,D,_,_,_,rfl,rfl,.of e2,rfl,_,rfl,rfl,_,rfl,?_⟩
  refine PySem.W.ite_neg (by show ¬(decide (V.str (yB "test")=V.str (yB "put"))=true);decide+kernel) ?_
  refine ⟨_,rfl,rfl,_,rfl,?_⟩
  refine PySem.W.ite_neg (by show ¬(decide (V.str (yB "test")=V.str (yB "clear"))=true);decide+kernel) ?_
  refine ⟨rfl,_,rfl,d,_,dx,_,_,rfl,hd1,T.cl_Desk,T.na_rows,rfl,_,r,zs,rfl,rfl,hr1,?_,?_⟩
  ·rw [ziJ]
   show _+zs.length * 1≤100000
   omega
  refine ⟨_,rfl,tx,fun b tb=>?_,fun nt=>absurd ⟨w,tw⟩ nt⟩
  obtain rfl:=zic tb tw
  refine ⟨gw,fun x H2 s2 rx=>?_⟩
  refine ⟨_,rfl,rfl,_,rfl,?_⟩
  refine PySem.W.ite_neg (by show ¬(decide (V.str (yB "test")=V.str (yB "less"))=true);decide+kernel) ?_
  refine ⟨_,rfl,rfl,_,rfl,?_⟩
  refine PySem.W.ite_neg (by show ¬(decide (V.str (yB "test")=V.str (yB "seen"))=true);decide+kernel) ?_
  refine ⟨_,rfl,rfl,_,rfl,?_⟩
  refine PySem.W.ite_neg (by show ¬(decide (V.str (yB "test")=V.str (yB "next"))=true);decide+kernel) ?_
  refine ⟨_,rfl,_,rfl,_,D,b,_,rfl,rx,wf,⟨_,s2 _ _ e2,th.on s2⟩,aw,fun H3 s3=>?_⟩
  exact q H3 ((s1.trans s2).trans s3)
 | alike f g=>
  obtain ⟨q1,q2,rfl,_⟩:=id th
  obtain ⟨tx,lz,w,tw,wf,gw,aw,q⟩:=q
  refine ⟨_,rfl,D,_,_,_,rfl,rfl,.of e2,rfl,_,rfl,rfl,_,rfl,?_⟩
  refine PySem.W.ite_neg (by show ¬(decide (V.str (yB "alike")=V.str (yB "put"))=true);decide+kernel) ?_
  refine ⟨_,rfl,rfl,_,rfl,?_⟩
  refine PySem.W.ite_neg (by show ¬(decide (V.str (yB "alike")=V.str (yB "clear"))=true);decide+kernel) ?_
  refine ⟨rfl,_,rfl,d,_,dx,_,_,rfl,hd1,T.cl_Desk,T.na_rows,rfl,_,r,zs,rfl,rfl,hr1,?_,?_⟩
  ·rw [ziJ]
   show _+zs.length * 1≤100000
   omega
  refine ⟨_,rfl,tx,fun b tb=>?_,fun nt=>absurd ⟨w,tw⟩ nt⟩
  obtain rfl:=zic tb tw
  refine ⟨gw,fun x H2 s2 rx=>?_⟩
  refine ⟨_,rfl,rfl,_,rfl,?_⟩
  refine PySem.W.ite_neg (by show ¬(decide (V.str (yB "alike")=V.str (yB "less"))=true);decide+kernel) ?_
  refine ⟨_,rfl,rfl,_,rfl,?_⟩
  refine PySem.W.ite_neg (by show ¬(decide (V.str (yB "alike")=V.str (yB "seen"))=true);decide+kernel) ?_
  refine ⟨_,rfl,rfl,_,rfl,?_⟩
  refine PySem.W.ite_neg (by show ¬(decide (V.str (yB "alike")=V.str (yB "next"))=true);decide+kernel) ?_
  refine ⟨_,rfl,_,rfl,_,D,b,_,rfl,rx,wf,⟨_,s2 _ _ e2,th.on s2⟩,aw,fun H3 s3=>?_⟩
  exact q H3 ((s1.trans s2).trans s3)
theorem zbu:zav ["desk","row","caught","found","e","kinds"] ["desk","row"] (zak zdG):=⟨rfl,rfl,rfl,by decide+kernel,rfl,by decide+kernel,by decide+kernel⟩
theorem zc8 (T:Txt K mg t):FnOk P w K mg base CX0 9 t.f_law_told t.fd_law_told ["desk","row"] (sp_ltd t.x_Desk):=by
 refine T.d_law_told.F.okB zbu (fun vs H Q E h=>?_) (fun cdv A outer s H vs Q E hr h=>?_)
 ·obtain ⟨d,o,zs,rfl,_⟩:=h
  rfl
 obtain ⟨d,o,zs,rfl,ok,dk,hz,q⟩:=h
 have sl:yH=16777216:=by decide
 refine ⟨_,(zad (zam (k:=2) zbu.nd rfl (Or.inl rfl) zgZ)
  (zad (zam (k:=3) zbu.nd rfl (Or.inl rfl) zgZ)
  (zad (zmh (bpv 0) T.cl_Desk T.d_Desk_say.m (zhG T) (hr.mono (by decide)) T.d_Desk_say.b .nil (zaa (bpv 1) (zac)) rfl rfl rfl rfl T.g_StuckError T.k_NoText.ex T.k_StuckError.ex (by decide) T.i_aboveNoText zbu.nd (k:=3) rfl (Or.inl rfl) (Or.inr rfl) (j:=4) rfl rfl (fun x=>unB (zaf (zam (k:=2) zbu.nd rfl (Or.inl rfl) (bpv 4)))))
  (zad (zaA (ziL (zhh (bpv 2))) (zaf (zar (zaq zaJ (zaD (zaa (bpv 3) (zaa zaj (zac)))) (zaz zcI rfl T.z_int xH (zaa (zn8 (zat zjK rfl T.z_isinstance qV (zaa (bpv 3) (zaa (zhr (v:=.ty "str") rfl T.z_str jH rfl) (zac))))) (zac))) (fun _ _=>rfl)))) zas)
  (zad (zam (k:=5) zbu.nd rfl (Or.inl rfl) (zaD (zaa (zat (zcJ T.k_NoText rfl) rfl T.z_isinstance qV (zaa (bpv 2) (zaa (zbD (v:=.ref t.x_NoOrder) rfl T.g_NoOrder rfl) zac))) (zaa (zat (zcJ T.k_NoText rfl) rfl T.z_isinstance qV (zaa (bpv 2) (zaa (zbD (v:=.ref t.x_NoText) rfl T.g_NoText rfl) zac))) (zaa (zat (zcJ T.k_NoText rfl) rfl T.z_isinstance qV (zaa (bpv 2) (zaa (zbD (v:=.ref t.x_NoWorks) rfl T.g_NoWorks rfl) zac))) (zac))))))
  (zad (zam (k:=5) zbu.nd rfl (Or.inl rfl) (zao zeW (bpv 5) (zaD (zaa (zat (zcJ T.k_NoText rfl) rfl T.z_isinstance qV (zaa (bpv 2) (zaa (zbD (v:=.ref t.x_NoRow) rfl T.g_NoRow rfl) zac))) (zaa (zat (zcJ T.k_NoText rfl) rfl T.z_isinstance qV (zaa (bpv 2) (zaa (zbD (v:=.ref t.x_NoFault) rfl T.g_NoFault rfl) zac))) (zaa (zat (zcJ T.k_NoText rfl) rfl T.z_isinstance qV (zaa (bpv 2) (zaa (zbD (v:=.ref t.x_TooMany) rfl T.g_TooMany rfl) zac))) (zac)))))))
  (zad (zaA (zdR (zgB (zc3 (zd0 (zat (zks T.k_NoText rfl) rfl T.z_isinstance qV (zaa (bpv 2) (zaa (zhr (v:=.ty "ValueError") rfl T.z_ValueError zoB rfl) zac))))) (zeK (zap zhl (zbm qW PySem.F.slot_list_count PySem.F.type_list_count zlZ (bpv 5) (zaa zhL (zac))) zae (zay _))))) (zaf (zar zaj)) zas)
  (zaf (zar (zaq zaJ (zaD (zaa zaj (zaa zaj (zaa zaj (zaa zaj (zaa zaj (zaa zaj (zac)))))))) (zbm qW PySem.F.slot_list_index PySem.F.type_list_index zlL (bpv 5) (zaa zhL (zac))) (fun _ _=>rfl))))))))))),?_⟩
 obtain ⟨dx,r,a,hd,hr0⟩:=dk
 refine ⟨_,rfl,d,dx,_,rfl,hd,rfl,_,rfl,d,o,zs,rfl,ok,⟨dx,r,a,hd,hr0⟩,hz,?_⟩
 refine zmu q fun z H2 k=>?_
 refine ⟨_,rfl,_,rfl,iteT ?_⟩
 refine ⟨_,rfl,(by show 2≤yH;decide),fun L hL=>?_⟩
 refine ⟨_,rfl,_,_,_,_,rfl,.of (.str _),rfl,_,rfl,?_⟩
 refine .inr ⟨_,rfl,L,_,_,_,rfl,rfl,.of zab,rfl,?_⟩
 exact k _ (zag hL _)
theorem zeE:zav ["desk","text","rows","told"] ["desk","text"] (zak zei):=⟨rfl,rfl,rfl,by decide+kernel,rfl,by decide+kernel,by decide+kernel⟩
theorem zka (T:Txt K mg t):FnOk P w K mg base CX0 10 t.f_law_put t.fd_law_put ["desk","text"] (zoh t.x_Desk):=by
 refine T.d_law_put.F.okB zeE (fun vs H Q E h=>?_) (fun cdv A outer s H vs Q E hr h=>?_)
 ·obtain ⟨d,zs,rfl,_⟩:=h
  rfl
 obtain ⟨d,zs,rfl,ne,rok,l100,dk,q⟩:=h
 have hu64:=hr.units
 have sl:yH=16777216:=by decide
 refine ⟨_,(zad (zam (k:=2) zeE.nd rfl (Or.inl rfl) (zbm qU vK vL zfZ (bpv 1) (zaa zaj (zac))))
  (zad (zen (k:=3) rfl (N:=["row","desk"]) (n:=1) (cap:=[0]) (za7 rfl rfl) zeE.nd rfl rfl (zaM (bpv 2)) (zaG (by decide)) (fun _ _ _ _=>(zan (k:=0) (show (["row","desk"]:List Str).Nodup by decide+kernel) rfl (Or.inl rfl))) (fun _ _ _ _=>zaK) (fun _ _ _ _=>(zal (zc8 T) (hr.mono (by decide)) rfl T.d_law_told.m T.d_law_told.F.kp T.d_law_told.b .nil zaC (zaa (bpv 1) (zaa (zao zbg zaj (bpv 0)) (zac))))) rfl)
  (zaf (zar (zdx (znC hu64) (bpv 3) (zaQ rfl (N:=["k"]) (n:=1) (cap:=[]) (za7 rfl rfl) (zaO rfl T.z_range (zaa (zat zau rfl T.z_len qQ (zaa (bpv 2) (zac))) (zac))) (zaG (by decide)) (fun _ _ _ _=>(zan (k:=0) (show (["k"]:List Str).Nodup by decide+kernel) rfl (Or.inl rfl))) (fun _ _ _ _=>zaK) (fun _ _ _ _=>(zao zbg zaj (zaz za6 rfl T.z_str jH (zaa (zao za9 (bpv 0) zae) (zac)))))) (zay _)))))),?_⟩
 refine ⟨_,rfl,rfl,_,10,_,rfl,rfl,ziJ,by rw [ziJ];decide+kernel,zmY l100 fun z hz=>(rok z hz).2,fun R hR=>?_⟩
 rw [zlH ne fun z hz h=>(rok z hz).1 10 h rfl]
 have kR:=zag hR (.lst (zs.map V.str))
 have eR:=zec (o:=.lst (zs.map V.str)) hR
 have dk1:=dk.on kR
 generalize upd H R (.lst (zs.map V.str))=H1 at kR eR dk1
 obtain ⟨dx0,r0,a0,hd0,_⟩:=id dk1
 have dR:R≠d:=zh3 eR hd0 (by intro z;cases z)
 refine ⟨_,rfl,R,rfl,⟨_,.of eR⟩,fun D hD=>zaV (K:=K) (a:=R) (xs:=zs.map V.str)
  (fun j H4=>zbk d H1 H4∧DkAt t.x_Desk H4 d (zs.take j)∧H4 D=some (.lst ((xK j).map fun k=>V.str (yB "rows " ++numS ((k+1:Nat):Int))))) ?_ (fun j H4 _ z=>.of (z.1 _ _ dR eR)) ?_ ?_⟩
 ·exact ⟨(zag hD _).b d,dk1.on (zag hD _),zab⟩
 ·rintro j y H4 hy ⟨s4,d4,eD⟩
  rw [yL] at hy
  cases hz:zs[j]? with
  | none=>rw [hz] at hy;cases hy
  | some u=>
   rw [hz] at hy
   cases hy
   have lj:=(yF.mp hz).1
   obtain ⟨r1,r2⟩:=rok u (yR hz)
   have nD:D≠d:=fun e=>by rw [e,hd0] at hD;cases hD
   have lt:(zs.take j).length=j:=by rw [yW];omega
   refine ⟨_,rfl,_,rfl,_,_,rfl,rfl,?_,d,.put u,zs.take j,rfl,⟨r1,r2⟩,d4,by omega,fun H5 s5 e5=>?_⟩
   ·have e:(yB "put ").length=4:=by decide+kernel
    rw [e]
    omega
   refine ⟨_,s5 D _ nD eD,big (by rw [yA,vX];omega),?_,?_,?_⟩
   ·exact fun b o nb e=>by rw [zah (zai e hD)];exact s5 b o nb (s4 b o nb e)
   ·have:=e5
    rw [yT,hz]
    obtain ⟨dx,r,a,h1,h2⟩:=e5
    refine ⟨dx,r,a,by rw [zah (qX nD)];exact h1,?_⟩
    by_cases eq:r=D
    ·exfalso
     rw [eq,s5 D _ nD eD] at h2
     have:=congrArg wP (HO.lst.inj (yV h2))
     rw [yA,yA,vX,yI,lt] at this
     exact absurd this (by show ¬(j=j+1);omega)
    ·rw [zah eq]
     exact h2
   ·rw [zab,yai,yM,lt]
    rfl
 rintro H4 ⟨s4,d4,eD⟩
 rw [yA] at d4 eD
 rw [qF] at d4
 have eR4:=s4 _ _ dR eR
 refine ⟨_,rfl,_,rfl,R,_,rfl,.inl (.of eR4),_,rfl,by rw [yA];omega,by rw [yA];omega,fun F hF=>?_⟩
 rw [yA]
 refine zcg (fun j H5=>Same H4 H5∧H5 F=some (.lst ((xK j).map fun k=>V.str (yB "rows " ++numS ((k+1:Nat):Int)))))
  ⟨zag hF _,zab⟩ ?_ ?_
 ·rintro j H5 hj ⟨s5,eF⟩
  have ej:(0+(j:Int)+1)=((j+1:Nat):Int):=by omega
  refine ⟨_,rfl,_,_,rfl,rfl,_,rfl,?_,?_⟩
  ·rw [ej]
   exact zgU (by omega)
  rw [ej]
  refine ⟨_,_,rfl,rfl,?_,_,eF,big (by rw [yA,vX];omega),s5.write hF _,?_⟩
  ·have:=zeH (n:=j+1) (by omega)
   rw [zdZ] at this
   exact jA this (by decide)
  ·rw [zab,yai,yM]
   rfl
 rintro H5 ⟨s5,eF⟩
 have er:∀ n:Nat,((xK n).map fun k=>V.str (yB "rows " ++numS ((k+1:Nat):Int)))=(zmy n).map V.str:=fun n=>by
  unfold zmy
  rw [jX]
  rfl
 rw [er] at eF eD
 refine ⟨_,_,.lst (.of (s5 _ _ eD)) (zfJ _),.lst (.of eF) (zfJ _),zjv (by omega),zjv (by omega),fun _=>?_,fun z=>absurd rfl z⟩
 exact q H5 (fun b o nb e=>s5 _ _ (s4 b o nb (kR _ _ e))) (d4.on s5)
theorem zga:zav ["script","k"] ["script","k"] (zak zb6):=⟨rfl,rfl,rfl,by decide+kernel,rfl,by decide+kernel,by decide+kernel⟩
theorem zgd (T:Txt K mg t):FnOk P w K mg base CX0 1 t.f_law_cell_at t.fd_law_cell_at ["script","k"] (zop K):=by
 refine T.d_law_cell_at.F.okB zga (fun vs H Q E h=>?_) (fun cdv A outer s H vs Q E hr h=>?_)
 ·obtain ⟨a,ns,rfl,_⟩:=h
  rfl
 obtain ⟨a,ns,rfl,ha,q⟩:=h
 refine ⟨_,(zad (zaA (zap zkC (bpv 1) (zat zau rfl T.z_len qQ (zaa (bpv 0) (zac))) (zay _)) (zaf (zar (zaq zaJ (bpv 0) (bpv 1) (fun _ _=>rfl)))) zas)
  (zaf (zar (zao zev zae zae)))),?_⟩
 refine ⟨_,rfl,_,rfl,a,_,rfl,.inl ha,_,_,rfl,rfl,_,rfl,ite2 (fun c=>?_) (fun c=>?_)⟩
 ·have hl: 0 < ns.length:=by
   have:=of_decide_eq_true c
   rw [yA] at this
   omega
  refine ⟨_,rfl,_,rfl,a,_,_,.int ns[0],rfl,rfl,ha,?_,q _⟩
  exact zb2 (j:=0) (by rw [yL,yQ hl];rfl)
 ·exact ⟨_,_,rfl,rfl,⟨by decide,by decide,by decide⟩,q _⟩
theorem zhW:zav ["fault"] ["fault"] (zak zc0):=⟨rfl,rfl,rfl,by decide+kernel,rfl,by decide+kernel,by decide+kernel⟩
theorem zdq (T:Txt K mg t):FnOk P w K mg base CX0 1 t.f_law_shown t.fd_law_shown ["fault"] (sp_lsh K):=by
 refine T.d_law_shown.F.okB zhW (fun vs H Q E h=>?_) (fun cdv A outer s H vs Q E hr h=>?_)
 ·obtain ⟨r,f,rfl,_⟩:=h
  rfl
 obtain ⟨r,f,rfl,hr0,sm,q⟩:=h
 have ok:=ziW sm
 have hf:SqT K H r (.str (fltR f).word::(fltR f).ns.map V.int):=.of (by rw [hr0,zoo sm])
 have few:=ok.few
 refine ⟨_,(zaf (zar (zbm qU xF xG zdA zaj (zaa (zaQ rfl (N:=["part"]) (n:=1) (cap:=[]) (za7 rfl rfl) (zhe (bpv 0)) (zaG (by decide)) (fun _ _ _ _=>(zan (k:=0) (show (["part"]:List Str).Nodup by decide+kernel) rfl (Or.inl rfl))) (fun _ _ _ _=>zaK) (fun _ _ _ _=>(zaz zl7 rfl T.z_str jH (zaa (bpv 0) (zac))))) (zac))))),?_⟩
 refine ⟨rfl,_,rfl,r,rfl,⟨_,hf⟩,fun D hD=>zgT (K:=K) (a:=r) (xs:=.str (fltR f).word::(fltR f).ns.map V.int)
  (fun j H4=>Same H H4∧H4 D=some (.lst ((((fltR f).word::(fltR f).ns.map numS).take j).map V.str))) ⟨zag hD _,zab⟩ (fun j H4 _ z=>z.1.seqT hf) ?_ ?_⟩
 ·rintro j y H4 hy ⟨s4,eD⟩
  have lt:((((fltR f).word::(fltR f).ns.map numS).take j).map V.str).length < yH:=big (by
   rw [yA,yW,yO,yA]
   omega)
  cases j with
  | zero=>
   cases hy
   exact ⟨_,rfl,.inr ⟨_,rfl,_,eD,lt,s4.write hD _,by rw [zab];rfl⟩⟩
  | succ j=>
   rw [wJ,yL] at hy
   cases hz:(fltR f).ns[j]? with
   | none=>rw [hz] at hy;cases hy
   | some n=>
    rw [hz] at hy
    cases hy
    have hn:=ok.num n (yR hz)
    refine ⟨_,rfl,.inl ⟨n,rfl,zh9 hn,_,eD,lt,s4.write hD _,?_⟩⟩
    rw [zab,ybe,ybe,yT,yL,hz,qJ,qJ,yM]
    rfl
 rintro H4 ⟨s4,eD⟩
 have el:(V.str (fltR f).word::(fltR f).ns.map V.int).length=((fltR f).word::(fltR f).ns.map numS).length:=by
  rw [yO,yO,yA,yA]
 rw [el,qF] at eD
 refine ⟨_,D,(fltR f).word::(fltR f).ns.map numS,rfl,rfl,eD,?_,?_⟩
 ·have hs:=zeY (g:=fun z:Str=>z.length) (k:=41) (l:=(fltR f).ns.map numS) fun z hz=>by
   obtain ⟨n,hn,rfl⟩:=qE.mp hz
   exact zdJ (ok.num n hn)
  rw [yA] at hs
  have hw:=ok.short
  rw [qJ,vC,yO,yA,zms]
  show (fltR f).word.length+_+((fltR f).ns.length+1) * 1≤100000
  omega
 ·rw [zfc ok]
  exact q _ s4
theorem zbU:zav ["works","one","other","number","row","here","there"] ["works","one","other"] (zak zcT):=⟨rfl,rfl,rfl,by decide+kernel,rfl,by decide+kernel,by decide+kernel⟩
theorem zeQ (T:Txt K mg t):FnOk P w K mg base CX0 3 t.f_law_first t.fd_law_first ["works","one","other"] (zl6 K):=by
 refine T.d_law_first.F.okB zbU (fun vs H Q E h=>?_) (fun cdv A outer s H vs Q E hr h=>?_)
 ·obtain ⟨x,d,e,w,fs,gs,rfl,_⟩:=h
  rfl
 obtain ⟨x,d,e,w,fs,gs,rfl,hx,wf,hd,he,fb,gb,q⟩:=h
 have hu64:=hr.units
 have sl:yH=16777216:=by decide
 obtain ⟨a,ga,oa,gv,os,rfl,ha,hg,ho,rg,ro⟩:=zbE hx
 have eo:=zdu ro
 subst eo
 have i1:=wf.i1
 have i6:=wf.i6
 have o3:=wf.o3
 obtain ⟨n,en⟩:∃ n:Nat,w.ins=n:=⟨w.ins.toNat,by omega⟩
 have n6:n≤6:=by omega
 have h64:=pow6 n6
 refine ⟨_,(zad (zaY qT rfl (zaO rfl T.z_range (zaa (zao op_shl zae (zaq zax (bpv 0) zae (fun _ _=>rfl))) (zac))) (zan (k:=3) zbU.nd rfl (Or.inr rfl)) (zad (zen (k:=4) rfl (N:=["k","number","works"]) (n:=1) (cap:=[3,0]) (za7 rfl rfl) zbU.nd rfl rfl (zaO rfl T.z_range (zaa (zaq zax (bpv 0) zae (fun _ _=>rfl)) (zac))) (zaG (by decide)) (fun _ _ _ _=>(zan (k:=0) (show (["k","number","works"]:List Str).Nodup by decide+kernel) rfl (Or.inl rfl))) (fun _ _ _ _=>zaK) (fun _ _ _ _=>(zao zhS (zao znT (bpv 1) (zao zgF (zao zgF (zaq (zi3 (K:=K)) (bpv 2) zae (fun _ _=>rfl)) zae) (bpv 0))) zae)) rfl)
  (zad (zam (k:=5) zbU.nd rfl (Or.inr rfl) (zal (zed T) (hr.mono (by decide)) rfl T.d_law_worths.m T.d_law_worths.F.kp T.d_law_worths.b .nil zaC (zaa (bpv 0) (zaa (bpv 1) (zaa (bpv 4) (zac))))))
  (zad (zam (k:=6) zbU.nd rfl (Or.inr rfl) (zal (zed T) (hr.mono (by decide)) rfl T.d_law_worths.m T.d_law_worths.F.kp T.d_law_worths.b .nil zaC (zaa (bpv 0) (zaa (bpv 2) (zaa (bpv 4) (zac))))))
  (zaf (zaA (zap (op_ne0 hu64) (zaQ rfl (N:=["wire","here","there"]) (n:=1) (cap:=[5,6]) (za7 rfl rfl) (zaM (zaq zax (bpv 0) zae (fun _ _=>rfl))) (zaG (by decide)) (fun _ _ _ _=>(zan (k:=0) (show (["wire","here","there"]:List Str).Nodup by decide+kernel) rfl (Or.inl rfl))) (fun _ _ _ _=>(zff (zap zhl (zaq (zeg (K:=K)) (bpv 1) (bpv 0) (fun _ _=>rfl)) (zaq (zeg (K:=K)) (bpv 2) (bpv 0) (fun _ _=>rfl)) (zay _)))) (fun _ _ _ _=>(bpv 0))) (zaD zac) (zay _)) (zaf (zar (zal (zgg T) (hr.mono (by decide)) rfl T.d_law_figures.m T.d_law_figures.F.kp T.d_law_figures.b .nil zaC (zaa (bpv 4) (zac))))) zas))))))
  (zaf (zar zgZ))),?_⟩
 refine ⟨_,rfl,a,_,_,_,rfl,rfl,ha,rfl,_,_,rfl,rfl,?_,?_⟩
 ·exact ⟨by omega,by omega,by decide⟩
 have ej:(1 * 2 ^ w.ins.toNat:Int)=((2 ^ n:Nat):Int):=by
  rw [en,xB,Int.one_mul]
  push_cast
  rfl
 have en':w.ins.toNat=n:=by omega
 have h64':((2 ^ n:Nat):Int)≤64:=by exact_mod_cast h64
 refine ⟨((2 ^ n:Nat):Int),by show [V.int (1 * 2 ^ w.ins.toNat)]=_;rw [ej],Int.le_trans (by decide) (vM _),Int.lt_of_le_of_lt h64' (by decide),?_⟩
 refine zb0 (n:=2 ^ n) (fun i σ H3=>∃ (o3 o4 o5 o6:Option V),σ = [some (.ref a),some (.ref d),some (.ref e),o3,o4,o5,o6]∧Same H H3∧∀ row∈(zbA n).take i,zdo w (zaX fs w.gates row w.gates.length)=zdo w (zaX gs w.gates row w.gates.length))
  ⟨_,_,_,_,rfl,Same.refl _,fun row hr=>(nomatch hr)⟩ ?_ ?_
 ·rintro i σ H3 hi ⟨o3',o4,o5,o6,rfl,s3,no⟩
  have hrow:=zhm n i hi
  have lr:=zmP n i
  have br:=zlO n i
  refine ⟨_,rfl,a,_,_,_,rfl,rfl,s3.seqT ha,rfl,_,rfl,by omega,by omega,fun D hD=>?_⟩
  rw [en']
  refine zcg (fun j H4=>Same H3 H4∧H4 D=some (.lst (((rowB n i).take j).map V.int))) ⟨zag hD _,zab⟩ ?_ ?_
  ·rintro j H4 hj ⟨s4,eD⟩
   have e1:w.ins - 1 - (0+(j:Int))=((n - 1 - j:Nat):Int):=by omega
   refine ⟨_,rfl,_,rfl,a,_,_,_,rfl,rfl,(s3.trans s4).seqT ha,rfl,_,_,rfl,rfl,_,rfl,_,_,rfl,rfl,_,_,rfl,rfl,by rw [e1];omega,_,_,rfl,rfl,_,eD,big (by rw [yA,yW];omega),s4.write hD _,?_⟩
   rw [zab,e1]
   dsimp only
   rw [zmn,yT,zmd hj,yM]
   rfl
  rintro H4 ⟨s4,eD⟩
  rw [xD (ybE lr)] at eD
  have k4:=s3.trans s4
  generalize rowB n i=row at hrow lr br eD
  have hl:(row.length:Int)=w.ins:=by omega
  refine ⟨_,rfl,_,rfl,_,rfl,_,d,D,w,fs,row,rfl,hx.mono k4,wf,k4 _ _ hd,fb,.of eD,hl,br,fun r1 H5 s5 n5 e5=>?_⟩
  have k5:=k4.trans s5
  refine ⟨_,rfl,_,rfl,_,rfl,_,e,D,w,gs,row,rfl,hx.mono k5,wf,k5 _ _ he,gb,.of (s5 _ _ eD),hl,br,fun r2 H6 s6 n6' e6=>?_⟩
  have k6:=k5.trans s6
  have e5':=s6 _ _ e5
  have eD6:=s6 _ _ (s5 _ _ eD)
  have lA:=zby fs w.gates row w.gates.length
  have lB:=zby gs w.gates row w.gates.length
  refine ⟨_,rfl,a,_,_,_,rfl,rfl,k6.seqT ha,rfl,oa,rfl,⟨_,k6.seq ho⟩,fun C hC=>zaV (K:=K) (a:=oa) (xs:=w.outs.map V.int)
   (fun j H7=>Same H6 H7∧∃ xs:List V,H7 C=some (.lst xs)∧xs.length≤j∧(xs= []↔∀ o∈w.outs.take j,(zaX fs w.gates row w.gates.length).getD o.toNat 0=(zaX gs w.gates row w.gates.length).getD o.toNat 0))
   ⟨zag hC _,[],zab,yJ _,fun _ o ho=>(nomatch ho),fun _=>rfl⟩ (fun j H7 _ z=>z.1.seq (k6.seq ho)) ?_ ?_⟩
  ·rintro j y H7 hy ⟨s7,xs,eC,lx,ix⟩
   rw [yL] at hy
   cases hz:w.outs[j]? with
   | none=>rw [hz] at hy;cases hy
   | some o=>
    rw [hz] at hy
    cases hy
    have lj:j < w.outs.length:=(yF.mp hz).1
    have bo:=wf.outs o (yR hz)
    refine ⟨_,rfl,_,rfl,r1,_,_,_,rfl,rfl,.of (s7 _ _ e5'),zbK bo.1 (by rw [lA];omega),_,rfl,_,rfl,r2,_,_,_,rfl,rfl,.of (s7 _ _ e6),zbK bo.1 (by rw [lB];omega),rfl,_,rfl,ite2 (fun c=>?_) (fun c=>?_)⟩
    ·refine ⟨_,rfl,xs,eC,big (by omega),s7.write hC _,_,zab,by rw [yI];show _+1≤_;omega,?_⟩
     rw [yT,hz]
     constructor
     ·intro z
      exact absurd z (by simp)
     ·intro z
      have:=z o (qA _ (.head _))
      rw [this] at c
      exact absurd c (zi9 rfl)
    ·refine ⟨s7,xs,eC,by omega,?_⟩
     have eq:(zaX fs w.gates row w.gates.length).getD o.toNat 0=(zaX gs w.gates row w.gates.length).getD o.toNat 0:=by
      refine yas fun z=>c ?_
      rw [decide_eq_false (fun y=>z (V.int.inj y))]
      rfl
     rw [yT,hz]
     constructor
     ·intro z o' ho'
      rcases yS.mp ho' with h | h
      ·exact ix.mp z o' h
      ·rw [yK.mp h];exact eq
     ·exact fun z=>ix.mpr fun o' ho'=>z o' (xT _ ho')
  rintro H7 ⟨s7,xs,eC,lx,ix⟩
  rw [yA,qF] at ix
  have same:xs= []↔zdo w (zaX fs w.gates row w.gates.length)=zdo w (zaX gs w.gates row w.gates.length):=by
   rw [ix]
   unfold zdo
   exact List.map_inj_left.symm
  refine ⟨(by show 0≤yH;decide),fun E1 hE=>?_⟩
  have kE:=zag hE (.lst [])
  have k7:=k6.trans s7
  have k8:=k7.trans kE
  have eD8:=kE _ _ (s7 _ _ eD6)
  refine ⟨C,E1,xs,rfl,rfl,.of (kE _ _ eC),.of zab,_,rfl,ite2 (fun c2=>?_) (fun c2=>?_)⟩
  ·have ne:xs≠[]:=of_decide_eq_true c2
   refine ⟨_,rfl,D,row,rfl,.of eD8,br,by omega,fun H9 s9=>?_⟩
   have hit:zbe w fs gs=some row:=by
    unfold zbe
    rw [en']
    exact zjL hrow (decide_eq_true fun z=>ne (same.mpr z)) fun y hy=>decide_eq_false fun z=>z (no y hy)
   have:=q H9 (k8.trans s9)
   rw [hit] at this
   exact this
  ·have eq:=same.mp (kO fun z=>c2 (decide_eq_true z))
   refine ⟨_,_,_,_,rfl,k8,fun y hy=>?_⟩
   rw [yT,hrow] at hy
   rcases yS.mp hy with h | h
   ·exact no y h
   ·rw [yK.mp h];exact eq
 ·rintro σ H3 ⟨o3',o4,o5,o6,rfl,s3,no⟩
  have none_:zbe w fs gs=none:=by
   unfold zbe
   rw [en']
   refine wG.mpr fun r hr=>?_
   rw [← zbL n,qF] at no
   rw [decide_eq_false fun z=>z (no r hr)]
   decide
  have:=q H3 s3
  rw [none_] at this
  exact this
theorem zdp:zav ["deck","works","gates","gate"] ["deck","works"] (zak zcV):=⟨rfl,rfl,rfl,by decide+kernel,rfl,by decide+kernel,by decide+kernel⟩
theorem zeU (T:Txt K mg t):FnOk P w K mg base CX0 2 t.f_law_fault t.fd_law_fault ["deck","works"] (zlE K):=by
 refine T.d_law_fault.F.okB zdp (fun vs H Q E h=>?_) (fun cdv A outer s H vs Q E hr h=>?_)
 ·obtain ⟨pd,x,n,w,G,rfl,_⟩:=h
  rfl
 obtain ⟨pd,x,n,w,G,rfl,hpd,sG,gp,rx,wf,q⟩:=h
 have hu64:=hr.units
 have sl:yH=16777216:=by decide
 obtain ⟨a,ga,oa,gv,os,rfl,ha,hg,ho,rg,ro⟩:=zbE rx
 have i1:=wf.i1
 have i6:=wf.i6
 have few:=wf.few
 have lg:gv.length=w.gates.length:=by rw [rg.length,yA]
 refine ⟨_,(zad (zen (k:=2) rfl (N:=["gate","works"]) (n:=1) (cap:=[1]) (za7 rfl rfl) zdp.nd rfl rfl (zaO rfl T.z_range (zaa (zat zau rfl T.z_len qQ (zaa (zaq zax (bpv 1) zae (fun _ _=>rfl)) (zac))) (zac))) (zaG (by decide)) (fun _ _ _ _=>(zan (k:=0) (show (["gate","works"]:List Str).Nodup by decide+kernel) rfl (Or.inl rfl))) (fun _ _ _ _=>(zff (zap (zoW (K:=K) hu64) (zaq (zi3 (K:=K)) (zaq (zeg (K:=K)) (zaq (zi3 (K:=K)) (bpv 1) zae (fun _ _=>rfl)) (bpv 0) (fun _ _=>rfl)) zae (fun _ _=>rfl)) (zaP zac) (zay _)))) (fun _ _ _ _=>(bpv 0)) rfl)
  (zad (zaA (zdR (zgB (zap (znC hu64) (bpv 2) (zaD zac) (zay _)) (zeK (zap zbp (zal (zaL T) (hr.mono (by decide)) rfl T.d_law_take.m T.d_law_take.F.kp T.d_law_take.b .nil zaC (zaa (bpv 0) (zaa zae (zac)))) zae (zay _))))) (zaf (zar (zaP (zaa zaj (zaa (zal (zaL T) (hr.mono (by decide)) rfl T.d_law_take.m T.d_law_take.F.kp T.d_law_take.b .nil zaC (zaa (bpv 0) (zaa (zao za9 (zaq zax (bpv 1) zae (fun _ _=>rfl)) (zat zau rfl T.z_len qQ (zaa (zaq zax (bpv 1) zae (fun _ _=>rfl)) (zac)))) (zac)))) (zaa (zal (zaL T) (hr.mono (by decide)) rfl T.d_law_take.m T.d_law_take.F.kp T.d_law_take.b .nil zaC (zaa (bpv 0) (zaa zae (zac)))) (zac))))))) zas)
  (zad (zam (k:=3) zdp.nd rfl (Or.inl rfl) (zaq zaJ (bpv 2) (zal (zaL T) (hr.mono (by decide)) rfl T.d_law_take.m T.d_law_take.F.kp T.d_law_take.b .nil zaC (zaa (bpv 0) (zaa (zat zau rfl T.z_len qQ (zaa (bpv 2) (zac))) (zac)))) (fun _ _=>rfl)))
  (zaf (zar (zaP (zaa zaj (zaa (bpv 3) (zaa (zal (zaL T) (hr.mono (by decide)) rfl T.d_law_take.m T.d_law_take.F.kp T.d_law_take.b .nil zaC (zaa (bpv 0) (zaa (zat zau rfl T.z_len qQ (zaa (zaq zax (zaq zaJ (zaq zax (bpv 1) zae (fun _ _=>rfl)) (bpv 3) (fun _ _=>rfl)) zae (fun _ _=>rfl)) (zac))) (zac)))) (zaa (zal (zaL T) (hr.mono (by decide)) rfl T.d_law_take.m T.d_law_take.F.kp T.d_law_take.b .nil zaC (zaa (bpv 0) (zaa zae (zac)))) (zac))))))))))),?_⟩
 refine ⟨_,rfl,a,_,_,_,rfl,rfl,sG.seqT ha,rfl,ga,_,rfl,.inl (sG.seq hg),_,rfl,by omega,by omega,fun D hD=>?_⟩
 rw [lg]
 refine zcg (fun j H5=>Same H H5∧∃ ks:List Nat,H5 D=some (.lst (ks.map fun k:Nat=>V.int (k:Int)))∧ks.length≤j∧∀ k∈ks,∃ g,w.gates[k]? =some g∧g.2≠[])
  ⟨zag hD _,[],zab,yJ _,fun k hk=>(nomatch hk)⟩ ?_ ?_
 ·rintro j H5 hj ⟨s5,ks,eD,lk,hk⟩
  have g5:=sG.trans s5
  obtain ⟨g,eg⟩:∃ g,w.gates[j]? =some g:=⟨_,yQ hj⟩
  obtain ⟨y,hy,ry⟩:=rg.getD (d:=zez g) (i:=j) (by rw [yL,eg];rfl)
  obtain ⟨b,la,rfl,hb,hla⟩:=zcz ry
  refine ⟨_,rfl,a,_,_,_,rfl,rfl,g5.seqT ha,rfl,_,rfl,ga,_,_,_,rfl,rfl,g5.seq hg,?_,b,_,_,_,rfl,rfl,g5.seqT hb,rfl,(by show 0≤yH;decide),fun e he=>?_⟩
  ·rw [xQ]
   exact zb2 hy
  have ke:=zag he (.tup [])
  refine ⟨.tuple (g.2.map .int),.tuple [],.tup ((g5.trans ke).seqT hla) (Reps.ints _),.tup (.of zab) .nil,?_,rfl,fun eq=>⟨_,rfl,iteF ?_⟩,fun ne=>⟨_,rfl,iteT ?_⟩⟩
  ·show (g.2.map Dat.int).all _=true
   exact zoF _ _
  ·exact ⟨s5.trans ke,ks,ke _ _ eD,by omega,hk⟩
  ·refine ⟨_,rfl,_,ke _ _ eD,big (by rw [yA];omega),(s5.trans ke).write hD _,ks++ [j],?_,by rw [yI];show _+1≤_;omega,fun k hk'=>?_⟩
   ·rw [zab,yM,xQ]
    rfl
   ·rcases yS.mp hk' with h | h
    ·exact hk k h
    ·rw [yK.mp h]
     exact ⟨g,eg,fun z=>ne (by rw [z];rfl)⟩
 rintro H5 ⟨s5,ks,eD5,lk,hk⟩
 have Dpd:D≠pd:=qX (zai hpd hD)
 refine ⟨_,rfl,(by show 0≤yH;decide),fun e he=>?_⟩
 have ke:=zag he (.lst [])
 have repD:Rep K (upd H5 e (.lst [])) (.ref D) (.list (ks.map fun k:Nat=>Dat.int (k:Int))):=.lst (.of (ke _ _ eD5)) (by
  have:∀ l:List Nat,Reps K (upd H5 e (.lst [])) (l.map fun k:Nat=>V.int (k:Int)) (l.map fun k:Nat=>Dat.int (k:Int)):=fun l=>by
   induction l with
   | nil=>exact .nil
   | cons k l ih=>exact .cons (.int _) ih
  exact this ks)
 have okL:PySem.W.kqdOk 8 (.list (ks.map fun k:Nat=>Dat.int (k:Int)))=true:=by
  show (ks.map fun k:Nat=>Dat.int (k:Int)).all (PySem.W.kqdOk 7)=true
  exact qY.mpr fun d hd=>by
   obtain ⟨k,_,rfl⟩:=qE.mp hd
   rfl
 have sb0:zbk pd H (upd H5 e (.lst [])):=(s5.trans ke).b pd
 have e0:(upd H5 e (.lst [])) pd=some (.lst [.int n]):=ke _ _ (s5 _ _ hpd)
 have eD0:=ke _ _ eD5
 refine ⟨_,_,repD,.lst (.of zab) .nil,okL,rfl,fun eq=>⟨_,rfl,iteT ?_⟩,fun ne=>⟨_,rfl,iteF ?_⟩⟩
 ·generalize upd H5 e (.lst [])=H6 at sb0 e0
  have sb6:=sb0
  have e6:=e0
  have g6:=zbk.same sG gp sb6
  refine ⟨_,rfl,_,rfl,a,_,_,_,rfl,rfl,g6.seqT ha,rfl,_,rfl,a,_,_,_,rfl,rfl,g6.seqT ha,rfl,ga,_,rfl,.inl (g6.seq hg),_,_,rfl,rfl,pd,_,_,rfl,e6,by rw [lg];omega,by rw [lg];omega,fun r n7 r0 r1=>?_⟩
  refine ⟨_,rfl,pd,n7,2,rfl,zab,by decide,by decide,fun b n8 b0 b1=>⟨(by show 3≤yH;decide),fun U hU=>?_⟩⟩
  rw [lg] at r1
  obtain ⟨i,rfl⟩:=vF r0
  have upd2:zbk pd H (upd (upd (upd H6 pd (.lst [.int n7])) pd (.lst [.int n8])) U (.tup [.str (yB "wire"),.int (i:Int),.int b])):=fun c o nc ec=>by
   rw [zah (zai (by rw [zah nc,zah nc];exact sb6 c o nc ec) hU),zah nc,zah nc]
   exact sb6 c o nc ec
  have Upd:U≠pd:=fun z=>by rw [z,zab] at hU;cases hU
  have nU:H U=none:=by
   cases eu:H U with
   | none=>rfl
   | some o=>
    rw [zah Upd,zah Upd,sb6 U o Upd eu] at hU
    cases hU
  exact q ⟨zcE i,b⟩ U n8 _ (ziu (by omega) (by omega)) upd2 (by rw [zah (qX Upd),zab]) nU zab
 ·generalize upd H5 e (.lst [])=H6 at sb0 e0 eD0
  have kne:ks≠[]:=fun z=>ne (by rw [z];rfl)
  refine ⟨_,rfl,pd,n,2,rfl,e0,by decide,by decide,fun c n6 c0 c1=>?_⟩
  have sb6:zbk pd H (upd H6 pd (.lst [.int n6])):=fun b o nb eb=>by rw [zah nb];exact sb0 b o nb eb
  have e6:(upd H6 pd (.lst [.int n6])) pd=some (.lst [.int n6]):=zab
  have eD6:(upd H6 pd (.lst [.int n6])) D=some (.lst (ks.map fun k:Nat=>V.int (k:Int))):=by rw [zah Dpd];exact eD0
  generalize upd H6 pd (.lst [.int n6])=H6 at sb6 e6 eD6
  have g6:=zbk.same sG gp sb6
  refine ⟨rfl,_,rfl,ite2 (fun _=>?_) (fun _=>?_)⟩
  ·refine ⟨_,rfl,_,rfl,a,_,_,_,rfl,rfl,g6.seqT ha,rfl,_,rfl,a,_,_,_,rfl,rfl,g6.seqT ha,rfl,ga,_,rfl,.inl (g6.seq hg),_,_,rfl,rfl,pd,_,_,rfl,e6,by rw [lg];omega,by rw [lg];omega,fun r n7 r0 r1=>?_⟩
   refine ⟨_,rfl,pd,n7,2,rfl,zab,by decide,by decide,fun b n8 b0 b1=>⟨(by show 3≤yH;decide),fun U hU=>?_⟩⟩
   rw [lg] at r1
   obtain ⟨i,rfl⟩:=vF r0
   have upd2:zbk pd H (upd (upd (upd H6 pd (.lst [.int n7])) pd (.lst [.int n8])) U (.tup [.str (yB "wire"),.int (i:Int),.int b])):=fun c o nc ec=>by
    rw [zah (zai (by rw [zah nc,zah nc];exact sb6 c o nc ec) hU),zah nc,zah nc]
    exact sb6 c o nc ec
   have Upd:U≠pd:=fun z=>by rw [z,zab] at hU;cases hU
   have nU:H U=none:=by
    cases eu:H U with
    | none=>rfl
    | some o=>
     rw [zah Upd,zah Upd,sb6 U o Upd eu] at hU
     cases hU
   exact q ⟨zcE i,b⟩ U n8 _ (ziu (by omega) (by omega)) upd2 (by rw [zah (qX Upd),zab]) nU zab
  ·have lkp: 0 < ks.length:=ybf.mpr kne
   refine ⟨_,rfl,_,rfl,_,rfl,D,_,rfl,.inl (.of eD6),pd,n6,_,rfl,e6,by rw [yA];omega,by rw [yA];omega,fun r n7 r0 r1=>?_⟩
   rw [yA] at r1
   obtain ⟨j,rfl⟩:=vF r0
   obtain ⟨k,ek⟩:∃ k,ks[j]? =some k:=⟨_,yQ (by omega)⟩
   obtain ⟨g,eg,gne⟩:=hk k (yR ek)
   have sb7:zbk pd H (upd H6 pd (.lst [.int n7])):=fun b o nb eb=>by rw [zah nb];exact sb6 b o nb eb
   have e7:(upd H6 pd (.lst [.int n7])) pd=some (.lst [.int n7]):=zab
   have eD7:(upd H6 pd (.lst [.int n7])) D=some (.lst (ks.map fun k:Nat=>V.int (k:Int))):=by rw [zah Dpd];exact eD6
   generalize upd H6 pd (.lst [.int n7])=H7 at sb7 e7 eD7
   have g7:=zbk.same sG gp sb7
   refine ⟨D,_,_,.int (k:Int),rfl,rfl,.of eD7,zb2 (by rw [yL,ek];rfl),?_⟩
   obtain ⟨y,hy,ry⟩:=rg.getD (d:=zez g) (i:=k) (by rw [yL,eg];rfl)
   obtain ⟨b,la,rfl,hb,hla⟩:=zcz ry
   have lk4:=(wf.legs k g eg).1.le
   have lpos: 0 < g.2.length:=ybf.mpr gne
   refine ⟨_,rfl,_,rfl,_,rfl,a,_,_,_,rfl,rfl,g7.seqT ha,rfl,_,rfl,ga,_,_,_,rfl,rfl,g7.seq hg,zb2 hy,b,_,_,_,rfl,rfl,g7.seqT hb,rfl,la,_,rfl,.inr (g7.seqT hla),pd,n7,_,rfl,e7,by rw [yA];omega,by rw [yA];omega,fun p n8 p0 p1=>?_⟩
   rw [yA] at p1
   obtain ⟨i,rfl⟩:=vF p0
   refine ⟨_,rfl,pd,n8,2,rfl,zab,by decide,by decide,fun c n9 c0 c1=>⟨(by show 4≤yH;decide),fun U hU=>?_⟩⟩
   have upd2:zbk pd H (upd (upd (upd H7 pd (.lst [.int n8])) pd (.lst [.int n9])) U (.tup [.str (yB "leg"),.int (k:Int),.int (i:Int),.int c])):=fun z o nc ec=>by
    rw [zah (zai (by rw [zah nc,zah nc];exact sb7 z o nc ec) hU),zah nc,zah nc]
    exact sb7 z o nc ec
   have Upd:U≠pd:=fun z=>by rw [z,zab] at hU;cases hU
   have nU:H U=none:=by
    cases eu:H U with
    | none=>rfl
    | some o=>
     rw [zah Upd,zah Upd,sb7 U o Upd eu] at hU
     cases hU
   exact q ⟨legK k i,c⟩ U n9 _ (zm6 eg (by omega) (by omega)) upd2 (by rw [zah (qX Upd),zab]) nU zab
theorem zdd:zav ["script","works","desk","cell","deck","one","other","due","some","pair"] ["script"] (zak zhy):=⟨rfl,rfl,rfl,by decide+kernel,rfl,by decide+kernel,by decide+kernel⟩
theorem ok_law (T:Txt K mg t):FnOk P w K mg base CX0 11 t.f_law t.fd_law ["script"] (zjp K):=by
 refine T.d_law.F.okB zdd (fun vs H Q E h=>?_) (fun cdv A outer s H vs Q E hr h=>?_)
 ·obtain ⟨a,ns,rfl,_⟩:=h
  rfl
 obtain ⟨a,ns,rfl,hS,h63,q⟩:=h
 have hu64:=hr.units
 have hu1:(A.deeper (PyProof.Rows.envOfC (yB "law") (zak zhy) s.heap.objs.size t.f_law cdv)).units+1 < cLine:=by omega
 have sl:yH=16777216:=by decide
 refine ⟨_,(zad (zam (k:=1) zdd.nd rfl (Or.inl rfl) (zal (zik T) (hr.mono (by decide)) rfl T.d_law_works.m T.d_law_works.F.kp T.d_law_works.b .nil zaC (zaa (zal (zfO T) (hr.mono (by decide)) rfl T.d_law_deck.m T.d_law_deck.F.kp T.d_law_deck.b .nil zaC (zaa (zal (zgd T) (hr.mono (by decide)) rfl T.d_law_cell_at.m T.d_law_cell_at.F.kp T.d_law_cell_at.b .nil zaC (zaa (bpv 0) (zaa zae (zac)))) (zac))) (zaa zae (zac)))))
  (zad (zam (k:=2) zdd.nd rfl (Or.inl rfl) (zlc T.mk_Desk (ze5 T) (hr.mono (by decide)) rfl T.g_Desk T.d_Desk___init__.b .nil zaC))
  (zad (zaA (zc3 (zd0 (zal (zka T) (hr.mono (by decide)) rfl T.d_law_put.m T.d_law_put.F.kp T.d_law_put.b .nil zaC (zaa (bpv 2) (zaa (zal (zi5 T) (hr.mono (by decide)) rfl T.d_law_text.m T.d_law_text.F.kp T.d_law_text.b .nil zaC (zaa (bpv 1) (zac))) (zac)))))) (zaf (zar zhL)) zas)
  (zad (zaY qT rfl (zaM (zao zeW (zaD (zaa (zao zev zae zae) (zac))) (zch ziE (bpv 0) (zb5 zae) (zb5 zae)))) (zan (k:=3) zdd.nd rfl (Or.inl rfl)) (zad (zam (k:=4) zdd.nd rfl (Or.inl rfl) (zal (zfO T) (hr.mono (by decide)) rfl T.d_law_deck.m T.d_law_deck.F.kp T.d_law_deck.b .nil zaC (zaa (bpv 3) (zac))))
  (zad (zam (k:=5) zdd.nd rfl (Or.inl rfl) (zal (zeU T) (hr.mono (by decide)) rfl T.d_law_fault.m T.d_law_fault.F.kp T.d_law_fault.b .nil zaC (zaa (bpv 4) (zaa (bpv 1) (zac)))))
  (zad (zam (k:=6) zdd.nd rfl (Or.inl rfl) (zal (zeU T) (hr.mono (by decide)) rfl T.d_law_fault.m T.d_law_fault.F.kp T.d_law_fault.b .nil zaC (zaa (bpv 4) (zaa (bpv 1) (zac)))))
  (zad (zam (k:=7) zdd.nd rfl (Or.inl rfl) (zal (zeQ T) (hr.mono (by decide)) rfl T.d_law_first.m T.d_law_first.F.kp T.d_law_first.b .nil zaC (zaa (bpv 1) (zaa (zfo hu1 (zch zjD (bpv 5) zes (zb5 (zc9 zda zae))) (zaq zax (bpv 5) (zc9 zda zae) (fun _ _=>rfl))) (zaa zfs (zac))))))
  (zad (zaA (zap zhl (zal (zc8 T) (hr.mono (by decide)) rfl T.d_law_told.m T.d_law_told.F.kp T.d_law_told.b .nil zaC (zaa (bpv 2) (zaa (zao zbg zaj (zal (zdq T) (hr.mono (by decide)) rfl T.d_law_shown.m T.d_law_shown.F.kp T.d_law_shown.b .nil zaC (zaa (bpv 5) (zac)))) (zac)))) (zaq zaJ (zaD (zaa (bpv 7) (zaa zaj (zac)))) (zaz zcI rfl T.z_int xH (zaa (zlv (zhh (bpv 7))) (zac))) (fun _ _=>rfl)) (zay _)) (zaf (zar zhL)) zas)
  (zad (zam (k:=7) zdd.nd rfl (Or.inl rfl) (zal (zeQ T) (hr.mono (by decide)) rfl T.d_law_first.m T.d_law_first.F.kp T.d_law_first.b .nil zaC (zaa (bpv 1) (zaa (zfo hu1 (zch zjD (bpv 5) zes (zb5 (zc9 zda zae))) (zaq zax (bpv 5) (zc9 zda zae) (fun _ _=>rfl))) (zaa (zfo hu1 (zch zjD (bpv 6) zes (zb5 (zc9 zda zae))) (zaq zax (bpv 6) (zc9 zda zae) (fun _ _=>rfl))) (zac))))))
  (zad (zam (k:=8) zdd.nd rfl (Or.inl rfl) (zaD (zaa (zal (zdq T) (hr.mono (by decide)) rfl T.d_law_shown.m T.d_law_shown.F.kp T.d_law_shown.b .nil zaC (zaa (bpv 5) (zac))) (zaa (zal (zdq T) (hr.mono (by decide)) rfl T.d_law_shown.m T.d_law_shown.F.kp T.d_law_shown.b .nil zaC (zaa (bpv 6) (zac))) (zac)))))
  (zaf (zaY qT rfl (zaM (zaD (zaa (bpv 8) (zaa (zpb (bpv 8) (zc9 zda zae)) (zac))))) (zan (k:=9) zdd.nd rfl (Or.inl rfl)) (zaf (zaA (zap zhl (zal (zc8 T) (hr.mono (by decide)) rfl T.d_law_told.m T.d_law_told.F.kp T.d_law_told.b .nil zaC (zaa (bpv 2) (zaa (zao zbg zaj (zbm qU xF xG zdA zaj (zaa (bpv 9) (zac)))) (zac)))) (zaq zaJ (zaD (zaa (bpv 7) (zaa zaj (zac)))) (zaz zcI rfl T.z_int xH (zaa (zlv (zhh (bpv 7))) (zac))) (fun _ _=>rfl)) (zay _)) (zaf (zar zhL)) zas))))))))))))
  (zaf (zar (zdx zbp (zal (zc8 T) (hr.mono (by decide)) rfl T.d_law_told.m T.d_law_told.F.kp T.d_law_told.b .nil zaC (zaa (bpv 2) (zaa zaj (zac)))) (zao zbg zaj (zaz za6 rfl T.z_str jH (zaa (zao za9 (zat zau rfl T.z_len qQ (zaa (zaq zax (bpv 1) zae (fun _ _=>rfl)) (zac))) zae) (zac)))) (zay _)))))))),?_⟩
 refine ⟨_,rfl,a,ns,rfl,hS,fun c0=>?_⟩
 refine ⟨_,rfl,fun p0 n0 h0=>?_⟩
 refine ⟨p0,n0,8,rfl,zab,by decide,fun w rw_ m G H1 wf h3 sb1 e1 sG gp gn rr=>?_⟩
 have wf2:WF 20 w:=wf_up wf (by decide)
 have k1:Same H H1:=fun b o e=>sb1 b o (zai e h0) (by rw [zah (zai e h0)];exact e)
 refine fun d dx nd nx nex=>⟨d,dx,rfl,zab,fun H2 s2 e2=>⟨rfl,?_⟩⟩
 have k2:Same H1 H2:=fun b o e=>s2 b o (zai e nd) (by rw [zah (zai e nd),zah (zai e nx)];exact e)
 have rr2:=(rr.mono sG).mono k2
 have wf12:WF 12 w:=⟨wf.i1,wf.i6,by have:=wf.few;omega,wf.legs,wf.o1,by have:=wf.o3;omega,wf.outs⟩
 obtain ⟨rsm,rl14⟩:=zi6 wf12 h3
 have short:znJ (zdc w):=rsm
 obtain ⟨txS,szS⟩:=znh short (by omega)
 have rne:zdc w≠[]:=fun y=>by have:=ziy w;rw [y] at this;cases this
 have gd:G d=none:=sG.free nd
 refine ⟨_,rfl,_,rfl,_,w,rfl,rr2,wf2,fun H3 s3=>?_⟩
 refine ⟨d,zdc w,by rw [show zmW w=zdX (zdc w) from (zh1 w).symm];rfl,rne,fun y hy=>⟨fun c hc=>((rsm y hy).2 c hc).1,by have:=(rsm y hy).1;omega⟩,by omega,e2.on s3,fun H4 s4 dk4=>?_⟩
 refine ⟨_,rfl,?_⟩
 refine PySem.W.ite_neg (by decide) ?_
 have kG4:=zbk.same (sG.trans (k2.trans s3)) gd s4
 have rep4:=rr.mono kG4
 have k4:Same H H4:=zbk.same (k1.trans (k2.trans s3)) (k1.free nd) s4
 refine ⟨_,_,rfl,rfl,⟨by decide,by decide,by decide⟩,(by show 1≤yH;decide),fun p1 h1=>?_⟩
 have t1:=zag h1 (.lst [.int (10 ^ (18:Int).toNat)])
 refine ⟨_,rfl,_,rfl,_,rfl,a,_,rfl,(k4.trans t1).seq hS,fun p2 h2=>?_⟩
 obtain ⟨ms,em,lm⟩:=cutI ns (some 1) (some 5)
 have p12:p1≠p2:=zai zab h2
 have t2:=zag h2 (.lst (cutV (ns.map V.int) (some 1) (some 5)))
 refine ⟨p1,p2,_,_,rfl,rfl,by rw [zah p12,zab],zab,bigE (by rw [qM,em,yA];omega),fun p3 h3'=>?_⟩
 have t12:=t1.trans t2
 generalize upd (upd H4 p1 (.lst [.int (10 ^ (18:Int).toNat)])) p2 (.lst (cutV (ns.map V.int) (some 1) (some 5)))=H5 at h3' t12
 rw [em]
 have t3:=zag h3' (.lst ([.int (10 ^ (18:Int).toNat)]++ms.map V.int))
 have ep3:=zec (o:=.lst ([.int (10 ^ (18:Int).toNat)]++ms.map V.int)) h3'
 have t4:=t12.trans t3
 have rep7:=rep4.mono t4
 have dk7:=dk4.on t4
 generalize upd H5 p3 (.lst ([.int (10 ^ (18:Int).toNat)]++ms.map V.int))=H7 at t3 ep3 t4 rep7 dk7
 refine ⟨p3,rfl,⟨_,.of ep3⟩,zcq (K:=K) (a:=p3) (xs:=[.int (10 ^ (18:Int).toNat)]++ms.map V.int)
  (fun i σ H8=>∃ (o3 o4 o5 o6 o7 o8 o9:Option V),σ = [some (.ref a),some (.ref rw_),some (.ref d),o3,o4,o5,o6,o7,o8,o9]∧Same H7 H8)
  ⟨_,_,_,_,_,_,_,rfl,Same.refl _⟩ (fun i σ H8 _ z=>by obtain ⟨_,_,_,_,_,_,_,_,s8⟩:=z;exact .of (s8 _ _ ep3)) ?_ ?_⟩
 ·rintro i x σ H8 hx ⟨o3,o4,o5,o6,o7,o8,o9,rfl,s8⟩
  obtain ⟨cc,rfl⟩:∃ cc,x= .int cc:=by
   have hm:=yR hx
   rcases yS.mp hm with hm | hm
   ·exact ⟨_,yK.mp hm⟩
   ·obtain ⟨y,_,e⟩:=qE.mp hm
    exact ⟨y,e.symm⟩
  have rep8:=rep7.mono s8
  refine ⟨_,rfl,cc,rfl,fun pd n hpd=>?_⟩
  refine ⟨_,rfl,_,rfl,pd,_,n,w,H8,rfl,zab,zag hpd _,hpd,rep8,wf2,fun f r n1 HB gf sbB eB nr er=>?_⟩
  have k8B:=zbk.same (zag hpd _) hpd sbB
  refine ⟨_,rfl,_,rfl,pd,_,n1,w,H8,rfl,eB,k8B,hpd,rep8,wf2,fun g r2 n2 HC gg sbC eC nr2 er2=>?_⟩
  have k8C:=zbk.same k8B hpd sbC
  have rpd:r≠pd:=fun z=>by rw [z,eB] at er;cases er
  have erC:=sbC _ _ rpd er
  have smf:=zjP wf2 gf
  have smg:=zjP wf2 gg
  have kC:=s8.trans k8C
  have cutF:∀ f:Flt,cutV (f.place.map kV++ [.int f.worth]) none (some (-1))=f.place.map kV:=fun f=>zjc _ _
  refine ⟨_,rfl,fun p hp=>?_⟩
  have kp:=zag hp (.dT [])
  refine ⟨_,rfl,_,rfl,_,rfl,r,_,rfl,.of (kp _ _ erC),cutN _ _,fun U hU=>?_⟩
  rw [cutF]
  have kU:=zag hU (.tup (f.place.map kV))
  have eU:=zec (o:=.tup (f.place.map kV)) hU
  have pU:p≠U:=zai zab hU
  refine ⟨_,rfl,_,rfl,r,_,_,_,rfl,rfl,.of (kU _ _ (kp _ _ erC)),zeM _ _,kU _ _ zab,U,f.place,rfl,.inl eU,?_⟩
  have kp1:Same HC (upd (upd (upd HC p (.dT [])) U (.tup (f.place.map kV))) p (.dT [(f.place,.int f.worth)])):=((kp.trans kU).write hp _)
  have ep1:(upd (upd (upd HC p (.dT [])) U (.tup (f.place.map kV))) p (.dT [(f.place,.int f.worth)])) p=some (.dT (tabV [f])):=zab
  generalize upd (upd (upd HC p (.dT [])) U (.tup (f.place.map kV))) p (.dT [(f.place,.int f.worth)])=HD at kp1 ep1
  refine fun p5 hp5=>?_
  have kp5:=zag hp5 (.dT [])
  have k5:=(kC.trans kp1).trans kp5
  have bits1:∀ {f:Flt},zdt w f→∀ x∈[f],x.worth=0∨x.worth=1:=fun g x hx=>by rw [yK.mp hx];exact g.2
  refine ⟨_,p,p5,w,[f],[],rfl,rep7.mono k5,wf2,kp5 _ _ ep1,zab,bits1 gf,fun x hx=>(nomatch hx),fun HE sE=>?_⟩
  have kE:=k5.trans sE
  have k8E:=(kp1.trans kp5).trans sE
  have erE:=k8E _ _ erC
  have er2E:=k8E _ _ er2
  have prefLen:∀ {x y:Str},x.length≤10→y.length≤100→x.length+y.length≤yH:=fun h1 h2=>by omega
  refine ⟨_,rfl,_,rfl,r,f,rfl,erE,smf,fun HF sF=>?_⟩
  refine ⟨_,_,rfl,rfl,prefLen (by decide+kernel) (by have:=zb4 smf;omega),d,.test f,zdc w,rfl,smf,dk7.on (kE.trans sF),by omega,txS,szS,w,zie wf2,wf2,zlz wf2,gf,fun HG sG2=>?_⟩
  have kG:=(kE.trans sF).trans sG2
  have k8G:=(k8E.trans sF).trans sG2
  refine ⟨_,rfl,(by show 2≤yH;decide),fun L hL=>?_⟩
  have kL:=zag hL (.lst [dueR (zbe w [f] []),.str (yB "never")])
  refine ⟨_,rfl,.inr ⟨_,rfl,L,_,_,_,rfl,rfl,.of zab,pickR _ _,rfl,_,rfl,?_⟩⟩
  refine PySem.W.ite_neg (zi9 rfl) ?_
  have kH:=kG.trans kL
  have k8H:=k8G.trans kL
  generalize upd HG L (.lst [dueR (zbe w [f] []),.str (yB "never")])=HH at kH k8H
  have erH:=k8H _ _ erC
  have er2H:=k8H _ _ er2
  refine ⟨_,rfl,fun p6 hp6=>?_⟩
  have kp6:=zag hp6 (.dT [])
  refine ⟨_,rfl,_,rfl,_,rfl,r,_,rfl,.of (kp6 _ _ erH),cutN _ _,fun U6 hU6=>?_⟩
  rw [cutF]
  have kU6:=zag hU6 (.tup (f.place.map kV))
  have eU6:=zec (o:=.tup (f.place.map kV)) hU6
  refine ⟨_,rfl,_,rfl,r,_,_,_,rfl,rfl,.of (kU6 _ _ (kp6 _ _ erH)),zeM _ _,kU6 _ _ zab,U6,f.place,rfl,.inl eU6,?_⟩
  have k6:Same HH (upd (upd (upd HH p6 (.dT [])) U6 (.tup (f.place.map kV))) p6 (.dT [(f.place,.int f.worth)])):=(kp6.trans kU6).write hp6 _
  have e6:(upd (upd (upd HH p6 (.dT [])) U6 (.tup (f.place.map kV))) p6 (.dT [(f.place,.int f.worth)])) p6=some (.dT (tabV [f])):=zab
  generalize upd (upd (upd HH p6 (.dT [])) U6 (.tup (f.place.map kV))) p6 (.dT [(f.place,.int f.worth)])=HI at k6 e6
  refine fun p7 hp7=>?_
  have kp7:=zag hp7 (.dT [])
  have er2I:=k6 _ _ er2H
  refine ⟨_,rfl,_,rfl,_,rfl,r2,_,rfl,.of (kp7 _ _ er2I),cutN _ _,fun U7 hU7=>?_⟩
  rw [cutF]
  have kU7:=zag hU7 (.tup (g.place.map kV))
  have eU7:=zec (o:=.tup (g.place.map kV)) hU7
  refine ⟨_,rfl,_,rfl,r2,_,_,_,rfl,rfl,.of (kU7 _ _ (kp7 _ _ er2I)),zeM _ _,kU7 _ _ zab,U7,g.place,rfl,.inl eU7,?_⟩
  have k7:Same HI (upd (upd (upd HI p7 (.dT [])) U7 (.tup (g.place.map kV))) p7 (.dT [(g.place,.int g.worth)])):=(kp7.trans kU7).write hp7 _
  have e7:(upd (upd (upd HI p7 (.dT [])) U7 (.tup (g.place.map kV))) p7 (.dT [(g.place,.int g.worth)])) p7=some (.dT (tabV [g])):=zab
  generalize upd (upd (upd HI p7 (.dT [])) U7 (.tup (g.place.map kV))) p7 (.dT [(g.place,.int g.worth)])=HJ at k7 e7
  have kJ:=(kH.trans k6).trans k7
  have kHJ:=k6.trans k7
  refine ⟨_,p6,p7,w,[f],[g],rfl,rep7.mono kJ,wf2,k7 _ _ e6,e7,bits1 gf,bits1 gg,fun HK sK=>?_⟩
  have k8K:=kHJ.trans sK
  refine ⟨_,rfl,r,f,rfl,k8K _ _ erH,smf,fun HL sL=>?_⟩
  refine ⟨_,rfl,r2,g,rfl,(k8K.trans sL) _ _ er2H,smg,fun HM sM=>?_⟩
  have kM:=((kJ.trans sK).trans sL).trans sM
  refine ⟨(by show 2≤yH;decide),fun S hS2=>?_⟩
  have kS:=zag hS2 (.lst [.str (txtF f),.str (txtF g)])
  have eS:=zec (o:=.lst [.str (txtF f),.str (txtF g)]) hS2
  refine ⟨_,rfl,_,rfl,_,rfl,S,_,rfl,rfl,.of zab,fun S3 hS3=>?_⟩
  have kS3:=zag hS3 (.lst [.str (txtF f),.str (txtF g)].reverse)
  have eS3:=zec (o:=.lst [.str (txtF f),.str (txtF g)].reverse) hS3
  refine ⟨(by show 2≤yH;decide),fun S4 hS4=>?_⟩
  have kS4:=zag hS4 (.lst [.ref S,.ref S3])
  have eS4:=zec (o:=.lst [.ref S,.ref S3]) hS4
  have kN:=((kM.trans kS).trans kS3).trans kS4
  have eSN:=kS4 _ _ (kS3 _ _ eS)
  have eS3N:=kS4 _ _ eS3
  generalize upd (upd (upd HM S (.lst [.str (txtF f),.str (txtF g)])) S3 (.lst [.str (txtF f),.str (txtF g)].reverse)) S4 (.lst [.ref S,.ref S3])=HN at kN eSN eS3N eS4
  refine ⟨S4,rfl,⟨_,.of eS4⟩,zcq (K:=K) (a:=S4) (xs:=[.ref S,.ref S3])
   (fun i σ HO=>∃ p9:Option V,σ = [some (.ref a),some (.ref rw_),some (.ref d),some (.int cc),some (.ref pd),some (.ref r),some (.ref r2),some (dueR (zbe w [f] [g])),some (.ref S),p9]∧Same HN HO)
   ⟨_,rfl,Same.refl _⟩ (fun i σ HO _ z=>by obtain ⟨_,_,sO⟩:=z;exact .of (sO _ _ eS4)) ?_ ?_⟩
  ·rintro j y σ HO hy ⟨p9,rfl,sO⟩
   obtain ⟨P,x,z,rfl,eP,smx,smz,gx,gz,efu⟩:∃ (P:Addr) (x z:Flt),y= .ref P∧HO P=some (.lst [.str (txtF x),.str (txtF z)])∧zcm x∧zcm z∧zdt w x∧zdt w z∧zbe w [x] [z]=zbe w [f] [g]:=by
    rcases j with _ | _ | j
    ·cases hy
     exact ⟨S,f,g,rfl,sO _ _ eSN,smf,smg,gf,gg,rfl⟩
    ·cases hy
     exact ⟨S3,g,f,rfl,sO _ _ eS3N,smg,smf,gg,gf,zi2 _ _ _⟩
    ·cases hy
   refine ⟨_,rfl,rfl,_,rfl,_,P,[txtF x,txtF z],rfl,rfl,eP,?_,?_⟩
   ·have e2:(yB ", ").length=2:=by decide+kernel
    have:=zb4 smx
    have:=zb4 smz
    rw [e2]
    show (txtF x).length+((txtF z).length+0)+2 * 2≤100000
    omega
   have lj:(xE (yB ", ") [txtF x,txtF z]).length≤100:=by
    show (txtF x++yB ", " ++txtF z).length≤100
    have e2:(yB ", ").length=2:=by decide+kernel
    have:=zb4 smx
    have:=zb4 smz
    rw [zdZ,zdZ,e2]
    omega
   refine ⟨_,_,rfl,rfl,prefLen (by decide+kernel) lj,d,.alike x z,zdc w,rfl,⟨smx,smz⟩,dk7.on (kN.trans sO),by omega,txS,szS,w,zie wf2,wf2,zlz wf2,⟨gx,gz⟩,fun HQ sQ=>?_⟩
   refine ⟨_,rfl,(by show 2≤yH;decide),fun L2 hL2=>?_⟩
   have kL2:=zag hL2 (.lst [dueR (zbe w [f] [g]),.str (yB "yes")])
   refine ⟨_,rfl,.inr ⟨_,rfl,L2,_,_,_,rfl,rfl,.of zab,pickR _ _,rfl,_,rfl,?_⟩⟩
   refine PySem.W.ite_neg (zi9 (by show V.str (rowT (zbe w [x] [z]) _)=_;rw [efu])) ?_
   exact ⟨_,rfl,(sO.trans sQ).trans kL2⟩
  ·rintro σ HO ⟨p9,rfl,sO⟩
   exact ⟨_,_,_,_,_,_,_,rfl,kN.trans sO⟩
 ·rintro σ H8 ⟨o3,o4,o5,o6,o7,o8,o9,rfl,s8⟩
  have few:=wf.few
  refine ⟨_,rfl,d,.put (yB "x"),zdc w,by show _= [V.ref d,V.str (yB "put " ++yB "x")];rw [show yB "put " ++yB "x" =yB "put x" by decide+kernel];rfl,⟨by decide+kernel,by decide+kernel⟩,dk7.on s8,by omega,fun H9 s9 e9=>?_⟩
  have rep9:=rr.mono (zbk.same ((kG4.trans t4).trans s8) gd s9)
  obtain ⟨_,ga,oa,gv,os,er,ha,hg,_,rg,_⟩:=zbE rep9
  cases er
  have lg:gv.length=w.gates.length:=by rw [rg.length,yA]
  have en:((gv.length:Int)+3)=(((zdc w).length+1:Nat):Int):=by
   rw [lg,ziy]
   omega
  refine ⟨_,rfl,rw_,_,_,_,rfl,rfl,ha,rfl,ga,_,rfl,.inl hg,_,_,rfl,rfl,_,rfl,?_,?_⟩
  ·rw [en]
   exact zgU (by omega)
  rw [en]
  refine ⟨_,_,rfl,rfl,?_,rfl,?_⟩
  ·have:=zeH (n:=(zdc w).length+1) (by omega)
   rw [zdZ] at this
   exact jA this (by decide)
  have:=q H9
  rw [← decide_eq_true (rfl:V.str (yB "rows " ++numS (((zdc w).length+1:Nat):Int))=V.str (yB "rows " ++numS (((zdc w).length+1:Nat):Int)))] at this
  exact this
end
noncomputable def DfK (K:PySem.W.Frag) (x:Str) (st:Stmt) (f:Addr):Prop:=∃ (oc:Value) (od:Option Addr) (kV dc pm:Value) (an:Option Addr) (cd ct:Value) (sl:Array (Option Value)),PySem.W.nsIn K qH x=some (some (.ref f))∧K.lookup f=some ⟨oc,od,.func (PySem.W.fnOf x x (zbj st) (za1 st) (zak st) .none kV dc pm an cd ct),sl⟩∧PySem.W.codeIn K cd x=true∧PySem.W.keepIn K (.ref f)=true
noncomputable def DfV (K:PySem.W.Frag) (x:Str) (st:Stmt) (f T:Addr) (kT:Tok):Prop:=∃ (oc:Value) (od:Option Addr) (kV dc pm:Value) (an:Option Addr) (cd ct:Value) (sl:Array (Option Value)) (cT:Value) (dT:Option Addr) (nT:Nat) (sT:Array (Option Value)),PySem.W.nsIn K qH x=some (some (.ref f))∧K.lookup f=some ⟨oc,od,.func (PySem.W.fnOf x x (zbj st) (za1 st) (zak st) (.ref T) kV dc pm an cd ct),sl⟩∧PySem.W.codeIn K cd x=true∧PySem.W.keepIn K (.ref f)=true∧K.lookup T=some ⟨cT,dT,.seq #[.int 1 kT] nT,sT⟩
theorem DfK.mk {K:PySem.W.Frag}{h:Heap}{mg:Str→Option Value}{x:Str}{st:Stmt}{f:Addr}(d:DfK K x st f)(X:K.In h)(G:h.Ns qH mg)(ps:List Str)
  (hb:∀ (kV doc pm:Value) (an:Option Addr) (cdv ct:Value) (us:List Value),us.length=ps.length→bindArgs (PySem.W.fnOf x x (zbj st) (za1 st) (zak st) .none kV doc pm an cdv ct) ⟨us,[]⟩=pure (ps.zip us)):∃ fd,Def K mg x st ps f fd:=by
 obtain ⟨oc,od,kV,dc,pm,an,cd,ct,sl,a,l,cc,k⟩:=d
 exact ⟨_,ziA (st:=st) l cc k,(ziA (st:=st) l cc k).binds hb,PySem.W.mg_of X G a⟩
noncomputable def DfM (K:PySem.W.Frag) (cn x q:Str) (st:Stmt) (C f:Addr):Prop:=∃ (oc:Value) (od:Option Addr) (kV dc pm:Value) (an:Option Addr) (cd ct:Value) (sl:Array (Option Value)),PySem.W.nsIn K qH cn=some (some (.ref C))∧PySem.W.findIn K (.ref C) x=some (some (.ref f))∧K.lookup f=some ⟨oc,od,.func (PySem.W.fnOf x q (zbj st) (za1 st) (zak st) .none kV dc pm an cd ct),sl⟩∧PySem.W.codeIn K cd q=true∧PySem.W.keepIn K (.ref f)=true∧PySem.W.isFn K (.ref f)=true
theorem DfM.mk {K:PySem.W.Frag}{cn x q:Str}{st:Stmt}{C f:Addr}(d:DfM K cn x q st C f)(ps:List Str)
  (hb:∀ (kV doc pm:Value) (an:Option Addr) (cdv ct:Value) (us:List Value),us.length=ps.length→bindArgs (PySem.W.fnOf x q (zbj st) (za1 st) (zak st) .none kV doc pm an cdv ct) ⟨us,[]⟩=pure (ps.zip us)):∃ fd,DefM K C x q st ps f fd:=by
 obtain ⟨oc,od,kV,dc,pm,an,cd,ct,sl,n,a,l,cc,k,i⟩:=d
 exact ⟨_,ziA (st:=st) l cc k,(ziA (st:=st) l cc k).binds hb,⟨a,i,k⟩⟩
noncomputable def ObK (K:PySem.W.Frag) (C f:Addr):Prop:=PySem.W.plainGet K C yat=true∧PySem.W.hasDictIn K C=true∧PySem.W.plainOver K C=true∧PySem.W.findIn K (.ref C) "__setattr__" =some (some (.builtin "object.__setattr__"))∧PySem.W.makesIn K C=true∧PySem.W.keepIn K (.ref C)=true
theorem all_mk {l:yaU}{w:World}{K:PySem.W.Frag}{h:Heap}{mg:Str→Option Value}{fa f1 f2 f3 f4 f5 f6 f7 f8 f9 f10 f11 f12 f13 f14 f15 f16 f17 f18 f19 f20 f21 f22 f23 f24 f25 f26 f27 f28 f29 f30 f31 f32 f33 f34 f35 f36 f37 f38 f39 f40 f41 f42 f43 f44 f45 f46:Addr}(X:K.In h)(G:h.Ns qH mg)(hfa:mg "law" =some (.ref fa))
  (h1:DfK K "works_of" zdC f1)
  (h2:DfK K "check_gate" zcy f2)
  (h3:DfK K "is_kind" zea f3)
  (h4:DfK K "are_wires_below" zbo f4)
  (h5:DfK K "every_row" zc1 f5)
  {T6:Addr} {kT6:Tok} (h6:DfV K "gate_worth" zbV f6 T6 kT6)
  (h7:DfK K "every_fault" zb8 f7)
  (h8:DfK K "stuck_places" zbT f8)
  {T9:Addr} {kT9:Tok} (h9:DfV K "worths_with" zbB f9 T9 kT9)
  (h10:DfK K "leg_worths" zcn f10)
  {T11:Addr} {kT11:Tok} (h11:DfV K "outputs_with" zbq f11 T11 kT11)
  (h12:DfK K "outputs_seen" zbS f12)
  (h13:DfK K "rows_at_once" zbN f13)
  (h14:DfK K "first_unlike" zbP f14)
  (h15:DfK K "unlike_numbers" zbt f15)
  (h16:DfK K "first_test" zcv f16)
  (h17:DfK K "parted_at" zcU f17)
  (h18:DfK K "read_works" zct f18)
  (h19:DfK K "read_fault" zcp f19)
  (h20:DfK K "read_row" zdK f20)
  (h21:DfK K "read_number" zcc f21)
  (h22:DfK K "read_order" zcu f22)
  (h23:DfK K "read_things" zb9 f23)
  (h24:DfK K "two_parts" zcX f24)
  (h25:DfK K "told_of" zd8 f25)
  (h26:DfK K "shown_or" zdD f26)
  (h27:DfK K "shown" zhk f27)
  (h28:DfK K "_law_cell_at" zb6 f28)
  (h29:DfK K "_law_stir" zdL f29)
  (h30:DfK K "_law_deck" zdF f30)
  (h31:DfK K "_law_take" zdI f31)
  (h32:DfK K "_law_legs" zdE f32)
  (h33:DfK K "_law_works" zcY f33)
  (h34:DfK K "_law_gate" zdw f34)
  (h35:DfK K "_law_worths" zcr f35)
  (h36:DfK K "_law_text" zdz f36)
  (h37:DfK K "_law_told" zdG f37)
  (h38:DfK K "_law_put" zei f38)
  (h39:DfK K "_law_figures" zcb f39)
  (h40:DfK K "_law_fault" zcV f40)
  (h41:DfK K "_law_first" zcT f41)
  (h42:DfK K "_law_shown" zc0 f42)
  (h43:DfK K "law" zhy f43)
  {C1_:Addr} (h44:DfM K "Desk" "__init__" "Desk.__init__" zbG C1_ f44)
  (h45:DfM K "Desk" "say" "Desk.say" zdB C1_ f45)
  (h46:DfM K "Desk" "keep_rows" "Desk.keep_rows" zbs C1_ f46)
  (z1:PySem.W.nsIn K qH "ValueError" =some none)
  (z2:PySem.W.nsIn K qH "all" =some none)
  (z3:PySem.W.nsIn K qH "dict" =some none)
  (z4:PySem.W.nsIn K qH "enumerate" =some none)
  (z5:PySem.W.nsIn K qH "int" =some none)
  (z6:PySem.W.nsIn K qH "isinstance" =some none)
  (z7:PySem.W.nsIn K qH "len" =some none)
  (z8:PySem.W.nsIn K qH "list" =some none)
  (z9:PySem.W.nsIn K qH "min" =some none)
  (z10:PySem.W.nsIn K qH "range" =some none)
  (z11:PySem.W.nsIn K qH "str" =some none)
  (z12:PySem.W.nsIn K qH "tuple" =some none)
  (z13:PySem.W.nsIn K qH "zip" =some none)
  {c1_:Addr} (ac1:PySem.W.nsIn K qH "LEG_BOUNDS" =some (some (.ref c1_))) (kc1:TabK K c1_ zaw)
  {u1_:Addr} (au1:PySem.W.nsIn K qH "WORDS_ALONE" =some (some (.ref u1_))) (ku1:TupK K u1_ ["clear","fewest","bare","less","next"])
  {s1_:Tok} (as1:PySem.W.nsIn K qH "FIGURES" =some (some (.str "0123456789" s1_)))
  {x1_:Addr} (ax1:PySem.W.nsIn K qH "StuckError" =some (some (.ref x1_))) (kx1:XcOk K x1_ "ValueError" "ValueError.__new__" [.type "ValueError",.type "Exception",.type "BaseException",.type "object"])
  {x2_:Addr} (ax2:PySem.W.nsIn K qH "NoWorks" =some (some (.ref x2_))) (kx2:XcOk K x2_ "ValueError" "ValueError.__new__" [.type "ValueError",.type "Exception",.type "BaseException",.type "object"])
  {x3_:Addr} (ax3:PySem.W.nsIn K qH "NoRow" =some (some (.ref x3_))) (kx3:XcOk K x3_ "ValueError" "ValueError.__new__" [.type "ValueError",.type "Exception",.type "BaseException",.type "object"])
  {x4_:Addr} (ax4:PySem.W.nsIn K qH "NoFault" =some (some (.ref x4_))) (kx4:XcOk K x4_ "ValueError" "ValueError.__new__" [.type "ValueError",.type "Exception",.type "BaseException",.type "object"])
  {x5_:Addr} (ax5:PySem.W.nsIn K qH "NoText" =some (some (.ref x5_))) (kx5:XcOk K x5_ "ValueError" "ValueError.__new__" [.type "ValueError",.type "Exception",.type "BaseException",.type "object"])
  {x6_:Addr} (ax6:PySem.W.nsIn K qH "NoOrder" =some (some (.ref x6_))) (kx6:XcOk K x6_ "ValueError" "ValueError.__new__" [.type "ValueError",.type "Exception",.type "BaseException",.type "object"])
  {x7_:Addr} (ax7:PySem.W.nsIn K qH "TooMany" =some (some (.ref x7_))) (kx7:XcOk K x7_ "ValueError" "ValueError.__new__" [.type "ValueError",.type "Exception",.type "BaseException",.type "object"])
  (ao1:PySem.W.nsIn K qH "Desk" =some (some (.ref C1_))) (ko1:ObK K C1_ f44) (na1:PySem.W.findIn K (.ref C1_) "rows" =some none) (na2:PySem.W.findIn K (.ref C1_) "answers" =some none)
  (ff1:PySem.W.kitOne K (.ref x5_) (.ref x6_)=some false)
  (ff2:PySem.W.kitOne K (.ref x5_) (.ref x5_)=some true)
  (ff3:PySem.W.kitOne K (.ref x5_) (.ref x2_)=some false)
  (ff4:PySem.W.kitOne K (.ref x5_) (.ref x3_)=some false)
  (ff5:PySem.W.kitOne K (.ref x5_) (.ref x4_)=some false)
  (ff6:PySem.W.kitOne K (.ref x5_) (.ref x7_)=some false)
  (ff7:PySem.W.kitOne K (.ref x5_) (.type "ValueError")=some true)
  (ff8:(zir K x5_).tail.contains (.ref x1_)=true)
  :∃ fd:FuncData,(∀ (s:Shared) (v:Value),BindsTo s fd ⟨[v],[]⟩ [("script",v)])∧∀ base:Heap,K.In base→base.Ns qH mg→FnOk l.prog w K mg base CX0 11 fa fd ["script"] (zjp K):=by
 obtain ⟨oc,od,kVL,dcL,pmL,anL,cdL,ctL,sl,aL,lL,cL,kL⟩:=h43
 have e:=hfa.symm.trans (PySem.W.mg_of X G aL)
 cases e
 obtain ⟨e1,D1⟩:=h1.mk X G ["inputs","gates","outputs"] fun _ _ _ _ _ _ us hl=>by obtain ⟨x0,x1,x2,e⟩:=ziX hl;subst e;rfl
 obtain ⟨e2,D2⟩:=h2.mk X G ["kind","legs","own_wire"] fun _ _ _ _ _ _ us hl=>by obtain ⟨x0,x1,x2,e⟩:=ziX hl;subst e;rfl
 obtain ⟨e3,D3⟩:=h3.mk X G ["word"] fun _ _ _ _ _ _ us hl=>by obtain ⟨x0,e⟩:=zdQ hl;subst e;rfl
 obtain ⟨e4,D4⟩:=h4.mk X G ["numbers","bound"] fun _ _ _ _ _ _ us hl=>by obtain ⟨x0,x1,e⟩:=zcD hl;subst e;rfl
 obtain ⟨e5,D5⟩:=h5.mk X G ["works"] fun _ _ _ _ _ _ us hl=>by obtain ⟨x0,e⟩:=zdQ hl;subst e;rfl
 obtain ⟨oc,od,kV,dc,pm,an,cd,ct,sl,cT,dT,nT,sT,a6,l6,c6,k6,v6⟩:=h6
 have F6:=ziU (st:=zbV) l6 c6 k6
 have b6:=F6.binds (ps:=["kind","worths","ones"]) (ds:=[]) fun _ _ _ _ _ _ s us X hl=>match us,hl with | [_,_,_],_=>PySem.W.binds_K X rfl v6 rfl rfl rfl
 have e6:=F6.binds (ps:=["kind","worths","ones"]) (ds:=[.int 1 kT6]) fun _ _ _ _ _ _ s us X hl=>match us,(show us.length=2 by rw [yI] at hl;exact yaX hl) with | [_,_],_=>PySem.W.binds_K X rfl v6 rfl rfl rfl
 obtain ⟨e7,D7⟩:=h7.mk X G ["works"] fun _ _ _ _ _ _ us hl=>by obtain ⟨x0,e⟩:=zdQ hl;subst e;rfl
 obtain ⟨e8,D8⟩:=h8.mk X G ["works","faults"] fun _ _ _ _ _ _ us hl=>by obtain ⟨x0,x1,e⟩:=zcD hl;subst e;rfl
 obtain ⟨oc,od,kV,dc,pm,an,cd,ct,sl,cT,dT,nT,sT,a9,l9,c9,k9,v9⟩:=h9
 have F9:=ziU (st:=zbB) l9 c9 k9
 have b9:=F9.binds (ps:=["works","stuck","row","ones"]) (ds:=[]) fun _ _ _ _ _ _ s us X hl=>match us,hl with | [_,_,_,_],_=>PySem.W.binds_K X rfl v9 rfl rfl rfl
 have e9:=F9.binds (ps:=["works","stuck","row","ones"]) (ds:=[.int 1 kT9]) fun _ _ _ _ _ _ s us X hl=>match us,(show us.length=3 by rw [yI] at hl;exact yaX hl) with | [_,_,_],_=>PySem.W.binds_K X rfl v9 rfl rfl rfl
 obtain ⟨e10,D10⟩:=h10.mk X G ["stuck","gate","worths"] fun _ _ _ _ _ _ us hl=>by obtain ⟨x0,x1,x2,e⟩:=ziX hl;subst e;rfl
 obtain ⟨oc,od,kV,dc,pm,an,cd,ct,sl,cT,dT,nT,sT,a11,l11,c11,k11,v11⟩:=h11
 have F11:=ziU (st:=zbq) l11 c11 k11
 have b11:=F11.binds (ps:=["works","stuck","row","ones"]) (ds:=[]) fun _ _ _ _ _ _ s us X hl=>match us,hl with | [_,_,_,_],_=>PySem.W.binds_K X rfl v11 rfl rfl rfl
 have e11:=F11.binds (ps:=["works","stuck","row","ones"]) (ds:=[.int 1 kT11]) fun _ _ _ _ _ _ s us X hl=>match us,(show us.length=3 by rw [yI] at hl;exact yaX hl) with | [_,_,_],_=>PySem.W.binds_K X rfl v11 rfl rfl rfl
 obtain ⟨e12,D12⟩:=h12.mk X G ["works","stuck"] fun _ _ _ _ _ _ us hl=>by obtain ⟨x0,x1,e⟩:=zcD hl;subst e;rfl
 obtain ⟨e13,D13⟩:=h13.mk X G ["inputs"] fun _ _ _ _ _ _ us hl=>by obtain ⟨x0,e⟩:=zdQ hl;subst e;rfl
 obtain ⟨e14,D14⟩:=h14.mk X G ["works","stuck","others"] fun _ _ _ _ _ _ us hl=>by obtain ⟨x0,x1,x2,e⟩:=ziX hl;subst e;rfl
 obtain ⟨e15,D15⟩:=h15.mk X G ["seen","others"] fun _ _ _ _ _ _ us hl=>by obtain ⟨x0,x1,e⟩:=zcD hl;subst e;rfl
 obtain ⟨e16,D16⟩:=h16.mk X G ["works","faults"] fun _ _ _ _ _ _ us hl=>by obtain ⟨x0,x1,e⟩:=zcD hl;subst e;rfl
 obtain ⟨e17,D17⟩:=h17.mk X G ["works","faults","others"] fun _ _ _ _ _ _ us hl=>by obtain ⟨x0,x1,x2,e⟩:=ziX hl;subst e;rfl
 obtain ⟨e18,D18⟩:=h18.mk X G ["text"] fun _ _ _ _ _ _ us hl=>by obtain ⟨x0,e⟩:=zdQ hl;subst e;rfl
 obtain ⟨e19,D19⟩:=h19.mk X G ["text"] fun _ _ _ _ _ _ us hl=>by obtain ⟨x0,e⟩:=zdQ hl;subst e;rfl
 obtain ⟨e20,D20⟩:=h20.mk X G ["row"] fun _ _ _ _ _ _ us hl=>by obtain ⟨x0,e⟩:=zdQ hl;subst e;rfl
 obtain ⟨e21,D21⟩:=h21.mk X G ["text"] fun _ _ _ _ _ _ us hl=>by obtain ⟨x0,e⟩:=zdQ hl;subst e;rfl
 obtain ⟨e22,D22⟩:=h22.mk X G ["row"] fun _ _ _ _ _ _ us hl=>by obtain ⟨x0,e⟩:=zdQ hl;subst e;rfl
 obtain ⟨e23,D23⟩:=h23.mk X G ["word","text"] fun _ _ _ _ _ _ us hl=>by obtain ⟨x0,x1,e⟩:=zcD hl;subst e;rfl
 obtain ⟨e24,D24⟩:=h24.mk X G ["text","between"] fun _ _ _ _ _ _ us hl=>by obtain ⟨x0,x1,e⟩:=zcD hl;subst e;rfl
 obtain ⟨e25,D25⟩:=h25.mk X G ["works","order"] fun _ _ _ _ _ _ us hl=>by obtain ⟨x0,x1,e⟩:=zcD hl;subst e;rfl
 obtain ⟨e26,D26⟩:=h26.mk X G ["row","word"] fun _ _ _ _ _ _ us hl=>by obtain ⟨x0,x1,e⟩:=zcD hl;subst e;rfl
 obtain ⟨e27,D27⟩:=h27.mk X G ["worths"] fun _ _ _ _ _ _ us hl=>by obtain ⟨x0,e⟩:=zdQ hl;subst e;rfl
 obtain ⟨e28,D28⟩:=h28.mk X G ["script","k"] fun _ _ _ _ _ _ us hl=>by obtain ⟨x0,x1,e⟩:=zcD hl;subst e;rfl
 obtain ⟨e29,D29⟩:=h29.mk X G ["cell","k"] fun _ _ _ _ _ _ us hl=>by obtain ⟨x0,x1,e⟩:=zcD hl;subst e;rfl
 obtain ⟨e30,D30⟩:=h30.mk X G ["cell"] fun _ _ _ _ _ _ us hl=>by obtain ⟨x0,e⟩:=zdQ hl;subst e;rfl
 obtain ⟨e31,D31⟩:=h31.mk X G ["deck","many"] fun _ _ _ _ _ _ us hl=>by obtain ⟨x0,x1,e⟩:=zcD hl;subst e;rfl
 obtain ⟨e32,D32⟩:=h32.mk X G ["deck","kind"] fun _ _ _ _ _ _ us hl=>by obtain ⟨x0,x1,e⟩:=zcD hl;subst e;rfl
 obtain ⟨e33,D33⟩:=h33.mk X G ["deck","most"] fun _ _ _ _ _ _ us hl=>by obtain ⟨x0,x1,e⟩:=zcD hl;subst e;rfl
 obtain ⟨e34,D34⟩:=h34.mk X G ["kind","some"] fun _ _ _ _ _ _ us hl=>by obtain ⟨x0,x1,e⟩:=zcD hl;subst e;rfl
 obtain ⟨e35,D35⟩:=h35.mk X G ["works","stuck","row"] fun _ _ _ _ _ _ us hl=>by obtain ⟨x0,x1,x2,e⟩:=ziX hl;subst e;rfl
 obtain ⟨e36,D36⟩:=h36.mk X G ["works"] fun _ _ _ _ _ _ us hl=>by obtain ⟨x0,e⟩:=zdQ hl;subst e;rfl
 obtain ⟨e37,D37⟩:=h37.mk X G ["desk","row"] fun _ _ _ _ _ _ us hl=>by obtain ⟨x0,x1,e⟩:=zcD hl;subst e;rfl
 obtain ⟨e38,D38⟩:=h38.mk X G ["desk","text"] fun _ _ _ _ _ _ us hl=>by obtain ⟨x0,x1,e⟩:=zcD hl;subst e;rfl
 obtain ⟨e39,D39⟩:=h39.mk X G ["worths"] fun _ _ _ _ _ _ us hl=>by obtain ⟨x0,e⟩:=zdQ hl;subst e;rfl
 obtain ⟨e40,D40⟩:=h40.mk X G ["deck","works"] fun _ _ _ _ _ _ us hl=>by obtain ⟨x0,x1,e⟩:=zcD hl;subst e;rfl
 obtain ⟨e41,D41⟩:=h41.mk X G ["works","one","other"] fun _ _ _ _ _ _ us hl=>by obtain ⟨x0,x1,x2,e⟩:=ziX hl;subst e;rfl
 obtain ⟨e42,D42⟩:=h42.mk X G ["fault"] fun _ _ _ _ _ _ us hl=>by obtain ⟨x0,e⟩:=zdQ hl;subst e;rfl
 have F43:=ziA (st:=zhy) lL cL kL
 have b43:=F43.binds (ps:=["script"]) fun _ _ _ _ _ _ us hl=>by obtain ⟨x0,e⟩:=zdQ hl;subst e;rfl
 obtain ⟨e44,D44⟩:=h44.mk ["self"] fun _ _ _ _ _ _ us hl=>by obtain ⟨x0,e⟩:=zdQ hl;subst e;rfl
 obtain ⟨e45,D45⟩:=h45.mk ["self","row"] fun _ _ _ _ _ _ us hl=>by obtain ⟨x0,x1,e⟩:=zcD hl;subst e;rfl
 obtain ⟨e46,D46⟩:=h46.mk ["self","rows"] fun _ _ _ _ _ _ us hl=>by obtain ⟨x0,x1,e⟩:=zcD hl;subst e;rfl
 refine ⟨PySem.W.fnOf "law" "law" (zbj zhy) (za1 zhy) (zak zhy) .none kVL dcL pmL anL cdL ctL,fun s v=>.of_eq rfl,fun base _ _=>?_⟩
 exact ok_law (t:=⟨f1,e1,f2,e2,f3,e3,f4,e4,f5,e5,f6,_,T6,kT6,f7,e7,f8,e8,f9,_,T9,kT9,f10,e10,f11,_,T11,kT11,f12,e12,f13,e13,f14,e14,f15,e15,f16,e16,f17,e17,f18,e18,f19,e19,f20,e20,f21,e21,f22,e22,f23,e23,f24,e24,f25,e25,f26,e26,f27,e27,f28,e28,f29,e29,f30,e30,f31,e31,f32,e32,f33,e33,f34,e34,f35,e35,f36,e36,f37,e37,f38,e38,f39,e39,f40,e40,f41,e41,f42,e42,_,_,f44,e44,f45,e45,f46,e46,c1_,u1_,s1_,x1_,x2_,x3_,x4_,x5_,x6_,x7_,C1_⟩) ⟨D1,D2,D3,D4,D5,⟨F6,b6,e6,PySem.W.mg_of X G a6⟩,D7,D8,⟨F9,b9,e9,PySem.W.mg_of X G a9⟩,D10,⟨F11,b11,e11,PySem.W.mg_of X G a11⟩,D12,D13,D14,D15,D16,D17,D18,D19,D20,D21,D22,D23,D24,D25,D26,D27,D28,D29,D30,D31,D32,D33,D34,D35,D36,D37,D38,D39,D40,D41,D42,⟨F43,b43,PySem.W.mg_of X G aL⟩,D44,D45,D46,PySem.W.mg_none_of X G z1,PySem.W.mg_none_of X G z2,PySem.W.mg_none_of X G z3,PySem.W.mg_none_of X G z4,PySem.W.mg_none_of X G z5,PySem.W.mg_none_of X G z6,PySem.W.mg_none_of X G z7,PySem.W.mg_none_of X G z8,PySem.W.mg_none_of X G z9,PySem.W.mg_none_of X G z10,PySem.W.mg_none_of X G z11,PySem.W.mg_none_of X G z12,PySem.W.mg_none_of X G z13,PySem.W.mg_of X G ac1,kc1,PySem.W.mg_of X G au1,ku1,PySem.W.mg_of X G as1,PySem.W.mg_of X G ax1,kx1,PySem.W.mg_of X G ax2,kx2,PySem.W.mg_of X G ax3,kx3,PySem.W.mg_of X G ax4,kx4,PySem.W.mg_of X G ax5,kx5,PySem.W.mg_of X G ax6,kx6,PySem.W.mg_of X G ax7,kx7,PySem.W.mg_of X G ao1,⟨ko1.1,ko1.2.1,ko1.2.2.1,ko1.2.2.2.1⟩,⟨ko1.2.2.2.2.1,D44.m.at_,D44.m.fn,ko1.2.2.2.2.2⟩,na1,na2,ff1,ff2,ff3,ff4,ff5,ff6,ff7,ff8⟩
theorem walk {l:yaU}{q:Program}{loose:List Str}{XP:(Str→Option Value)→Heap→Prop}{YP:World→Heap→Prop}{d:DefRec}{K:Params→PySem.W.Frag}(hn:l.most=some 63)(hdf:d.params.defaults= [])
  (hY:∀ (w:World) (h:Heap),YP w h→(K w.params).In h)
  (F:∀ (w:World) (mg:Str→Option Value) (fa:Addr) (h:Heap),(K w.params).In h→h.Ns qH mg→mg d.name=some (.ref fa)→
   ∃ fd:FuncData,(∀ (s:Shared) (u:Value),BindsTo s fd ⟨[u],[]⟩ [("script",u)])∧∀ base:Heap,(K w.params).In base→base.Ns qH mg→FnOk l.prog w (K w.params) mg base CX0 11 fa fd ["script"] (zjp (K w.params))):
  PySem.W.WalkO q loose XP YP l.row.toRowW d [] (fun f vs=>yb1 f vs):=
 L2.zn3 (n:=63) (k:=11) (x:="script") (CX:=fun _=>CX0) (sp:=fun w=>zjp (K w.params)) hn (by decide) hdf ⟨rfl,by decide,by decide,rfl⟩ hY F (fun _ _ a ns hl _ hS=>⟨a,ns,rfl,hS,hl,fun _=>rfl⟩) fun _ _ _ _ _ z=>z
end My
open PySem PySem.W PyProof.Rows
set_option maxRecDepth 100000 in
set_option maxHeartbeats 0 in
theorem PySem.Challenge.cw_stuckwires_k66_tests_and_alike_ones_holds : PySem.Challenge.rw_stuckwires_k66_tests_and_alike_ones.Holds := by
 w_on;o_law
 refine PySem.W.holds_open (q:=My.view) (loose:=My.loo)
  (Xt:=fun s=>xlAt My.view [] s && recOk (yaO (yap yC.row)) s) (XP:=XL My.view [])
  (Yf:=Hook.obs (kHook My.part My.zfM (fun _=>by kernel_rfl))) (Ya:=Hook.val (kHook My.part My.zfM (fun _=>by kernel_rfl)))
  (YP:=Hook.says (kHook My.part My.zfM (fun _=>by kernel_rfl))) (N:=(12+(1+(1619+(1060+(787+(1054))))))) ?hl (Hook.of _) (Hook.keeps _)
  (fun s e=>xl_of s (ya7.mp e).1) XL.keeps (by rfl) (by rfl) (by rfl)
  (fun s e=>recFacts_of (ya7.mp e).2) (by rfl) (by first | assumption | decide+kernel) (by decide+kernel)
  ⟨rfl,rfl,rfl,rfl,rfl,by decide+kernel⟩ ?hw ?hc
 case hl=>exact My.hl0
 case hw=>w_witness2
 k_fill
 refine My.walk (l:=yC) rfl rfl (fun w h Y=>PySem.W.kIn_of Y) ?F
 case F=>
  intro w mg fa h KX G hmg
  refine' My.all_mk KX G hmg ?h1 ?h2 ?h3 ?h4 ?h5 ?h6 ?h7 ?h8 ?h9 ?h10 ?h11 ?h12 ?h13 ?h14 ?h15 ?h16 ?h17 ?h18 ?h19 ?h20 ?h21 ?h22 ?h23 ?h24 ?h25 ?h26 ?h27 ?h28 ?h29 ?h30 ?h31 ?h32 ?h33 ?h34 ?h35 ?h36 ?h37 ?h38 ?h39 ?h40 ?h41 ?h42 ?h43 ?h44 ?h45 ?h46 ?z1 ?z2 ?z3 ?z4 ?z5 ?z6 ?z7 ?z8 ?z9 ?z10 ?z11 ?z12 ?z13 ?ac1 ?kc1 ?au1 ?ku1 ?as1 ?ax1 ?kx1 ?ax2 ?kx2 ?ax3 ?kx3 ?ax4 ?kx4 ?ax5 ?kx5 ?ax6 ?kx6 ?ax7 ?kx7 ?ao1 ?ko1 ?na1 ?na2 ?ff1 ?ff2 ?ff3 ?ff4 ?ff5 ?ff6 ?ff7 ?ff8
  all_goals first | ((iterate 9 apply Exists.intro);(refine ⟨?_,?_,?_,?_⟩ <;> k_is)) | ((iterate 9 apply Exists.intro);(refine ⟨?_,?_,?_,?_,?_,?_⟩ <;> k_is)) | ((iterate 13 apply Exists.intro);(refine ⟨?_,?_,?_,?_,?_⟩ <;> k_is)) | skip
  (case z1=>k_is)
  (case z2=>k_is)
  (case z3=>k_is)
  (case z4=>k_is)
  (case z5=>k_is)
  (case z6=>k_is)
  (case z7=>k_is)
  (case z8=>k_is)
  (case z9=>k_is)
  (case z10=>k_is)
  (case z11=>k_is)
  (case z12=>k_is)
  (case z13=>k_is)
  (case ac1=>k_is)
  (case kc1=>(unfold L2.TabK;kernel_rfl))
  (case au1=>k_is)
  (case ku1=>(unfold L2.TupK;kernel_rfl))
  (case as1=>k_is)
  (case ax1=>k_is)
  (case kx1=>exact ⟨by kernel_rfl,jU,by kernel_rfl,by kernel_rfl,by kernel_rfl,by decide,by decide⟩)
  (case ax2=>k_is)
  (case kx2=>exact ⟨by kernel_rfl,jU,by kernel_rfl,by kernel_rfl,by kernel_rfl,by decide,by decide⟩)
  (case ax3=>k_is)
  (case kx3=>exact ⟨by kernel_rfl,jU,by kernel_rfl,by kernel_rfl,by kernel_rfl,by decide,by decide⟩)
  (case ax4=>k_is)
  (case kx4=>exact ⟨by kernel_rfl,jU,by kernel_rfl,by kernel_rfl,by kernel_rfl,by decide,by decide⟩)
  (case ax5=>k_is)
  (case kx5=>exact ⟨by kernel_rfl,jU,by kernel_rfl,by kernel_rfl,by kernel_rfl,by decide,by decide⟩)
  (case ax6=>k_is)
  (case kx6=>exact ⟨by kernel_rfl,jU,by kernel_rfl,by kernel_rfl,by kernel_rfl,by decide,by decide⟩)
  (case ax7=>k_is)
  (case kx7=>exact ⟨by kernel_rfl,jU,by kernel_rfl,by kernel_rfl,by kernel_rfl,by decide,by decide⟩)
  (case ao1=>k_is)
  (case ko1=>exact ⟨by k_is,by k_is,by k_is,by k_is,by k_is,by k_is⟩)
  (case na1=>k_is)
  (case na2=>k_is)
  (case ff1=>kernel_rfl)
  (case ff2=>kernel_rfl)
  (case ff3=>kernel_rfl)
  (case ff4=>kernel_rfl)
  (case ff5=>kernel_rfl)
  (case ff6=>kernel_rfl)
  (case ff7=>kernel_rfl)
  (case ff8=>kernel_rfl)
